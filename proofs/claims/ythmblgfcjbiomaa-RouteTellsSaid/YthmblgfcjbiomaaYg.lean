import Derived.Test.YthmblgfcjbiomaaYf
/- comeTo: what one comes to, in a row of bools. -/
set_option linter.unusedVariables false
set_option linter.unusedSimpArgs false
namespace Go.Proofs.Ythmblgfcjbiomaa.Ly
open Go.RowKit

theorem ShutTo.zero (es : List Ed) (bl : List Int) (c : List Bool) : ShutTo es bl c 0 := fun i h => absurd h (by omega)
theorem ShutTo.succ {es : List Ed} {bl : List Int} {c : List Bool} {k : Nat} (h : ShutTo es bl c k) (hk : ShutE bl c (ate es k)) : ShutTo es bl c (k + 1) := fun i hi => by
  by_cases e : i = k
  · subst e; exact hk
  · exact h i (by omega)
/-- What the array tells behind all. -/
noncomputable def comeL (es : List Ed) (bl : List Int) (a : Int) : List Bool := (List.range 40).map fun (i : Nat) => wayB es bl a (i : Int)
theorem list_ext40 {c d : List Bool} (hc : c.length = 40) (hd : d.length = 40) (h : ∀ i, i < 40 → atb c i = atb d i) : c = d := by
  apply List.ext_getElem (by omega)
  intro i h1 h2
  have := h i (by omega)
  unfold atb at this
  rw [List.getD_eq_getElem?_getD, List.getD_eq_getElem?_getD, List.getElem?_eq_getElem h1, List.getElem?_eq_getElem h2] at this
  simpa using this
theorem comeL_len (es : List Ed) (bl : List Int) (a : Int) : (comeL es bl a).length = 40 := by simp [comeL]
theorem comeL_at {es : List Ed} {bl : List Int} {a : Int} {i : Nat} (h : i < 40) : atb (comeL es bl a) i = wayB es bl a i := by
  unfold atb comeL
  rw [List.getD_eq_getElem?_getD, List.getElem?_map, List.getElem?_range h]
  rfl
noncomputable def marksL (n : Int) (bl : List Int) : List Bool := (List.range 40).map fun (i : Nat) => decide ((i : Int) < n ∧ (i : Int) ∈ bl)
theorem marksL_at {n : Int} {bl : List Int} {i : Nat} (h : i < 40) : atb (marksL n bl) i = decide ((i : Int) < n ∧ (i : Int) ∈ bl) := by
  unfold atb marksL
  rw [List.getD_eq_getElem?_getD, List.getElem?_map, List.getElem?_range h]
  rfl
theorem marks_of (n : Int) (bl : List Int) : Marks n bl (marksL n bl) := ⟨by simp [marksL], fun i hi => by rw [marksL_at hi, decide_eq_true_iff]⟩
theorem Marks.eq {n : Int} {bl : List Int} {c : List Bool} (h : Marks n bl c) : c = marksL n bl := list_ext40 h.1 (marks_of n bl).1 fun i hi => by
  rw [Bool.eq_iff_iff, h.2 i hi, (marks_of n bl).2 i hi]
theorem marked_ret {n : Int} {w : World} (v bv : Value) (bl : List Int) (hbl : IntsAt w bv bl) (hn : n ≤ 40) :
    Calls Try.prog 32 #[.agg #[.int .i64 n, v], bv] w (Ret (.agg (boolC (marksL n bl))) w) :=
  (marked_any v bv bl hbl hn).mono fun e w' ⟨c, he, hc, hb⟩ => ⟨by rw [he, hc.eq], hb⟩
structure CI (n : Int) (v : Value) (s : List Bool) (w wr : World) (c : List Bool) : Prop where
  mi : MI n v w wr w.heap.size (w.heap.size + 1 + 1) (w.heap.size + 1 + 1 + 1) c
  sh : ArrAt wr (w.heap.size + 1) 55 s
theorem CI.grow {n : Int} {v : Value} {s : List Bool} {w wr wr' : World} {c : List Bool} (h : CI n v s w wr c) (hb : Below wr.heap.size wr wr') : CI n v s w wr' c := ⟨h.mi.grow hb, h.sh.below hb h.sh.lt⟩
theorem CI.set {n : Int} {v : Value} {s : List Bool} {w wr : World} {c : List Bool} (h : CI n v s w wr c) (i : Nat) : CI n v s w (wr.setCell ⟨w.heap.size + 1 + 1 + 1, i, none⟩ (.bool true)) (c.set i true) := ⟨h.mi.set i, h.sh.other _ (by show w.heap.size + 1 ≠ w.heap.size + 1 + 1 + 1; omega)⟩
theorem CI.start (n : Int) (v : Value) (s : List Bool) (w : World) : CI n v s w ((((w.alloc (.cells #[.int .i64 n, v] 24)).alloc (.cells (boolC s) 55)).alloc (.cells (boolC (List.replicate 40 false)) 55)).alloc (.cells (boolC (List.replicate 40 false)) 55)) (List.replicate 40 false) := by
  have hb : Below w.heap.size w ((w.alloc (.cells #[.int .i64 n, v] 24)).alloc (.cells (boolC s) 55)) := ((Below.refl _ w).alloc (Nat.le_refl _) _).alloc (by simp) _
  generalize hW : (w.alloc (.cells #[.int .i64 n, v] 24)).alloc (.cells (boolC s) 55) = W at *
  have hs : W.heap.size = w.heap.size + 1 + 1 := by rw [← hW]; simp
  have hb1 : Below (w.alloc (.cells #[.int .i64 n, v] 24)).heap.size (w.alloc (.cells #[.int .i64 n, v] 24)) W := by rw [← hW]; exact (Below.refl _ _).alloc (Nat.le_refl _) _
  have hx := (BoxAt.new n v w).below hb1
  have hsh : ArrAt W (w.heap.size + 1) 55 s := by rw [← hW]; exact heap_alloc2_new w _ _
  clear hW hb1
  have h2 := heap_alloc2_new W (.cells (boolC (List.replicate 40 false)) 55) (.cells (boolC (List.replicate 40 false)) 55)
  have h1 := heap_alloc2_old W (.cells (boolC (List.replicate 40 false)) 55) (.cells (boolC (List.replicate 40 false)) 55)
  have hb2 : Below W.heap.size W ((W.alloc (.cells (boolC (List.replicate 40 false)) 55)).alloc (.cells (boolC (List.replicate 40 false)) 55)) := ((Below.refl _ W).alloc (Nat.le_refl _) _).alloc (by simp) _
  rw [hs] at h1 h2
  exact ⟨⟨hb.trans (hb2.mono hb.size), hx.below hb2, h1, h2, by simp, by omega, by omega, by omega, by omega⟩, hsh.below hb2 hsh.lt⟩
set_option maxRecDepth 100000 in
set_option maxHeartbeats 16000000 in
theorem comeTo_any {n : Int} {es : List Ed} {w : World} (v : Value) (hv : EdgesAt w v es) (hr : RightL n es) (s : List Bool) (bl : List Int) (hs : Marks n bl s) (a : Int) (ha : nodeB n a = true) :
    Calls Try.prog 31 #[.agg #[.int .i64 n, v], .agg (boolC s), .int .i64 a] w (Ret (.agg (boolC (comeL es bl a))) w) := by
  obtain ⟨ao, cap, rfl, hl, hc⟩ := hv
  have HC := Lib.hid hc
  have HS := Lib.hid (CI.start n (.slice ao es.length cap) s w)
  have HRT := Lib.hid hr
  have HMK := Lib.hid hs
  have hn40 : n ≤ 40 := hr.2.1
  obtain ⟨a0, a1⟩ := nodeB_iff.1 ha
  have a40 : a < 40 := by omega
  clear hc hr hs ha
  obtain ⟨Q, HQ⟩ : ∃ Q, Hid (Ret (.agg (boolC (comeL es bl a))) w = Q) := ⟨_, rfl⟩
  rw [HQ.out]
  have HZ := zero40
  obtain ⟨Z0, hZ0⟩ : ∃ Z, Hid (boolC (List.replicate 40 false) = Z) := ⟨_, rfl⟩
  rw [hZ0.out] at HZ HS
  obtain ⟨S0, hS0⟩ : ∃ Z, Hid (boolC s = Z) := ⟨_, rfl⟩
  rw [hS0.out] at HS ⊢
  go_enter Try.func31, Try.ntmps31
  go_upto_region 2 with fail
  clear HZ
  generalize (((w.alloc (.cells #[.int .i64 n, .slice ao es.length cap] 24)).alloc (.cells S0 55)).alloc (.cells Z0 55)).alloc (.cells Z0 55) = w1 at *
  have hce := HS.out.mi.arr.cell (i := a.toNat) (by simp; omega)
  have hfr := HS.out.mi.arr.thaw a.toNat
  have HS2 := Lib.hid (HS.out.set a.toNat)
  have HSD : Hid (Sound es bl a ((List.replicate 40 false).set a.toNat true)) := Sound.begin a0 (by omega)
  have HFL : Hid (fls ((List.replicate 40 false).set a.toNat true) + 1 ≤ 41) := by
    show _ + 1 ≤ 41
    have : fls ((List.replicate 40 false).set a.toNat true) ≤ 40 := Nat.le_trans List.count_le_length (by simp)
    omega
  rw [atb_rep] at hce
  generalize (List.replicate 40 false).set a.toNat true = c0 at *
  go_wp2
  go_loopg [8] 41 (fun m mo wr => ∃ (c : List Bool) (b : Bool), mo = .bool b ∧ Hid (CI n (.slice ao es.length cap) s w wr c) ∧ Hid (Sound es bl a c) ∧ Hid (fls c + (if b = true then 1 else 0) ≤ m) ∧ Hid (b = false → ShutTo es bl c es.length))
  case atStart => exact ⟨c0, true, rfl, HS2, HSD, HFL, fun h => by cases h⟩
  case round =>
    obtain ⟨c, b, rfl, HI, HSo, HF, HSh⟩ := hrel
    cases b with
    | false =>
      have HE : Hid (c = comeL es bl a) := list_ext40 HI.out.mi.len (comeL_len es bl a) fun i hi => by
        rw [comeL_at hi]
        exact HSo.out.eqB HRT.out (HSh.out rfl) a0 i
      have HA : Hid (wr.heap[w.heap.size + 1 + 1 + 1]? = some (.cells (boolC c) 55 (0, 0))) := HI.out.mi.arr
      have HR : Hid (wr.heap[w.heap.size + 1 + 1]? = some (.cells (boolC (List.replicate 40 false)) 55 (0, 0))) := HI.out.mi.res
      have HZ := Lib.hid (size_of HI.out.mi.len)
      have HO := Lib.hid (boolC_one c)
      have HY : Hid ((boolC (List.replicate 40 false)).size = (boolC c).size) := by show _ = _; rw [boolC_size, boolC_size, HI.out.mi.len]; simp
      have HBn : Hid (Below w.heap.size w (wr.setRow (w.heap.size + 1 + 1) (boolC c))) := Below.setRow HI.out.mi.below (by omega) _
      have HRn := Lib.hid (setRow_heap wr (w.heap.size + 1 + 1) _ (boolC c) 55 (0, 0) HI.out.mi.res)
      clear HSh HF
      generalize hcc : boolC c = C' at *
      go_wp2_with (first
        | (refine wpList_load_row rfl 55 _ rfl (w.heap.size + 1 + 1 + 1) rfl 55 C' (0, 0) _ HA.out Try.underlying55 rfl HZ.out ?_)
        | (refine wpList_store_row rfl 55 _ _ rfl (w.heap.size + 1 + 1) C' rfl rfl 55 _ HR.out HZ.out HY.out HO.out ?_))
      refine bodyPost_ret (v := .agg C') (results_cell_row (p := 6) (ty := 55) rfl _ _ (w.heap.size + 1 + 1) 55 C' (0, 0) _ rfl HRn.out Try.underlying55 rfl HZ.out) rfl ?_
      rw [← HQ.out]
      exact ⟨by rw [← hcc, HE.out], HBn.out⟩
    | true =>
      have x0 := HI.out.mi.box.c0
      have x1 := HI.out.mi.box.c1
      go_wp2
      go_loopw [8, 17] (fun mo i wr => ∃ (k : Nat) (c' : List Bool) (b' : Bool), mo = .bool b' ∧ k ≤ es.length ∧ i = .int .i64 k ∧ Hid (CI n (.slice ao es.length cap) s w wr c') ∧ Hid (Sound es bl a c') ∧ Hid (fls c' + (if b' = true then 1 else 0) ≤ fls c) ∧ Hid (b' = false → ShutTo es bl c' k)) (fun _ i _ => es.length - (intOf i).toNat)
      case atStart => exact ⟨0, c, false, rfl, Nat.zero_le _, rfl, HI, HSo, by show _ ≤ _; simp, fun _ => ShutTo.zero es bl c⟩
      case round =>
        obtain ⟨k, c', b', rfl, hk, rfl, HI', HSo', HF', HSh'⟩ := hrel
        by_cases hlt : k < es.length
        · obtain ⟨bb, o, rfl, lb, hcs⟩ := HC.out (by omega)
          have hE := HI'.out.mi.below
          have g0 := (hE.cell (p := ⟨bb, o + k * 3, none⟩) lb).trans (hcs k hlt).1
          have g1 := (hE.cell (p := ⟨bb, o + k * 3 + 1, none⟩) lb).trans (hcs k hlt).2.1
          have g2 := (hE.cell (p := ⟨bb, o + k * 3 + 2, none⟩) lb).trans (hcs k hlt).2.2
          have hek := HRT.out.at hlt
          have HEM : Hid (ate es k ∈ es) := ate_mem hlt
          clear hE hcs x0 x1
          obtain ⟨e, he⟩ : ∃ e, ate es k = e := ⟨_, rfl⟩
          rw [he] at g0 g1 g2 hek HEM
          have HE := Lib.hid he
          clear he
          obtain ⟨f, g, cs⟩ := e
          dsimp only at g0 g1 g2
          obtain ⟨⟨f0, f1⟩, ⟨g00, g01⟩, _⟩ := hek
          dsimp only at f0 f1 g00 g01
          have f40 : f < 40 := by omega
          have g40 : g < 40 := by omega
          go_upto_region 9 with fail
          have HBa : Below wr.heap.size wr (wr.alloc (.cells #[.int .i64 f, .int .i64 g, .int .i64 cs] 41)) := (Below.refl _ wr).alloc (Nat.le_refl _) _
          have HIa := Lib.hid (HI'.out.grow HBa)
          have k0 : (wr.alloc (.cells #[.int .i64 f, .int .i64 g, .int .i64 cs] 41)).cell? ⟨wr.heap.size, 0, none⟩ = some (.int .i64 f) := by rw [cell_of_row _ _ 0 _ _ _ (heap_alloc_new wr _)]; rfl
          have k1 : (wr.alloc (.cells #[.int .i64 f, .int .i64 g, .int .i64 cs] 41)).cell? ⟨wr.heap.size, 1, none⟩ = some (.int .i64 g) := by rw [cell_of_row _ _ 1 _ _ _ (heap_alloc_new wr _)]; rfl
          clear HBa HI' g0 g1 g2
          generalize wr.alloc (.cells #[.int .i64 f, .int .i64 g, .int .i64 cs] 41) = wa at *
          generalize wr.heap.size = be at *
          have q0 := HIa.out.mi.arr.cell (i := f.toNat) (by rw [HIa.out.mi.len]; omega)
          have q1 := HIa.out.mi.arr.cell (i := g.toNat) (by rw [HIa.out.mi.len]; omega)
          have q2 := HIa.out.sh.cell (i := g.toNat) (by rw [HMK.out.1]; omega)
          have q3 := HIa.out.mi.arr.thaw g.toNat
          have HX : Hid (atb s g.toNat = true ↔ g ∈ bl) := by
            have := HMK.out.2 g.toNat (by omega)
            rw [Int.toNat_of_nonneg g00] at this
            exact ⟨fun h => (this.1 h).2, fun h => this.2 ⟨g01, h⟩⟩
          obtain ⟨x, hx⟩ : ∃ x, atb c' f.toNat = x := ⟨_, rfl⟩
          obtain ⟨y, hy⟩ : ∃ x, atb c' g.toNat = x := ⟨_, rfl⟩
          obtain ⟨z, hz⟩ : ∃ x, atb s g.toNat = x := ⟨_, rfl⟩
          rw [hx] at q0
          rw [hy] at q1
          rw [hz] at q2 HX
          have HXx := Lib.hid hx
          have HXy := Lib.hid hy
          clear hx hy hz
          have hcase : (x = true ∧ y = false ∧ z = false) ∨ ¬ (x = true ∧ y = false ∧ z = false) := Classical.em _
          rcases hcase with ⟨rfl, rfl, rfl⟩ | hno
          · have hgb : g ∉ bl := fun h => by have := HX.out.2 h; cases this
            have hgl : g.toNat < c'.length := by rw [HIa.out.mi.len]; omega
            have HS3 : Hid (Sound es bl a (c'.set g.toNat true)) := HSo'.out.set (e := (f, g, cs)) HEM.out f0 g00 hgl HXx.out hgb
            have HF3 : Hid (fls (c'.set g.toNat true) + 1 ≤ fls c) := by
              show _ + 1 ≤ _
              have h1 := fls_set hgl HXy.out
              have h2 := HF'.out
              omega
            have HI3 := Lib.hid (HIa.out.set g.toNat)
            clear HSh' hgb hgl
            go_wp2_with fail
            go_roundw
            case rel => exact ⟨k + 1, _, true, rfl, by omega, by go_num, HI3, HS3, HF3, fun h => by cases h⟩
            case measure => simp [intOf]; omega
          · have HSh3 : Hid (b' = false → ShutTo es bl c' (k + 1)) := fun hb => (HSh'.out hb).succ (by
              rw [HE.out]
              intro h1 h2
              show atb c' g.toNat = true
              have h1' : atb c' f.toNat = true := h1
              have h2' : g ∉ bl := h2
              rw [HXx.out] at h1'
              rw [HXy.out]
              cases y with
              | true => rfl
              | false => exact absurd ⟨h1', rfl, by cases z with | false => rfl | true => exact absurd (HX.out.1 rfl) h2'⟩ hno)
            clear HSh'
            cases x with
            | false =>
              clear hno
              go_wp2_with fail
              go_roundw
              case rel => exact ⟨k + 1, c', b', rfl, by omega, by go_num, HIa, HSo', HF', HSh3⟩
              case measure => simp [intOf]; omega
            | true =>
              cases y with
              | true =>
                clear hno
                go_wp2_with fail
                go_roundw
                case rel => exact ⟨k + 1, c', b', rfl, by omega, by go_num, HIa, HSo', HF', HSh3⟩
                case measure => simp [intOf]; omega
              | false =>
                obtain rfl : z = true := by cases z with | true => rfl | false => exact absurd ⟨rfl, rfl, rfl⟩ hno
                clear hno
                go_wp2_with fail
                go_roundw
                case rel => exact ⟨k + 1, c', b', rfl, by omega, by go_num, HIa, HSo', HF', HSh3⟩
                case measure => simp [intOf]; omega
        · obtain rfl : k = es.length := by omega
          clear x0 x1
          go_wp2_with fail
          go_roundg (fls c' + (if b' = true then 1 else 0))
          case measure =>
            have h1 := HF.out
            have h2 := HF'.out
            simp at h1
            omega
          case rel => exact ⟨c', b', rfl, HI', HSo', Nat.le_refl _, HSh'⟩
end Go.Proofs.Ythmblgfcjbiomaa.Ly
