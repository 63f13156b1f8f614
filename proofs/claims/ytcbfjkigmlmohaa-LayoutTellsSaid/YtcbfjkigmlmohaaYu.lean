import Derived.Test.YtcbfjkigmlmohaaYs
import Derived.Laws.MakeOwn
/- The document's Reach. -/
set_option linter.unusedVariables false
set_option linter.unusedSimpArgs false
namespace Go.Proofs.Ytcbfjkigmlmohaa.Ly
open Go.RowKit

theorem bool_info : (Try.prog.info? 4).map (fun i => (i.zero, i.size, i.bytes)) = some (some (.bool false), 1, 1) := by kernel_rfl
theorem made_bools (N : Nat) : madeCells (Value.bool false).cells (N * 1) = boolC (List.replicate N false) := by
  unfold madeCells boolC
  apply Array.ext
  · simp
  · intro i h1 h2
    simp [Value.cells, Nat.mod_one]
theorem make_bools (N : Nat) (hN : N ≤ 40) (w : World) : (Instr.makeSlice 52 (.int .i64 (N : Int)) (.int .i64 (N : Int))).run Try.prog w = .ok (.slice (some ⟨w.heap.size, 0, none⟩) N N) (w.alloc (.cells (boolC (List.replicate N false)) 4)) := by
  obtain ⟨i0, hi0, hz0, hz1, hz2⟩ := info_parts bool_info
  have := run_make (P := Try.prog) w 52 4 i0 _ Try.underlying52 hi0 hz0 .i64 .i64 (N : Int) (N : Int) (by omega) (by omega) (by rw [hz2]; omega) (by omega)
  rw [this, hz1, Int.toNat_natCast]
  exact congrArg (fun c => Result.ok _ (w.alloc (.cells c 4))) (made_bools N)
/-- A row of bools behind an older world. -/
structure PI (N : Nat) (wB wr : World) (c : List Bool) : Prop where
  below : Below wB.heap.size wB wr
  arr : ArrAt wr wB.heap.size 4 c
  len : c.length = N
theorem PI.grow {N : Nat} {wB wr wr' : World} {c : List Bool} (h : PI N wB wr c) (hb : Below wr.heap.size wr wr') : PI N wB wr' c :=
  ⟨h.below.trans (hb.mono h.below.size), h.arr.below hb h.arr.lt, h.len⟩
theorem PI.set {N : Nat} {wB wr : World} {c : List Bool} (h : PI N wB wr c) (i : Nat) : PI N wB (wr.setCell ⟨wB.heap.size, i, none⟩ (.bool true)) (c.set i true) :=
  ⟨h.below.setCell (Nat.le_refl wB.heap.size) _, h.arr.set i, by simpa using h.len⟩
theorem PI.start (N : Nat) (wB : World) : PI N wB (wB.alloc (.cells (boolC (List.replicate N false)) 4)) (List.replicate N false) :=
  ⟨(Below.refl _ wB).alloc (Nat.le_refl _) _, ArrAt.new wB _ _, by simp⟩
theorem rreach_no {n : Int} {es : List Ed} {w : World} (v bv : Value) (hv : EdgesAt w v es) (bl : List Int) (hb : IntsAt w bv bl) (a : Int) (h : (rightB n es && nodeB n a) = false) :
    Calls Try.prog 19 #[.agg #[.int .i64 n, v], bv, .int .i64 a] w (RetInts [] w) := by
  have HS := Lib.hid (RJ.start (n := n) hv)
  obtain ⟨eo, ec, rfl⟩ := hv.form
  obtain ⟨Q, HQ⟩ : ∃ Q, Hid (RetInts [] w = Q) := ⟨_, rfl⟩
  rw [HQ.out]
  cases hr : rightB n es with
  | false =>
    have C := Lib.hid (fun w' (hu : EdgesAt w' (.slice eo es.length ec) es) => rright_any (n := n) (es := es) (w := w') _ hu false hr)
    clear hr hv h hb
    go_enter Try.func19, Try.ntmps19
    go_wp2_with (go_at_call 21; (with_reducible refine (C.out _ HS.out.ed).mono ?_); rintro e w1 ⟨rfl, hb⟩; have HJ1 := Lib.hid (HS.out.grow hb); clear hb)
    rw [← HQ.out]
    exact ⟨_, rfl, IntsAt.nil _ _, HJ1.out.below⟩
  | true =>
    rw [hr, Bool.true_and] at h
    have C := Lib.hid (fun w' (hu : EdgesAt w' (.slice eo es.length ec) es) => rright_any (n := n) (es := es) (w := w') _ hu true hr)
    have hnn : ¬ (0 ≤ a ∧ a < n) := fun x => by rw [nodeB_iff.2 x] at h; cases h
    clear hr hv h hb
    by_cases h0 : a < 0
    · have d0 : decide (a < 0) = true := by simpa using h0
      go_enter Try.func19, Try.ntmps19
      go_wp2_with (go_at_call 21; (with_reducible refine (C.out _ HS.out.ed).mono ?_); rintro e w1 ⟨rfl, hb⟩; have HJ1 := Lib.hid (HS.out.grow hb); have c0 := HJ1.out.box.c0; clear hb)
      rw [← HQ.out]
      exact ⟨_, rfl, IntsAt.nil _ _, HJ1.out.below⟩
    · have d0 : decide (a < 0) = false := by simpa using h0
      have d1 : decide (n ≤ a) = true := by simp; omega
      clear hnn
      go_enter Try.func19, Try.ntmps19
      go_wp2_with (go_at_call 21; (with_reducible refine (C.out _ HS.out.ed).mono ?_); rintro e w1 ⟨rfl, hb⟩; have HJ1 := Lib.hid (HS.out.grow hb); have c0 := HJ1.out.box.c0; clear hb)
      rw [← HQ.out]
      exact ⟨_, rfl, IntsAt.nil _ _, HJ1.out.below⟩
set_option maxRecDepth 100000 in
set_option maxHeartbeats 16000000 in
theorem rreach_yes {n : Int} {es : List Ed} {w : World} (v bv : Value) (hv : EdgesAt w v es) (bl : List Int) (hb : IntsAt w bv bl) (a : Int) (hr : RightL n es) (ha : nodeB n a = true) :
    Calls Try.prog 19 #[.agg #[.int .i64 n, v], bv, .int .i64 a] w (RetInts (selL (fun (i : Nat) => wayB es bl a (i : Int)) n.toNat) w) := by
  have HS := Lib.hid (RJ.start (n := n) hv)
  have HU := Lib.hid (hb.below ((Below.refl _ w).alloc (Nat.le_refl _) (.cells #[.int .i64 n, v] 24)) (Nat.le_refl _))
  have n1 := hr.1
  have n40 := hr.2.1
  obtain ⟨N, rfl⟩ : ∃ N : Nat, n = (N : Int) := ⟨n.toNat, by omega⟩
  rw [Int.toNat_natCast]
  have hN40 : N ≤ 40 := by omega
  obtain ⟨eo, ec, rfl⟩ := hv.form
  obtain ⟨ub, uc, rfl⟩ := hb.form
  have C := Lib.hid (fun w' (hu : EdgesAt w' (.slice eo es.length ec) es) => rright_any (n := (N : Int)) (es := es) (w := w') _ hu true (rightB_true hr))
  have HRT := Lib.hid hr
  obtain ⟨a0, a1⟩ := nodeB_iff.1 ha
  have d0 : decide (a < 0) = false := by simp; omega
  have d1 : decide ((N : Int) ≤ a) = false := by simp; omega
  clear hv hb hr ha
  obtain ⟨p, hp⟩ : ∃ p : Nat → Bool, (fun (i : Nat) => wayB es bl a (i : Int)) = p := ⟨_, rfl⟩
  rw [hp]
  have HP : Hid (∀ i, p i = wayB es bl a (i : Int)) := fun i => by rw [← hp]
  clear hp
  obtain ⟨Q, HQ⟩ : ∃ Q, Hid (RetInts (selL p N) w = Q) := ⟨_, rfl⟩
  rw [HQ.out]
  have MK := make_bools N hN40
  obtain ⟨Z0, hZ0⟩ : ∃ Z, Hid (boolC (List.replicate N false) = Z) := ⟨_, rfl⟩
  rw [hZ0.out] at MK
  go_enter Try.func19, Try.ntmps19
  go_upto_region 4 with (go_at_call 21; (with_reducible refine (C.out _ HS.out.ed).mono ?_); rintro e w1 ⟨rfl, hb⟩; have HJ1 := Lib.hid (HS.out.grow hb); have HU1 := Lib.hid (HU.out.below hb (Nat.le_refl _)); have c0 := HJ1.out.box.c0; clear hb)
  go_upto_region 5 with fail
  have HVs : Hid (∀ wz, Below w1.heap.size w1 wz → RJ (N : Int) (.slice eo es.length ec) es w wz ∧ IntsAt wz (.slice ub bl.length uc) bl) := fun wz h => ⟨HJ1.out.grow h, HU1.out.below h (Nat.le_refl _)⟩
  have HP0 := PI.start N w1
  rw [hZ0.out] at HP0
  have HPS := Lib.hid HP0
  clear HP0 MK d0 d1 c0
  generalize w1.alloc (.cells Z0 4) = w2 at *
  generalize hbm : w1.heap.size = bm at *
  have HBM := Lib.hid hbm
  have hce := HPS.out.arr.cell (i := a.toNat) (by simp; omega)
  have hfr := HPS.out.arr.thaw a.toNat
  have HS2 := HPS.out.set a.toNat
  rw [hbm] at hce hfr HS2
  have HS3 := Lib.hid HS2
  clear HS2 hbm
  have HSD : Hid (Sound es bl a ((List.replicate N false).set a.toNat true)) := Sound.begin a0 (by omega)
  have HFL : Hid (fls ((List.replicate N false).set a.toNat true) + 1 ≤ 41) := by
    show _ + 1 ≤ 41
    have : fls ((List.replicate N false).set a.toNat true) ≤ N := Nat.le_trans List.count_le_length (by simp)
    omega
  rw [atb_rep] at hce
  generalize (List.replicate N false).set a.toNat true = cz at *
  obtain ⟨i0, hi0, hz0, hz1, hz2⟩ := info_parts int_info
  go_wp2_with fail
  clear hce hfr
  go_loopg [9] 41 (fun m mo wr => ∃ (c : List Bool) (b : Bool), mo = .bool b ∧ Hid (PI N w1 wr c) ∧ Hid (Sound es bl a c) ∧ Hid (fls c + (if b = true then 1 else 0) ≤ m) ∧ Hid (b = false → ShutTo es bl c es.length))
  case atStart => exact ⟨cz, true, rfl, HS3, HSD, HFL, fun h => by cases h⟩
  case round =>
    obtain ⟨c, b, rfl, HI, HSo, HF, HSh⟩ := hrel
    have HKr := Lib.hid (HVs.out _ (by rw [← HBM.out]; exact HI.out.below))
    cases b with
    | false =>
      have HCP : Hid (∀ i, atb c i = p i) := fun i => by rw [HP.out]; exact HSo.out.eqB HRT.out (HSh.out rfl) a0 i
      have c0 := HKr.out.1.box.c0
      have hbr := HKr.out.1.box.lt
      have HAr := HI.out.arr
      rw [HBM.out] at HAr
      have HA := Lib.hid HAr
      have hal := HAr.lt
      clear HAr HSh HF
      go_wp2_with fail
      clear c0
      generalize wr = wq at *
      go_loopw [13, 14] (fun vo i wz => ∃ (k m : Nat) (vo' : Value), vo' = vo ∧ k ≤ N ∧ i = .int .i64 k ∧ m ≤ k ∧ Hid (wz.ownsRow wq.heap.size 3 1 vo' m (intC (selL p k))) ∧ Hid (m = (selL p k).length) ∧ Hid (Below wq.heap.size wq wz)) (fun _ i _ => N - (intOf i).toNat)
      case atStart => exact ⟨0, 0, _, rfl, Nat.zero_le _, rfl, Nat.le_refl _, World.ownsRow_nil _ _ _ _, rfl, Below.refl _ _⟩
      case round =>
        obtain ⟨k, m, vo, rfl, hk, rfl, hmk, HO, HM, HRb⟩ := hrel
        have HKz := Lib.hid (HKr.out.1.grow HRb.out)
        have c0 := HKz.out.box.c0
        have hbz := HKz.out.box.lt
        by_cases hlt : k < N
        · have q0 := (HRb.out.cell (p := ⟨bm, k, none⟩) hal).trans (HA.out.cell (i := k) (by rw [HI.out.len]; exact hlt))
          rw [HCP.out k] at q0
          have hbs : wq.heap.size ≤ wr.heap.size := HRb.out.size
          obtain ⟨ao2, cap2, rfl⟩ := row_form HO.out
          cases hpk : p k with
          | true =>
            have HSs : Hid (selL p (k + 1) = selL p k ++ [(k : Int)]) := selL_yes hpk
            rw [hpk] at q0
            clear hpk
            go_wp2_with (at_builtin; (refine wpList_append_lies _ rfl _ _ 26 rfl wq.heap.size 3 i0 _ 1 8 Try.underlying26 hi0 hz0 hz1 hz2 rfl (by omega) _ m (intC (selL p k)) rfl (HO.out.alloc _) ⟨wr.heap.size, 0, none⟩ 1 1 [.int .i64 k] rfl rfl (World.news_of_block (cs := #[.int .i64 k]) (t := 3) (fr := (0, 0)) (heap_alloc_new wr _)) (by simp [Value.oneCell']) (by omega) (by unfold maxLen; omega) (by omega) (by simp; omega) (wr.heap.size + 1) (by simp) ?_); intro g' cp w4 hown hgrow hat hlt4)
            have HN : Hid (w4.ownsRow wq.heap.size 3 1 (.slice (some ⟨g', 0, none⟩) (m + 1) cp) (m + 1) (intC (selL p (k + 1)))) := by
              show World.ownsRow _ _ _ _ _ _ _
              rw [HSs.out, intC_append]
              exact hown
            have HBn := Lib.hid (row_below HO.out hgrow HRb.out hbs)
            have HMn : Hid (m + 1 = (selL p (k + 1)).length) := by
              show _ = _
              rw [HSs.out, List.length_append, ← HM.out]
              rfl
            clear hown hgrow hat hlt4
            go_roundw
            case rel => exact ⟨k + 1, m + 1, _, rfl, by omega, by go_num, by omega, HN, HMn, HBn⟩
            case measure => simp [intOf]; omega
          | false =>
            have HSs : Hid (selL p (k + 1) = selL p k) := selL_no hpk
            rw [hpk] at q0
            clear hpk
            have HN : Hid (wr.ownsRow wq.heap.size 3 1 (.slice ao2 m cap2) m (intC (selL p (k + 1)))) := by
              show World.ownsRow _ _ _ _ _ _ _
              rw [HSs.out]
              exact HO.out
            have HMn : Hid (m = (selL p (k + 1)).length) := by show _ = _; rw [HSs.out]; exact HM.out
            go_wp2_with fail
            go_roundw
            case rel => exact ⟨k + 1, m, _, rfl, by omega, by go_num, by omega, HN, HMn, HRb⟩
            case measure => simp [intOf]; omega
        · obtain rfl : k = N := by omega
          have HFi : Hid (IntsAt wr vo (selL p k)) := ints_own HO.out HM.out.symm (by omega)
          go_wp2_with fail
          rw [← HQ.out]
          exact ⟨_, rfl, HFi.out, HKz.out.below⟩
    | true =>
      have c1 := HKr.out.1.box.c1
      go_wp2_with fail
      clear c1
      go_loopw [9, 10] (fun mo i wz => ∃ (k : Nat) (c' : List Bool) (b' : Bool), mo = .bool b' ∧ k ≤ es.length ∧ i = .int .i64 k ∧ Hid (PI N w1 wz c') ∧ Hid (Sound es bl a c') ∧ Hid (fls c' + (if b' = true then 1 else 0) ≤ fls c) ∧ Hid (b' = false → ShutTo es bl c' k)) (fun _ i _ => es.length - (intOf i).toNat)
      case atStart => exact ⟨0, c, false, rfl, Nat.zero_le _, rfl, HI, HSo, by show _ ≤ _; simp, fun _ => ShutTo.zero es bl c⟩
      case round =>
        obtain ⟨k, c', b', rfl, hk, rfl, HI', HSo', HF', HSh'⟩ := hrel
        have HKz := Lib.hid (HVs.out wr (by rw [← HBM.out]; exact HI'.out.below))
        have c1 := HKz.out.1.box.c1
        by_cases hlt : k < es.length
        · obtain ⟨eo', ec', hveq, _, hcs⟩ := HKz.out.1.ed
          simp only [Value.slice.injEq] at hveq
          obtain ⟨rfl, -, -⟩ := hveq
          obtain ⟨eb, eof, rfl, elb, hcs⟩ := hcs (by omega)
          obtain ⟨g0, g1, g2⟩ := hcs k hlt
          have hek := HRT.out.at hlt
          have HEM : Hid (ate es k ∈ es) := ate_mem hlt
          clear hcs
          obtain ⟨e, he⟩ : ∃ e, ate es k = e := ⟨_, rfl⟩
          rw [he] at g0 g1 g2 hek HEM
          have HE := Lib.hid he
          clear he
          obtain ⟨f, g, cs⟩ := e
          dsimp only at g0 g1 g2
          obtain ⟨⟨f0, f1⟩, ⟨g00, g01⟩, _⟩ := hek
          dsimp only at f0 f1 g00 g01
          go_upto_region 13 with fail
          have HBa : Below wr.heap.size wr (wr.alloc (.cells #[.int .i64 f, .int .i64 g, .int .i64 cs] 40)) := (Below.refl _ wr).alloc (Nat.le_refl _) _
          have HIa := Lib.hid (HI'.out.grow HBa)
          have HUa := Lib.hid (HKz.out.2.below HBa (Nat.le_refl _))
          have k0 : (wr.alloc (.cells #[.int .i64 f, .int .i64 g, .int .i64 cs] 40)).cell? ⟨wr.heap.size, 0, none⟩ = some (.int .i64 f) := by rw [cell_of_row _ _ 0 _ _ _ (heap_alloc_new wr _)]; rfl
          have k1 : (wr.alloc (.cells #[.int .i64 f, .int .i64 g, .int .i64 cs] 40)).cell? ⟨wr.heap.size, 1, none⟩ = some (.int .i64 g) := by rw [cell_of_row _ _ 1 _ _ _ (heap_alloc_new wr _)]; rfl
          clear HBa HI' g0 g1 g2 c1
          generalize wr.alloc (.cells #[.int .i64 f, .int .i64 g, .int .i64 cs] 40) = wa at *
          generalize wr.heap.size = be at *
          have q0 := HIa.out.arr.cell (i := f.toNat) (by rw [HIa.out.len]; omega)
          have q1 := HIa.out.arr.cell (i := g.toNat) (by rw [HIa.out.len]; omega)
          have q3 := HIa.out.arr.thaw g.toNat
          rw [HBM.out] at q0 q1 q3
          obtain ⟨x, hx⟩ : ∃ x, atb c' f.toNat = x := ⟨_, rfl⟩
          obtain ⟨y, hy⟩ : ∃ x, atb c' g.toNat = x := ⟨_, rfl⟩
          obtain ⟨z, hz⟩ : ∃ x, decide (g ∈ bl) = x := ⟨_, rfl⟩
          rw [hx] at q0
          rw [hy] at q1
          have CH := Lib.hid (rhas_any bl g _ wa HUa.out z hz)
          have HX : Hid (z = true ↔ g ∈ bl) := by show _ ↔ _; rw [← hz, decide_eq_true_iff]
          have HXx := Lib.hid hx
          have HXy := Lib.hid hy
          clear hx hy hz
          have hcase : (x = true ∧ y = false ∧ z = false) ∨ ¬ (x = true ∧ y = false ∧ z = false) := Classical.em _
          rcases hcase with ⟨rfl, rfl, rfl⟩ | hno
          · have hgb : g ∉ bl := fun h => by have := HX.out.2 h; cases this
            have hgl : g.toNat < c'.length := by rw [HIa.out.len]; omega
            have HS4 : Hid (Sound es bl a (c'.set g.toNat true)) := HSo'.out.set (e := (f, g, cs)) HEM.out f0 g00 hgl HXx.out hgb
            have HF4 : Hid (fls (c'.set g.toNat true) + 1 ≤ fls c) := by
              show _ + 1 ≤ _
              have h1 := fls_set hgl HXy.out
              have h2 := HF'.out
              omega
            have HI3' := HIa.out.set g.toNat
            rw [HBM.out] at HI3'
            have HI3 := Lib.hid HI3'
            clear HSh' hgb hgl HI3'
            go_wp2_with (go_at_call 28; (with_reducible refine (CH.out).mono ?_); rintro e w5 ⟨rfl, rfl⟩)
            go_roundw
            case rel => exact ⟨k + 1, _, true, rfl, by omega, by go_num, HI3, HS4, HF4, fun h => by cases h⟩
            case measure => simp [intOf]; omega
          · have HSh3 : Hid (b' = false → ShutTo es bl c' (k + 1)) := fun hb => (HSh'.out hb).succ (by
              rw [HE.out]
              intro h1 h2
              show atb c' g.toNat = true
              have h1' : atb c' f.toNat = true := h1
              have h2' : g ∉ bl := h2
              rw [HXx.out] at h1'
              rw [HXy.out]
              cases y with
              | true => rfl
              | false => exact absurd ⟨h1', rfl, by cases z with | false => rfl | true => exact absurd (HX.out.1 rfl) h2'⟩ hno)
            clear HSh'
            have hc3 : x = false ∨ (x = true ∧ y = true) ∨ (x = true ∧ y = false ∧ z = true) := by
              cases x
              · exact .inl rfl
              · cases y
                · cases z
                  · exact absurd ⟨rfl, rfl, rfl⟩ hno
                  · exact .inr (.inr ⟨rfl, rfl, rfl⟩)
                · exact .inr (.inl ⟨rfl, rfl⟩)
            clear hno
            rcases hc3 with rfl | ⟨rfl, rfl⟩ | ⟨rfl, rfl, rfl⟩
            all_goals
              go_wp2_with (go_at_call 28; (with_reducible refine (CH.out).mono ?_); rintro e w5 ⟨rfl, rfl⟩)
              go_roundw
              case rel => exact ⟨k + 1, c', b', rfl, by omega, by go_num, HIa, HSo', HF', HSh3⟩
              case measure => simp [intOf]; omega
        · obtain rfl : k = es.length := by omega
          go_wp2_with fail
          go_roundg (fls c' + (if b' = true then 1 else 0))
          case measure =>
            have h1 := HF.out
            have h2 := HF'.out
            simp at h1
            omega
          case rel => exact ⟨c', b', rfl, HI', HSo', Nat.le_refl _, HSh'⟩
/-- The document's Reach. -/
theorem rreach_any {n : Int} {es : List Ed} {w : World} (v bv : Value) (hv : EdgesAt w v es) (bl : List Int) (hb : IntsAt w bv bl) (a : Int) :
    Calls Try.prog 19 #[.agg #[.int .i64 n, v], bv, .int .i64 a] w (RetInts (reachL n es bl a) w) := by
  unfold reachL
  cases h : rightB n es && nodeB n a with
  | false => exact rreach_no v bv hv bl hb a h
  | true =>
    rw [Bool.and_eq_true] at h
    exact rreach_yes v bv hv bl hb a (rightB_iff.1 h.1) h.2
end Go.Proofs.Ytcbfjkigmlmohaa.Ly
