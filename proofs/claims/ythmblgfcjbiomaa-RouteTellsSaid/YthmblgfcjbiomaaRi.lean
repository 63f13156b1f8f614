import Derived.Test.YthmblgfcjbiomaaRh
import Derived.Test.YthmblgfcjbiomaaYi
/- The iterator over the least costs, by its contract. -/
set_option linter.unusedVariables false
set_option linter.unusedSimpArgs false
namespace Go.Proofs.Ythmblgfcjbiomaa.Rt
open Go.RowKit Go.Shelf Ly

/-- How many lie in a heap; which nodes are marked: off the world. -/
def heapLen (w : World) (hb : Nat) : Nat := match w.cell? ⟨hb, 0, none⟩ with | some (.slice _ n _) => n | _ => 0
def doneB (w : World) (sb : Nat) (v : Int) : Bool := match w.cell? ⟨sb, 2 + v.toNat, none⟩ with | some (.bool t) => t | _ => false
def okV : Value → Nat
  | .bool true => 1
  | _ => 0
def mu (es : List Ed) (w : World) (sb hb : Nat) (ok : Value) : Nat := okV ok + heapLen w hb + (es.length - cnt es (doneB w sb) es.length)
theorem mu_of {n : Int} {es : List Ed} {W0 w : World} {base sb hb : Nat} {hv ev bv : Value} {c : List Bool} {q : List Hp.Pr} (hr : RightL n es) (h : SI W0 base w sb hb hv ev bv c q.tail) :
    mu es w sb hb (.bool (!q.isEmpty)) = q.length + (es.length - cnt es (fun v => atb c v.toNat) es.length) := by
  have h1 : heapLen w hb = q.tail.length := by
    obtain ⟨l, k1, k2, k3, k4⟩ := h.h
    obtain ⟨ao, cap, rfl⟩ := k1.form0
    unfold heapLen
    rw [k1.get]
    exact k3.length_eq
  have h2 : cnt es (doneB w sb) es.length = cnt es (fun v => atb c v.toNat) es.length := by
    unfold cnt
    refine List.countP_congr fun j hj => ?_
    obtain ⟨_, ⟨t0, t1⟩, _⟩ := hr.at (List.mem_range.1 hj)
    have := hr.2.1
    unfold doneB
    rw [h.s.cb (by omega)]
  unfold mu
  rw [h1, h2]
  cases q with
  | nil => rfl
  | cons x r => simp [okV]; omega
theorem pop_si {W0 w : World} {base sb hb : Nat} {hv ev bv : Value} {c : List Bool} {q : List Hp.Pr} (h : SI W0 base w sb hb hv ev bv c q) :
    Calls Try.prog 37 #[.pointer (some ⟨hb, 0, none⟩)] w (fun e w' => e = .returned (.tuple #[.int .i64 (Hp.at' q 0).1, .int .i64 (Hp.at' q 0).2, .bool (!q.isEmpty)]) ∧ ∃ hv', SI W0 base w' sb hb hv' ev bv c q.tail ∧ Below base w w') := by
  refine (Hp.pop_any h.h).mono ?_
  rintro e w' ⟨rfl, hv', h1, h2⟩
  exact ⟨rfl, hv', h.only h1 h2⟩
/-- What is pushed at the end of a search's box just made. -/
theorem SI.new {W0 w : World} {hb sb : Nat} {ev bv : Value} (hb0 : w.heap[hb]? = some (.cells #[.slice none 0 0] 72 (0, 0))) (hs0 : w.heap[sb]? = some (.cells (sC ev bv (List.replicate 40 false) hb) 64 (0, 0))) {base : Nat} (h1 : base ≤ hb) (h2 : base ≤ sb) (h3 : sb ≠ hb) (h4 : Below W0.heap.size W0 w) (h5 : W0.heap.size ≤ base) :
    SI W0 base w sb hb (.slice none 0 0) ev bv (List.replicate 40 false) [] :=
  ⟨⟨hs0, by simp⟩, ⟨[], ⟨h1, hb0, World.ownsRow_nil _ _ _ _, by simp⟩, fun i _ h => by simp at h, List.Perm.refl _, List.Pairwise.nil⟩, h2, h3, by simp [Value.ownBlock], h4, h5⟩

theorem slE {w : World} {v : Value} {l : List Ed} (h : EdgesAt w v l) : ∃ ao cap, v = .slice ao l.length cap := by
  obtain ⟨ao, cap, h, _⟩ := h
  exact ⟨ao, cap, h⟩
theorem slI {w : World} {v : Value} {l : List Int} (h : IntsAt w v l) : ∃ ao cap, v = .slice ao l.length cap := by
  obtain ⟨ao, cap, h, _⟩ := h
  exact ⟨ao, cap, h⟩
def HeapV (B : Nat) (z : Value) (w : World) : Prop := ∃ b, z = .pointer (some ⟨b, 0, none⟩) ∧ B ≤ b ∧ w.heap[b]? = some (.cells #[.slice none 0 0] 72 (0, 0))
theorem HeapV.stable (B : Nat) : Stable (HeapV B) := fun z w w' ⟨b, hz, h1, hb⟩ hB => ⟨b, hz, h1, (hB.block b (Array.getElem?_eq_some_iff.1 hb).1).trans hb⟩
def BuildV (B : Nat) (ev bv : Value) (z : Value) (w : World) : Prop := ∃ b, z = .agg (sC ev bv (List.replicate 40 false) b) ∧ B ≤ b ∧ w.heap[b]? = some (.cells #[.slice none 0 0] 72 (0, 0))
theorem BuildV.stable (B : Nat) (ev bv : Value) : Stable (BuildV B ev bv) := fun z w w' ⟨b, hz, h1, hb⟩ hB => ⟨b, hz, h1, (hB.block b (Array.getElem?_eq_some_iff.1 hb).1).trans hb⟩
def zeroS : Array Value := (Value.slice none 0 0 :: Value.slice none 0 0 :: ((List.replicate 40 false).map Value.bool ++ [.pointer none])).toArray
def NewSV (B : Nat) (z : Value) (w : World) : Prop := ∃ b, z = .pointer (some ⟨b, 0, none⟩) ∧ B ≤ b ∧ w.heap[b]? = some (.cells zeroS 64 (0, 0))
theorem NewSV.stable (B : Nat) : Stable (NewSV B) := fun z w w' ⟨b, hz, h1, hb⟩ hB => ⟨b, hz, h1, (hB.block b (Array.getElem?_eq_some_iff.1 hb).1).trans hb⟩
theorem zeroS_size : zeroS.size = 43 := by simp [zeroS]
theorem sC_one {eo bo : Option Addr} {a c a' c' : Nat} {l : List Bool} {hb : Nat} : ((sC (.slice eo a c) (.slice bo a' c') l hb).all fun x => x.oneCell') = true := by simp [sC, Value.oneCell']
theorem marks_begin {n : Int} {bn : Nat} (h : (bn : Int) < n) (hn : n ≤ 40) : ∀ v : Int, 0 ≤ v → v < n → atb ((List.replicate 40 false).set bn true) v.toNat = decide (v = bn) := fun v v0 v1 => by
  rw [atb_set (by simp; omega), atb_rep]
  by_cases e : v = bn
  · subst e; simp
  · rw [if_neg (by omega)]; simp [e]
theorem marks_step {n : Int} {cl : List Bool} {u : Nat} (hc : cl.length = 40) (hu : (u : Int) < n) (hn : n ≤ 40) : ∀ v : Int, 0 ≤ v → v < n → atb (cl.set u true) v.toNat = (atb cl v.toNat || decide (v = u)) := fun v v0 v1 => by
  rw [atb_set (by omega)]
  by_cases e : v = u
  · subst e; simp
  · rw [if_neg (by omega)]; simp [e]
/-- What the search has come to, and what its caller knows. -/
structure CI (n : Int) (es : List Ed) (bl : List Int) (b : Int) (d : Int → Int) (W0 : World) (base : Nat) (J : List (Nat × Int) → World → Prop) (sb hb : Nat) (ev bv : Value) (pre : List (Nat × Int)) (cl : List Bool) (q : List Hp.Pr) (hv : Value) (w : World) : Prop where
  di : DI n es bl b d (fun v => atb cl v.toNat) q pre
  si : SI W0 base w sb hb hv ev bv cl q.tail
  j : J pre w

set_option maxHeartbeats 8000000 in
set_option maxRecDepth 100000 in
theorem costs_in {n : Int} {es : List Ed} {bl : List Int} {b : Int} {d : Int → Int} {W0 W : World} {ev bv : Value} {T : Nat → Prop} {lx bx tx : Nat} (m : Nat) (hm : 1 ≤ m)
    (hr : RightL n es) (hd : IsFar n es bl b d) (hd2 : ∀ v, 0 ≤ v → v < n → d v ≤ 39000) (b0 : 0 ≤ b) (b1 : b < n) (he : EdgesAt W0 ev es) (hbl : IntsAt W0 bv bl) (hW : Below W0.heap.size W0 W)
    (h1 : W.cell? ⟨lx, 1, none⟩ = some ev) (h2 : W.cell? ⟨bx, 0, none⟩ = some bv) (h3 : W.cell? ⟨tx, 0, none⟩ = some (.int .i64 b)) (l1 : lx < W.heap.size) (l2 : bx < W.heap.size) (l3 : tx < W.heap.size)
    (hT : ∀ k, T k → k < W.heap.size ∧ W0.heap.size ≤ k) (ly : Nat) (J Jx : List (Nat × Int) → World → Prop) (hJ : ∀ s X Y, Below W.heap.size X Y → J s X → J s Y) (hJx : ∀ s X Y, Below W.heap.size X Y → Jx s X → Jx s Y)
    (hY : ∀ pre x W1, J pre W1 → Em es bl b d (pre ++ [x]) → YieldAt Fence.wide (m - 1) Try.prog ly #[.int .i64 (x.1 : Int), .int .i64 x.2] W1 fun e W' =>
      (e = .returned (.bool true) ∧ J (pre ++ [x]) W' ∧ Kt T W1 W') ∨ (e = .returned (.bool false) ∧ Jx (pre ++ [x]) W'))
    (h0 : J [] W) :
    CallsIn Fence.wide m Try.prog 34 #[.func (.yield ly) #[] #[], .pointer (some ⟨lx, 0, none⟩), .pointer (some ⟨bx, 0, none⟩), .pointer (some ⟨tx, 0, none⟩)] W fun e W' => (∃ v, e = .returned v) ∧
      ((∃ xs, (Em es bl b d xs ∧ ∀ v, 0 ≤ v → v < n → 0 ≤ d v → Dn es b xs v) ∧ J xs W') ∨ (∃ pre, Em es bl b d pre ∧ Jx pre W')) := by
  obtain ⟨Q, HQ⟩ : ∃ Q, Hid ((fun (e : Ending) (W' : World) => (∃ v, e = .returned v) ∧
      ((∃ xs, (Em es bl b d xs ∧ ∀ v, 0 ≤ v → v < n → 0 ≤ d v → Dn es b xs v) ∧ J xs W') ∨ (∃ pre, Em es bl b d pre ∧ Jx pre W'))) = Q) := ⟨_, rfl⟩
  rw [HQ.out]
  have HJ := Lib.hid hJ
  have HJx := Lib.hid hJx
  have HY := Lib.hid hY
  have H0 := Lib.hid h0
  have HW := Lib.hid hW
  have HT := Lib.hid hT
  have HD2 := Lib.hid hd2
  have hWs := hW.size
  have HE := Lib.hid he
  have HI := Lib.hid hbl
  obtain ⟨eo, ce, rfl⟩ := slE he
  obtain ⟨bo, cb, rfl⟩ := slI hbl
  clear hJ hJx hY h0 hW hT hd2 he hbl
  refine callsIn_wide.2 ?_
  go_enter Try.func34, Try.ntmps34
  go_upto_region 0 with fail
  rename_i K1 A1
  refine wp_region_grow mixed (fun zs => { tmps := List.toArray (Value.func (Fn.yield ly) #[] #[] :: Value.pointer (some ⟨lx, 0, none⟩) :: Value.pointer (some ⟨bx, 0, none⟩) :: Value.pointer (some ⟨tx, 0, none⟩) :: undef :: zs.getD 5 undef :: undef :: undef :: undef :: undef :: zs.getD 0 undef :: zs.getD 1 undef :: zs.getD 2 undef :: zs.getD 3 undef :: zs.getD 4 undef :: undef :: undef :: undef :: undef :: undef :: undef :: undef :: undef :: undef :: undef :: undef :: undef :: undef :: undef :: undef :: undef :: undef :: undef :: undef :: undef :: undef :: undef :: undef :: undef :: undef :: undef :: undef :: undef :: undef :: undef :: undef :: undef :: undef :: undef :: undef :: []), defers := [] }) [(fun z _ => z = Value.pointer (some ⟨lx, 1, none⟩)), (fun z _ => z = Value.slice eo es.length ce), (fun z _ => z = Value.slice bo bl.length cb), (HeapV W.heap.size), (BuildV W.heap.size (Value.slice eo es.length ce) (Value.slice bo bl.length cb)), (NewSV W.heap.size)] [undef, undef, undef, undef, undef, undef] rfl rfl rfl ?_ (by kernel_rfl) (by kernel_rfl) ?_ ?_
  · intro p hp
    simp only [List.mem_cons, List.not_mem_nil, or_false] at hp
    rcases hp with rfl | rfl | rfl | rfl | rfl | rfl
    all_goals first | exact stable_eq _ | exact HeapV.stable _ | exact BuildV.stable _ _ _ | exact NewSV.stable _
  · intro i hi zs l wz o hz hF ho hpre
    have hi' : i < 6 := hi
    clear A1
    have d1 := (hF.bel.cell (p := ⟨lx, 1, none⟩) l1).trans h1
    have d2 := (hF.bel.cell (p := ⟨bx, 0, none⟩) l2).trans h2
    have hsz := hF.bel.size
    match zs, (show zs.length = 6 from hz) with
    | z0 :: z1 :: z2 :: z3 :: z4 :: z5 :: [], _ =>
      clear hz hi
      change wpOp _ _ _ _ _ { tmps := List.toArray (Value.func (Fn.yield ly) #[] #[] :: Value.pointer (some ⟨lx, 0, none⟩) :: Value.pointer (some ⟨bx, 0, none⟩) :: Value.pointer (some ⟨tx, 0, none⟩) :: undef :: z5 :: undef :: undef :: undef :: undef :: z0 :: z1 :: z2 :: z3 :: z4 :: undef :: undef :: undef :: undef :: undef :: undef :: undef :: undef :: undef :: undef :: undef :: undef :: undef :: undef :: undef :: undef :: undef :: undef :: undef :: undef :: undef :: undef :: undef :: undef :: undef :: undef :: undef :: undef :: undef :: undef :: undef :: undef :: undef :: undef :: undef :: []), defers := [] } _
      have hc : i = 0 ∨ i = 1 ∨ i = 2 ∨ i = 3 ∨ i = 4 ∨ i = 5 := by omega
      clear hi'
      rcases hc with rfl | rfl | rfl | rfl | rfl | rfl
      · clear ho hpre
        refine wpOp_here rfl (fun K' hK => ?_)
        go_simp
        exact hK _ _ ⟨_, rfl, Below.refl _ _, fun p hp => by cases (show some (fun z _ => z = Value.pointer (some ⟨lx, 1, none⟩)) = some p from hp); exact rfl⟩
      · have p0 := hF.fact 0 _ _ rfl rfl (hpre ⟨0, .data⟩ (by cases ho; simp) rfl)
        subst p0
        clear ho hpre
        refine wpOp_here rfl (fun K' hK => ?_)
        go_simp
        exact hK _ _ ⟨_, rfl, Below.refl _ _, fun p hp => by cases (show some (fun z _ => z = Value.slice eo es.length ce) = some p from hp); exact rfl⟩
      · clear ho hpre
        refine wpOp_here rfl (fun K' hK => ?_)
        go_simp
        exact hK _ _ ⟨_, rfl, Below.refl _ _, fun p hp => by cases (show some (fun z _ => z = Value.slice bo bl.length cb) = some p from hp); exact rfl⟩
      · clear ho hpre
        refine wpOp_here rfl (fun K' hK => ?_)
        go_simp
        refine (Hp.new_any _).mono ?_
        rintro e6 w6' ⟨rfl, rfl⟩
        exact hK _ _ ⟨_, rfl, (Below.refl _ _).alloc (Nat.le_refl _) _, fun p hp => by cases (show some (HeapV W.heap.size) = some p from hp); exact ⟨_, rfl, hsz, heap_alloc_new wz _⟩⟩
      · have p1 := hF.fact 1 _ _ rfl rfl (hpre ⟨1, .data⟩ (by cases ho; simp) rfl)
        subst p1
        have p2 := hF.fact 2 _ _ rfl rfl (hpre ⟨2, .data⟩ (by cases ho; simp) rfl)
        subst p2
        have p3 := hF.fact 3 _ _ rfl rfl (hpre ⟨3, .data⟩ (by cases ho; simp) rfl)
        obtain ⟨hb, rfl, hb1, hb2⟩ := p3
        clear ho hpre
        refine wpOp_here rfl (fun K' hK => ?_)
        go_simp
        exact hK _ _ ⟨_, rfl, Below.refl _ _, fun p hp => by cases (show some (BuildV W.heap.size (Value.slice eo es.length ce) (Value.slice bo bl.length cb)) = some p from hp); exact ⟨hb, rfl, hb1, hb2⟩⟩
      · clear ho hpre
        refine wpOp_here rfl (fun K' hK => ?_)
        go_simp
        exact hK _ _ ⟨_, rfl, (Below.refl _ _).alloc (Nat.le_refl _) _, fun p hp => by cases (show some (NewSV W.heap.size) = some p from hp); exact ⟨_, rfl, hsz, heap_alloc_new wz _⟩⟩
  · intro zs wz hz hbel hev
    match zs, (show zs.length = 6 from hz) with
    | z0 :: z1 :: z2 :: z3 :: z4 :: z5 :: [], _ =>
      have p0 := hev 0 _ _ rfl rfl
      have p1 := hev 1 _ _ rfl rfl
      have p2 := hev 2 _ _ rfl rfl
      have p3 := hev 3 _ _ rfl rfl
      have p4 := hev 4 _ _ rfl rfl
      have p5 := hev 5 _ _ rfl rfl
      subst p0 p1 p2
      clear hz hev
      obtain ⟨hb, rfl, q1, q2⟩ := p4
      obtain ⟨sb, rfl, q3, q4⟩ := p5
      change wpOp _ _ _ _ _ { tmps := List.toArray (Value.func (Fn.yield ly) #[] #[] :: Value.pointer (some ⟨lx, 0, none⟩) :: Value.pointer (some ⟨bx, 0, none⟩) :: Value.pointer (some ⟨tx, 0, none⟩) :: undef :: Value.pointer (some ⟨sb, 0, none⟩) :: undef :: undef :: undef :: undef :: Value.pointer (some ⟨lx, 1, none⟩) :: Value.slice eo es.length ce :: Value.slice bo bl.length cb :: z3 :: Value.agg (sC (Value.slice eo es.length ce) (Value.slice bo bl.length cb) (List.replicate 40 false) hb) :: undef :: undef :: undef :: undef :: undef :: undef :: undef :: undef :: undef :: undef :: undef :: undef :: undef :: undef :: undef :: undef :: undef :: undef :: undef :: undef :: undef :: undef :: undef :: undef :: undef :: undef :: undef :: undef :: undef :: undef :: undef :: undef :: undef :: undef :: undef :: []), defers := [] } _
      have HBW := Lib.hid hbel
      refine wpOp_here rfl (fun K' hK => ?_)
      rw [if_pos (by rfl)]
      refine wp_store_row 64 _ _ rfl sb (sC (.slice eo es.length ce) (.slice bo bl.length cb) (List.replicate 40 false) hb) rfl rfl 64 _ q4 (by kernel_rfl) (by rw [zeroS_size, sC_size]; simp) sC_one ?_
      refine hK _ _ ?_
      clear hK
      have hne : sb ≠ hb := fun e => by rw [e, q2] at q4; simp at q4
      have HW2 := Lib.hid (Below.setRow HBW.out q3 (sC (.slice eo es.length ce) (.slice bo bl.length cb) (List.replicate 40 false) hb))
      have HS2 := Lib.hid (SI.new (W0 := W0) (by rw [setRow_other _ _ _ _ (fun e => hne e.symm)]; exact q2) (setRow_heap wz sb _ (sC (.slice eo es.length ce) (.slice bo bl.length cb) (List.replicate 40 false) hb) 64 (0, 0) q4) q1 q3 hne (HW.out.trans (HW2.out.mono hWs)) hWs)
      generalize wz.setRow sb (sC (.slice eo es.length ce) (.slice bo bl.length cb) (List.replicate 40 false) hb) = w2 at *
      clear hbel q1 q2 q3 q4 HBW h1 h2 hne
      generalize Value.agg (sC (.slice eo es.length ce) (.slice bo bl.length cb) (List.replicate 40 false) hb) = zz
      refine A1 _ _ ?_
      clear A1
      obtain ⟨bn, rfl⟩ : ∃ bn : Nat, b = (bn : Int) := ⟨b.toNat, by omega⟩
      have hn40 : n ≤ 40 := hr.2.1
      have h120 : es.length ≤ 120 := hr.2.2.1
      have HC := Lib.hid (come_any HS2.out HE.out HI.out hr bn 0 (by omega) (Int.le_refl _) (by omega) (by simp))
      have HDI := Lib.hid (DI.begin (D := fun v => atb ((List.replicate 40 false).set bn true) v.toNat) hr hd b0 b1 (marks_begin b1 hn40))
      have d3 := (HW2.out.cell (p := ⟨tx, 0, none⟩) l3).trans h3
      generalize comeB es bl (bn : Int) 0 [] = q0 at *
      generalize (List.replicate 40 false).set bn true = cl0 at *
      go_upto_region 2 with (go_at_call 36; (with_reducible refine (HC.out).mono ?_); rintro e w3 ⟨rfl, hv3, h3, b3⟩)
      have d4 := h3.s.ch
      have HS3 := Lib.hid h3
      have HB3 := Lib.hid (HW2.out.trans b3)
      clear h3 b3 HC d3
      go_wp2_with (go_at_call 37; (with_reducible refine (pop_si HS3.out).mono ?_); rintro e w4 ⟨rfl, hv4, h4, b4⟩)
      have HS4 := Lib.hid h4
      have HJ4 : Hid (J [] w4) := HJ.out _ _ _ (HB3.out.trans b4) H0.out
      have HCI : Hid (CI n es bl bn d W0 W.heap.size J sb hb (.slice eo es.length ce) (.slice bo bl.length cb) [] cl0 q0 hv4 w4) := ⟨HDI.out, HS4.out, HJ4.out⟩
      clear h4 b4 d4 HS3 HB3 HS4 HJ4 HDI HS2 HW2 h3
      go_loopw [6, 7, 8] (fun co ed ok wr => ∃ (pre : List (Nat × Int)) (cl : List Bool) (q : List Hp.Pr) (hv : Value), Hid (CI n es bl bn d W0 W.heap.size J sb hb (.slice eo es.length ce) (.slice bo bl.length cb) pre cl q hv wr) ∧ co = .int .i64 (Hp.at' q 0).1 ∧ ed = .int .i64 (Hp.at' q 0).2 ∧ ok = .bool (!q.isEmpty)) (fun _ _ ok wr => mu es wr sb hb ok)
      case atStart => exact ⟨[], cl0, q0, hv4, HCI, rfl, rfl, rfl⟩
      case round =>
        obtain ⟨pre, cl, q, hv, HC, rfl, rfl, rfl⟩ := hrel
        clear HCI
        have HMU := Lib.hid (mu_of hr HC.out.si)
        cases q with
        | nil =>
          have HF : Hid (Q (.returned (.tuple #[])) wr) := by
            show Q _ _
            rw [← HQ.out]
            exact ⟨⟨_, rfl⟩, .inl ⟨pre, ⟨HC.out.di.em, fun v v0 v1 hv => HC.out.di.done hr hd b0 b1 v0 v1 hv⟩, HC.out.j⟩⟩
          go_wp2_with fail
          go_end0
          exact HF.out
        | cons p r =>
          obtain ⟨k, hk, hp, f0, f1⟩ := HC.out.di.head hr hd
          obtain ⟨c, pk⟩ := p
          obtain rfl : pk = (k : Int) := (Prod.mk.injEq .. ▸ hp : _ ∧ _).2
          clear hp
          rw [show Hp.at' ((c, (k : Int)) :: r) 0 = (c, (k : Int)) from rfl]
          dsimp only [List.isEmpty_cons, Bool.not_false] at HMU ⊢
          have HSI : Hid (SI W0 W.heap.size wr sb hb hv (.slice eo es.length ce) (.slice bo bl.length cb) cl r) := HC.out.si
          obtain ⟨u, hu⟩ : ∃ u : Nat, (ate es k).1 = (u : Int) := ⟨(ate es k).1.toNat, by omega⟩
          have hu40 : u < 40 := by omega
          have hun : (u : Int) < n := by omega
          obtain ⟨ao, ac, he1, he2, he3⟩ := HE.out
          cases he1
          obtain ⟨eb, eof, rfl, lb, hcs⟩ := he3 (by omega)
          have g0 := (HSI.out.bel.cell (p := ⟨eb, eof + k * 3, none⟩) lb).trans (hcs k hk).1
          rw [hu] at g0
          have c0 := HSI.out.s.c0
          have cu := HSI.out.s.cb hu40
          have ch := HSI.out.s.ch
          have HU := Lib.hid hu
          clear he2 he3 hcs hu
          cases hm1 : atb cl u with
          | true =>
            rw [hm1] at cu
            have HDI : Hid (DI n es bl bn d (fun v => atb cl v.toNat) r pre) := HC.out.di.skip (by rw [HU.out]; simpa using hm1)
            have HJ5 : Hid (J pre wr) := HC.out.j
            clear hm1
            go_wp2_with (go_at_call 37; (with_reducible refine (pop_si HSI.out).mono ?_); rintro e w5 ⟨rfl, hv5, h5, b5⟩)
            have HC5 : Hid (CI n es bl bn d W0 W.heap.size J sb hb (.slice (some ⟨eb, eof, none⟩) es.length ce) (.slice bo bl.length cb) pre cl r hv5 w5) := ⟨HDI.out, h5, HJ.out _ _ _ b5 HJ5.out⟩
            have HM5 := Lib.hid (mu_of hr h5)
            clear h5 b5
            go_roundw
            case rel => exact ⟨pre, cl, r, hv5, HC5, rfl, rfl, rfl⟩
            case measure =>
              simp only [HMU.out, HM5.out, List.length_cons]
              omega
          | false =>
            rw [hm1] at cu
            obtain ⟨_, hc, hem⟩ := HC.out.di.on hr hd b0 b1 (by rw [HU.out]; simpa using hm1)
            have hpos := hem.pos hr hd (Dn.snoc.2 (.inr rfl))
            have hle := HD2.out _ f0 f1
            have hc0 : 0 ≤ c := by omega
            have hc1 : c ≤ 100000 := by omega
            have HST := Lib.hid (HC.out.di.step (E := fun v => atb (cl.set u true) v.toNat) hr hd b0 b1 (by rw [HU.out]; simpa using hm1) (by rw [HU.out]; exact marks_step HSI.out.s.len hun hn40))
            rw [HU.out] at HST
            have hrl : r.length ≤ 200 := by
              have h1 := HC.out.di.len
              have h2 := cnt_le es (fun v => atb cl v.toNat) es.length
              simp only [List.length_cons] at h1
              omega
            obtain ⟨fn, tmps, assign, body, hy, hR⟩ := HY.out pre (k, c) wr HC.out.j hem
            have HEM := Lib.hid hem
            have HR := Lib.hid hR
            clear hR hem hm1 hc hpos hle
            dsimp only at hy
            go_upto_region 7 with fail
            refine (wpIn_wide (n := m)).1 ?_
            gi_wp2
            refine HR.out.mono ?_
            clear HR hy
            rintro e W5 (⟨rfl, hJ5, hK5⟩ | ⟨rfl, hJx5⟩)
            · have HS5 := Lib.hid (HSI.out.turn hK5 (fun i hi => HT.out i hi))
              have HJ5 := Lib.hid hJ5
              have HC5 := Lib.hid (come_any HS5.out HE.out HI.out hr u c hu40 hc0 hc1 hrl)
              clear hJ5 hK5
              gi_wp2
              go_upto_region 4 with (go_at_call 36; (with_reducible refine (HC5.out).mono ?_); rintro e w6 ⟨rfl, hv6, h6, b6⟩)
              have ch6 := h6.s.ch
              have HS6 := Lib.hid h6
              have HJ6 := Lib.hid (HJ.out _ _ _ b6 HJ5.out)
              clear h6 b6 ch
              go_wp2_with (go_at_call 37; (with_reducible refine (pop_si HS6.out).mono ?_); rintro e w7 ⟨rfl, hv7, h7, b7⟩)
              have HC7 : Hid (CI n es bl bn d W0 W.heap.size J sb hb (.slice (some ⟨eb, eof, none⟩) es.length ce) (.slice bo bl.length cb) (pre ++ [(k, c)]) (cl.set u true) (comeB es bl u c r) hv7 w7) := ⟨HST.out.1, h7, HJ.out _ _ _ b7 HJ6.out⟩
              have HM7 := Lib.hid (mu_of hr h7)
              clear h7 b7
              go_roundw
              case rel => exact ⟨_, _, _, hv7, HC7, rfl, rfl, rfl⟩
              case measure =>
                have HL := HST.out.2
                simp only [HMU.out, HM7.out, List.length_cons] at HL ⊢
                omega
            · have HF : Hid (Q (.returned (.tuple #[])) W5) := by
                show Q _ _
                rw [← HQ.out]
                exact ⟨⟨_, rfl⟩, .inr ⟨pre ++ [(k, c)], HEM.out, hJx5⟩⟩
              clear hJx5
              gi_wp2
              go_wp2
              trace_state
              refine bodyPost_ret (results_none rfl _ _ _) rfl ?_
              exact HF.out
/-- **The iterator's contract.** -/
theorem costs_seq {n : Int} {es : List Ed} {bl : List Int} {b : Int} {d : Int → Int} {W0 w : World} {ev bv : Value} {T : Nat → Prop} {lx bx tx : Nat} (m : Nat) (hm : 1 ≤ m)
    (hr : RightL n es) (hd : IsFar n es bl b d) (hd2 : ∀ v, 0 ≤ v → v < n → d v ≤ 39000) (b0 : 0 ≤ b) (b1 : b < n) (he : EdgesAt W0 ev es) (hbl : IntsAt W0 bv bl) (hW : Below W0.heap.size W0 w)
    (h1 : w.cell? ⟨lx, 1, none⟩ = some ev) (h2 : w.cell? ⟨bx, 0, none⟩ = some bv) (h3 : w.cell? ⟨tx, 0, none⟩ = some (.int .i64 b)) (l1 : lx < w.heap.size) (l2 : bx < w.heap.size) (l3 : tx < w.heap.size)
    (hT : ∀ k, T k → k < w.heap.size ∧ W0.heap.size ≤ k) :
    SeqT Fence.wide m Try.prog 34 #[.pointer (some ⟨lx, 0, none⟩), .pointer (some ⟨bx, 0, none⟩), .pointer (some ⟨tx, 0, none⟩)] (fun x : Nat × Int => #[.int .i64 (x.1 : Int), .int .i64 x.2]) T (fun xs => Em es bl b d xs ∧ ∀ v, 0 ≤ v → v < n → 0 ≤ d v → Dn es b xs v) (Em es bl b d) w := by
  intro l J Jx W hb hs hJ hJx hY h0
  have hz := hW.size
  exact costs_in (T := fun k => T k ∨ (w.heap.size ≤ k ∧ k < w.heap.size + 2)) m hm hr hd hd2 b0 b1 he hbl (hW.trans (hb.mono hz)) ((hb.cell (p := ⟨lx, 1, none⟩) l1).trans h1) ((hb.cell (p := ⟨bx, 0, none⟩) l2).trans h2) ((hb.cell (p := ⟨tx, 0, none⟩) l3).trans h3) (by omega) (by omega) (by omega)
    (fun k hk => by rcases hk with hk | hk; (have := hT k hk; omega); omega) l J Jx hJ hJx hY h0
end Go.Proofs.Ythmblgfcjbiomaa.Rt
