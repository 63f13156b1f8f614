import Derived.Test.YtnpbkjmlmdpggaaWh
import Derived.Sort.CutIn
/- Order. -/
set_option linter.unusedVariables false
set_option linter.unusedSimpArgs false
namespace Go.Proofs.Ytnpbkjmlmdpggaa.Wk
open Go.RowKit Go.Shelf Ly Od
attribute [local go_sem] Oper.semAt_some

/-- An order, and whether it is one. -/
def RetO (z : O × Bool) (w : World) (e : Ending) (w' : World) : Prop := ∃ ov, e = .returned (.tuple #[ov, .bool z.2]) ∧ OAt (fun b => w.heap.size ≤ b ∧ NotO w' b) w' ov z.1 ∧ Below w.heap.size w w'
def pI (p : List Int) : Prop := ∀ x ∈ p, x ≤ 9223372036854775807
set_option maxRecDepth 100000 in
set_option maxHeartbeats 4000000 in
theorem order_short {S : Nat → Prop} {y : O} {p : List Int} {w : World} (hv pv : Value) (hy : OAt S w hv y) (hp : IntsAt w pv p) (hcap : ∃ ao n c, pv = .slice ao n c ∧ n ≤ c) (hI : pI p) (q r : Int) (hq : Js.i64B q) (hr : Js.i64B r) (hpath : pathB p = true) (hpl : p.length ≤ 127) :
    Calls Try.prog 12 #[hv, pv, .int .i64 q, .int .i64 r] w (RetO (orderS Tp.nameB y.h y.v y.o y.u p q r) w) := by
  obtain ⟨Q, HQ⟩ : ∃ Q, Hid (RetO (orderS Tp.nameB y.h y.v y.o y.u p q r) w = Q) := ⟨_, rfl⟩
  rw [HQ.out]
  rw [order_wrap hq hpath] at HQ
  obtain ⟨an, cn, ae, ce, rfl, q0, q1, q2, q3, -⟩ := hy.open_
  have CP := Lib.hid (fun w' (hb : Below w.heap.size w w') => isPath_any pv (hp.below hb (Nat.le_refl _)))
  rw [hpath] at CP
  have HP := Lib.hid hp
  obtain ⟨ao, n, ac, rfl, hca⟩ := hcap
  obtain ⟨ao2, ac2, hpe, hlen, -⟩ := hp
  cases hpe
  obtain ⟨hd, nm, oi, ui, ns, es⟩ := y
  simp only at HQ q0 q1 q2 q3 ⊢
  clear hy
  obtain ⟨N, HN⟩ : ∃ N, Hid (p.length = N) := ⟨_, rfl⟩
  rw [HN.out] at HP hlen CP hca hpl
  rw [HN.out]
  generalize ns.length = nl
  generalize es.length = el
  have HB1 : Below w.heap.size w (w.alloc (.cells #[.int .i64 hd, .string ⟨nm.toArray⟩, .int .i64 oi, .int .i64 ui, .slice an nl cn, .slice ae el ce] 25)) := (Below.refl _ _).alloc (Nat.le_refl _) _
  obtain ⟨wa, hwa⟩ : ∃ wa, w.alloc (.cells #[.int .i64 hd, .string ⟨nm.toArray⟩, .int .i64 oi, .int .i64 ui, .slice an nl cn, .slice ae el ce] 25) = wa := ⟨_, rfl⟩
  have hO : wa.heap[w.heap.size]? = some (.cells #[.int .i64 hd, .string ⟨nm.toArray⟩, .int .i64 oi, .int .i64 ui, .slice an nl cn, .slice ae el ce] 25 (0, 0)) := by rw [← hwa]; exact heap_alloc_new w _
  obtain ⟨wb, hwb⟩ : ∃ wb, (wa.alloc (.cells #[.int .i64 q] 3)).alloc (.cells #[.int .i64 r] 3) = wb := ⟨_, rfl⟩
  have hsa : wa.heap.size = w.heap.size + 1 := by rw [← hwa]; simp
  rw [hwa] at HB1
  obtain ⟨b1, s1, k1, k2⟩ := two_cells wa _ _ _ _ hwb
  have HS := (k1 0 _ rfl)
  have HR := (k2 0 _ rfl)
  rw [hsa] at HS HR
  have b2 : Below wb.heap.size wb (wb.alloc (.cells #[.int .i64 0, .string ⟨#[]⟩, .int .i64 0, .int .i64 0, .slice none 0 0, .slice none 0 0] 25)) := (Below.refl _ _).alloc (Nat.le_refl _) _
  have HX := fun j v h => HoldsA.new wb #[.int .i64 0, .string ⟨#[]⟩, .int .i64 0, .int .i64 0, .slice none 0 0, .slice none 0 0] 25 j v h
  obtain ⟨wc, hwc⟩ : ∃ wc, wb.alloc (.cells #[.int .i64 0, .string ⟨#[]⟩, .int .i64 0, .int .i64 0, .slice none 0 0, .slice none 0 0] 25) = wc := ⟨_, rfl⟩
  rw [hwc] at b2 HX
  have hsc : wc.heap.size = w.heap.size + 4 := by rw [← hwc]; simp; omega
  rw [show wb.heap.size = w.heap.size + 3 by omega] at HX
  have HBC : Hid (Below w.heap.size w wc) := (HB1.trans (b1.mono (by omega))).trans (b2.mono (by omega))
  have HSC := Lib.hid (HS.grow b2)
  have HRC := Lib.hid (HR.grow b2)
  have HXC := Lib.hid HX
  have HOC := Lib.hid (((b1.trans (b2.mono (by omega))).block _ (by omega)).trans hO)
  have HWC : Hid ((((w.alloc (.cells #[.int .i64 hd, .string ⟨nm.toArray⟩, .int .i64 oi, .int .i64 ui, .slice an nl cn, .slice ae el ce] 25)).alloc (.cells #[.int .i64 q] 3)).alloc (.cells #[.int .i64 r] 3)).alloc (.cells #[.int .i64 0, .string ⟨#[]⟩, .int .i64 0, .int .i64 0, .slice none 0 0, .slice none 0 0] 25) = wc) := by show _ = _; rw [hwa, hwb, hwc]
  clear b1 b2 k1 k2 HS HR HX hO hwa hwb hwc s1 HB1 hsa
  have HSZ := Lib.hid hsc
  clear hsc
  refine (callsIn_wide (n := 6)).1 ?_
  refine callsIn_of_wp_marks Try.func12 rfl trivial ?_ rfl
  simp only [Try.ntmps12, List.size_toArray, List.length_cons, List.length_nil, Nat.reduceAdd, Nat.reduceSub, Array.replicate_succ, Array.replicate_zero, List.push_toArray, List.append_toArray, List.nil_append, List.cons_append]
  have HM : Hid ((N : Nat) = min N 127) := by show _ = _; omega
  have hm2 : N ≤ ac := by omega
  have hm3 : ((N : Nat) : Int) ≤ (ac : Int) := by omega
  have hm1 : (N : Int) ≤ 127 := by omega
  have HPL := Lib.hid hpl
  clear hpl hca
  gi_wp2_with (first
    | (refine ⟨trivial, ?_⟩; gi_at_call 32; rw [HWC.out]; refine (callsIn_wide.2 (CP.out _ HBC.out)).mono ?_; rintro e1 w1 ⟨rfl, hb1⟩; have HB1 := Lib.hid hb1; obtain ⟨c0, c1, c2, c3, c4, c5⟩ := six_of ((hb1.block _ (by have := HSZ.out; omega)).trans HOC.out); have hlt1 := cell_lt c0; have HS1 := Lib.hid (HSC.out.grow hb1); have HR1 := Lib.hid (HRC.out.grow hb1); have HX1 := Lib.hid (fun j v h => (HXC.out j v h).grow hb1); have HSZ1 := Lib.hid (show w.heap.size + 4 ≤ w1.heap.size by have := HSZ.out; have := hb1.size; omega); generalize hxb : w.heap.size + 1 + 1 + 1 = xb; generalize hrb : w.heap.size + 1 + 1 = rb; generalize hsb : w.heap.size + 1 = sb; rw [show w.heap.size + 3 = xb by omega] at HX1; rw [show w.heap.size + 1 + 1 = rb by omega] at HR1; rw [hsb] at HS1; clear hb1; have HXB := Lib.hid hxb; have HRB := Lib.hid hrb; have HSB := Lib.hid hsb; clear hxb hrb hsb)
    | (refine ⟨trivial, ?_⟩; gi_at_call 33; refine (callsIn_wide.2 (byTurns_any _ ⟨_, _, _, rfl⟩ _)).mono ?_; rintro e w' ⟨rfl, rfl⟩))
  obtain ⟨bb, hbb⟩ : ∃ bb, w1.heap.size = bb := ⟨_, rfl⟩
  obtain ⟨w2, hw2⟩ : ∃ w2, (w1.alloc (.cells #[.int .i64 hd, .string ⟨nm.toArray⟩, .int .i64 oi, .int .i64 ui, .slice none 0 0, .slice none 0 0] 25)).alloc (.cells #[.slice ao N ac] 27) = w2 := ⟨_, rfl⟩
  obtain ⟨q1', q2', q3', q4'⟩ := two_cells w1 _ _ _ _ hw2
  rw [hw2]
  have HB2 : Hid (Below w.heap.size w w2) := (HBC.out.trans (HB1.out.mono HBC.out.size)).trans (q1'.mono (Nat.le_of_lt hlt1))
  have HOI : Hid (OI hd ⟨nm.toArray⟩ oi ui w (w2.heap.size + 2) w1.heap.size sb rb xb (p.take N) q r (.slice none 0 0) (.slice none 0 0) 0 w2) :=
    ⟨q3' 0 _ rfl, q3' 1 _ rfl, q3' 2 _ rfl, q3' 3 _ rfl, q3' 4 _ rfl, q3' 5 _ rfl, World.ownsRow_nil _ _ _ _, World.ownsRow_nil _ _ _ _, by rw [sq_zero hq]; exact HS1.out.grow q1', HR1.out.grow q1', fun j v h => (HX1.out j v h).grow q1', HB2.out⟩
  have H1 := q4' 0 _ rfl
  have HS : Hid (Lies w bb sb rb xb) := by
    have := HXB.out; have := HRB.out; have := HSB.out; have := HSZ1.out
    exact ⟨by omega, by omega, by omega, by omega, by omega, by omega, by omega, by omega⟩
  rw [hbb] at HOI H1 hlt1 q2' ⊢
  clear q1' q3' q4' hw2 HB1 HBC HOC HWC HSC HRC HXC HSZ CP c0 c1 c2 c3 c4 c5 hbb HX1 HR1 HS1 HXB HRB HSB HSZ1
  have HPP : Hid (IntsAt w (.slice ao N ac) (p.take N)) := by
    have := HP.out
    rw [← HN.out] at this
    exact ints_take this (by rw [HN.out]; have := HM.out; omega)
  have hPl : (p.take N).length = N := by rw [List.length_take, HN.out]; have := HM.out; omega
  have HPl := Lib.hid hPl
  have HFI : Hid (fineTo (p.take N) N) := fun i hi => by
    have h1 := (pathB_iff.1 hpath).2 i (by rw [HN.out]; have := HM.out; omega)
    rw [show pi (p.take N) i = pi p i from ati_take hi]
    exact h1
  have HBI : Hid (pI (p.take N)) := fun x hx => hI x (List.mem_of_mem_take hx)
  have HOV := Lib.hid (over_take (h := hd) (v := nm) (o := oi) (u := ui) (p := p) (q := q) (r := r) (M := N) (by rw [HN.out]; exact HM.out))
  generalize p.take N = P at *
  clear hPl hI hpath
  have HSEQ := Lib.hid (turns_seq (V := fun k => k < w.heap.size ∨ k = bb + 1) 5 (by omega) HPP.out HB2.out (fun _ h => .inl h) H1.1 (by omega))
  refine wpIn_rangeFunc_ownV1 (by rfl) (by omega) (gf := 45) (lb := #[.pointer (some ⟨bb + 1, 0, none⟩)]) rfl trivial (enters_of Try.func45 (by kernel_rfl) rfl)
    HSEQ.out (fun _ => rfl) (fun k (hk : k < w.heap.size ∨ k = bb + 1) => by omega)
    (fun pre W => ∃ nv ev, Hid (OI hd ⟨nm.toArray⟩ oi ui w (w2.heap.size + 2) bb sb rb xb P q r nv ev pre.length W)) (fun c pre W => False)
    (fun s X Y g h => by
      obtain ⟨nv, ev, h⟩ := h
      exact ⟨nv, ev, h.out.gw g (by omega) (Nat.le_refl _) HS.out⟩)
    (fun c s X Y g h => h)
    ⟨_, _, HOI⟩ ⟨_, fun l x W K hK => by gi_wp2; exact hK, ?body⟩ ?done ?stop
  case body =>
    rintro l pre ⟨x, t⟩ W hsz ⟨nv, ev, HH⟩ hsp
    obtain ⟨hlt, -, hx⟩ := turns_next hsp
    obtain ⟨rfl, rfl⟩ := (Prod.mk.injEq .. ▸ hx : _ ∧ _)
    rw [HPl.out] at hlt
    have HPR : Hid ((pre ++ [(ati P pre.length, decide (pre.length % 2 = 1))]).length = pre.length + 1) := by show _ = _; simp
    have hk127 : Hid (pre.length < 127) := by show _ < _; have := HM.out; omega
    have HEL := Lib.hid (HFI.out pre.length hlt)
    have HXU := Lib.hid (HBI.out (ati P pre.length) (ati_mem (by rw [HPl.out]; exact hlt)))
    have hU : Hid (∀ k, VB (fun k => k < w.heap.size ∨ k = bb + 1) w2.heap.size k → k < w2.heap.size + 2 ∧ k ≠ bb ∧ k ≠ sb) := fun k hk => by
      have := HS.out.s; have := HS.out.ws
      rcases hk with h | h | h
      · have : k < w.heap.size ∨ k = bb + 1 := h
        omega
      all_goals omega
    have hbl : Hid (bb < w2.heap.size) := by show _ < _; omega
    have hsz' := Lib.hid hsz
    obtain ⟨a4, c4n, rfl⟩ := row_form HH.out.nodes
    obtain ⟨a5, c5n, rfl⟩ := row_form HH.out.edges
    obtain ⟨c4, f4⟩ := HH.out.a4
    obtain ⟨c5, f5⟩ := HH.out.a5
    obtain ⟨cs, fs⟩ := HH.out.seq
    obtain ⟨cr, fr⟩ := HH.out.rel
    have r4 := HH.out.nodes
    have r5 := HH.out.edges
    have HWR := Lib.hid (sq_next q pre.length)
    have hsz2 : Hid (w2.heap.size + 2 ≤ W.heap.size) := hsz
    obtain ⟨t, ht⟩ : ∃ t, decide (pre.length % 2 = 1) = t := ⟨_, rfl⟩
    have HT := Lib.hid ht
    have HEL2 : Hid (0 ≤ ati P pre.length ∧ (t = true → 1000 ≤ ati P pre.length)) := by
      have h1 : elB pre.length (ati P pre.length) = true := HEL.out
      rw [elB_turn, ht] at h1
      show _ ∧ _
      cases t with
      | true => simp at h1; exact ⟨by omega, fun _ => h1⟩
      | false => simp at h1; exact ⟨by omega, fun h => by cases h⟩
    rw [ht] at HPR ⊢
    clear hsp hlt HSEQ q2' hsz H1 hx ht HEL hsz' HOI HB2 hlt1 hm1 hm2 hm3
    obtain ⟨m, HMM⟩ : ∃ m, Hid (m = (pre.length + 1) / 2) := ⟨_, rfl⟩
    obtain ⟨e, HEE⟩ : ∃ e, Hid (e = pre.length / 2) := ⟨_, rfl⟩
    obtain ⟨x, HXE⟩ : ∃ x, Hid (x = ati P pre.length) := ⟨_, rfl⟩
    obtain ⟨s0, HS0⟩ : ∃ s0, Hid (s0 = sq q pre.length) := ⟨_, rfl⟩
    obtain ⟨s1, HS1⟩ : ∃ s1, Hid (s1 = sq q (pre.length + 1)) := ⟨_, rfl⟩
    have hws : IntKind.i64.wrap (s0 + 1) = s1 := by rw [HS0.out, HS1.out]; exact HWR.out
    rw [← HMM.out] at c4 r4
    rw [← HEE.out] at c5 r5
    rw [← HS0.out] at cs
    rw [← HXE.out] at HEL2 HXU
    rw [show (ati P pre.length, t) = (x, t) by rw [HXE.out]]
    rw [show (ati P pre.length, t) = (x, t) by rw [HXE.out]] at HPR
    obtain ⟨b, HBB⟩ : ∃ b, Hid (b = decide ((m : Int) < r)) := ⟨_, rfl⟩
    have hmb : decide ((m : Int) < r) = b := HBB.out.symm
    have hmm : m ≤ 64 := by have := HMM.out; have := hk127.out; omega
    have hee : e ≤ 64 := by have := HEE.out; have := hk127.out; omega
    clear HWR
    dsimp only
    cases t with
    | true =>
      have hwx : IntKind.i64.wrap (x - 1000) = x - 1000 := IntWalk.i64_in _ (by have := HEL2.out.2 rfl; have := HXU.out; omega)
      clear HEL2
      gi_upto_region 11 with (gi_at_builtin; refine appendIn rfl _ _ way_info rfl (by decide) Try.underlying23 rfl (w2.heap.size + 2) _ e _ rfl (r5.alloc _) W.heap.size 1 rfl [.int .i64 (x - 1000), .int .i64 s0, .bool b] rfl (heap_alloc_new _ _) (by simp [Value.oneCell']) (by omega) (by unfold maxLen; omega) (by have := hsz2.out; simp; omega) ?_; intro g' cap' w3 hown' hbel hoth; have HB3 := Lib.hid (((Below.refl _ W).alloc hsz2.out _).trans hbel); have HO3 := Lib.hid (hoth _ _ _ _ _ _ (by decide) (r4.alloc _)); obtain ⟨c5', f5'⟩ := HoldsA.below ⟨c5, f5⟩ HB3.out (by have := hbl.out; omega); clear hbel hoth)
      have HNX : Hid (OI hd ⟨nm.toArray⟩ oi ui w (w2.heap.size + 2) bb sb rb xb P q r (.slice a4 ((pre.length + 1) / 2) c4n) (.slice (some ⟨g', 0, none⟩) (e + 1) cap') (pre.length + 1) ((w3.setCell ⟨bb, 5, none⟩ (.slice (some ⟨g', 0, none⟩) (e + 1) cap')).setCell ⟨sb, 0, none⟩ (.int .i64 s1))) :=
        HH.out.edge HS.out (by have := hbl.out; omega) (of_decide_eq_true HT.out) HMM.out HEE.out HXE.out HS0.out HS1.out HBB.out HB3.out hown' (by rw [← HMM.out]; exact HO3.out)
      have HKV := Lib.hid (kv_store2 (o := 5) (o' := 0) HB3.out hU.out (.slice (some ⟨g', 0, none⟩) (e + 1) cap') (.int .i64 s1))
      obtain ⟨cs', fs'⟩ := ((HoldsA.below ⟨cs, fs⟩ HB3.out (by have := hbl.out; have := HS.out.s; omega)).other (c := bb) (p := 5) (.inl (by have := HS.out.s; omega)) (.slice (some ⟨g', 0, none⟩) (e + 1) cap') : HoldsA _ sb 0 (.int .i64 s0))
      generalize w3.setCell ⟨bb, 5, none⟩ (.slice (some ⟨g', 0, none⟩) (e + 1) cap') = w4 at *
      clear cs fs c4 f4 c5 f5 c5' f5' cr fr r4 r5 hown'
      gi_wp2
      rw [← HPR.out] at HNX
      exact ⟨HKV.out, _, _, HNX⟩
    | false =>
      clear HEL2
      gi_upto_region 11 with (gi_at_builtin; refine appendIn rfl _ _ stop_info rfl (by decide) Try.underlying22 rfl (w2.heap.size + 2) _ m _ rfl (r4.alloc _) W.heap.size 1 rfl [.int .i64 x, .int .i64 s0, .bool b] rfl (heap_alloc_new _ _) (by simp [Value.oneCell']) (by omega) (by unfold maxLen; omega) (by have := hsz2.out; simp; omega) ?_; intro g' cap' w3 hown' hbel hoth; have HB3 := Lib.hid (((Below.refl _ W).alloc hsz2.out _).trans hbel); have HO3 := Lib.hid (hoth _ _ _ _ _ _ (by decide) (r5.alloc _)); obtain ⟨c4', f4'⟩ := HoldsA.below ⟨c4, f4⟩ HB3.out (by have := hbl.out; omega); clear hbel hoth)
      have HNX : Hid (OI hd ⟨nm.toArray⟩ oi ui w (w2.heap.size + 2) bb sb rb xb P q r (.slice (some ⟨g', 0, none⟩) (m + 1) cap') (.slice a5 (pre.length / 2) c5n) (pre.length + 1) ((w3.setCell ⟨bb, 4, none⟩ (.slice (some ⟨g', 0, none⟩) (m + 1) cap')).setCell ⟨sb, 0, none⟩ (.int .i64 s1))) :=
        HH.out.node HS.out (by have := hbl.out; omega) (of_decide_eq_false HT.out) HMM.out HEE.out HXE.out HS0.out HS1.out HBB.out HB3.out hown' (by rw [← HEE.out]; exact HO3.out)
      have HKV := Lib.hid (kv_store2 (o := 4) (o' := 0) HB3.out hU.out (.slice (some ⟨g', 0, none⟩) (m + 1) cap') (.int .i64 s1))
      obtain ⟨cs', fs'⟩ := ((HoldsA.below ⟨cs, fs⟩ HB3.out (by have := hbl.out; have := HS.out.s; omega)).other (c := bb) (p := 4) (.inl (by have := HS.out.s; omega)) (.slice (some ⟨g', 0, none⟩) (m + 1) cap') : HoldsA _ sb 0 (.int .i64 s0))
      generalize w3.setCell ⟨bb, 4, none⟩ (.slice (some ⟨g', 0, none⟩) (m + 1) cap') = w4 at *
      clear cs fs c4 f4 c5 f5 c4' f4' cr fr r4 r5 hown'
      gi_wp2
      rw [← HPR.out] at HNX
      exact ⟨HKV.out, _, _, HNX⟩
  case done =>
    rintro D xs W hD rfl ⟨nv, ev, HH⟩ hK
    rw [turns_len, HPl.out] at HH
    have hX : OAt (fun b => w2.heap.size + 2 ≤ b ∧ NotO W b) W (oV hd nm oi ui nv ev) (overW hd nm oi ui p q r) := by
      rw [HOV.out]
      refine ⟨nv, ev, rfl, q0, q1, q2, q3, (sts_ownN (base := w2.heap.size + 2) (T := 52) (by rw [ndW_len]; exact HH.out.nodes) (by decide) (by rw [ndW_len]; have := HM.out; omega) ?_), (sts_ownN (base := w2.heap.size + 2) (T := 60) (by rw [edW_len]; exact HH.out.edges) (by decide) (by rw [edW_len]; have := HM.out; omega) ?_)⟩
      · intro x hx
        simp only [ndW, List.mem_map, List.mem_range] at hx
        obtain ⟨j, hj, rfl⟩ := hx
        have h1 := HFI.out (2 * j) (by omega)
        rw [elB_turn, show decide (2 * j % 2 = 1) = false from decide_eq_false (by omega)] at h1
        have h2 : pi P (2 * j) = ati P (2 * j) := rfl
        rw [h2] at h1
        simp at h1
        exact ⟨⟨by simp only; omega, by simp only; omega⟩, sq_in _ _⟩
      · intro x hx
        simp only [edW, List.mem_map, List.mem_range] at hx
        obtain ⟨j, hj, rfl⟩ := hx
        have h1 := HFI.out (2 * j + 1) (by omega)
        rw [elB_turn, show decide ((2 * j + 1) % 2 = 1) = true from decide_eq_true (by omega)] at h1
        have h2 : pi P (2 * j + 1) = ati P (2 * j + 1) := rfl
        rw [h2] at h1
        simp at h1
        have h3 := HBI.out _ (ati_mem (l := P) (i := 2 * j + 1) (by rw [HPl.out]; omega))
        exact ⟨⟨by simp only; omega, by simp only; omega⟩, sq_in _ _⟩
    have HCR := Lib.hid (right_any _ _ _ W hX)
    have HXX := Lib.hid hX
    generalize overW hd nm oi ui p q r = X at *
    obtain ⟨a4, c4n, e4⟩ := row_form HH.out.nodes
    obtain ⟨a5, c5n, e5⟩ := row_form HH.out.edges
    obtain ⟨m, HMM⟩ : ∃ m, Hid ((N + 1) / 2 = m) := ⟨(N + 1) / 2, Lib.hid rfl⟩
    obtain ⟨e, HEE⟩ : ∃ e, Hid (N / 2 = e) := ⟨N / 2, Lib.hid rfl⟩
    rw [HMM.out] at e4
    rw [HEE.out] at e5
    subst e4
    subst e5
    obtain ⟨c0, f0⟩ := HH.out.a0
    obtain ⟨c1, f1⟩ := HH.out.a1
    obtain ⟨c2, f2⟩ := HH.out.a2
    obtain ⟨c3, f3⟩ := HH.out.a3
    obtain ⟨c4, f4⟩ := HH.out.a4
    obtain ⟨c5, f5⟩ := HH.out.a5
    have HDW := Lib.hid hD
    have HKD := Lib.hid hK
    have HQ2 : Hid (w2.heap.size = bb + 2) := q2'
    clear hX hD hK HOV f0 f1 f2 f3 f4 f5 q2' HSEQ H1 HOI hlt1 hm1 hm2 hm3
    cases hR : rightO Tp.nameB X with
    | true =>
      rw [hR] at HCR
      rw [hR, if_pos rfl] at HQ
      gi_wp2_with (refine ⟨trivial, ?_⟩; gi_at_call 34; refine (callsIn_wide.2 HCR.out).mono ?_; rintro e1 w3 ⟨rfl, hb3⟩; have HB3 := Lib.hid hb3; replace c0 := (hb3.cell (p := ⟨bb, 0, none⟩) (cell_lt c0)).trans c0; replace c1 := (hb3.cell (p := ⟨bb, 1, none⟩) (cell_lt c1)).trans c1; replace c2 := (hb3.cell (p := ⟨bb, 2, none⟩) (cell_lt c2)).trans c2; replace c3 := (hb3.cell (p := ⟨bb, 3, none⟩) (cell_lt c3)).trans c3; replace c4 := (hb3.cell (p := ⟨bb, 4, none⟩) (cell_lt c4)).trans c4; replace c5 := (hb3.cell (p := ⟨bb, 5, none⟩) (cell_lt c5)).trans c5; obtain ⟨x0, g0⟩ := (HH.out.res 0 _ rfl).grow hb3; obtain ⟨x1, g1⟩ := (HH.out.res 1 _ rfl).grow hb3; obtain ⟨x2, g2⟩ := (HH.out.res 2 _ rfl).grow hb3; obtain ⟨x3, g3⟩ := (HH.out.res 3 _ rfl).grow hb3; obtain ⟨x4, g4⟩ := (HH.out.res 4 _ rfl).grow hb3; obtain ⟨x5, g5⟩ := (HH.out.res 5 _ rfl).grow hb3; clear hb3)
      have HL := HS.out
      have hlx := HL.x; have hlw := HL.wx; have hbw := HDW.out; have hq2 := HQ2.out
      have h6 := set6_cells ⟨x0, g0⟩ ⟨x1, g1⟩ ⟨x2, g2⟩ ⟨x3, g3⟩ ⟨x4, g4⟩ ⟨x5, g5⟩ (.int .i64 hd) (.string ⟨nm.toArray⟩) (.int .i64 oi) (.int .i64 ui) (.slice a4 m c4n) (.slice a5 e c5n)
      have hbl : Below w.heap.size w (set6 w3 xb (.int .i64 hd) (.string ⟨nm.toArray⟩) (.int .i64 oi) (.int .i64 ui) (.slice a4 m c4n) (.slice a5 e c5n)) := set6_below (HH.out.bel.trans (HB3.out.mono HH.out.bel.size)) (by omega) _ _ _ _ _ _
      have hdl := (Array.getElem?_eq_some_iff.1 HKD.out).1
      have hk3 : (set6 w3 xb (.int .i64 hd) (.string ⟨nm.toArray⟩) (.int .i64 oi) (.int .i64 ui) (.slice a4 m c4n) (.slice a5 e c5n)).heap[D]? = some (.deferred (some [])) := (set6_block _ (by omega) _ _ _ _ _ _).trans ((HB3.out.block D hdl).trans HKD.out)
      have hko : ∀ b, w2.heap.size + 2 ≤ b → b < W.heap.size → (set6 w3 xb (.int .i64 hd) (.string ⟨nm.toArray⟩) (.int .i64 oi) (.int .i64 ui) (.slice a4 m c4n) (.slice a5 e c5n)).heap[b]? = W.heap[b]? := fun b h1 h2 => (set6_block _ (by omega) _ _ _ _ _ _).trans (HB3.out.block b h2)
      have hsz3 := HB3.out.size
      have hsz6 := (set6_below (n := 0) (Below.refl 0 w3) (Nat.zero_le xb) (.int .i64 hd) (.string ⟨nm.toArray⟩) (.int .i64 oi) (.int .i64 ui) (.slice a4 m c4n) (.slice a5 e c5n)).size
      unfold set6 at h6 hbl hk3 hko hsz6
      generalize (((((w3.setCell ⟨xb, 0, none⟩ (.int .i64 hd)).setCell ⟨xb, 1, none⟩ (.string ⟨nm.toArray⟩)).setCell ⟨xb, 2, none⟩ (.int .i64 oi)).setCell ⟨xb, 3, none⟩ (.int .i64 ui)).setCell ⟨xb, 4, none⟩ (.slice a4 m c4n)).setCell ⟨xb, 5, none⟩ (.slice a5 e c5n) = w6 at *
      have g := Gw.put w6 (.deferred none) (B := w2.heap.size) (.inl hbw)
      obtain ⟨k0, k1, k2, k3, k4, k5⟩ := h6
      obtain ⟨z0, -⟩ := k0.gw g (by omega)
      obtain ⟨z1, -⟩ := k1.gw g (by omega)
      obtain ⟨z2, -⟩ := k2.gw g (by omega)
      obtain ⟨z3, -⟩ := k3.gw g (by omega)
      obtain ⟨z4, -⟩ := k4.gw g (by omega)
      obtain ⟨z5, -⟩ := k5.gw g (by omega)
      have hxw := HB2.out
      refine ⟨by simp, .inl ⟨_, _, rfl, run_takeDeferred hk3, ?_⟩⟩
      refine ⟨.tuple #[.agg #[.int .i64 hd, .string ⟨nm.toArray⟩, .int .i64 oi, .int .i64 ui, .slice a4 m c4n, .slice a5 e c5n], .bool true], ?_, ?_⟩
      · simp [results, Try.f12, go_sem, z0, z1, z2, z3, z4, z5]
      · rw [← HQ.out]
        have hws := HB2.out.size
        have hkk : ∀ b, w2.heap.size + 2 ≤ b → b < W.heap.size → (w6.putObj D (.deferred none)).heap[b]? = W.heap[b]? := fun b h1 h2 => (World.putObj_heap_other (by omega)).trans (hko b h1 h2)
        refine ⟨_, rfl, (HXX.out.keep (fun b h1 h2 => ⟨by have := h1.1; omega, h1.2.keep (hkk b h1.1 h2)⟩) (fun b h1 h2 => hkk b h1.1 h2) ?_), below_gw hbl g (by omega) (Nat.le_refl _)⟩
        · have := (g.size); omega
    | false =>
      rw [hR] at HCR
      rw [hR, if_neg (by decide)] at HQ
      gi_wp2_with (refine ⟨trivial, ?_⟩; gi_at_call 34; refine (callsIn_wide.2 HCR.out).mono ?_; rintro e1 w3 ⟨rfl, hb3⟩; have HB3 := Lib.hid hb3; replace c0 := (hb3.cell (p := ⟨bb, 0, none⟩) (cell_lt c0)).trans c0; replace c1 := (hb3.cell (p := ⟨bb, 1, none⟩) (cell_lt c1)).trans c1; replace c2 := (hb3.cell (p := ⟨bb, 2, none⟩) (cell_lt c2)).trans c2; replace c3 := (hb3.cell (p := ⟨bb, 3, none⟩) (cell_lt c3)).trans c3; replace c4 := (hb3.cell (p := ⟨bb, 4, none⟩) (cell_lt c4)).trans c4; replace c5 := (hb3.cell (p := ⟨bb, 5, none⟩) (cell_lt c5)).trans c5; obtain ⟨x0, g0⟩ := (HH.out.res 0 _ rfl).grow hb3; obtain ⟨x1, g1⟩ := (HH.out.res 1 _ rfl).grow hb3; obtain ⟨x2, g2⟩ := (HH.out.res 2 _ rfl).grow hb3; obtain ⟨x3, g3⟩ := (HH.out.res 3 _ rfl).grow hb3; obtain ⟨x4, g4⟩ := (HH.out.res 4 _ rfl).grow hb3; obtain ⟨x5, g5⟩ := (HH.out.res 5 _ rfl).grow hb3; clear hb3)
      have HL := HS.out
      have hlx := HL.x; have hlw := HL.wx; have hbw := HDW.out; have hq2 := HQ2.out
      have h6 := set6_cells ⟨x0, g0⟩ ⟨x1, g1⟩ ⟨x2, g2⟩ ⟨x3, g3⟩ ⟨x4, g4⟩ ⟨x5, g5⟩ (.int .i64 0) (.string ⟨#[]⟩) (.int .i64 0) (.int .i64 0) (.slice none 0 0) (.slice none 0 0)
      have hbl : Below w.heap.size w (set6 w3 xb (.int .i64 0) (.string ⟨#[]⟩) (.int .i64 0) (.int .i64 0) (.slice none 0 0) (.slice none 0 0)) := set6_below (HH.out.bel.trans (HB3.out.mono HH.out.bel.size)) (by omega) _ _ _ _ _ _
      have hdl := (Array.getElem?_eq_some_iff.1 HKD.out).1
      have hk3 : (set6 w3 xb (.int .i64 0) (.string ⟨#[]⟩) (.int .i64 0) (.int .i64 0) (.slice none 0 0) (.slice none 0 0)).heap[D]? = some (.deferred (some [])) := (set6_block _ (by omega) _ _ _ _ _ _).trans ((HB3.out.block D hdl).trans HKD.out)
      unfold set6 at h6 hbl hk3
      generalize (((((w3.setCell ⟨xb, 0, none⟩ (.int .i64 0)).setCell ⟨xb, 1, none⟩ (.string ⟨#[]⟩)).setCell ⟨xb, 2, none⟩ (.int .i64 0)).setCell ⟨xb, 3, none⟩ (.int .i64 0)).setCell ⟨xb, 4, none⟩ (.slice none 0 0)).setCell ⟨xb, 5, none⟩ (.slice none 0 0) = w6 at *
      have g := Gw.put w6 (.deferred none) (B := w2.heap.size) (.inl hbw)
      obtain ⟨k0, k1, k2, k3, k4, k5⟩ := h6
      obtain ⟨z0, -⟩ := k0.gw g (by omega)
      obtain ⟨z1, -⟩ := k1.gw g (by omega)
      obtain ⟨z2, -⟩ := k2.gw g (by omega)
      obtain ⟨z3, -⟩ := k3.gw g (by omega)
      obtain ⟨z4, -⟩ := k4.gw g (by omega)
      obtain ⟨z5, -⟩ := k5.gw g (by omega)
      refine ⟨by simp, .inl ⟨_, _, rfl, run_takeDeferred hk3, ?_⟩⟩
      refine ⟨.tuple #[.agg #[.int .i64 0, .string ⟨#[]⟩, .int .i64 0, .int .i64 0, .slice none 0 0, .slice none 0 0], .bool false], ?_, ?_⟩
      · simp [results, Try.f12, go_sem, z0, z1, z2, z3, z4, z5]
      · rw [← HQ.out]
        exact ⟨_, rfl, o0_at, below_gw hbl g (by omega) (Nat.le_refl _)⟩
  case stop =>
    rintro D c pre W _ _ h _
    exact h.elim
set_option maxRecDepth 100000 in
set_option maxHeartbeats 4000000 in
theorem order_long {S : Nat → Prop} {y : O} {p : List Int} {w : World} (hv pv : Value) (hy : OAt S w hv y) (hp : IntsAt w pv p) (hcap : ∃ ao n c, pv = .slice ao n c ∧ n ≤ c) (hI : pI p) (q r : Int) (hq : Js.i64B q) (hr : Js.i64B r) (hpath : pathB p = true) (hpl : 127 < p.length) :
    Calls Try.prog 12 #[hv, pv, .int .i64 q, .int .i64 r] w (RetO (orderS Tp.nameB y.h y.v y.o y.u p q r) w) := by
  obtain ⟨Q, HQ⟩ : ∃ Q, Hid (RetO (orderS Tp.nameB y.h y.v y.o y.u p q r) w = Q) := ⟨_, rfl⟩
  rw [HQ.out]
  rw [order_wrap hq hpath] at HQ
  obtain ⟨an, cn, ae, ce, rfl, q0, q1, q2, q3, -⟩ := hy.open_
  have CP := Lib.hid (fun w' (hb : Below w.heap.size w w') => isPath_any pv (hp.below hb (Nat.le_refl _)))
  rw [hpath] at CP
  have HP := Lib.hid hp
  obtain ⟨ao, n, ac, rfl, hca⟩ := hcap
  obtain ⟨ao2, ac2, hpe, hlen, -⟩ := hp
  cases hpe
  obtain ⟨hd, nm, oi, ui, ns, es⟩ := y
  simp only at HQ q0 q1 q2 q3 ⊢
  clear hy
  obtain ⟨N, HN⟩ : ∃ N, Hid (p.length = N) := ⟨_, rfl⟩
  rw [HN.out] at HP hlen CP hca hpl
  rw [HN.out]
  generalize ns.length = nl
  generalize es.length = el
  have HB1 : Below w.heap.size w (w.alloc (.cells #[.int .i64 hd, .string ⟨nm.toArray⟩, .int .i64 oi, .int .i64 ui, .slice an nl cn, .slice ae el ce] 25)) := (Below.refl _ _).alloc (Nat.le_refl _) _
  obtain ⟨wa, hwa⟩ : ∃ wa, w.alloc (.cells #[.int .i64 hd, .string ⟨nm.toArray⟩, .int .i64 oi, .int .i64 ui, .slice an nl cn, .slice ae el ce] 25) = wa := ⟨_, rfl⟩
  have hO : wa.heap[w.heap.size]? = some (.cells #[.int .i64 hd, .string ⟨nm.toArray⟩, .int .i64 oi, .int .i64 ui, .slice an nl cn, .slice ae el ce] 25 (0, 0)) := by rw [← hwa]; exact heap_alloc_new w _
  obtain ⟨wb, hwb⟩ : ∃ wb, (wa.alloc (.cells #[.int .i64 q] 3)).alloc (.cells #[.int .i64 r] 3) = wb := ⟨_, rfl⟩
  have hsa : wa.heap.size = w.heap.size + 1 := by rw [← hwa]; simp
  rw [hwa] at HB1
  obtain ⟨b1, s1, k1, k2⟩ := two_cells wa _ _ _ _ hwb
  have HS := (k1 0 _ rfl)
  have HR := (k2 0 _ rfl)
  rw [hsa] at HS HR
  have b2 : Below wb.heap.size wb (wb.alloc (.cells #[.int .i64 0, .string ⟨#[]⟩, .int .i64 0, .int .i64 0, .slice none 0 0, .slice none 0 0] 25)) := (Below.refl _ _).alloc (Nat.le_refl _) _
  have HX := fun j v h => HoldsA.new wb #[.int .i64 0, .string ⟨#[]⟩, .int .i64 0, .int .i64 0, .slice none 0 0, .slice none 0 0] 25 j v h
  obtain ⟨wc, hwc⟩ : ∃ wc, wb.alloc (.cells #[.int .i64 0, .string ⟨#[]⟩, .int .i64 0, .int .i64 0, .slice none 0 0, .slice none 0 0] 25) = wc := ⟨_, rfl⟩
  rw [hwc] at b2 HX
  have hsc : wc.heap.size = w.heap.size + 4 := by rw [← hwc]; simp; omega
  rw [show wb.heap.size = w.heap.size + 3 by omega] at HX
  have HBC : Hid (Below w.heap.size w wc) := (HB1.trans (b1.mono (by omega))).trans (b2.mono (by omega))
  have HSC := Lib.hid (HS.grow b2)
  have HRC := Lib.hid (HR.grow b2)
  have HXC := Lib.hid HX
  have HOC := Lib.hid (((b1.trans (b2.mono (by omega))).block _ (by omega)).trans hO)
  have HWC : Hid ((((w.alloc (.cells #[.int .i64 hd, .string ⟨nm.toArray⟩, .int .i64 oi, .int .i64 ui, .slice an nl cn, .slice ae el ce] 25)).alloc (.cells #[.int .i64 q] 3)).alloc (.cells #[.int .i64 r] 3)).alloc (.cells #[.int .i64 0, .string ⟨#[]⟩, .int .i64 0, .int .i64 0, .slice none 0 0, .slice none 0 0] 25) = wc) := by show _ = _; rw [hwa, hwb, hwc]
  clear b1 b2 k1 k2 HS HR HX hO hwa hwb hwc s1 HB1 hsa
  have HSZ := Lib.hid hsc
  clear hsc
  refine (callsIn_wide (n := 6)).1 ?_
  refine callsIn_of_wp_marks Try.func12 rfl trivial ?_ rfl
  simp only [Try.ntmps12, List.size_toArray, List.length_cons, List.length_nil, Nat.reduceAdd, Nat.reduceSub, Array.replicate_succ, Array.replicate_zero, List.push_toArray, List.append_toArray, List.nil_append, List.cons_append]
  have HM : Hid ((127 : Nat) = min N 127) := by show _ = _; omega
  have hm2 : 127 ≤ ac := by omega
  have hm3 : ((127 : Nat) : Int) ≤ (ac : Int) := by omega
  have hm1 : (127 : Int) < (N : Int) := by omega
  have HPL := Lib.hid hpl
  clear hpl hca
  gi_wp2_with (first
    | (refine ⟨trivial, ?_⟩; gi_at_call 32; rw [HWC.out]; refine (callsIn_wide.2 (CP.out _ HBC.out)).mono ?_; rintro e1 w1 ⟨rfl, hb1⟩; have HB1 := Lib.hid hb1; obtain ⟨c0, c1, c2, c3, c4, c5⟩ := six_of ((hb1.block _ (by have := HSZ.out; omega)).trans HOC.out); have hlt1 := cell_lt c0; have HS1 := Lib.hid (HSC.out.grow hb1); have HR1 := Lib.hid (HRC.out.grow hb1); have HX1 := Lib.hid (fun j v h => (HXC.out j v h).grow hb1); have HSZ1 := Lib.hid (show w.heap.size + 4 ≤ w1.heap.size by have := HSZ.out; have := hb1.size; omega); generalize hxb : w.heap.size + 1 + 1 + 1 = xb; generalize hrb : w.heap.size + 1 + 1 = rb; generalize hsb : w.heap.size + 1 = sb; rw [show w.heap.size + 3 = xb by omega] at HX1; rw [show w.heap.size + 1 + 1 = rb by omega] at HR1; rw [hsb] at HS1; clear hb1; have HXB := Lib.hid hxb; have HRB := Lib.hid hrb; have HSB := Lib.hid hsb; clear hxb hrb hsb)
    | (refine ⟨trivial, ?_⟩; gi_at_call 33; refine (callsIn_wide.2 (byTurns_any _ ⟨_, _, _, rfl⟩ _)).mono ?_; rintro e w' ⟨rfl, rfl⟩))
  obtain ⟨bb, hbb⟩ : ∃ bb, w1.heap.size = bb := ⟨_, rfl⟩
  obtain ⟨w2, hw2⟩ : ∃ w2, (w1.alloc (.cells #[.int .i64 hd, .string ⟨nm.toArray⟩, .int .i64 oi, .int .i64 ui, .slice none 0 0, .slice none 0 0] 25)).alloc (.cells #[.slice ao 127 ac] 27) = w2 := ⟨_, rfl⟩
  obtain ⟨q1', q2', q3', q4'⟩ := two_cells w1 _ _ _ _ hw2
  rw [hw2]
  have HB2 : Hid (Below w.heap.size w w2) := (HBC.out.trans (HB1.out.mono HBC.out.size)).trans (q1'.mono (Nat.le_of_lt hlt1))
  have HOI : Hid (OI hd ⟨nm.toArray⟩ oi ui w (w2.heap.size + 2) w1.heap.size sb rb xb (p.take 127) q r (.slice none 0 0) (.slice none 0 0) 0 w2) :=
    ⟨q3' 0 _ rfl, q3' 1 _ rfl, q3' 2 _ rfl, q3' 3 _ rfl, q3' 4 _ rfl, q3' 5 _ rfl, World.ownsRow_nil _ _ _ _, World.ownsRow_nil _ _ _ _, by rw [sq_zero hq]; exact HS1.out.grow q1', HR1.out.grow q1', fun j v h => (HX1.out j v h).grow q1', HB2.out⟩
  have H1 := q4' 0 _ rfl
  have HS : Hid (Lies w bb sb rb xb) := by
    have := HXB.out; have := HRB.out; have := HSB.out; have := HSZ1.out
    exact ⟨by omega, by omega, by omega, by omega, by omega, by omega, by omega, by omega⟩
  rw [hbb] at HOI H1 hlt1 q2' ⊢
  clear q1' q3' q4' hw2 HB1 HBC HOC HWC HSC HRC HXC HSZ CP c0 c1 c2 c3 c4 c5 hbb HX1 HR1 HS1 HXB HRB HSB HSZ1
  have HPP : Hid (IntsAt w (.slice ao 127 ac) (p.take 127)) := by
    have := HP.out
    rw [← HN.out] at this
    exact ints_take this (by rw [HN.out]; have := HM.out; omega)
  have hPl : (p.take 127).length = 127 := by rw [List.length_take, HN.out]; have := HM.out; omega
  have HPl := Lib.hid hPl
  have HFI : Hid (fineTo (p.take 127) 127) := fun i hi => by
    have h1 := (pathB_iff.1 hpath).2 i (by rw [HN.out]; have := HM.out; omega)
    rw [show pi (p.take 127) i = pi p i from ati_take hi]
    exact h1
  have HBI : Hid (pI (p.take 127)) := fun x hx => hI x (List.mem_of_mem_take hx)
  have HOV := Lib.hid (over_take (h := hd) (v := nm) (o := oi) (u := ui) (p := p) (q := q) (r := r) (M := 127) (by rw [HN.out]; exact HM.out))
  generalize p.take 127 = P at *
  clear hPl hI hpath
  have HSEQ := Lib.hid (turns_seq (V := fun k => k < w.heap.size ∨ k = bb + 1) 5 (by omega) HPP.out HB2.out (fun _ h => .inl h) H1.1 (by omega))
  refine wpIn_rangeFunc_ownV1 (by rfl) (by omega) (gf := 45) (lb := #[.pointer (some ⟨bb + 1, 0, none⟩)]) rfl trivial (enters_of Try.func45 (by kernel_rfl) rfl)
    HSEQ.out (fun _ => rfl) (fun k (hk : k < w.heap.size ∨ k = bb + 1) => by omega)
    (fun pre W => ∃ nv ev, Hid (OI hd ⟨nm.toArray⟩ oi ui w (w2.heap.size + 2) bb sb rb xb P q r nv ev pre.length W)) (fun c pre W => False)
    (fun s X Y g h => by
      obtain ⟨nv, ev, h⟩ := h
      exact ⟨nv, ev, h.out.gw g (by omega) (Nat.le_refl _) HS.out⟩)
    (fun c s X Y g h => h)
    ⟨_, _, HOI⟩ ⟨_, fun l x W K hK => by gi_wp2; exact hK, ?body⟩ ?done ?stop
  case body =>
    rintro l pre ⟨x, t⟩ W hsz ⟨nv, ev, HH⟩ hsp
    obtain ⟨hlt, -, hx⟩ := turns_next hsp
    obtain ⟨rfl, rfl⟩ := (Prod.mk.injEq .. ▸ hx : _ ∧ _)
    rw [HPl.out] at hlt
    have HPR : Hid ((pre ++ [(ati P pre.length, decide (pre.length % 2 = 1))]).length = pre.length + 1) := by show _ = _; simp
    have hk127 : Hid (pre.length < 127) := by show _ < _; have := HM.out; omega
    have HEL := Lib.hid (HFI.out pre.length hlt)
    have HXU := Lib.hid (HBI.out (ati P pre.length) (ati_mem (by rw [HPl.out]; exact hlt)))
    have hU : Hid (∀ k, VB (fun k => k < w.heap.size ∨ k = bb + 1) w2.heap.size k → k < w2.heap.size + 2 ∧ k ≠ bb ∧ k ≠ sb) := fun k hk => by
      have := HS.out.s; have := HS.out.ws
      rcases hk with h | h | h
      · have : k < w.heap.size ∨ k = bb + 1 := h
        omega
      all_goals omega
    have hbl : Hid (bb < w2.heap.size) := by show _ < _; omega
    have hsz' := Lib.hid hsz
    obtain ⟨a4, c4n, rfl⟩ := row_form HH.out.nodes
    obtain ⟨a5, c5n, rfl⟩ := row_form HH.out.edges
    obtain ⟨c4, f4⟩ := HH.out.a4
    obtain ⟨c5, f5⟩ := HH.out.a5
    obtain ⟨cs, fs⟩ := HH.out.seq
    obtain ⟨cr, fr⟩ := HH.out.rel
    have r4 := HH.out.nodes
    have r5 := HH.out.edges
    have HWR := Lib.hid (sq_next q pre.length)
    have hsz2 : Hid (w2.heap.size + 2 ≤ W.heap.size) := hsz
    obtain ⟨t, ht⟩ : ∃ t, decide (pre.length % 2 = 1) = t := ⟨_, rfl⟩
    have HT := Lib.hid ht
    have HEL2 : Hid (0 ≤ ati P pre.length ∧ (t = true → 1000 ≤ ati P pre.length)) := by
      have h1 : elB pre.length (ati P pre.length) = true := HEL.out
      rw [elB_turn, ht] at h1
      show _ ∧ _
      cases t with
      | true => simp at h1; exact ⟨by omega, fun _ => h1⟩
      | false => simp at h1; exact ⟨by omega, fun h => by cases h⟩
    rw [ht] at HPR ⊢
    clear hsp hlt HSEQ q2' hsz H1 hx ht HEL hsz' HOI HB2 hlt1 hm1 hm2 hm3
    obtain ⟨m, HMM⟩ : ∃ m, Hid (m = (pre.length + 1) / 2) := ⟨_, rfl⟩
    obtain ⟨e, HEE⟩ : ∃ e, Hid (e = pre.length / 2) := ⟨_, rfl⟩
    obtain ⟨x, HXE⟩ : ∃ x, Hid (x = ati P pre.length) := ⟨_, rfl⟩
    obtain ⟨s0, HS0⟩ : ∃ s0, Hid (s0 = sq q pre.length) := ⟨_, rfl⟩
    obtain ⟨s1, HS1⟩ : ∃ s1, Hid (s1 = sq q (pre.length + 1)) := ⟨_, rfl⟩
    have hws : IntKind.i64.wrap (s0 + 1) = s1 := by rw [HS0.out, HS1.out]; exact HWR.out
    rw [← HMM.out] at c4 r4
    rw [← HEE.out] at c5 r5
    rw [← HS0.out] at cs
    rw [← HXE.out] at HEL2 HXU
    rw [show (ati P pre.length, t) = (x, t) by rw [HXE.out]]
    rw [show (ati P pre.length, t) = (x, t) by rw [HXE.out]] at HPR
    obtain ⟨b, HBB⟩ : ∃ b, Hid (b = decide ((m : Int) < r)) := ⟨_, rfl⟩
    have hmb : decide ((m : Int) < r) = b := HBB.out.symm
    have hmm : m ≤ 64 := by have := HMM.out; have := hk127.out; omega
    have hee : e ≤ 64 := by have := HEE.out; have := hk127.out; omega
    clear HWR
    dsimp only
    cases t with
    | true =>
      have hwx : IntKind.i64.wrap (x - 1000) = x - 1000 := IntWalk.i64_in _ (by have := HEL2.out.2 rfl; have := HXU.out; omega)
      clear HEL2
      gi_upto_region 11 with (gi_at_builtin; refine appendIn rfl _ _ way_info rfl (by decide) Try.underlying23 rfl (w2.heap.size + 2) _ e _ rfl (r5.alloc _) W.heap.size 1 rfl [.int .i64 (x - 1000), .int .i64 s0, .bool b] rfl (heap_alloc_new _ _) (by simp [Value.oneCell']) (by omega) (by unfold maxLen; omega) (by have := hsz2.out; simp; omega) ?_; intro g' cap' w3 hown' hbel hoth; have HB3 := Lib.hid (((Below.refl _ W).alloc hsz2.out _).trans hbel); have HO3 := Lib.hid (hoth _ _ _ _ _ _ (by decide) (r4.alloc _)); obtain ⟨c5', f5'⟩ := HoldsA.below ⟨c5, f5⟩ HB3.out (by have := hbl.out; omega); clear hbel hoth)
      have HNX : Hid (OI hd ⟨nm.toArray⟩ oi ui w (w2.heap.size + 2) bb sb rb xb P q r (.slice a4 ((pre.length + 1) / 2) c4n) (.slice (some ⟨g', 0, none⟩) (e + 1) cap') (pre.length + 1) ((w3.setCell ⟨bb, 5, none⟩ (.slice (some ⟨g', 0, none⟩) (e + 1) cap')).setCell ⟨sb, 0, none⟩ (.int .i64 s1))) :=
        HH.out.edge HS.out (by have := hbl.out; omega) (of_decide_eq_true HT.out) HMM.out HEE.out HXE.out HS0.out HS1.out HBB.out HB3.out hown' (by rw [← HMM.out]; exact HO3.out)
      have HKV := Lib.hid (kv_store2 (o := 5) (o' := 0) HB3.out hU.out (.slice (some ⟨g', 0, none⟩) (e + 1) cap') (.int .i64 s1))
      obtain ⟨cs', fs'⟩ := ((HoldsA.below ⟨cs, fs⟩ HB3.out (by have := hbl.out; have := HS.out.s; omega)).other (c := bb) (p := 5) (.inl (by have := HS.out.s; omega)) (.slice (some ⟨g', 0, none⟩) (e + 1) cap') : HoldsA _ sb 0 (.int .i64 s0))
      generalize w3.setCell ⟨bb, 5, none⟩ (.slice (some ⟨g', 0, none⟩) (e + 1) cap') = w4 at *
      clear cs fs c4 f4 c5 f5 c5' f5' cr fr r4 r5 hown'
      gi_wp2
      rw [← HPR.out] at HNX
      exact ⟨HKV.out, _, _, HNX⟩
    | false =>
      clear HEL2
      gi_upto_region 11 with (gi_at_builtin; refine appendIn rfl _ _ stop_info rfl (by decide) Try.underlying22 rfl (w2.heap.size + 2) _ m _ rfl (r4.alloc _) W.heap.size 1 rfl [.int .i64 x, .int .i64 s0, .bool b] rfl (heap_alloc_new _ _) (by simp [Value.oneCell']) (by omega) (by unfold maxLen; omega) (by have := hsz2.out; simp; omega) ?_; intro g' cap' w3 hown' hbel hoth; have HB3 := Lib.hid (((Below.refl _ W).alloc hsz2.out _).trans hbel); have HO3 := Lib.hid (hoth _ _ _ _ _ _ (by decide) (r5.alloc _)); obtain ⟨c4', f4'⟩ := HoldsA.below ⟨c4, f4⟩ HB3.out (by have := hbl.out; omega); clear hbel hoth)
      have HNX : Hid (OI hd ⟨nm.toArray⟩ oi ui w (w2.heap.size + 2) bb sb rb xb P q r (.slice (some ⟨g', 0, none⟩) (m + 1) cap') (.slice a5 (pre.length / 2) c5n) (pre.length + 1) ((w3.setCell ⟨bb, 4, none⟩ (.slice (some ⟨g', 0, none⟩) (m + 1) cap')).setCell ⟨sb, 0, none⟩ (.int .i64 s1))) :=
        HH.out.node HS.out (by have := hbl.out; omega) (of_decide_eq_false HT.out) HMM.out HEE.out HXE.out HS0.out HS1.out HBB.out HB3.out hown' (by rw [← HEE.out]; exact HO3.out)
      have HKV := Lib.hid (kv_store2 (o := 4) (o' := 0) HB3.out hU.out (.slice (some ⟨g', 0, none⟩) (m + 1) cap') (.int .i64 s1))
      obtain ⟨cs', fs'⟩ := ((HoldsA.below ⟨cs, fs⟩ HB3.out (by have := hbl.out; have := HS.out.s; omega)).other (c := bb) (p := 4) (.inl (by have := HS.out.s; omega)) (.slice (some ⟨g', 0, none⟩) (m + 1) cap') : HoldsA _ sb 0 (.int .i64 s0))
      generalize w3.setCell ⟨bb, 4, none⟩ (.slice (some ⟨g', 0, none⟩) (m + 1) cap') = w4 at *
      clear cs fs c4 f4 c5 f5 c4' f4' cr fr r4 r5 hown'
      gi_wp2
      rw [← HPR.out] at HNX
      exact ⟨HKV.out, _, _, HNX⟩
  case done =>
    rintro D xs W hD rfl ⟨nv, ev, HH⟩ hK
    rw [turns_len, HPl.out] at HH
    have hX : OAt (fun b => w2.heap.size + 2 ≤ b ∧ NotO W b) W (oV hd nm oi ui nv ev) (overW hd nm oi ui p q r) := by
      rw [HOV.out]
      refine ⟨nv, ev, rfl, q0, q1, q2, q3, (sts_ownN (base := w2.heap.size + 2) (T := 52) (by rw [ndW_len]; exact HH.out.nodes) (by decide) (by rw [ndW_len]; have := HM.out; omega) ?_), (sts_ownN (base := w2.heap.size + 2) (T := 60) (by rw [edW_len]; exact HH.out.edges) (by decide) (by rw [edW_len]; have := HM.out; omega) ?_)⟩
      · intro x hx
        simp only [ndW, List.mem_map, List.mem_range] at hx
        obtain ⟨j, hj, rfl⟩ := hx
        have h1 := HFI.out (2 * j) (by omega)
        rw [elB_turn, show decide (2 * j % 2 = 1) = false from decide_eq_false (by omega)] at h1
        have h2 : pi P (2 * j) = ati P (2 * j) := rfl
        rw [h2] at h1
        simp at h1
        exact ⟨⟨by simp only; omega, by simp only; omega⟩, sq_in _ _⟩
      · intro x hx
        simp only [edW, List.mem_map, List.mem_range] at hx
        obtain ⟨j, hj, rfl⟩ := hx
        have h1 := HFI.out (2 * j + 1) (by omega)
        rw [elB_turn, show decide ((2 * j + 1) % 2 = 1) = true from decide_eq_true (by omega)] at h1
        have h2 : pi P (2 * j + 1) = ati P (2 * j + 1) := rfl
        rw [h2] at h1
        simp at h1
        have h3 := HBI.out _ (ati_mem (l := P) (i := 2 * j + 1) (by rw [HPl.out]; omega))
        exact ⟨⟨by simp only; omega, by simp only; omega⟩, sq_in _ _⟩
    have HCR := Lib.hid (right_any _ _ _ W hX)
    have HXX := Lib.hid hX
    generalize overW hd nm oi ui p q r = X at *
    obtain ⟨a4, c4n, e4⟩ := row_form HH.out.nodes
    obtain ⟨a5, c5n, e5⟩ := row_form HH.out.edges
    obtain ⟨m, HMM⟩ : ∃ m, Hid ((127 + 1) / 2 = m) := ⟨(127 + 1) / 2, Lib.hid rfl⟩
    obtain ⟨e, HEE⟩ : ∃ e, Hid (127 / 2 = e) := ⟨127 / 2, Lib.hid rfl⟩
    rw [HMM.out] at e4
    rw [HEE.out] at e5
    subst e4
    subst e5
    obtain ⟨c0, f0⟩ := HH.out.a0
    obtain ⟨c1, f1⟩ := HH.out.a1
    obtain ⟨c2, f2⟩ := HH.out.a2
    obtain ⟨c3, f3⟩ := HH.out.a3
    obtain ⟨c4, f4⟩ := HH.out.a4
    obtain ⟨c5, f5⟩ := HH.out.a5
    have HDW := Lib.hid hD
    have HKD := Lib.hid hK
    have HQ2 : Hid (w2.heap.size = bb + 2) := q2'
    clear hX hD hK HOV f0 f1 f2 f3 f4 f5 q2' HSEQ H1 HOI hlt1 hm1 hm2 hm3
    cases hR : rightO Tp.nameB X with
    | true =>
      rw [hR] at HCR
      rw [hR, if_pos rfl] at HQ
      gi_wp2_with (refine ⟨trivial, ?_⟩; gi_at_call 34; refine (callsIn_wide.2 HCR.out).mono ?_; rintro e1 w3 ⟨rfl, hb3⟩; have HB3 := Lib.hid hb3; replace c0 := (hb3.cell (p := ⟨bb, 0, none⟩) (cell_lt c0)).trans c0; replace c1 := (hb3.cell (p := ⟨bb, 1, none⟩) (cell_lt c1)).trans c1; replace c2 := (hb3.cell (p := ⟨bb, 2, none⟩) (cell_lt c2)).trans c2; replace c3 := (hb3.cell (p := ⟨bb, 3, none⟩) (cell_lt c3)).trans c3; replace c4 := (hb3.cell (p := ⟨bb, 4, none⟩) (cell_lt c4)).trans c4; replace c5 := (hb3.cell (p := ⟨bb, 5, none⟩) (cell_lt c5)).trans c5; obtain ⟨x0, g0⟩ := (HH.out.res 0 _ rfl).grow hb3; obtain ⟨x1, g1⟩ := (HH.out.res 1 _ rfl).grow hb3; obtain ⟨x2, g2⟩ := (HH.out.res 2 _ rfl).grow hb3; obtain ⟨x3, g3⟩ := (HH.out.res 3 _ rfl).grow hb3; obtain ⟨x4, g4⟩ := (HH.out.res 4 _ rfl).grow hb3; obtain ⟨x5, g5⟩ := (HH.out.res 5 _ rfl).grow hb3; clear hb3)
      have HL := HS.out
      have hlx := HL.x; have hlw := HL.wx; have hbw := HDW.out; have hq2 := HQ2.out
      have h6 := set6_cells ⟨x0, g0⟩ ⟨x1, g1⟩ ⟨x2, g2⟩ ⟨x3, g3⟩ ⟨x4, g4⟩ ⟨x5, g5⟩ (.int .i64 hd) (.string ⟨nm.toArray⟩) (.int .i64 oi) (.int .i64 ui) (.slice a4 m c4n) (.slice a5 e c5n)
      have hbl : Below w.heap.size w (set6 w3 xb (.int .i64 hd) (.string ⟨nm.toArray⟩) (.int .i64 oi) (.int .i64 ui) (.slice a4 m c4n) (.slice a5 e c5n)) := set6_below (HH.out.bel.trans (HB3.out.mono HH.out.bel.size)) (by omega) _ _ _ _ _ _
      have hdl := (Array.getElem?_eq_some_iff.1 HKD.out).1
      have hk3 : (set6 w3 xb (.int .i64 hd) (.string ⟨nm.toArray⟩) (.int .i64 oi) (.int .i64 ui) (.slice a4 m c4n) (.slice a5 e c5n)).heap[D]? = some (.deferred (some [])) := (set6_block _ (by omega) _ _ _ _ _ _).trans ((HB3.out.block D hdl).trans HKD.out)
      have hko : ∀ b, w2.heap.size + 2 ≤ b → b < W.heap.size → (set6 w3 xb (.int .i64 hd) (.string ⟨nm.toArray⟩) (.int .i64 oi) (.int .i64 ui) (.slice a4 m c4n) (.slice a5 e c5n)).heap[b]? = W.heap[b]? := fun b h1 h2 => (set6_block _ (by omega) _ _ _ _ _ _).trans (HB3.out.block b h2)
      have hsz3 := HB3.out.size
      have hsz6 := (set6_below (n := 0) (Below.refl 0 w3) (Nat.zero_le xb) (.int .i64 hd) (.string ⟨nm.toArray⟩) (.int .i64 oi) (.int .i64 ui) (.slice a4 m c4n) (.slice a5 e c5n)).size
      unfold set6 at h6 hbl hk3 hko hsz6
      generalize (((((w3.setCell ⟨xb, 0, none⟩ (.int .i64 hd)).setCell ⟨xb, 1, none⟩ (.string ⟨nm.toArray⟩)).setCell ⟨xb, 2, none⟩ (.int .i64 oi)).setCell ⟨xb, 3, none⟩ (.int .i64 ui)).setCell ⟨xb, 4, none⟩ (.slice a4 m c4n)).setCell ⟨xb, 5, none⟩ (.slice a5 e c5n) = w6 at *
      have g := Gw.put w6 (.deferred none) (B := w2.heap.size) (.inl hbw)
      obtain ⟨k0, k1, k2, k3, k4, k5⟩ := h6
      obtain ⟨z0, -⟩ := k0.gw g (by omega)
      obtain ⟨z1, -⟩ := k1.gw g (by omega)
      obtain ⟨z2, -⟩ := k2.gw g (by omega)
      obtain ⟨z3, -⟩ := k3.gw g (by omega)
      obtain ⟨z4, -⟩ := k4.gw g (by omega)
      obtain ⟨z5, -⟩ := k5.gw g (by omega)
      have hxw := HB2.out
      refine ⟨by simp, .inl ⟨_, _, rfl, run_takeDeferred hk3, ?_⟩⟩
      refine ⟨.tuple #[.agg #[.int .i64 hd, .string ⟨nm.toArray⟩, .int .i64 oi, .int .i64 ui, .slice a4 m c4n, .slice a5 e c5n], .bool true], ?_, ?_⟩
      · simp [results, Try.f12, go_sem, z0, z1, z2, z3, z4, z5]
      · rw [← HQ.out]
        have hws := HB2.out.size
        have hkk : ∀ b, w2.heap.size + 2 ≤ b → b < W.heap.size → (w6.putObj D (.deferred none)).heap[b]? = W.heap[b]? := fun b h1 h2 => (World.putObj_heap_other (by omega)).trans (hko b h1 h2)
        refine ⟨_, rfl, (HXX.out.keep (fun b h1 h2 => ⟨by have := h1.1; omega, h1.2.keep (hkk b h1.1 h2)⟩) (fun b h1 h2 => hkk b h1.1 h2) ?_), below_gw hbl g (by omega) (Nat.le_refl _)⟩
        · have := (g.size); omega
    | false =>
      rw [hR] at HCR
      rw [hR, if_neg (by decide)] at HQ
      gi_wp2_with (refine ⟨trivial, ?_⟩; gi_at_call 34; refine (callsIn_wide.2 HCR.out).mono ?_; rintro e1 w3 ⟨rfl, hb3⟩; have HB3 := Lib.hid hb3; replace c0 := (hb3.cell (p := ⟨bb, 0, none⟩) (cell_lt c0)).trans c0; replace c1 := (hb3.cell (p := ⟨bb, 1, none⟩) (cell_lt c1)).trans c1; replace c2 := (hb3.cell (p := ⟨bb, 2, none⟩) (cell_lt c2)).trans c2; replace c3 := (hb3.cell (p := ⟨bb, 3, none⟩) (cell_lt c3)).trans c3; replace c4 := (hb3.cell (p := ⟨bb, 4, none⟩) (cell_lt c4)).trans c4; replace c5 := (hb3.cell (p := ⟨bb, 5, none⟩) (cell_lt c5)).trans c5; obtain ⟨x0, g0⟩ := (HH.out.res 0 _ rfl).grow hb3; obtain ⟨x1, g1⟩ := (HH.out.res 1 _ rfl).grow hb3; obtain ⟨x2, g2⟩ := (HH.out.res 2 _ rfl).grow hb3; obtain ⟨x3, g3⟩ := (HH.out.res 3 _ rfl).grow hb3; obtain ⟨x4, g4⟩ := (HH.out.res 4 _ rfl).grow hb3; obtain ⟨x5, g5⟩ := (HH.out.res 5 _ rfl).grow hb3; clear hb3)
      have HL := HS.out
      have hlx := HL.x; have hlw := HL.wx; have hbw := HDW.out; have hq2 := HQ2.out
      have h6 := set6_cells ⟨x0, g0⟩ ⟨x1, g1⟩ ⟨x2, g2⟩ ⟨x3, g3⟩ ⟨x4, g4⟩ ⟨x5, g5⟩ (.int .i64 0) (.string ⟨#[]⟩) (.int .i64 0) (.int .i64 0) (.slice none 0 0) (.slice none 0 0)
      have hbl : Below w.heap.size w (set6 w3 xb (.int .i64 0) (.string ⟨#[]⟩) (.int .i64 0) (.int .i64 0) (.slice none 0 0) (.slice none 0 0)) := set6_below (HH.out.bel.trans (HB3.out.mono HH.out.bel.size)) (by omega) _ _ _ _ _ _
      have hdl := (Array.getElem?_eq_some_iff.1 HKD.out).1
      have hk3 : (set6 w3 xb (.int .i64 0) (.string ⟨#[]⟩) (.int .i64 0) (.int .i64 0) (.slice none 0 0) (.slice none 0 0)).heap[D]? = some (.deferred (some [])) := (set6_block _ (by omega) _ _ _ _ _ _).trans ((HB3.out.block D hdl).trans HKD.out)
      unfold set6 at h6 hbl hk3
      generalize (((((w3.setCell ⟨xb, 0, none⟩ (.int .i64 0)).setCell ⟨xb, 1, none⟩ (.string ⟨#[]⟩)).setCell ⟨xb, 2, none⟩ (.int .i64 0)).setCell ⟨xb, 3, none⟩ (.int .i64 0)).setCell ⟨xb, 4, none⟩ (.slice none 0 0)).setCell ⟨xb, 5, none⟩ (.slice none 0 0) = w6 at *
      have g := Gw.put w6 (.deferred none) (B := w2.heap.size) (.inl hbw)
      obtain ⟨k0, k1, k2, k3, k4, k5⟩ := h6
      obtain ⟨z0, -⟩ := k0.gw g (by omega)
      obtain ⟨z1, -⟩ := k1.gw g (by omega)
      obtain ⟨z2, -⟩ := k2.gw g (by omega)
      obtain ⟨z3, -⟩ := k3.gw g (by omega)
      obtain ⟨z4, -⟩ := k4.gw g (by omega)
      obtain ⟨z5, -⟩ := k5.gw g (by omega)
      refine ⟨by simp, .inl ⟨_, _, rfl, run_takeDeferred hk3, ?_⟩⟩
      refine ⟨.tuple #[.agg #[.int .i64 0, .string ⟨#[]⟩, .int .i64 0, .int .i64 0, .slice none 0 0, .slice none 0 0], .bool false], ?_, ?_⟩
      · simp [results, Try.f12, go_sem, z0, z1, z2, z3, z4, z5]
      · rw [← HQ.out]
        exact ⟨_, rfl, o0_at, below_gw hbl g (by omega) (Nat.le_refl _)⟩
  case stop =>
    rintro D c pre W _ _ h _
    exact h.elim
set_option maxRecDepth 100000 in
set_option maxHeartbeats 4000000 in
theorem order_no {S : Nat → Prop} {y : O} {p : List Int} {w : World} (hv pv : Value) (hy : OAt S w hv y) (hp : IntsAt w pv p) (hcap : ∃ ao n c, pv = .slice ao n c ∧ n ≤ c) (q r : Int) (hq : Js.i64B q) (hr : Js.i64B r) (hpath : pathB p = false) :
    Calls Try.prog 12 #[hv, pv, .int .i64 q, .int .i64 r] w (RetO (orderS Tp.nameB y.h y.v y.o y.u p q r) w) := by
  obtain ⟨Q, HQ⟩ : ∃ Q, Hid (RetO (orderS Tp.nameB y.h y.v y.o y.u p q r) w = Q) := ⟨_, rfl⟩
  rw [HQ.out]
  rw [show orderS Tp.nameB y.h y.v y.o y.u p q r = (o0, false) by unfold orderS; rw [hpath]; rfl] at HQ
  obtain ⟨an, cn, ae, ce, rfl, q0, q1, q2, q3, -⟩ := hy.open_
  have CP := Lib.hid (fun w' (hb : Below w.heap.size w w') => isPath_any pv (hp.below hb (Nat.le_refl _)))
  rw [hpath] at CP
  have HP := Lib.hid hp
  obtain ⟨ao, n, ac, rfl, hca⟩ := hcap
  obtain ⟨ao2, ac2, hpe, hlen, -⟩ := hp
  cases hpe
  obtain ⟨hd, nm, oi, ui, ns, es⟩ := y
  simp only at HQ q0 q1 q2 q3 ⊢
  clear hy
  obtain ⟨N, HN⟩ : ∃ N, Hid (p.length = N) := ⟨_, rfl⟩
  rw [HN.out] at HP hlen CP hca
  rw [HN.out]
  generalize ns.length = nl
  generalize es.length = el
  have HB1 : Below w.heap.size w (w.alloc (.cells #[.int .i64 hd, .string ⟨nm.toArray⟩, .int .i64 oi, .int .i64 ui, .slice an nl cn, .slice ae el ce] 25)) := (Below.refl _ _).alloc (Nat.le_refl _) _
  obtain ⟨wa, hwa⟩ : ∃ wa, w.alloc (.cells #[.int .i64 hd, .string ⟨nm.toArray⟩, .int .i64 oi, .int .i64 ui, .slice an nl cn, .slice ae el ce] 25) = wa := ⟨_, rfl⟩
  have hO : wa.heap[w.heap.size]? = some (.cells #[.int .i64 hd, .string ⟨nm.toArray⟩, .int .i64 oi, .int .i64 ui, .slice an nl cn, .slice ae el ce] 25 (0, 0)) := by rw [← hwa]; exact heap_alloc_new w _
  obtain ⟨wb, hwb⟩ : ∃ wb, (wa.alloc (.cells #[.int .i64 q] 3)).alloc (.cells #[.int .i64 r] 3) = wb := ⟨_, rfl⟩
  have hsa : wa.heap.size = w.heap.size + 1 := by rw [← hwa]; simp
  rw [hwa] at HB1
  obtain ⟨b1, s1, k1, k2⟩ := two_cells wa _ _ _ _ hwb
  have HS := (k1 0 _ rfl)
  have HR := (k2 0 _ rfl)
  rw [hsa] at HS HR
  have b2 : Below wb.heap.size wb (wb.alloc (.cells #[.int .i64 0, .string ⟨#[]⟩, .int .i64 0, .int .i64 0, .slice none 0 0, .slice none 0 0] 25)) := (Below.refl _ _).alloc (Nat.le_refl _) _
  have HX := fun j v h => HoldsA.new wb #[.int .i64 0, .string ⟨#[]⟩, .int .i64 0, .int .i64 0, .slice none 0 0, .slice none 0 0] 25 j v h
  obtain ⟨wc, hwc⟩ : ∃ wc, wb.alloc (.cells #[.int .i64 0, .string ⟨#[]⟩, .int .i64 0, .int .i64 0, .slice none 0 0, .slice none 0 0] 25) = wc := ⟨_, rfl⟩
  rw [hwc] at b2 HX
  have hsc : wc.heap.size = w.heap.size + 4 := by rw [← hwc]; simp; omega
  rw [show wb.heap.size = w.heap.size + 3 by omega] at HX
  have HBC : Hid (Below w.heap.size w wc) := (HB1.trans (b1.mono (by omega))).trans (b2.mono (by omega))
  have HSC := Lib.hid (HS.grow b2)
  have HRC := Lib.hid (HR.grow b2)
  have HXC := Lib.hid HX
  have HOC := Lib.hid (((b1.trans (b2.mono (by omega))).block _ (by omega)).trans hO)
  have HWC : Hid ((((w.alloc (.cells #[.int .i64 hd, .string ⟨nm.toArray⟩, .int .i64 oi, .int .i64 ui, .slice an nl cn, .slice ae el ce] 25)).alloc (.cells #[.int .i64 q] 3)).alloc (.cells #[.int .i64 r] 3)).alloc (.cells #[.int .i64 0, .string ⟨#[]⟩, .int .i64 0, .int .i64 0, .slice none 0 0, .slice none 0 0] 25) = wc) := by show _ = _; rw [hwa, hwb, hwc]
  clear b1 b2 k1 k2 HS HR HX hO hwa hwb hwc s1 HB1 hsa
  have HSZ := Lib.hid hsc
  clear hsc
  refine (callsIn_wide (n := 6)).1 ?_
  refine callsIn_of_wp_marks Try.func12 rfl trivial ?_ rfl
  simp only [Try.ntmps12, List.size_toArray, List.length_cons, List.length_nil, Nat.reduceAdd, Nat.reduceSub, Array.replicate_succ, Array.replicate_zero, List.push_toArray, List.append_toArray, List.nil_append, List.cons_append]
  clear hca
  gi_wp2_with (refine ⟨trivial, ?_⟩; gi_at_call 32; rw [HWC.out]; refine (callsIn_wide.2 (CP.out _ HBC.out)).mono ?_; rintro e1 w1 ⟨rfl, hb1⟩; have HB1 := Lib.hid hb1; have HX1 := Lib.hid (fun j v h => (HXC.out j v h).grow hb1); generalize hxb : w.heap.size + 1 + 1 + 1 = xb; rw [show w.heap.size + 3 = xb by omega] at HX1; obtain ⟨x0, g0⟩ := HX1.out 0 _ rfl; obtain ⟨x1, g1⟩ := HX1.out 1 _ rfl; obtain ⟨x2, g2⟩ := HX1.out 2 _ rfl; obtain ⟨x3, g3⟩ := HX1.out 3 _ rfl; obtain ⟨x4, g4⟩ := HX1.out 4 _ rfl; obtain ⟨x5, g5⟩ := HX1.out 5 _ rfl; clear hb1; have HXB := Lib.hid hxb; clear hxb)
  have h6 := set6_cells ⟨x0, g0⟩ ⟨x1, g1⟩ ⟨x2, g2⟩ ⟨x3, g3⟩ ⟨x4, g4⟩ ⟨x5, g5⟩ (.int .i64 0) (.string ⟨#[]⟩) (.int .i64 0) (.int .i64 0) (.slice none 0 0) (.slice none 0 0)
  have hbl : Below w.heap.size w (set6 w1 xb (.int .i64 0) (.string ⟨#[]⟩) (.int .i64 0) (.int .i64 0) (.slice none 0 0) (.slice none 0 0)) := set6_below (HBC.out.trans (HB1.out.mono HBC.out.size)) (by have := HXB.out; omega) _ _ _ _ _ _
  unfold set6 at h6 hbl
  generalize (((((w1.setCell ⟨xb, 0, none⟩ (.int .i64 0)).setCell ⟨xb, 1, none⟩ (.string ⟨#[]⟩)).setCell ⟨xb, 2, none⟩ (.int .i64 0)).setCell ⟨xb, 3, none⟩ (.int .i64 0)).setCell ⟨xb, 4, none⟩ (.slice none 0 0)).setCell ⟨xb, 5, none⟩ (.slice none 0 0) = w6 at *
  obtain ⟨⟨k0, -⟩, ⟨k1, -⟩, ⟨k2, -⟩, ⟨k3, -⟩, ⟨k4, -⟩, ⟨k5, -⟩⟩ := h6
  refine ⟨.tuple #[.agg #[.int .i64 0, .string ⟨#[]⟩, .int .i64 0, .int .i64 0, .slice none 0 0, .slice none 0 0], .bool false], ?_, ?_⟩
  · simp [results, Try.f12, go_sem, k0, k1, k2, k3, k4, k5]
  · rw [← HQ.out]
    exact ⟨_, rfl, o0_at, hbl⟩
theorem order_any {S : Nat → Prop} {y : O} {p : List Int} {w : World} (hv pv : Value) (hy : OAt S w hv y) (hp : IntsAt w pv p) (hcap : ∃ ao n c, pv = .slice ao n c ∧ n ≤ c) (hI : pI p) (q r : Int) (hq : Js.i64B q) (hr : Js.i64B r) :
    Calls Try.prog 12 #[hv, pv, .int .i64 q, .int .i64 r] w (RetO (orderS Tp.nameB y.h y.v y.o y.u p q r) w) := by
  cases e : pathB p with
  | false => exact order_no hv pv hy hp hcap q r hq hr e
  | true =>
    by_cases h : p.length ≤ 127
    · exact order_short hv pv hy hp hcap hI q r hq hr e h
    · exact order_long hv pv hy hp hcap hI q r hq hr e (by omega)
end Go.Proofs.Ytnpbkjmlmdpggaa.Wk
