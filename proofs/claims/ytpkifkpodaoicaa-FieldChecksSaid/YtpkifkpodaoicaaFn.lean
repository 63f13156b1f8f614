import Derived.Test.YtpkifkpodaoicaaFm
import Derived.Deep.DeepCutAuto
import Derived.Deep.CutRange
/- The walk of the law FieldMissing: it answers true. -/
set_option linter.unusedVariables false
set_option linter.unusedSimpArgs false
namespace Go.Proofs.Ytpkifkpodaoicaa.Js
open Go.RowKit Lex

theorem SOwn.below {w : World} {base : Nat} {fs : List Fd} {sv : Value} {a b : World} (h : SOwn w base fs sv a) (hb : Below a.heap.size a b) : SOwn w base fs sv b := by
  obtain ⟨h1, h2, h3⟩ := h
  refine ⟨h1.trans (hb.mono h1.size), h2, h3.1, ?_⟩
  rcases h3.2 with e | ⟨g, cp, cur, hv, hbg, hgg, hr⟩
  · exact .inl e
  · exact .inr ⟨g, cp, cur, hv, hbg, (hb.block g (Own.block_lt hgg)).trans hgg, hr⟩

theorem app_noneF (an : Option Addr) (cn : Nat) (ty : TypeId) (w : World) : (Builtin.append_ #[28, 28] ty #[.slice none 0 0, .slice an 0 cn]).run Try.prog w = .ok (.slice none 0 0) w := by
  obtain ⟨i1, hi, hz3, hx0, hx1⟩ := info_parts field_info
  cases an <;> simp [Builtin.append_, run_underlying Try.underlying28, sizeOf, typeInfo, zeroValue, hi, hz3, hx0, hx1, Builtin.lenOf, Builtin.firstCells, loadCells, loadCellsFrom]
theorem jE_any {S : Nat → Prop} {w : World} (an : Option Addr) (cn : Nat) (ai : Option Addr) (ci : Nat) : JAt S w 1 (.agg #[.int .i64 7, .int .i64 0, .int .i64 0, .string ⟨#[]⟩, .slice an 0 cn, .slice ai 0 ci]) jE :=
  ⟨.slice an 0 cn, ai, ci, rfl, ⟨by decide, by decide⟩, ⟨by decide, by decide⟩, ⟨by decide, by decide⟩, by unfold txtB; simp, ⟨an, cn, rfl, by simp, by simp, fun x hx => by simp at hx, fun h => by simp at h⟩, by simp, by simp, fun h => by simp at h⟩
theorem jE_form {S : Nat → Prop} {w : World} {d : Nat} {k m e : Int} {t : ByteArray} {an : Option Addr} {nn cn : Nat} {ai : Option Addr} {ni ci : Nat} (h : JAt S w d (.agg #[.int .i64 k, .int .i64 m, .int .i64 e, .string t, .slice an nn cn, .slice ai ni ci]) jE) : k = 7 ∧ m = 0 ∧ e = 0 ∧ t = ⟨#[]⟩ ∧ nn = 0 ∧ ni = 0 := by
  obtain ⟨d', an', cn', ai', ci', _, he, _⟩ := h.open_
  simp at he
  obtain ⟨rfl, rfl, rfl, rfl, ⟨_, rfl, _⟩, _, rfl, _⟩ := he
  exact ⟨rfl, rfl, rfl, rfl, rfl, rfl⟩
theorem make_nil (w : World) : Calls Try.prog 9 #[.slice none 0 0, .slice none 0 0] w (CRet w 1 jE) := make5_any Any Any 0 w none 0 none 0 [] [] strs_none (by simp) (by simp) (fun h => by simp at h) (by simp)
/-- A field of a row of one's own is set free. -/
theorem SOwn.free {w : World} {base : Nat} {fs : List Fd} {g cap : Nat} {a : World} (h : SOwn w base fs (.slice (some ⟨g, 0, none⟩) fs.length cap) a) {q : Nat} (hq : q < fs.length) :
    SOwn w base (fs.set q { fs.getD q fd0 with fr := true }) (.slice (some ⟨g, 0, none⟩) fs.length cap) (a.setCell ⟨g, q * 5 + 4, none⟩ (.bool true)) := by
  obtain ⟨h1, h2, h3⟩ := h
  have hg := (h3.lt g rfl).1
  have h4 := (h3.stored (q * 5 + 4) (.bool true)).1
  rw [flds_set fs q hq] at h4
  refine ⟨below_set1 h1 (by omega) _, h2, ?_⟩
  rw [List.length_set]
  exact h4
theorem set_free {l : List Fd} {q : Nat} (hq : q < l.length) (h : ∀ i, i < q → (l.getD i fd0).fr = true) : ∀ i, i < q + 1 → ((l.set q { l.getD q fd0 with fr := true }).getD i fd0).fr = true := fun i hi => by
  by_cases e : i = q
  · subst e
    rw [List.getD_eq_getElem?_getD, List.getElem?_set_self hq]; rfl
  · have := h i (by omega)
    rw [List.getD_eq_getElem?_getD, List.getElem?_set_ne (by omega), ← List.getD_eq_getElem?_getD]; exact this
theorem set_good {l : List Fd} {q : Nat} (h : ∀ f ∈ l, f.good) : ∀ f ∈ l.set q { l.getD q fd0 with fr := true }, f.good := fun f hf => by
  rcases List.mem_or_eq_of_mem_set hf with h' | h'
  · exact h f h'
  · subst h'
    have hz : Fd.good fd0 := ⟨by unfold txtB fd0; simp, ⟨by decide, by decide⟩, ⟨by decide, by decide⟩, ⟨by decide, by decide⟩⟩
    have : (l.getD q fd0).good := by
      rw [List.getD_eq_getElem?_getD]
      rcases hq : l[q]? with _ | x
      · exact hz
      · exact h x (List.mem_of_getElem? hq)
    exact this

set_option maxHeartbeats 8000000 in
set_option maxRecDepth 100000 in
theorem missing_walk (sv : Value) (fs : List Fd) (w : World) (hF : FdsAt w sv fs) : Calls Try.prog 7 #[sv] w (Ret (.bool true) w) := by
  have A1 := Lib.hid awake5_any
  obtain ⟨ao, cap, rfl, hc, hmx, hg, hcl⟩ := hF
  have HCL := Lib.hid hcl
  have HG : Hid (∀ f ∈ fs.take 8, f.good) := fun f hf => hg f (List.mem_of_mem_take hf)
  have HTL : Hid ((fs.take 8).length = min fs.length 8) := by show _ = _; simp; omega
  have HGET : Hid (∀ i, i < min fs.length 8 → (fs.take 8).getD i fd0 = fs.getD i fd0) := fun i hi => by
    rw [List.getD_eq_getElem?_getD, List.getD_eq_getElem?_getD, List.getElem?_take, if_pos (by omega)]
  obtain ⟨i2, hi2, hf0, hf1, hf2⟩ := info_parts field_info
  clear hcl hg
  obtain ⟨n0, HN0⟩ : ∃ n, Hid (fs.length = n) := ⟨_, rfl⟩
  rw [HN0.out] at hc hmx ⊢
  obtain ⟨s, HS⟩ : ∃ s, Hid (fs.take 8 = s) := ⟨_, rfl⟩
  rw [HS.out] at HG HTL HGET
  rw [HN0.out] at HTL HGET HCL
  go_enter Try.func7, Try.ntmps7
  go_upto_region 2 with (go_at_call 8; (with_reducible refine (A1.out _).mono ?_); rintro e1 w1 ⟨rfl, hb1⟩)
  have HB1 := Lib.hid hb1
  clear hb1
  go_cut [4] from 10 to 15 (fun s4 wx => Hid (SOwn w w.heap.size s s4 wx))
  case first =>
    by_cases h0 : n0 = 0
    · subst h0
      have ap := app_noneF ao cap
      have hm0 : min (0 : Int) 8 = 0 := by decide
      obtain rfl : s = [] := List.length_eq_zero_iff.1 (by rw [HTL.out]; rfl)
      rcases ao with _ | a
      all_goals go_wp2_with fail
      all_goals go_meet
      all_goals exact ⟨HB1.out, Nat.le_refl _, World.ownsRow_nil _ _ _ _⟩
    · obtain ⟨b, off, rfl, hbl, hel⟩ := HCL.out (by omega)
      have hnews : ∀ j u, (flds s)[j]? = some u → w1.cell? ((⟨b, off, none⟩ : Addr).add j) = some u := fun j u hu => by
        have hj := (List.getElem?_eq_some_iff.1 hu).1
        rw [flds_len, HTL.out] at hj
        have hj5 : j / 5 < min n0 8 := by omega
        have hjj : j / 5 * 5 + j % 5 = j := by omega
        rw [show (⟨b, off, none⟩ : Addr).add j = ⟨b, off + j, none⟩ by simp only [Addr.add]; split <;> simp_all]
        have e1 := hel (j / 5) (by omega) (j % 5) u (by
          rw [← hjj, flds_get s (j / 5) (j % 5) (by rw [HTL.out]; exact hj5) (by omega), HGET.out _ hj5] at hu
          rw [← hu]; simp [aggC, fdV, fdL])
        rw [show off + j / 5 * 5 + j % 5 = off + j by omega] at e1
        exact (World.cell?_of_block (w := w) (a := ⟨b, off + j, none⟩) (HB1.out.block b hbl)).trans e1
      have hone : ∀ u ∈ flds s, u.oneCell' = true := fun u hu => by
        unfold flds at hu
        obtain ⟨f, _, hf⟩ := List.mem_flatMap.1 hu
        simp [fdL] at hf
        rcases hf with rfl | rfl | rfl | rfl | rfl <;> rfl
      have HNEW := Lib.hid hnews
      have HONE := Lib.hid hone
      have HFL : Hid ((flds s).length = min n0 8 * 5) := by show _ = _; rw [flds_len, HTL.out]
      clear hnews hone hel
      have hs1 := HB1.out.size
      by_cases h8 : n0 ≤ 8
      · have hm0 : min (n0 : Int) 8 = (n0 : Int) := by omega
        have HM : Hid (min n0 8 = n0) := by show _ = _; omega
        have HLL := Lib.hid (HTL.out.trans HM.out)
        rw [HM.out] at HFL
        go_wp2_with (at_builtin; (refine wpList_append_lies _ rfl _ _ 28 rfl w.heap.size 56 i2 _ 5 48 Try.underlying28 hi2 hf0 hf1 hf2 rfl (by omega) _ 0 [] rfl ⟨rfl, .inl ⟨rfl, rfl⟩⟩ ⟨b, off, none⟩ n0 cap (flds s) (by first | rfl | simp) HFL.out HNEW.out HONE.out (by omega) (by unfold maxLen; omega) (by omega) hs1 w1.heap.size rfl ?_); intro g cp w3 hown hgrow hat hlt)
        go_meet
        rw [List.nil_append, Nat.zero_add] at hown
        refine ⟨(HB1.out.grown hgrow hs1 (fun k hk => by cases hk)), Nat.le_refl _, ?_⟩
        rw [HLL.out]
        exact hown
      · have hm0 : min (n0 : Int) 8 = 8 := by omega
        have HM : Hid (min n0 8 = 8) := by show _ = _; omega
        have HLL := Lib.hid (HTL.out.trans HM.out)
        rw [HM.out] at HFL
        have h9 : 8 ≤ cap := by omega
        go_wp2_with (at_builtin; (refine wpList_append_lies _ rfl _ _ 28 rfl w.heap.size 56 i2 _ 5 48 Try.underlying28 hi2 hf0 hf1 hf2 rfl (by omega) _ 0 [] rfl ⟨rfl, .inl ⟨rfl, rfl⟩⟩ ⟨b, off, none⟩ 8 cap (flds s) (by first | rfl | simp) HFL.out HNEW.out HONE.out (by omega) (by unfold maxLen; omega) (by omega) hs1 w1.heap.size rfl ?_); intro g cp w3 hown hgrow hat hlt)
        go_meet
        rw [List.nil_append, Nat.zero_add] at hown
        refine ⟨(HB1.out.grown hgrow hs1 (fun k hk => by cases hk)), Nat.le_refl _, ?_⟩
        rw [HLL.out]
        exact hown
  case rest =>
    have hS := hcut.out
    have HLs : Hid (s.length ≤ 8) := by show _ ≤ _; rw [HTL.out]; omega
    clear HTL HGET HCL HB1 hcut hc hmx
    obtain ⟨ao', cap', rfl⟩ := own_slice hS.2.2
    obtain ⟨n, HN⟩ : ∃ n, Hid (s.length = n) := ⟨_, rfl⟩
    have hn8 : n ≤ 8 := by have := HLs.out; rw [HN.out] at this; exact this
    have M1 := Lib.hid make_nil
    unfold CRet at M1
    have HS1 := Lib.hid hS
    rw [HN.out]
    clear hS
    go_wp2_with (go_at_call 9; (with_reducible refine (M1.out _).mono ?_); rintro e2 w2 ⟨k2, m2, e2', t2, an2, nn2, cn2, ai2, ni2, ci2, rfl, hJ2, hb2⟩)
    obtain ⟨rfl, rfl, rfl, rfl, rfl, rfl⟩ := jE_form (show JAt _ w2 _ _ jE from hJ2)
    clear hJ2
    have C1 := Lib.hid (fun (w' : World) (sv : Value) (fs : List Fd) (h : FdsAt w' sv fs) => check_any Any 1 _ jE sv fs w' (jE_any an2 cn2 ai2 ci2) h)
    have HS2 := Lib.hid (HS1.out.below (hb2.trans ((belowOne w2 (.cells #[.int .i64 7, .int .i64 0, .int .i64 0, .string ⟨#[]⟩, .slice an2 0 cn2, .slice ai2 0 ci2] 27)).mono hb2.size)))
    have HBK : Hid (∀ g, (Value.slice ao' n cap').ownBlock = some g → w.heap.size ≤ g ∧ g < w2.heap.size) := fun g hg => by
      have h := HS1.out.2.2
      rw [HN.out] at h
      have := h.lt g hg
      have := hb2.size
      omega
    have hbx : (w2.alloc (.cells #[.int .i64 7, .int .i64 0, .int .i64 0, .string ⟨#[]⟩, .slice an2 0 cn2, .slice ai2 0 ci2] 27)).heap[w2.heap.size]? = some (.cells #[.int .i64 7, .int .i64 0, .int .i64 0, .string ⟨#[]⟩, .slice an2 0 cn2, .slice ai2 0 ci2] 27 (0, 0)) := heap_alloc_new _ _
    have hw2 : w.heap.size ≤ w2.heap.size := Nat.le_trans HS1.out.1.size hb2.size
    clear M1 hb2
    go_wp2_with fail
    generalize w2.alloc (.cells #[.int .i64 7, .int .i64 0, .int .i64 0, .string ⟨#[]⟩, .slice an2 0 cn2, .slice ai2 0 ci2] 27) = w3 at *
    generalize w2.heap.size = bb at *
    have HBX := Lib.hid hbx
    have HC4 : Hid (∀ q, q < n → ∃ g, ao' = some ⟨g, 0, none⟩ ∧ w3.cell? ⟨g, q * 5 + 4, none⟩ = some (.bool (s.getD q fd0).fr)) := fun q hq => by
      have h := HS2.out.2.2
      rw [HN.out] at h
      rcases h.2 with ⟨e, h0⟩ | ⟨g, cp, cur, hv, hbg, hgg, hr⟩
      · omega
      · cases hv
        refine ⟨g, rfl, ?_⟩
        rw [h.cellAt (q * 5 + 4) (by omega), flds_get s q 4 (by rw [HN.out]; exact hq) (by omega)]
        rfl
    have hcn : n ≤ cap' := by
      have h := HS2.out.2.2
      rw [HN.out] at h
      rcases h.2 with ⟨e, h0⟩ | ⟨g, cp, cur, hv, hbg, hgg, hnc, _⟩
      · omega
      · cases hv; exact hnc
    clear hbx
    go_loop [6, 7] (fun want i => ∃ (k V : Int), -1 ≤ k ∧ k < n ∧ i = .int .i64 k ∧ want = .int .i64 V ∧ Hid (chkL jE (s.drop (k + 1).toNat) (k + 1).toNat = V)) (fun _ i => (intOf i + 1).toNat)
    case atStart => exact ⟨_, -1, by omega, by omega, rfl, rfl, by show _ = _; rw [List.drop_of_length_le (by rw [HN.out]; omega), chkL]⟩
    case round =>
      obtain ⟨k, V, hk0, hk1, rfl, rfl, HK⟩ := hrel
      by_cases hk : 0 ≤ k
      · obtain ⟨q, rfl⟩ : ∃ q : Nat, k = q := ⟨k.toNat, by omega⟩
        obtain ⟨g, rfl, hc4⟩ := HC4.out q (by omega)
        have hQ : Hid (chkL jE (s.drop q) q = if (s.getD q fd0).fr = true then V else (q : Int)) := by
          show _ = _
          have h := HK.out
          rw [show ((q : Int) + 1).toNat = q + 1 by omega] at h
          rw [chkE s q (by rw [HN.out]; omega), h]
        have hq1 : (q : Int) < (n : Int) := by omega
        have hq0 : (0 : Int) ≤ (q : Int) := by omega
        clear HK HC4
        generalize (s.getD q fd0).fr = fr at *
        cases fr with
        | true =>
          go_wp2_with fail
          go_round
          case rel => exact ⟨(q : Int) - 1, V, by omega, by omega, rfl, rfl, by show _ = _; rw [show ((q : Int) - 1 + 1).toNat = q by omega, hQ.out, if_pos rfl]⟩
          case measure => simp [intOf]
        | false =>
          go_wp2_with fail
          go_round
          case rel => exact ⟨(q : Int) - 1, q, by omega, by omega, rfl, rfl, by show _ = _; rw [show ((q : Int) - 1 + 1).toNat = q by omega, hQ.out, if_neg (by simp)]⟩
          case measure => simp [intOf]
      · obtain rfl : k = -1 := by omega
        have HV : Hid (chkL jE s 0 = V) := HK.out
        have C2 := Lib.hid (C1.out w3 _ s (fds_own HS2.out.2.2 (by have := HLs.out; omega) HG.out))
        rw [HV.out, HN.out] at C2
        obtain ⟨x0, x1, x2, x3, x4, x5⟩ := six_of HBX.out
        clear HC4 HK
        go_wp2_with (go_at_call 23; (with_reducible refine (C2.out).mono ?_); rintro e4 w4 ⟨rfl, hb4⟩)
        have HL0 : Hid (s.length = n ∧ (∀ i, i < 0 → (s.getD i fd0).fr = true) ∧ (∀ f ∈ s, f.good) ∧ SOwn w w.heap.size s (.slice ao' n cap') w4 ∧ w4.heap[bb]? = some (.cells #[.int .i64 7, .int .i64 0, .int .i64 0, .string ⟨#[]⟩, .slice an2 0 cn2, .slice ai2 0 ci2] 27 (0, 0))) := by
          have h := HS2.out.below hb4
          rw [HN.out] at h
          exact ⟨HN.out, fun i hi => absurd hi (Nat.not_lt_zero _), HG.out, h, (hb4.block _ (Own.block_lt HBX.out)).trans HBX.out⟩
        clear x0 x1 x2 x3 x4 x5 C2 HV HS1 HS2 hb4 HBX
        go_loopw [8] (fun i wr => ∃ (q : Nat) (l : List Fd), q ≤ n ∧ i = .int .i64 (q : Int) ∧ Hid (l.length = n ∧ (∀ i, i < q → (l.getD i fd0).fr = true) ∧ (∀ f ∈ l, f.good) ∧ SOwn w w.heap.size l (.slice ao' n cap') wr ∧ wr.heap[bb]? = some (.cells #[.int .i64 7, .int .i64 0, .int .i64 0, .string ⟨#[]⟩, .slice an2 0 cn2, .slice ai2 0 ci2] 27 (0, 0)))) (fun i _ => n - (intOf i).toNat)
        case atStart => exact ⟨0, s, Nat.zero_le _, rfl, HL0⟩
        case round =>
          clear HL0
          obtain ⟨q, l, hq, rfl, HI⟩ := hrel
          by_cases hlt : q < n
          · obtain ⟨g, rfl, hgb⟩ : ∃ g, ao' = some ⟨g, 0, none⟩ ∧ g < bb := by
              have h := HI.out.2.2.2.1.2.2
              rcases h.2 with ⟨e, h0⟩ | ⟨g, cp, cur, hv, hbg, hgg, hr⟩
              · have := HI.out.1; omega
              · cases hv; exact ⟨g, rfl, (HBK.out g rfl).2⟩
            have hown := HI.out.2.2.2.1.2.2
            rw [HI.out.1] at hown
            obtain ⟨c0, hc0⟩ : ∃ c, wr.cell? ⟨g, q * 5 + 4, none⟩ = some c := ⟨_, by rw [hown.cellAt (q * 5 + 4) (by omega), flds_get l q 4 (by rw [HI.out.1]; exact hlt) (by omega)]; rfl⟩
            have hf0 := hown.frozenAt (q * 5 + 4)
            have hq1 : (q : Int) < (n : Int) := by omega
            clear hown HBK
            go_wp2_with fail
            go_roundw
            case rel =>
              obtain ⟨h1, h2, h3, h4, h5⟩ := HI.out
              have h4' := h4
              rw [← h1] at h4'
              refine ⟨q + 1, l.set q { l.getD q fd0 with fr := true }, by omega, by go_num, by rw [List.length_set]; exact h1, set_free (by omega) h2, set_good h3, ?_, (heap_setCell_other _ _ _ _ (by show bb ≠ g; omega)).trans h5⟩
              rw [← h1]
              exact h4'.free (by omega)
            case measure => simp [intOf]; omega
          · obtain rfl : q = n := by omega
            have C3 := Lib.hid (C1.out wr _ l (fds_own HI.out.2.2.2.1.2.2 (by have := HI.out.1; omega) HI.out.2.2.1))
            rw [chkE_all l 0 (fun f hf => by
              obtain ⟨i, hi, rfl⟩ := List.mem_iff_getElem.1 hf
              have := HI.out.2.1 i (by have := HI.out.1; omega)
              rw [List.getD_eq_getElem?_getD, List.getElem?_eq_getElem hi] at this
              exact this)] at C3
            obtain ⟨x0, x1, x2, x3, x4, x5⟩ := six_of HI.out.2.2.2.2
            clear HBK
            go_wp2_with (go_at_call 23; (with_reducible refine (C3.out).mono ?_); rintro e5 w5 ⟨rfl, hb5⟩)
            go_ret
            exact ⟨rfl, HI.out.2.2.2.1.1.trans (hb5.mono HI.out.2.2.2.1.1.size)⟩
end Go.Proofs.Ytpkifkpodaoicaa.Js
