import Derived.Test.YtpkifkpodaoicaaFv
import Derived.Deep.DeepCutAuto
import Derived.Deep.CutRange
import Derived.Deep.CutBlock
import Derived.Lib.QuietBelow
import Derived.Test.YtpkifkpodaoicaaMx
import Derived.Test.YtpkifkpodaoicaaBare
/- The walk of the law FieldChecks: it answers true. -/
set_option linter.unusedVariables false
set_option linter.unusedSimpArgs false
namespace Go.Proofs.Ytpkifkpodaoicaa.Js
open Go.RowKit Lex

theorem FdsAt.take8 {w : World} {ao : Option Addr} {cap : Nat} {fs : List Fd} (h : FdsAt w (.slice ao fs.length cap) fs) (k : Nat) (hk : k ≤ fs.length) : FdsAt w (.slice ao k cap) (fs.take k) := by
  obtain ⟨_, _, e, hc, hm, hg, hcl⟩ := h
  cases e
  have hl : (fs.take k).length = k := by simp; omega
  refine ⟨ao, cap, by rw [hl], by omega, by omega, fun f hf => hg f (List.mem_of_mem_take hf), fun hp => ?_⟩
  obtain ⟨b, off, e1, e2, e3⟩ := hcl (by omega)
  refine ⟨b, off, e1, e2, fun i hi => ?_⟩
  rw [hl] at hi
  rw [List.getD_eq_getElem?_getD, List.getElem?_take, if_pos hi, ← List.getD_eq_getElem?_getD]
  exact e3 i (by omega)
def nms (fs : List Fd) : List (List UInt8) := fs.map Fd.nm
theorem nms_snoc {fs : List Fd} {q : Nat} (h : q < fs.length) : nms (fs.take (q + 1)) = nms (fs.take q) ++ [(fs.getD q fd0).nm] := by
  unfold nms
  rw [List.take_succ_eq_append_getElem h, List.map_append, List.getD_eq_getElem?_getD, List.getElem?_eq_getElem h]; rfl
/-- The state of the names' and items' loop. -/
def TL (w : World) (base : Nat) (fs : List Fd) (rs : List RT) (q : Nat) (nv iv : Value) (wr : World) : Prop := TI w base (nms (fs.take q)) (its (rs.take q)) nv iv wr

/-- The same, and a field in a box. -/
structure YI (w : World) (bb : Nat) (X : Array Value) (jv : J) (fb : Nat) (F : Array Value) (wr : World) : Prop where
  vi : VI w bb X jv wr
  fbox : wr.heap[fb]? = some (.cells F 56 (0, 0))
theorem YI.below {w : World} {bb : Nat} {X : Array Value} {jv : J} {fb : Nat} {F : Array Value} {wr w' : World} (h : YI w bb X jv fb F wr) (hb : Below wr.heap.size wr w') : YI w bb X jv fb F w' :=
  ⟨h.vi.below hb, (hb.block _ (Own.block_lt h.fbox)).trans h.fbox⟩
theorem told_of {α : Type} (z : α) (f : J → α × Bool) (j : J) (nm : List UInt8) (h : (getS j nm).2 = true) : tellG z f j nm = f (getS j nm).1 := by
  unfold getS tellG at *
  by_cases hp : plc j nm < 0
  · rw [if_pos hp] at h; cases h
  · rw [if_neg hp, if_neg hp]
theorem inB_iff {n : Int} {f : Fd} (h : inB n f = true) : f.lo ≤ n ∧ n ≤ f.hi := by
  unfold inB at h
  simpa using h
/-- What a field that is there must be. -/
theorem fitB_of {x : J} {nm : List UInt8} {fk lo hi : Int} {fr : Bool} (h : fitB x ⟨nm, fk, lo, hi, fr⟩ = true) :
    (fk = 8 → (flagS x).2 = true) ∧ (fk = 4 → (numS x).2 = true ∧ lo ≤ (numS x).1 ∧ (numS x).1 ≤ hi) ∧ (fk = 5 → (txtS x).2 = true ∧ lo ≤ (txtS x).1.length ∧ ((txtS x).1.length : Int) ≤ hi) ∧ (fk = 6 → (lstS x).2 = true ∧ lo ≤ (lstS x).1.length ∧ ((lstS x).1.length : Int) ≤ hi) := by
  unfold fitB at h
  by_cases h8 : fk = 8
  · rw [if_pos h8] at h
    exact ⟨fun _ => h, fun e => by omega, fun e => by omega, fun e => by omega⟩
  · rw [if_neg h8] at h
    by_cases hk : x.k = fk
    · rw [if_neg (show ¬ (x.k ≠ fk) from fun e => e hk)] at h
      by_cases h4 : fk = 4
      · rw [if_pos h4, Bool.and_eq_true] at h
        exact ⟨fun e => by omega, fun _ => ⟨h.1, inB_iff h.2⟩, fun e => by omega, fun e => by omega⟩
      · rw [if_neg h4] at h
        by_cases h5 : fk = 5
        · rw [if_pos h5] at h
          have ht : txtS x = (x.t, true) := by unfold txtS; rw [if_pos (hk.trans h5)]
          exact ⟨fun e => by omega, fun e => by omega, fun _ => ⟨by rw [ht], by rw [ht]; exact inB_iff h⟩, fun e => by omega⟩
        · rw [if_neg h5] at h
          by_cases h6 : fk = 6
          · rw [if_pos h6] at h
            have ht : lstS x = (x.is, true) := by unfold lstS; rw [if_pos (hk.trans h6)]
            exact ⟨fun e => by omega, fun e => by omega, fun e => by omega, fun _ => ⟨by rw [ht], by rw [ht]; exact inB_iff h⟩⟩
          · exact ⟨fun e => by omega, fun e => by omega, fun e => by omega, fun e => by omega⟩
    · rw [if_pos hk] at h; cases h
/-- What Check tells of a schema of n fields. -/
def CK (jv : J) (fs : List Fd) (n : Nat) (K : Int) (l : Nat) : Prop :=
  chkL jv fs 0 = K ∧ (∀ q, q < l → jv.k = 7 ∧ hasB jv (fs.getD q fd0) = true) ∧ (0 ≤ K → ¬ (jv.k = 7 ∧ hasB jv (fs.getD l fd0) = true))
theorem ck_of (jv : J) (fs : List Fd) : ∃ (K : Int) (l : Nat), CK jv fs fs.length K l ∧ -1 ≤ K ∧ K < fs.length ∧ l ≤ fs.length ∧ ((K = -1 ∧ l = fs.length) ∨ K = l ∧ l < fs.length) := by
  rcases chkL_lt jv fs 0 with ⟨h1, h2⟩ | ⟨p, h1, h2, h3, h4⟩
  · exact ⟨-1, fs.length, ⟨h1, fun q hq => h2 _ (by rw [List.getD_eq_getElem?_getD, List.getElem?_eq_getElem hq]; exact List.getElem_mem _), fun h => by omega⟩, by omega, by omega, Nat.le_refl _, .inl ⟨rfl, rfl⟩⟩
  · exact ⟨p, p, ⟨by rw [h2]; omega, h3, fun _ => h4⟩, by omega, by omega, by omega, .inr ⟨rfl, h1⟩⟩

set_option maxHeartbeats 8000000 in
set_option maxRecDepth 100000 in
theorem checks_walk (sv : Value) (fs0 : List Fd) (rv : Value) (rs : List RT) (w : World) (hF : FdsAt w sv fs0) (hR : RsAt w rv rs) : Calls Try.prog 5 #[sv, rv] w (Ret (.bool true) w) := by
  have A1 := Lib.hid awake5_any
  obtain ⟨ao, cap, rfl, hc, hmx, _, _⟩ := id hF
  obtain ⟨n0, HN0⟩ : ∃ n, Hid (fs0.length = n) := ⟨_, rfl⟩
  have HF : Hid (FdsAt w (.slice ao (min n0 8) cap) (fs0.take (min n0 8))) := by
    have h := hF.take8 (min n0 8) (by rw [HN0.out]; omega)
    exact h
  have HLs : Hid ((fs0.take (min n0 8)).length = min n0 8) := by show _ = _; simp; rw [HN0.out]; omega
  rw [HN0.out] at hc hmx ⊢
  clear hF
  generalize fs0.take (min n0 8) = fs at *
  obtain ⟨n, Hn⟩ : ∃ n, Hid (min n0 8 = n) := ⟨_, rfl⟩
  have hn8 : n ≤ 8 := by have := Hn.out; omega
  have hnc : n ≤ cap := by have := Hn.out; omega
  have hcase : (n0 ≤ 8 ∧ n0 = n) ∨ (8 < n0 ∧ n = 8) := by have := Hn.out; omega
  have HCASE := Lib.hid hcase
  rw [Hn.out] at HF HLs
  clear hcase
  obtain ⟨ro, rcap, rfl, hrc, hrm, hrl⟩ := hR
  have HRL := Lib.hid hrl
  clear hrl
  obtain ⟨m, HM⟩ : ∃ m, Hid (rs.length = m) := ⟨_, rfl⟩
  rw [HM.out] at hrc hrm HRL ⊢
  obtain ⟨i0, hi0, hz0, hz1, hz2⟩ := info_parts json_info
  obtain ⟨i1, hi1, hx0, hx1, hx2⟩ := info_parts str_info2
  have HFC : Hid (∀ q, q < n → ∃ b off, ao = some ⟨b, off, none⟩ ∧ b < w.heap.size ∧ LiesAt w b (off + q * 5) (fdV (fs.getD q fd0)) ∧ (fs.getD q fd0).good) := fun q hq => by
    obtain ⟨_, _, e, _, _, hgd, hcl⟩ := HF.out
    simp only [Value.slice.injEq] at e
    obtain ⟨rfl, _, rfl⟩ := e
    obtain ⟨b, off, rfl, hbl, hel⟩ := hcl (by rw [HLs.out]; omega)
    exact ⟨b, off, rfl, hbl, hel q (by rw [HLs.out]; exact hq), hgd _ (by rw [List.getD_eq_getElem?_getD, List.getElem?_eq_getElem (by rw [HLs.out]; exact hq)]; exact List.getElem_mem _)⟩
  have HRC : Hid (∀ q, q < m → ∃ b off u, ro = some ⟨b, off, none⟩ ∧ b < w.heap.size ∧ LiesAt w b (off + q * 5) u ∧ ∀ n, RAt w n u (rs.getD q rt0)) := fun q hq => by
    obtain ⟨b, off, rfl, hbl, hel⟩ := HRL.out (by omega)
    obtain ⟨u, h1, h2⟩ := hel q (by omega)
    exact ⟨b, off, u, rfl, hbl, h1, h2⟩
  clear HRL
  go_enter Try.func5, Try.ntmps5
  go_upto_if 27 with (go_at_call 8; (with_reducible refine (A1.out _).mono ?_); rintro e1 w1 ⟨rfl, hb1⟩)
  have HB1 := Lib.hid hb1
  clear hb1
  go_cut [0] from 27 to 29 (fun s0 wx => s0 = .slice ao n cap ∧ w1 = wx)
  case first =>
    rcases HCASE.out with ⟨h1, h2⟩ | ⟨h1, h2⟩
    · subst h2
      have h3 : ¬ (8 : Int) < (n0 : Int) := by omega
      go_wp2_with fail
      go_meet
      exact ⟨rfl, rfl⟩
    · subst h2
      have h3 : (8 : Int) < (n0 : Int) := by omega
      go_wp2_with fail
      go_meet
      exact ⟨rfl, rfl⟩
  case rest =>
    obtain ⟨rfl, rfl⟩ := hcut
    have hT0 : TL w w1.heap.size fs rs 0 (.slice none 0 0) (.slice none 0 0) w1 := ⟨HB1.out, HB1.out.size, ⟨[], own3_nil⟩, Nat.le_refl _⟩
    have HT0 := Lib.hid hT0
    clear hT0
    go_upto_block 0 with fail
    go_cut [6, 7] from 8 to 57 (fun s6 s7 wx => Hid (TL w w1.heap.size fs rs (min n m) s6 s7 wx))
    case first =>
      go_wp2_with fail
      go_loopw [6, 7, 8] (fun s6 s7 i wr => ∃ (q : Nat), q ≤ n ∧ q ≤ m ∧ i = .int .i64 (q : Int) ∧ Hid (TL w w1.heap.size fs rs q s6 s7 wr)) (fun _ _ i _ => n - (intOf i).toNat)
      case atStart => exact ⟨0, Nat.zero_le _, Nat.zero_le _, rfl, HT0⟩
      case round =>
        clear HT0
        obtain ⟨q, hq1, hq2, rfl, HT⟩ := hrel
        by_cases hl1 : q < n
        · by_cases hl2 : q < m
          · have a1 : (q : Int) < (n : Int) := by omega
            have a2 : (q : Int) < (m : Int) := by omega
            obtain ⟨b, off, rfl, hbl, hu, hgd⟩ := HFC.out q hl1
            obtain ⟨br, offr, u, rfl, hbr, hu1, hu2⟩ := HRC.out q hl2
            have HNM : Hid (txtB (fs.getD q fd0).nm) := hgd.1
            have F14 := Lib.hid (fun (w' : World) (hb : Below w.heap.size w w') => fit14 w' u _ (fun n => (hu2 n).below hb))
            unfold FRet at F14
            obtain ⟨k', m', e', ao', tl, c, ai', ni', ci', rfl, -⟩ := (hu2 0).form
            have HSN := Lib.hid (nms_snoc (fs := fs) (q := q) (by rw [HLs.out]; exact hl1))
            have HSI := Lib.hid (its_snoc (rs := rs) (q := q) (by rw [HM.out]; exact hl2))
            have HTI : Hid (TI w w1.heap.size (nms (fs.take q)) (its (rs.take q)) u6 u7 wr) := HT.out
            have hnl : (nms (fs.take q)).length ≤ 8 := by unfold nms; simp; omega
            have hal : (its (rs.take q)).length ≤ 8 := by unfold its; simp; omega
            generalize nms (fs.take q) = ns at *
            generalize its (rs.take q) = acc at *
            generalize rs.getD q rt0 = y at *
            generalize fs.getD q fd0 = f at *
            obtain ⟨nm, fk, lo, hi, fr⟩ := f
            unfold fdV at hu
            have hbw := HTI.out.bel
            have hbl1 := HTI.out.lo
            have hbl2 := HTI.out.hi
            obtain ⟨x0, x1, x2, x3, x4⟩ := (hu.keep (hbw.block b hbl)).five
            have HV := Lib.hid hu1
            obtain ⟨vs, hO⟩ := HTI.out.own
            obtain ⟨ao1, c1, rfl⟩ := own_slice hO.irow
            obtain ⟨an1, cn1, rfl⟩ := own_slice hO.nrow
            have HO := Lib.hid hO
            clear hO hu hu1 hu2 HT hgd hbw
            go_wp2_with (first
              | (at_builtin; (refine wpList_append_lies _ rfl _ _ 24 rfl w1.heap.size 9 i1 _ 1 16 Try.underlying24 hi1 hx0 hx1 hx2 rfl (by omega) _ ns.length (ns.map strW) rfl (HO.out.nrow.alloc _) ⟨wr.heap.size, 0, none⟩ 1 1 [.string ⟨nm.toArray⟩] rfl rfl (World.news_of_block (cs := #[.string ⟨nm.toArray⟩]) (t := 9) (fr := (0, 0)) (heap_alloc_new _ _)) (by simp [Value.oneCell']) (by omega) (by unfold maxLen; omega) (by omega) (by simp; omega) (wr.heap.size + 1) (by simp) ?_); intro g cp w2 hown hgrow hat hlt; have HT2 := Lib.hid (HTI.out.name hgrow (belowOne _ _) (hat.imp id (fun h => by omega)) HNM.out hown); have HB2 := Lib.hid HT2.out.bel; obtain ⟨z0, z1, z2, z3, z4⟩ := (HV.out.keep (HB2.out.block br hbr)).five; clear hown hgrow hat x0 x1 x2 x3 x4)
              | (go_at_call 33; (with_reducible refine (F14.out _ HB2.out).mono ?_); rintro e3 w3 ⟨k3, m3, e3', t3, an3, nn3, cn3, ai3, ni3, ci3, rfl, hJ3, hb3⟩; obtain ⟨vs2, hO2⟩ := HT2.out.own; have HO2 := Lib.hid hO2; have HO3 := Lib.hid (hO2.below hb3 (Nat.le_refl _)); have HB3 := Lib.hid hb3; have HJ3 := Lib.hid hJ3; have hs3 := hb3.size; have hlo3 := HT2.out.hi; clear hO2 hb3 hJ3)
              | (at_builtin; (refine wpList_append_lies _ rfl _ _ 25 rfl w1.heap.size 27 i0 _ 6 88 Try.underlying25 hi0 hz0 hz1 hz2 rfl (by omega) _ acc.length (vs2.flatMap aggC) rfl (HO3.out.irow.alloc _) ⟨w3.heap.size, 0, none⟩ 1 1 [.int .i64 k3, .int .i64 m3, .int .i64 e3', .string t3, .slice an3 nn3 cn3, .slice ai3 ni3 ci3] rfl rfl (World.news_of_block (cs := #[.int .i64 k3, .int .i64 m3, .int .i64 e3', .string t3, .slice an3 nn3 cn3, .slice ai3 ni3 ci3]) (t := 27) (fr := (0, 0)) (heap_alloc_new _ _)) (by simp [Value.oneCell']) (by omega) (by unfold maxLen; omega) (by omega) (by simp; omega) (w3.heap.size + 1) (by simp) ?_); intro g2 cp2 w4 hown2 hgrow2 hat2 hlt2; have HT4 := Lib.hid (HT2.out.item HO2.out HB3.out hgrow2 (belowOne _ _) (hat2.imp id (fun h => by omega)) hown2 HJ3.out); clear hown2 hgrow2 hat2))
            go_roundw
            case rel =>
              refine ⟨q + 1, by omega, by omega, by go_num, ?_⟩
              show TI _ _ _ _ _ _ _
              rw [HSN.out, HSI.out]
              exact HT4.out
            case measure => simp [intOf]; omega
          · obtain rfl : q = m := by omega
            have a1 : (q : Int) < (n : Int) := by omega
            go_wp2_with fail
            go_meet
            rw [show min n q = q by omega]
            exact HT
        · obtain rfl : q = n := by omega
          go_wp2_with fail
          go_meet
          rw [show min q m = q by omega]
          exact HT
    case rest =>
      have hT : TI w w1.heap.size (nms (fs.take (min n m))) (its (rs.take (min n m))) u6 u7 wc := hcut.out
      have hnl : (nms (fs.take (min n m))).length ≤ 8 := by unfold nms; simp; omega
      have hal : (its (rs.take (min n m))).length ≤ 8 := by unfold its; simp; omega
      generalize nms (fs.take (min n m)) = ns at *
      generalize its (rs.take (min n m)) = acc at *
      obtain ⟨vs, hO⟩ := hT.own
      obtain ⟨ai1, ci1, rfl⟩ := own_slice hO.irow
      obtain ⟨an1, cn1, rfl⟩ := own_slice hO.nrow
      have M1 := Lib.hid (make5_any Any Any 15 wc an1 cn1 ai1 ci1 ns acc (hO.strs (by omega)) (by omega) hO.its.2.1 hO.its.2.2 (by omega))
      unfold CRet at M1
      have HBc := Lib.hid hT.bel
      generalize mkJ ns acc = jv at *
      clear hcut hT hO HT0 HRC hnl hal
      go_wp2_with (go_at_call 9; (with_reducible refine (M1.out).mono ?_); rintro e2 w2 ⟨k2, m2, e2', t2, an2, nn2, cn2, ai2, ni2, ci2, rfl, hJ2, hb2⟩; have HV3 : Hid (VI w w2.heap.size #[.int .i64 k2, .int .i64 m2, .int .i64 e2', .string t2, .slice an2 nn2 cn2, .slice ai2 ni2 ci2] jv (w2.alloc (.cells #[.int .i64 k2, .int .i64 m2, .int .i64 e2', .string t2, .slice an2 nn2 cn2, .slice ai2 ni2 ci2] 27))) := ⟨(HBc.out.trans (hb2.mono HBc.out.size)).trans ((belowOne _ _).mono (Nat.le_trans HBc.out.size hb2.size)), heap_alloc_new _ _, (hJ2.any).below (belowOne _ _) (Nat.le_refl _)⟩)
      clear M1 hJ2 hb2
      generalize w2.alloc (.cells #[.int .i64 k2, .int .i64 m2, .int .i64 e2', .string t2, .slice an2 nn2 cn2, .slice ai2 ni2 ci2] 27) = w3 at *
      generalize w2.heap.size = bb at *
      have C1 := Lib.hid (fun (w' : World) (h : VI w bb #[.int .i64 k2, .int .i64 m2, .int .i64 e2', .string t2, .slice an2 nn2 cn2, .slice ai2 ni2 ci2] jv w') => check_any Any 16 _ jv _ fs w' h.jat (HF.out.below h.bel))
      obtain ⟨K, l, hck, hK0, hK1, hl0, hKl⟩ := ck_of jv fs
      rw [HLs.out] at hck hK1 hl0 hKl
      rw [hck.1] at C1
      have HCK := Lib.hid hck
      have d1 : decide (K < -1) = false := by simp; omega
      have d2 : decide ((n : Int) ≤ K) = false := by simp; omega
      clear hck HCASE
      go_upto_if 74 with (go_at_call 23; (with_reducible refine (C1.out _ HV3.out).mono ?_); rintro e4 w4 ⟨rfl, hb4⟩; have HV4 := Lib.hid (HV3.out.below hb4))
      go_cut [11] from 74 to 76 (fun s11 wx => s11 = .int .i64 (l : Int) ∧ w4 = wx)
      case first =>
        rcases hKl with ⟨rfl, rfl⟩ | ⟨rfl, hlt⟩
        · go_wp2_with fail
          go_meet
          exact ⟨rfl, rfl⟩
        · have d3 : ¬ (l : Int) < 0 := by omega
          go_wp2_with fail
          go_meet
          exact ⟨rfl, rfl⟩
      case rest =>
        obtain ⟨rfl, rfl⟩ := hcut
        clear HV3
        go_upto_block 2 with fail
        go_wp2_with fail
        go_loopw [12] (fun i wr => ∃ (q : Nat), q ≤ l ∧ i = .int .i64 (q : Int) ∧ Hid (VI w bb #[.int .i64 k2, .int .i64 m2, .int .i64 e2', .string t2, .slice an2 nn2 cn2, .slice ai2 ni2 ci2] jv wr)) (fun i _ => l - (intOf i).toNat)
        case atStart => exact ⟨0, Nat.zero_le _, rfl, HV4⟩
        case round =>
          clear HV4
          obtain ⟨q, hql, rfl, HI⟩ := hrel
          by_cases hlt : q < l
          · have a1 : (q : Int) < (l : Int) := by omega
            have a2 : (q : Int) < (n : Int) := by omega
            obtain ⟨b, off, rfl, hbl, hu, hgd⟩ := HFC.out q (by omega)
            have hhas := (HCK.out.2.1 q hlt).2
            generalize fs.getD q fd0 = f at *
            obtain ⟨nm, fk, lo, hi, fr⟩ := f
            unfold fdV at hu
            obtain ⟨x0, x1, x2, x3, x4⟩ := (hu.keep (HI.out.bel.block b hbl)).five
            have hblr : b < wr.heap.size := Nat.lt_of_lt_of_le hbl HI.out.bel.size
            obtain ⟨y0, y1, y2, y3, y4, y5⟩ := six_of HI.out.box
            have hbbl := Own.block_lt HI.out.box
            have HY0 : Hid (YI w bb #[.int .i64 k2, .int .i64 m2, .int .i64 e2', .string t2, .slice an2 nn2 cn2, .slice ai2 ni2 ci2] jv wr.heap.size #[.string ⟨nm.toArray⟩, .int .i64 fk, .int .i64 lo, .int .i64 hi, .bool fr] (wr.alloc (.cells #[.string ⟨nm.toArray⟩, .int .i64 fk, .int .i64 lo, .int .i64 hi, .bool fr] 56))) := ⟨HI.out.alloc _, heap_alloc_new _ _⟩
            have hG1 := fun (w' : World) (h : YI w bb #[.int .i64 k2, .int .i64 m2, .int .i64 e2', .string t2, .slice an2 nn2 cn2, .slice ai2 ni2 ci2] jv wr.heap.size #[.string ⟨nm.toArray⟩, .int .i64 fk, .int .i64 lo, .int .i64 hi, .bool fr] w') => get5_any Any 16 _ jv nm w' h.vi.jat
            unfold GRet at hG1
            have hN1 := fun (w' : World) (h : YI w bb #[.int .i64 k2, .int .i64 m2, .int .i64 e2', .string t2, .slice an2 nn2 cn2, .slice ai2 ni2 ci2] jv wr.heap.size #[.string ⟨nm.toArray⟩, .int .i64 fk, .int .i64 lo, .int .i64 hi, .bool fr] w') => FNum_any Any 16 _ jv nm w' h.vi.jat
            have hX1 := fun (w' : World) (h : YI w bb #[.int .i64 k2, .int .i64 m2, .int .i64 e2', .string t2, .slice an2 nn2 cn2, .slice ai2 ni2 ci2] jv wr.heap.size #[.string ⟨nm.toArray⟩, .int .i64 fk, .int .i64 lo, .int .i64 hi, .bool fr] w') => FText_any Any 16 _ jv nm w' h.vi.jat
            have hB1 := fun (w' : World) (h : YI w bb #[.int .i64 k2, .int .i64 m2, .int .i64 e2', .string t2, .slice an2 nn2 cn2, .slice ai2 ni2 ci2] jv wr.heap.size #[.string ⟨nm.toArray⟩, .int .i64 fk, .int .i64 lo, .int .i64 hi, .bool fr] w') => FFlag_any Any 16 _ jv nm w' h.vi.jat
            have hL1 := fun (w' : World) (h : YI w bb #[.int .i64 k2, .int .i64 m2, .int .i64 e2', .string t2, .slice an2 nn2 cn2, .slice ai2 ni2 ci2] jv wr.heap.size #[.string ⟨nm.toArray⟩, .int .i64 fk, .int .i64 lo, .int .i64 hi, .bool fr] w') => flist_any Any 16 _ jv nm w' h.vi.jat
            unfold LsRet lsG at hL1
            unfold hasB at hhas
            clear hu hgd HFC HCK
            rcases hget : (getS jv nm).2 with _ | _
            · rw [hget] at hG1 hhas
              obtain rfl : fr = true := by simpa using hhas
              have G1 := Lib.hid hG1
              clear hG1 hN1 hX1 hB1 hL1 hhas hget
              go_wp2_with (first
                | (go_at_call 12; (with_reducible refine (G1.out _ HY0.out).mono ?_); rintro e5 w5 ⟨k5, m5, e5', t5, an5, nn5, cn5, ai5, ni5, ci5, rfl, hJ5, hb5⟩; have HY5 := Lib.hid ((HY0.out.below hb5).below (belowOne w5 (.cells #[.int .i64 k5, .int .i64 m5, .int .i64 e5', .string t5, .slice an5 nn5 cn5, .slice ai5 ni5 ci5] 27))); obtain ⟨p0, p1, p2, p3, p4, p5⟩ := six_of (HY0.out.below hb5).vi.box; obtain ⟨q0, q1, q2, q3, q4⟩ := fiveOf (HY0.out.below hb5).fbox; have hl5 := Own.block_lt (HY0.out.below hb5).vi.box; have hm5 := Own.block_lt (HY0.out.below hb5).fbox; clear hJ5 hb5))
              go_roundw
              case rel => exact ⟨q + 1, by omega, by go_num, HY5.out.vi⟩
              case measure => simp [intOf]; omega
            · rw [told_of _ _ _ _ hget] at hN1 hX1 hB1 hL1
              rw [hget, if_pos rfl] at hhas
              rw [hget] at hG1
              obtain ⟨h8, h4, h5, h6⟩ := fitB_of hhas
              have G1 := Lib.hid hG1
              clear hG1 hhas hget
              generalize (getS jv nm).1 = x at *
              generalize numS x = rn at *
              generalize txtS x = rt at *
              generalize flagS x = rf at *
              generalize lstS x = rl at *
              obtain ⟨n1, n2⟩ := rn
              obtain ⟨tt, t2'⟩ := rt
              obtain ⟨f1, f2⟩ := rf
              obtain ⟨l1, l2⟩ := rl
              simp only at h8 h4 h5 h6 hN1 hX1 hB1 hL1
              have hts : (⟨tt.toArray⟩ : ByteArray).size = tt.length := Lex.bs_size tt
              have N1 := Lib.hid hN1
              have X1 := Lib.hid hX1
              have B1 := Lib.hid hB1
              have L1 := Lib.hid hL1
              clear hN1 hX1 hB1 hL1
              have H8 := Lib.hid h8
              have H4 := Lib.hid h4
              have H5 := Lib.hid h5
              have H6 := Lib.hid h6
              clear h8 h4 h5 h6
              by_cases e4 : fk = 4
              · subst e4
                obtain ⟨rfl, g1, g2⟩ := H4.out rfl
                have g3 : decide (n1 < lo) = false := by simp; omega
                have g4 : decide (hi < n1) = false := by simp; omega
                go_upto_region 30 with (first
                  | (go_at_call 12; (with_reducible refine (G1.out _ HY0.out).mono ?_); rintro e5 w5 ⟨k5, m5, e5', t5, an5, nn5, cn5, ai5, ni5, ci5, rfl, hJ5, hb5⟩; have HY5 := Lib.hid ((HY0.out.below hb5).below (belowOne w5 (.cells #[.int .i64 k5, .int .i64 m5, .int .i64 e5', .string t5, .slice an5 nn5 cn5, .slice ai5 ni5 ci5] 27))); obtain ⟨p0, p1, p2, p3, p4, p5⟩ := six_of (HY0.out.below hb5).vi.box; obtain ⟨q0, q1, q2, q3, q4⟩ := fiveOf (HY0.out.below hb5).fbox; have hl5 := Own.block_lt (HY0.out.below hb5).vi.box; have hm5 := Own.block_lt (HY0.out.below hb5).fbox; clear hJ5 hb5)
                  | (go_at_call 14; (with_reducible refine (N1.out _ HY5.out).mono ?_); rintro e6 w6 ⟨rfl, hb6⟩; have HY6 := Lib.hid (HY5.out.below hb6); obtain ⟨r0, r1, r2, r3, r4, r5⟩ := six_of HY6.out.vi.box; obtain ⟨s0, s1, s2, s3, s4⟩ := fiveOf HY6.out.fbox; clear hb6 p0 p1 p2 p3 p4 p5 q0 q1 q2 q3 q4)
                  | (go_at_call 16; (with_reducible refine (X1.out _ HY6.out).mono ?_); rintro e7 w7 ⟨rfl, hb7⟩; have HY7 := Lib.hid (HY6.out.below hb7); obtain ⟨p0, p1, p2, p3, p4, p5⟩ := six_of HY7.out.vi.box; obtain ⟨q0, q1, q2, q3, q4⟩ := fiveOf HY7.out.fbox; clear hb7 r0 r1 r2 r3 r4 r5 s0 s1 s2 s3 s4)
                  | (go_at_call 18; (with_reducible refine (B1.out _ HY7.out).mono ?_); rintro e8 w8 ⟨rfl, hb8⟩; have HY8 := Lib.hid (HY7.out.below hb8); obtain ⟨r0, r1, r2, r3, r4, r5⟩ := six_of HY8.out.vi.box; obtain ⟨s0, s1, s2, s3, s4⟩ := fiveOf HY8.out.fbox; clear hb8 p0 p1 p2 p3 p4 p5 q0 q1 q2 q3 q4)
                  | (go_at_call 20; (with_reducible refine (L1.out _ HY8.out).mono ?_); rintro e9 w9 ⟨ai9, ci9, rfl, hc9, hI9, hb9⟩; have HY9 := Lib.hid (HY8.out.below hb9); obtain ⟨q0, q1, q2, q3, q4⟩ := fiveOf HY9.out.fbox; clear hb9 hI9 hc9 r0 r1 r2 r3 r4 r5 s0 s1 s2 s3 s4))
                go_cut [199] from 126 to 199 (fun s199 wy => s199 = .bool false ∧ w9 = wy)
                case first =>
                  clear HY0 HY5 HY6 HY7 HY8 HY9 G1 N1 X1 B1 L1 H8 H4 H5 H6 y0 y1 y2 y3 y4 y5 x0 x1 x2 x3 x4 HI C1 A1
                  refine wp_region_bare ?_
                  simp (maxSteps := 100000000) [List.map_cons, List.map_nil, bare]
                  go_wp2_with fail
                  go_meet
                  exact ⟨rfl, rfl⟩
                case rest =>
                  obtain ⟨rfl, rfl⟩ := hcut
                  go_wp2_with fail
                  go_roundw
                  case rel => exact ⟨q + 1, by omega, by go_num, HY9.out.vi⟩
                  case measure => simp [intOf]; omega
              · have e4' : (fk == 4) = false := by simpa using e4
                by_cases e5 : fk = 5
                · subst e5
                  obtain ⟨rfl, g1, g2⟩ := H5.out rfl
                  have g3 : decide ((tt.length : Int) < lo) = false := by simp; omega
                  have g4 : decide (hi < (tt.length : Int)) = false := by simp; omega
                  go_upto_region 30 with (first
                    | (go_at_call 12; (with_reducible refine (G1.out _ HY0.out).mono ?_); rintro e5 w5 ⟨k5, m5, e5', t5, an5, nn5, cn5, ai5, ni5, ci5, rfl, hJ5, hb5⟩; have HY5 := Lib.hid ((HY0.out.below hb5).below (belowOne w5 (.cells #[.int .i64 k5, .int .i64 m5, .int .i64 e5', .string t5, .slice an5 nn5 cn5, .slice ai5 ni5 ci5] 27))); obtain ⟨p0, p1, p2, p3, p4, p5⟩ := six_of (HY0.out.below hb5).vi.box; obtain ⟨q0, q1, q2, q3, q4⟩ := fiveOf (HY0.out.below hb5).fbox; have hl5 := Own.block_lt (HY0.out.below hb5).vi.box; have hm5 := Own.block_lt (HY0.out.below hb5).fbox; clear hJ5 hb5)
                    | (go_at_call 14; (with_reducible refine (N1.out _ HY5.out).mono ?_); rintro e6 w6 ⟨rfl, hb6⟩; have HY6 := Lib.hid (HY5.out.below hb6); obtain ⟨r0, r1, r2, r3, r4, r5⟩ := six_of HY6.out.vi.box; obtain ⟨s0, s1, s2, s3, s4⟩ := fiveOf HY6.out.fbox; clear hb6 p0 p1 p2 p3 p4 p5 q0 q1 q2 q3 q4)
                    | (go_at_call 16; (with_reducible refine (X1.out _ HY6.out).mono ?_); rintro e7 w7 ⟨rfl, hb7⟩; have HY7 := Lib.hid (HY6.out.below hb7); obtain ⟨p0, p1, p2, p3, p4, p5⟩ := six_of HY7.out.vi.box; obtain ⟨q0, q1, q2, q3, q4⟩ := fiveOf HY7.out.fbox; clear hb7 r0 r1 r2 r3 r4 r5 s0 s1 s2 s3 s4)
                    | (go_at_call 18; (with_reducible refine (B1.out _ HY7.out).mono ?_); rintro e8 w8 ⟨rfl, hb8⟩; have HY8 := Lib.hid (HY7.out.below hb8); obtain ⟨r0, r1, r2, r3, r4, r5⟩ := six_of HY8.out.vi.box; obtain ⟨s0, s1, s2, s3, s4⟩ := fiveOf HY8.out.fbox; clear hb8 p0 p1 p2 p3 p4 p5 q0 q1 q2 q3 q4)
                    | (go_at_call 20; (with_reducible refine (L1.out _ HY8.out).mono ?_); rintro e9 w9 ⟨ai9, ci9, rfl, hc9, hI9, hb9⟩; have HY9 := Lib.hid (HY8.out.below hb9); obtain ⟨q0, q1, q2, q3, q4⟩ := fiveOf HY9.out.fbox; clear hb9 hI9 hc9 r0 r1 r2 r3 r4 r5 s0 s1 s2 s3 s4))
                  go_cut [199] from 126 to 199 (fun s199 wy => s199 = .bool false ∧ w9 = wy)
                  case first =>
                    clear HY0 HY5 HY6 HY7 HY8 HY9 G1 N1 X1 B1 L1 H8 H4 H5 H6 y0 y1 y2 y3 y4 y5 x0 x1 x2 x3 x4 HI C1 A1
                    refine wp_region_bare ?_
                    simp (maxSteps := 100000000) [List.map_cons, List.map_nil, bare]
                    go_wp2_with fail
                    go_meet
                    exact ⟨rfl, rfl⟩
                  case rest =>
                    obtain ⟨rfl, rfl⟩ := hcut
                    go_wp2_with fail
                    go_roundw
                    case rel => exact ⟨q + 1, by omega, by go_num, HY9.out.vi⟩
                    case measure => simp [intOf]; omega
                · have e5' : (fk == 5) = false := by simpa using e5
                  by_cases e8 : fk = 8
                  · subst e8
                    obtain rfl := H8.out rfl
                    go_upto_region 30 with (first
                      | (go_at_call 12; (with_reducible refine (G1.out _ HY0.out).mono ?_); rintro e5 w5 ⟨k5, m5, e5', t5, an5, nn5, cn5, ai5, ni5, ci5, rfl, hJ5, hb5⟩; have HY5 := Lib.hid ((HY0.out.below hb5).below (belowOne w5 (.cells #[.int .i64 k5, .int .i64 m5, .int .i64 e5', .string t5, .slice an5 nn5 cn5, .slice ai5 ni5 ci5] 27))); obtain ⟨p0, p1, p2, p3, p4, p5⟩ := six_of (HY0.out.below hb5).vi.box; obtain ⟨q0, q1, q2, q3, q4⟩ := fiveOf (HY0.out.below hb5).fbox; have hl5 := Own.block_lt (HY0.out.below hb5).vi.box; have hm5 := Own.block_lt (HY0.out.below hb5).fbox; clear hJ5 hb5)
                      | (go_at_call 14; (with_reducible refine (N1.out _ HY5.out).mono ?_); rintro e6 w6 ⟨rfl, hb6⟩; have HY6 := Lib.hid (HY5.out.below hb6); obtain ⟨r0, r1, r2, r3, r4, r5⟩ := six_of HY6.out.vi.box; obtain ⟨s0, s1, s2, s3, s4⟩ := fiveOf HY6.out.fbox; clear hb6 p0 p1 p2 p3 p4 p5 q0 q1 q2 q3 q4)
                      | (go_at_call 16; (with_reducible refine (X1.out _ HY6.out).mono ?_); rintro e7 w7 ⟨rfl, hb7⟩; have HY7 := Lib.hid (HY6.out.below hb7); obtain ⟨p0, p1, p2, p3, p4, p5⟩ := six_of HY7.out.vi.box; obtain ⟨q0, q1, q2, q3, q4⟩ := fiveOf HY7.out.fbox; clear hb7 r0 r1 r2 r3 r4 r5 s0 s1 s2 s3 s4)
                      | (go_at_call 18; (with_reducible refine (B1.out _ HY7.out).mono ?_); rintro e8 w8 ⟨rfl, hb8⟩; have HY8 := Lib.hid (HY7.out.below hb8); obtain ⟨r0, r1, r2, r3, r4, r5⟩ := six_of HY8.out.vi.box; obtain ⟨s0, s1, s2, s3, s4⟩ := fiveOf HY8.out.fbox; clear hb8 p0 p1 p2 p3 p4 p5 q0 q1 q2 q3 q4)
                      | (go_at_call 20; (with_reducible refine (L1.out _ HY8.out).mono ?_); rintro e9 w9 ⟨ai9, ci9, rfl, hc9, hI9, hb9⟩; have HY9 := Lib.hid (HY8.out.below hb9); obtain ⟨q0, q1, q2, q3, q4⟩ := fiveOf HY9.out.fbox; clear hb9 hI9 hc9 r0 r1 r2 r3 r4 r5 s0 s1 s2 s3 s4))
                    go_cut [199] from 126 to 199 (fun s199 wy => s199 = .bool false ∧ w9 = wy)
                    case first =>
                      clear HY0 HY5 HY6 HY7 HY8 HY9 G1 N1 X1 B1 L1 H8 H4 H5 H6 y0 y1 y2 y3 y4 y5 x0 x1 x2 x3 x4 HI C1 A1
                      refine wp_region_bare ?_
                      simp (maxSteps := 100000000) [List.map_cons, List.map_nil, bare]
                      go_wp2_with fail
                      go_meet
                      exact ⟨rfl, rfl⟩
                    case rest =>
                      obtain ⟨rfl, rfl⟩ := hcut
                      go_wp2_with fail
                      go_roundw
                      case rel => exact ⟨q + 1, by omega, by go_num, HY9.out.vi⟩
                      case measure => simp [intOf]; omega
                  · have e8' : (fk == 8) = false := by simpa using e8
                    by_cases e6 : fk = 6
                    · subst e6
                      obtain ⟨rfl, g1, g2⟩ := H6.out rfl
                      have g3 : decide ((l1.length : Int) < lo) = false := by simp; omega
                      have g4 : decide (hi < (l1.length : Int)) = false := by simp; omega
                      go_upto_region 30 with (first
                        | (go_at_call 12; (with_reducible refine (G1.out _ HY0.out).mono ?_); rintro e5 w5 ⟨k5, m5, e5', t5, an5, nn5, cn5, ai5, ni5, ci5, rfl, hJ5, hb5⟩; have HY5 := Lib.hid ((HY0.out.below hb5).below (belowOne w5 (.cells #[.int .i64 k5, .int .i64 m5, .int .i64 e5', .string t5, .slice an5 nn5 cn5, .slice ai5 ni5 ci5] 27))); obtain ⟨p0, p1, p2, p3, p4, p5⟩ := six_of (HY0.out.below hb5).vi.box; obtain ⟨q0, q1, q2, q3, q4⟩ := fiveOf (HY0.out.below hb5).fbox; have hl5 := Own.block_lt (HY0.out.below hb5).vi.box; have hm5 := Own.block_lt (HY0.out.below hb5).fbox; clear hJ5 hb5)
                        | (go_at_call 14; (with_reducible refine (N1.out _ HY5.out).mono ?_); rintro e6 w6 ⟨rfl, hb6⟩; have HY6 := Lib.hid (HY5.out.below hb6); obtain ⟨r0, r1, r2, r3, r4, r5⟩ := six_of HY6.out.vi.box; obtain ⟨s0, s1, s2, s3, s4⟩ := fiveOf HY6.out.fbox; clear hb6 p0 p1 p2 p3 p4 p5 q0 q1 q2 q3 q4)
                        | (go_at_call 16; (with_reducible refine (X1.out _ HY6.out).mono ?_); rintro e7 w7 ⟨rfl, hb7⟩; have HY7 := Lib.hid (HY6.out.below hb7); obtain ⟨p0, p1, p2, p3, p4, p5⟩ := six_of HY7.out.vi.box; obtain ⟨q0, q1, q2, q3, q4⟩ := fiveOf HY7.out.fbox; clear hb7 r0 r1 r2 r3 r4 r5 s0 s1 s2 s3 s4)
                        | (go_at_call 18; (with_reducible refine (B1.out _ HY7.out).mono ?_); rintro e8 w8 ⟨rfl, hb8⟩; have HY8 := Lib.hid (HY7.out.below hb8); obtain ⟨r0, r1, r2, r3, r4, r5⟩ := six_of HY8.out.vi.box; obtain ⟨s0, s1, s2, s3, s4⟩ := fiveOf HY8.out.fbox; clear hb8 p0 p1 p2 p3 p4 p5 q0 q1 q2 q3 q4)
                        | (go_at_call 20; (with_reducible refine (L1.out _ HY8.out).mono ?_); rintro e9 w9 ⟨ai9, ci9, rfl, hc9, hI9, hb9⟩; have HY9 := Lib.hid (HY8.out.below hb9); obtain ⟨q0, q1, q2, q3, q4⟩ := fiveOf HY9.out.fbox; clear hb9 hI9 hc9 r0 r1 r2 r3 r4 r5 s0 s1 s2 s3 s4))
                      go_cut [199] from 126 to 199 (fun s199 wy => s199 = .bool false ∧ w9 = wy)
                      case first =>
                        clear HY0 HY5 HY6 HY7 HY8 HY9 G1 N1 X1 B1 L1 H8 H4 H5 H6 y0 y1 y2 y3 y4 y5 x0 x1 x2 x3 x4 HI C1 A1
                        refine wp_region_bare ?_
                        simp (maxSteps := 100000000) [List.map_cons, List.map_nil, bare]
                        go_wp2_with fail
                        go_meet
                        exact ⟨rfl, rfl⟩
                      case rest =>
                        obtain ⟨rfl, rfl⟩ := hcut
                        go_wp2_with fail
                        go_roundw
                        case rel => exact ⟨q + 1, by omega, by go_num, HY9.out.vi⟩
                        case measure => simp [intOf]; omega
                    · have e6' : (fk == 6) = false := by simpa using e6
                      go_upto_region 30 with (first
                        | (go_at_call 12; (with_reducible refine (G1.out _ HY0.out).mono ?_); rintro e5 w5 ⟨k5, m5, e5', t5, an5, nn5, cn5, ai5, ni5, ci5, rfl, hJ5, hb5⟩; have HY5 := Lib.hid ((HY0.out.below hb5).below (belowOne w5 (.cells #[.int .i64 k5, .int .i64 m5, .int .i64 e5', .string t5, .slice an5 nn5 cn5, .slice ai5 ni5 ci5] 27))); obtain ⟨p0, p1, p2, p3, p4, p5⟩ := six_of (HY0.out.below hb5).vi.box; obtain ⟨q0, q1, q2, q3, q4⟩ := fiveOf (HY0.out.below hb5).fbox; have hl5 := Own.block_lt (HY0.out.below hb5).vi.box; have hm5 := Own.block_lt (HY0.out.below hb5).fbox; clear hJ5 hb5)
                        | (go_at_call 14; (with_reducible refine (N1.out _ HY5.out).mono ?_); rintro e6 w6 ⟨rfl, hb6⟩; have HY6 := Lib.hid (HY5.out.below hb6); obtain ⟨r0, r1, r2, r3, r4, r5⟩ := six_of HY6.out.vi.box; obtain ⟨s0, s1, s2, s3, s4⟩ := fiveOf HY6.out.fbox; clear hb6 p0 p1 p2 p3 p4 p5 q0 q1 q2 q3 q4)
                        | (go_at_call 16; (with_reducible refine (X1.out _ HY6.out).mono ?_); rintro e7 w7 ⟨rfl, hb7⟩; have HY7 := Lib.hid (HY6.out.below hb7); obtain ⟨p0, p1, p2, p3, p4, p5⟩ := six_of HY7.out.vi.box; obtain ⟨q0, q1, q2, q3, q4⟩ := fiveOf HY7.out.fbox; clear hb7 r0 r1 r2 r3 r4 r5 s0 s1 s2 s3 s4)
                        | (go_at_call 18; (with_reducible refine (B1.out _ HY7.out).mono ?_); rintro e8 w8 ⟨rfl, hb8⟩; have HY8 := Lib.hid (HY7.out.below hb8); obtain ⟨r0, r1, r2, r3, r4, r5⟩ := six_of HY8.out.vi.box; obtain ⟨s0, s1, s2, s3, s4⟩ := fiveOf HY8.out.fbox; clear hb8 p0 p1 p2 p3 p4 p5 q0 q1 q2 q3 q4)
                        | (go_at_call 20; (with_reducible refine (L1.out _ HY8.out).mono ?_); rintro e9 w9 ⟨ai9, ci9, rfl, hc9, hI9, hb9⟩; have HY9 := Lib.hid (HY8.out.below hb9); obtain ⟨q0, q1, q2, q3, q4⟩ := fiveOf HY9.out.fbox; clear hb9 hI9 hc9 r0 r1 r2 r3 r4 r5 s0 s1 s2 s3 s4))
                      go_cut [199] from 126 to 199 (fun s199 wy => s199 = .bool false ∧ w9 = wy)
                      case first =>
                        clear HY0 HY5 HY6 HY7 HY8 HY9 G1 N1 X1 B1 L1 H8 H4 H5 H6 y0 y1 y2 y3 y4 y5 x0 x1 x2 x3 x4 HI C1 A1
                        refine wp_region_bare ?_
                        simp (maxSteps := 100000000) [List.map_cons, List.map_nil, bare]
                        go_wp2_with fail
                        go_meet
                        exact ⟨rfl, rfl⟩
                      case rest =>
                        obtain ⟨rfl, rfl⟩ := hcut
                        go_wp2_with fail
                        go_roundw
                        case rel => exact ⟨q + 1, by omega, by go_num, HY9.out.vi⟩
                        case measure => simp [intOf]; omega
          · obtain rfl : q = l := by omega
            have hbx := HI.out.box
            have hbbl := Own.block_lt hbx
            obtain ⟨x0, x1, x2, x3, x4, x5⟩ := six_of hbx
            rcases hKl with ⟨rfl, rfl⟩ | ⟨rfl, hqn⟩
            · clear HFC HCK C1
              go_wp2_with fail
              go_quiet (fail)
              go_wp2_with fail
              go_ret
              exact ⟨rfl, bdrewN HI.out.bel _⟩
            · obtain ⟨b, off, rfl, hbl, hu, hgd⟩ := HFC.out q hqn
              have hft := fun k (hk : k ≤ n) => (show FdsAt w (.slice (some ⟨b, off, none⟩) fs.length cap) fs by rw [HLs.out]; exact HF.out).take8 k (by rw [HLs.out]; exact hk)
              have hone : FdsAt w (.slice (some ⟨b, off + q * 5, none⟩) 1 (cap - q)) [fs.getD q fd0] := ⟨_, _, rfl, by simp; omega, by simp, fun f hf => by simp at hf; subst hf; exact hgd, fun _ => ⟨b, off + q * 5, rfl, hbl, fun i hi => by
                obtain rfl : i = 0 := by simp at hi; omega
                rw [Nat.zero_mul, Nat.add_zero]; exact hu⟩⟩
              have hc1 : chkL jv (fs.take q) 0 = -1 := chkL_take jv fs q HCK.out.2.1 (by rw [HLs.out]; omega)
              have hc2 : chkL jv [fs.getD q fd0] 0 = 0 := chkL_one jv _ (HCK.out.2.2 (by omega))
              have hK1 := fun (w' : World) (hb : Below wr.heap.size wr w') => check_any Any 16 _ jv _ (fs.take q) w' (HI.out.jat.below hb (Nat.le_refl _)) ((hft q (by omega)).below (HI.out.bel.trans (hb.mono HI.out.bel.size)))
              have hK2 := fun (w' : World) (hb : Below wr.heap.size wr w') => check_any Any 16 _ jv _ [fs.getD q fd0] w' (HI.out.jat.below hb (Nat.le_refl _)) (hone.below (HI.out.bel.trans (hb.mono HI.out.bel.size)))
              rw [hc1] at hK1
              rw [hc2] at hK2
              have cK1 := Lib.hid (fun (d : Nat) (os : Array Obj) => Calls.regrown_of (hK1 _ (below_regrown wr d os)))
              have cK2 := Lib.hid (fun (d : Nat) (os : Array Obj) => Calls.regrown_of (hK2 _ (below_regrown wr d os)))
              have rx0 := cell_regrown x0
              have rx1 := cell_regrown x1
              have rx2 := cell_regrown x2
              have rx3 := cell_regrown x3
              have rx4 := cell_regrown x4
              have rx5 := cell_regrown x5
              have d3 : decide ((q : Int) < 0) = false := by simp
              have d4 : ¬ cap = q := by omega
              have d5 : q ≤ cap := by omega
              have d6 : q + 1 ≤ cap := by omega
              have e1 : IntKind.i64.wrap ((q : Int) + 1) = (q : Int) + 1 := by rw [IntKind.wrap_i64]; omega
              have e2 : ((q : Int) + 1).toNat = q + 1 := by omega
              have e3 : (0 : Int) ≤ (q : Int) + 1 := by omega
              have e4 : (q : Int) ≤ (q : Int) + 1 := by omega
              have e5 : (q : Int) + 1 ≤ (cap : Int) := by omega
              have e6 : ¬ (q + 1 < q) := by omega
              have e7 : q + 1 - q = 1 := by omega
              clear hK1 hK2 hft hone hc1 hc2 HFC hu hgd x0 x1 x2 x3 x4 x5 hbx
              go_wp2_with fail
              refine wp_region_quiet_below mixed5 (by kernel_rfl) ?_
              repeat (quiet_step (first | with_reducible exact cK1.out _ _ | with_reducible exact cK2.out _ _))
              refine wpQuiet_nil ?_
              intro _ hw'
              obtain ⟨⟨dq, osq⟩, hw''⟩ := hw'
              subst hw''
              go_wp2_with fail
              go_ret
              exact ⟨rfl, HI.out.bel.trans ((below_regrown wr dq osq).mono HI.out.bel.size)⟩
end Go.Proofs.Ytpkifkpodaoicaa.Js
