import Derived.Test.YtmlpefpjemiccaaGreatDoorQx
/- The document's Parser: objects. -/
set_option linter.unusedVariables false
set_option linter.unusedSimpArgs false
namespace Go.Proofs.YtmlpefpjemiccaaGreatDoor.Js
open Go.RowKit Lex

theorem RVRet.below {w : World} {pb bt cap n : Nat} {ts : List Tok} {r : R} {e : Ending} {w1 w2 : World} (h : RVRet w pb bt cap ts n r e w1) (hb : Below w1.heap.size w1 w2) : RVRet w pb bt cap ts n r e w2 := by
  obtain ⟨k, m, e1, t, an, nn, cn, ai, ni, ci, h1, h2, h3, h4⟩ := h
  exact ⟨k, m, e1, t, an, nn, cn, ai, ni, ci, h1, h2.below hb, h3.trans (.of_below hb), fun he => (h4 he).below hb (Nat.le_refl _)⟩
/-- The names of a value under construction. -/
theorem own_strs {base bv n : Nat} {k : Int} {an : Option Addr} {cn : Nat} {iv : Value} {ns : List (List UInt8)} {vs : List Value} {acc : List J} {w : World} (h : Own2 base bv n k (.slice an ns.length cn) iv ns vs acc w) (hk : i64B k) (hn : ns.length ≤ 1000000) (ha : acc.length ≤ 1000000) :
    StrsAt (fun b => base ≤ b) w (.slice an ns.length cn) ns := by
  obtain ⟨d', an', cn', ai, ci, _, hv, _, _, _, _, hs, _⟩ := (h.jat hk hn ha).open_
  simp only [Value.agg.injEq, Array.mk.injEq, List.cons.injEq, Value.slice.injEq, true_and, and_true] at hv
  obtain ⟨⟨rfl, rfl⟩, _⟩ := hv
  exact hs
/-- A name and what follows it. -/
theorem obj_key {n : Nat} {D : Int} {pb bt cap : Nat} {ts : List Tok} (IH : ∀ (w' : World) (l' : List Tok), Pa w' pb bt cap ts l' 0 → Calls Tryz.prog 29 #[.pointer (some ⟨pb, 0, none⟩), .int .i64 D] w' (RVRet w' pb bt cap ts n (valS n l'))) (x y : Tok) (l2 : List Tok) (hend : EndL (y :: l2)) (hk : x.k = 2)
    (ns : List (List UInt8)) (acc : List J) (N : Nat) (hns : ns.contains x.t = false) :
    ∃ lS ES S, (∀ w', Pa w' pb bt cap ts (y :: l2) 0 → Calls Tryz.prog 52 #[.pointer (some ⟨pb, 0, none⟩), .string ⟨#[58]⟩] w' fun e w'' => e = .returned (.tuple #[]) ∧ Pa w'' pb bt cap ts lS ES ∧ Chg (· = pb) w' w'') ∧
      (∀ wz, Pa wz pb bt cap ts lS ES → Calls Tryz.prog 29 #[.pointer (some ⟨pb, 0, none⟩), .int .i64 D] wz (RVRet wz pb bt cap ts n S)) ∧
      objL (valS n) (N + 1) ns acc (x :: y :: l2) = (if S.er = 0 then moreS 125 (.mk 7 0 0 [] (ns ++ [x.t]) (acc ++ [S.j])) (objL (valS n) N (ns ++ [x.t]) (acc ++ [S.j])) S.l else ⟨S.er, j0, S.l⟩) ∧ EndL S.l ∧ (S.er = 0 → S.l.length < l2.length) := by
  cases h58 : sgB y 58 with
  | true =>
    have he2 := hend.tail (by rw [(sgB_k h58).1]; decide)
    obtain ⟨g1, g2, g3⟩ := val_good n l2 he2
    refine ⟨l2, 0, valS n l2, fun w' hp => ?_, fun wz hp => IH wz l2 hp, ?_, g1, g3⟩
    · have := must_any hp 58 ⟨#[58]⟩ rfl
      unfold mustE at this
      rw [h58, if_pos rfl, if_pos rfl] at this
      simpa only [decide_true, Bool.and_self, if_true] using this
    · rw [objL, name_yes hk hns h58]
      simp only
      rw [if_pos trivial]
  | false =>
    refine ⟨y :: l2, 40, ⟨40, j0, y :: l2⟩, fun w' hp => ?_, fun wz hp => ?_, ?_, hend, fun h => absurd (show (40 : Int) = 0 from h) (by decide)⟩
    · have := must_any hp 58 ⟨#[58]⟩ rfl
      unfold mustE at this
      rw [h58, if_pos rfl, if_neg (by decide)] at this
      simpa only [Bool.and_false, Bool.false_eq_true, if_false] using this
    · refine (rvalue_err hp (by decide) D).mono ?_
      rintro e w' ⟨rfl, hb⟩
      exact ⟨_, _, _, _, _, _, _, _, _, _, rfl, hp.below hb, .of_below hb, fun h => absurd (show (40 : Int) = 0 from h) (by decide)⟩
    · rw [objL, name_bad hk hns h58]
      simp only
      rw [if_neg (by decide), if_neg (by decide)]
theorem obj_no {n N : Nat} {ns : List (List UInt8)} {acc : List J} {x : Tok} {l : List Tok} (h : x.k ≠ 2) : objL (valS n) (N + 1) ns acc (x :: l) = ⟨40, j0, x :: l⟩ := by
  rw [objL, name_no h]; simp only; rw [if_neg (by decide)]
theorem obj_twice {n N : Nat} {ns : List (List UInt8)} {acc : List J} {x : Tok} {l : List Tok} (h : x.k = 2) (hs : ns.contains x.t = true) : objL (valS n) (N + 1) ns acc (x :: l) = ⟨42, j0, x :: l⟩ := by
  rw [objL, name_twice h hs]; simp only; rw [if_neg (by decide)]

/-- The loop is left with an error. -/
theorem brk {w wr w2 : World} {pb bt cap n : Nat} {ts l : List Tok} {K : Int} (hp : pb < w.heap.size) (hbt : bt < w.heap.size) (hP : Pa wr pb bt cap ts l 0) (hF : PF w pb wr) (hB : PB w K wr) (hb2 : Below wr.heap.size wr w2) (E : Int) (hE : E ≠ 0) :
    ∃ a nn c a' nn' c', w2.heap[w.heap.size + 2]? = some (.cells #[.int .i64 K, .int .i64 0, .int .i64 0, .string ⟨#[]⟩, .slice a nn c, .slice a' nn' c'] 27 (0, 0)) ∧ w2.heap[w.heap.size]? = some (.cells zero6 27 (0, 0)) ∧
      w2.heap[pb]? = some (.cells #[.slice (some ⟨bt, 0, none⟩) ts.length cap, .int .i64 ((ts.length - l.length : Nat) : Int), .int .i64 0] 66 (0, 0)) ∧
      ∀ c0 c1 c2 c3 c4 c5, RVRet w pb bt cap ts n ⟨E, j0, l⟩ (.returned (.agg #[.int .i64 K, .int .i64 0, .int .i64 0, .string ⟨#[]⟩, .slice a nn c, .slice a' nn' c'])) (put6 (w2.setCell ⟨pb, 2, none⟩ (.int .i64 E)) w.heap.size 0 c0 c1 c2 c3 c4 c5) := by
  have cc : Chg (· = pb) wr (w2.setCell ⟨pb, 2, none⟩ (.int .i64 E)) := Chg.setCell (X := fun k => k = pb) (.of_below hb2) (p := ⟨pb, 2, none⟩) (.inl rfl) _
  have hE2 : PE w pb bt cap ts n K ⟨E, j0, l⟩ (w2.setCell ⟨pb, 2, none⟩ (.int .i64 E)) := ⟨(hP.below hb2).err E, hF.chgR hp cc, hB.chgR hp cc, fun h => absurd h hE⟩
  obtain ⟨a, nn, c, a', nn', c', hb, hfin⟩ := hE2.fin hp hbt
  have hne : w.heap.size + 2 ≠ pb := by omega
  exact ⟨a, nn, c, a', nn', c', (Below.heap_setCell _ _ _ _ hne).symm.trans hb, (hb2.block _ (by have := hF.sz; omega)).trans hF.bres, (hP.below hb2).blk, hfin⟩

/-- Behind an item: where the Parser stands, and the value under construction. -/
structure QI (w : World) (pb bt cap : Nat) (ts : List Tok) (n : Nat) (ns : List (List UInt8)) (acc : List J) (S : R) (wx : World) : Prop where
  pa : Pa wx pb bt cap ts S.l S.er
  pf : PF w pb wx
  blk : PB w 7 wx
  pv : S.er = 0 → PV w n 7 ns (acc ++ [S.j]) wx

set_option maxHeartbeats 16000000 in
set_option maxRecDepth 100000 in
theorem rvalue_obj (n : Nat) (hn : n ≤ 15) (ih : RValOk n) {w : World} {pb bt cap : Nat} {ts l : List Tok} {x : Tok} (h : Pa w pb bt cap ts (x :: l) 0) (hx : x.k = 1) (hc : x.t = [123]) :
    Calls Tryz.prog 29 #[.pointer (some ⟨pb, 0, none⟩), .int .i64 ((17 - (n + 1) : Nat) : Int)] w (RVRet w pb bt cap ts (n + 1) (objS (valS n) l)) := by
  have hD : ((17 - n : Nat) : Int) = ((17 - (n + 1) : Nat) : Int) + 1 := by omega
  have hD1 : ((17 - (n + 1) : Nat) : Int) ≤ 16 := by omega
  have hD0 : (0 : Int) ≤ ((17 - (n + 1) : Nat) : Int) := by omega
  have IH : Hid (∀ (w' : World) (l' : List Tok), Pa w' pb bt cap ts l' 0 → Calls Tryz.prog 29 #[.pointer (some ⟨pb, 0, none⟩), .int .i64 (((17 - (n + 1) : Nat) : Int) + 1)] w' (RVRet w' pb bt cap ts n (valS n l'))) := fun w' l' hp => by rw [← hD]; exact ih w' pb bt cap ts l' hp
  generalize ((17 - (n + 1) : Nat) : Int) = D at *
  clear hD ih
  obtain ⟨y, l1, rfl⟩ := ex_cons (h.fin.tail (show x.k ≠ 5 by omega))
  obtain ⟨x0, x1, x2, x3, x4⟩ := h.here
  obtain ⟨r0, r1, r2⟩ := three_of h.blk
  have pf1 := free_of h.blk 1
  have hpl := h.lt
  have htl := h.blt
  have hle := h.at_.1
  have i1 : ((ts.length - (x :: y :: l1).length : Nat) : Int) < (ts.length : Int) := by omega
  have hln := h.len
  have HN := Lib.hid (h.next (x := x) (by omega))
  have hsuf := h.suf.length_le
  have HSU : Hid ((y :: l1).length ≤ ts.length) := by show _ ≤ _; simp at hsuf ⊢; omega
  rw [hx] at x0
  rw [hc] at x1
  clear h hsuf
  obtain ⟨P, HPP⟩ : ∃ P, Hid (ts.length - (x :: y :: l1).length = P) := ⟨_, rfl⟩
  rw [HPP.out] at hle i1 r1 x0 x1 x2 x3 x4 HN
  obtain ⟨NN, HNN⟩ : ∃ N, Hid (ts.length = N) := ⟨_, rfl⟩
  rw [HNN.out] at i1 hln hle r0
  generalize x.m = M at *
  generalize x.e = EE at *
  generalize x.p = Q at *
  have LS := Lib.hid (loop_start (w := w) (W0 := w.setCell ⟨pb, 1, none⟩ (.int .i64 ((P : Int) + 1))) (n := n) (K := 7) (by simp [World.setCell]) (Chg.setCell (X := fun k => k = pb) (Chg.refl _ w) (p := ⟨pb, 1, none⟩) (.inl rfl) _) (.cells #[.int .i64 1, .string ⟨#[123]⟩, .int .i64 M, .int .i64 EE, .int .i64 Q] 62))
  have IS := Lib.hid (is_any (HN.out.below LS.out.2.2) 125 _ rfl)
  obtain ⟨RR, HRR⟩ : ∃ RR, Hid (objS (valS n) (y :: l1) = RR) := ⟨_, rfl⟩
  rw [HRR.out]
  obtain ⟨i0, hi0, hz0, hz1, hz2⟩ := info_parts json_info
  obtain ⟨i9, hi9, hx0, hx1, hx2⟩ := info_parts str_info2
  have HRR2 : Hid (RR = if sgB y 125 = true then ⟨0, .mk 7 0 0 [] [] [], l1⟩ else objL (valS n) (y :: l1).length [] [] (y :: l1)) := by
    show _ = _; rw [← HRR.out]; rfl
  have hpl' : pb < w.heap.size + 2 := by omega
  have hnpb : ¬ pb = w.heap.size + 2 := by omega
  generalize hsg : sgB y 125 = sg at *
  unfold zero6 at IS LS
  clear HRR
  go_enter Tryz.func29, Tryz.ntmps29
  go_wp2_with fail
  go_region
  go_wp2_with (go_at_call 51; (with_reducible refine (IS.out).mono ?_); rintro e1 w1 ⟨rfl, hP1, hc1⟩)
  obtain ⟨hF0, hV0, -⟩ := LS.out
  have hF1 := Lib.hid (hF0.chgR hpl hc1)
  have hV1 := Lib.hid (hV0.chgR hpl hc1)
  have HP1 := Lib.hid hP1
  clear hF0 hV0 hP1 hc1 LS IS HN x0 x1 x2 x3 x4 r0 r1 r2 pf1 hle i1
  go_loopw [11] (fun d wr => (∃ (N : Nat) (ns : List (List UInt8)) (acc : List J) (l' : List Tok), d = .bool false ∧ Hid (Pa wr pb bt cap ts l' 0) ∧ Hid (PF w pb wr) ∧ Hid (PV w n 7 ns acc wr) ∧ Hid (RR = objL (valS n) N ns acc l') ∧ l'.length ≤ N ∧ acc.length + l'.length ≤ ts.length ∧ ns.length = acc.length) ∨ (d = .bool true ∧ Hid (PE w pb bt cap ts (n + 1) 7 RR wr))) (fun d wr => dnN d (ts.length - posOf wr pb))
  case atStart =>
    cases sg with
    | true =>
      have e := HRR2.out
      rw [if_pos rfl] at e
      simp only [decide_true, Bool.and_self, if_true] at HP1
      refine .inr ⟨rfl, ?_⟩
      show PE _ _ _ _ _ _ _ _ _
      subst e
      exact ⟨HP1.out, hF1.out, hV1.out.pb, fun _ => hV1.out.pj ⟨by decide, by decide⟩ (by simp) (by simp)⟩
    | false =>
      have e := HRR2.out
      rw [if_neg (by decide)] at e
      simp only [Bool.and_false, Bool.false_eq_true, if_false] at HP1
      exact .inl ⟨_, [], [], y :: l1, rfl, HP1, hF1, hV1, e, Nat.le_refl _, by simpa using HSU.out, rfl⟩
  case round =>
    clear HRR2 HP1 hF1 hV1 hsg
    rcases hrel with ⟨N, ns, acc, l', rfl, HPa, HF, HV, HR, hN, hlen, hnl⟩ | ⟨rfl, HE⟩
    · obtain ⟨x', l2, rfl⟩ := ex_cons HPa.out.fin
      obtain ⟨N', rfl⟩ : ∃ N', N = N' + 1 := ⟨N - 1, by simp at hN; omega⟩
      have hpos := HPa.out.pos
      obtain ⟨q0, q1, q2⟩ := three_of HPa.out.blk
      have qf1 := free_of HPa.out.blk 1
      have qf2 := free_of HPa.out.blk 2
      obtain ⟨x0, x1, x2, x3, x4⟩ := HPa.out.here
      have hpr := HPa.out.lt
      have hbr := HPa.out.blt
      have hle := HPa.out.at_.1
      have hgd := HPa.out.good x' (HPa.out.suf.mem (by simp))
      have HTX : Hid (txtB x'.t) := hgd.len
      obtain ⟨nv, iv, vs, hO⟩ := HV.out
      have hsz := HF.out.sz
      have hblw : w.heap.size + 2 < wr.heap.size := by omega
      have hblw' : w.heap.size + 1 + 1 < wr.heap.size := by omega
      have hal : acc.length ≤ 1000000 := by rw [HNN.out] at hlen; omega
      have hnal : ns.length ≤ 1000000 := by omega
      have HNL := Lib.hid hnl
      have hlw0 : w.heap.size < wr.heap.size := by omega
      clear hnl
      obtain ⟨ano, capn, rfl⟩ := own_slice hO.nrow
      have HO := Lib.hid hO
      have HST := Lib.hid (own_strs hO ⟨by decide, by decide⟩ hnal hal)
      have hres := HF.out.bres
      unfold zero6 at hres
      have HB7 := Lib.hid HV.out.pb
      have j1 : ((ts.length - (x' :: l2).length : Nat) : Int) < (ts.length : Int) := by omega
      obtain ⟨P', HPP'⟩ : ∃ P, Hid (ts.length - (x' :: l2).length = P) := ⟨_, rfl⟩
      have HNX := Lib.hid (fun hx w' (hp : Pa w' pb bt cap ts (x' :: l2) 0) => hp.next (x := x') hx)
      rw [HPP'.out] at hle j1 q1 x0 x1 x2 x3 x4 HNX
      rw [HNN.out] at hle j1 q0
      by_cases hk : x'.k = 2
      · obtain ⟨y', l5, rfl⟩ := ex_cons (HPa.out.fin.tail (by omega))
        rw [hk] at x0
        have HK2 := Lib.hid hk
        cases hct : ns.contains x'.t with
        | true =>
          have HRE := Lib.hid (HR.out.trans (obj_twice hk hct))
          have HA := Lib.hid (fun w' (hb : Below wr.heap.size wr w') => has_any _ _ ns x'.t w' (HST.out.below hb (Nat.le_refl _)))
          rw [hct] at HA
          obtain ⟨y0, y1, y2, y3, y4, y5⟩ := six_of hO.blk
          clear hk hO hgd hct
          generalize x'.m = M' at *
          generalize x'.e = E' at *
          generalize x'.p = Q'' at *
          generalize x'.t = T' at *
          have AL : Hid (∀ o, Below wr.heap.size wr (wr.alloc o).drew) := fun o => ((Below.refl _ _).alloc (Nat.le_refl _) _).drew
          have BR := Lib.hid (fun w2 (hb : Below wr.heap.size wr w2) => brk (n := n + 1) hpl htl HPa.out HF.out HB7.out hb 42 (by decide))
          unfold zero6 at BR
          rw [← HRE.out] at BR
          rw [HPP'.out, HNN.out] at BR
          go_wp2_with fail
          go_region
          go_wp2_with (go_at_call 38; (with_reducible refine (HA.out _ (AL.out _)).mono ?_); rintro e1 w2 ⟨rfl, hb2⟩; have hbw2 : Below wr.heap.size wr w2 := (AL.out _).trans (hb2.mono (AL.out _).size); obtain ⟨a, nn, c, a', nn', c', b1, b2, b3, hfin⟩ := BR.out w2 hbw2; have HFIN := Lib.hid hfin; obtain ⟨v0, v1, v2, v3, v4, v5⟩ := six_of b1; obtain ⟨z0, z1, z2, z3, z4, z5⟩ := six_of b2; have g0 := free_of b2 0; have g1 := free_of b2 1; have g2 := free_of b2 2; have g3 := free_of b2 3; have g4 := free_of b2 4; have g5 := free_of b2 5; obtain ⟨p0, p1, p2⟩ := three_of b3; have pf2 := free_of b3 2; have hl2 := Own.block_lt b1; have hlp := Own.block_lt b3; clear hfin b1 b2 b3)
          refine bodyPost_ret (v := .agg #[.int .i64 7, .int .i64 0, .int .i64 0, .string ⟨#[]⟩, .slice a nn c, .slice a' nn' c']) (by simp [results, Tryz.results29, go_sem, z0, z1, z2, z3, z4, z5]) rfl ?_
          exact HFIN.out _ _ _ _ _ _
        | false =>
          have HA := Lib.hid (fun w' (hb : Below wr.heap.size wr w') => has_any _ _ ns x'.t w' (HST.out.below hb (Nat.le_refl _)))
          rw [hct] at HA
          have IHw : ∀ (w' : World) (l' : List Tok), Pa w' pb bt cap ts l' 0 → Calls Tryz.prog 29 #[.pointer (some ⟨pb, 0, none⟩), .int .i64 (IntKind.i64.wrap (D + 1))] w' (RVRet w' pb bt cap ts n (valS n l')) := fun w' l' hp => by
            rw [show IntKind.i64.wrap (D + 1) = D + 1 by rw [IntKind.wrap_i64]; omega]; exact IH.out w' l' hp
          obtain ⟨lS, ES, S, K1, K2, K3, K4, K5⟩ := obj_key IHw x' y' l5 (HPa.out.fin.tail (by omega)) hk ns acc N' hct
          have MU := Lib.hid K1
          have VA := Lib.hid K2
          have HU := Lib.hid K3
          have HG := Lib.hid (And.intro K4 K5)
          have HNX2 := Lib.hid (fun w' hb => HNX.out (by omega) w' (HPa.out.below hb))
          have AL : Hid (∀ o, Below wr.heap.size wr (wr.alloc o).drew) := fun o => ((Below.refl _ _).alloc (Nat.le_refl _) _).drew
          have HPB := Lib.hid (fun w' (hb : Below wr.heap.size wr w') => (HPa.out.below hb).blk)
          rw [HPP'.out, HNN.out] at HPB
          obtain ⟨u0, u1, u2, u3, u4, u5⟩ := six_of hO.blk
          clear hk hO hgd hct IHw K1 K2 K3 K4 K5 IH HNX
          generalize x'.m = M' at *
          generalize x'.e = E' at *
          generalize x'.p = Q'' at *
          generalize x'.t = T' at *
          have hPl : (P' : Int) ≤ 1000000 := by omega
          go_wp2_with fail
          go_region
          go_upto_region 41 with (first
            | (go_at_call 38; (with_reducible refine (HA.out _ (AL.out _)).mono ?_); rintro e1 w2 ⟨rfl, hb2⟩; have hbw2 : Below wr.heap.size wr w2 := (AL.out _).trans (hb2.mono (AL.out _).size); have hb2s := hb2.size; simp at hb2s; have tb2 : w2.heap[wr.heap.size]? = some (.cells #[.int .i64 2, .string ⟨T'.toArray⟩, .int .i64 M', .int .i64 E', .int .i64 Q''] 62 (0, 0)) := (hb2.block _ (by simp)).trans (heap_alloc_new wr _); obtain ⟨p0, p1, p2⟩ := three_of (HPB.out w2 hbw2); have pf1 := free_of (HPB.out w2 hbw2) 1; have hlp : pb < w2.heap.size := (by omega); have hP3 := HNX2.out w2 hbw2; have hc3 : Chg (fun k => k = pb) wr (w2.setCell ⟨pb, 1, none⟩ (.int .i64 ((P' : Int) + 1))) := Chg.setCell (X := fun k => k = pb) (.of_below hbw2) (p := ⟨pb, 1, none⟩) (.inl rfl) _)
            | (go_at_call 52; (with_reducible refine (MU.out _ hP3).mono ?_); rintro e4 w4 ⟨rfl, hP4, hc4⟩; have hcw4 := hc3.trans hc4; have hs4 := hc4.size; simp [World.setCell] at hs4; have tb4 := (hc4.block wr.heap.size (by simp [World.setCell]; omega) (by omega)).trans ((Below.heap_setCell _ _ _ _ (by show wr.heap.size ≠ pb; omega)).trans tb2); have tc := box_at (Below.refl w4.heap.size w4) tb4 (Own.block_lt tb4) 1; simp at tc; have hlt4 := Own.block_lt tb4; have HO4 := Lib.hid (HO.out.chgR hcw4 (by omega) (by omega)); have HF4 := Lib.hid (HF.out.chgR hpl hcw4); have HP4 := Lib.hid hP4; obtain ⟨y0, y1, y2, y3, y4, y5⟩ := six_of HO4.out.blk; have yf4 := free_of HO4.out.blk 4; have hbl4 : w.heap.size + 2 < w4.heap.size := (by omega); have HNV : Hid (some (w.heap.size + 2) ≠ (Value.slice ano ns.length capn).ownBlock) := (fun h => by have := (HO4.out.nrow.lt _ h.symm).1; omega); clear hP4 hc4 tb2 tb4 p0 p1 p2 pf1 hP3)
            | (at_builtin; (refine wpList_append_lies _ rfl _ _ 24 rfl (w.heap.size + 3) 9 i9 _ 1 16 Tryz.underlying24 hi9 hx0 hx1 hx2 rfl (by omega) _ ns.length (ns.map strW) rfl (HO4.out.nrow.alloc _) ⟨w4.heap.size, 0, none⟩ 1 1 [.string ⟨T'.toArray⟩] rfl rfl (World.news_of_block (cs := #[.string ⟨T'.toArray⟩]) (t := 9) (fr := (0, 0)) (heap_alloc_new _ _)) (by simp [Value.oneCell']) (by omega) (by unfold maxLen; omega) (by omega) (by simp; omega) (w4.heap.size + 1) (by simp) ?_); intro g cp w5 hown hgrow hat hlt; have k4 := (hgrow.cell_far ⟨w.heap.size + 2, 4, none⟩ (by simp; omega) HNV.out).trans ((World.cell?_of_block (w := w4) (a := ⟨w.heap.size + 2, 4, none⟩) (Below.heap_alloc _ _ _ hbl4)).trans y4); have kf := (hgrow.frozen_far ⟨w.heap.size + 2, 4, none⟩ (by simp; omega) HNV.out).trans ((World.frozen?_of_block (w := w4) (a := ⟨w.heap.size + 2, 4, none⟩) (Below.heap_alloc _ _ _ hbl4)).trans yf4)))
          obtain ⟨hP6, hF6, hV6⟩ := name_leaves hpl htl HF4.out HO4.out HP4.out ((Below.refl w4.heap.size w4).alloc (Nat.le_refl _) _) hgrow (hat.imp id (fun h => by omega)) HTX.out hown
          clear hown hgrow hat hlt k4 kf yf4 y0 y1 y2 y3 y4 y5 HF4 HO4 HP4 tc hlt4 hbl4 HNV hcw4 hc3 hbw2 hb2 hb2s hs4
          change Code.wp _ _ _ _ (w5.setCell ⟨w.heap.size + 2, 4, none⟩ _)
          generalize w5.setCell ⟨w.heap.size + 2, 4, none⟩ (.slice (some ⟨g, 0, none⟩) (ns.length + 1) cp) = w6 at *
          obtain ⟨nv6, iv6, vs6, hO6⟩ := hV6
          have hsz6 := hF6.sz
          have hblw6 : w.heap.size + 2 < w6.heap.size := by omega
          have hblw6' : w.heap.size + 1 + 1 < w6.heap.size := by omega
          obtain ⟨ao2, cap2, rfl⟩ := own_slice hO6.irow
          obtain ⟨y0, y1, y2, y3, y4, y5⟩ := six_of hO6.blk
          have HO6 := Lib.hid hO6
          have HF6 := Lib.hid hF6
          have IC := Lib.hid (VA.out w6.drew (hP6.below (Below.refl _ _).drew))
          unfold RVRet at IC
          obtain ⟨er, j, l3⟩ := S
          simp only at IC HG HU
          obtain ⟨z, l4, rfl⟩ := ex_cons HG.out.1
          clear hO6 hF6 hP6 VA MU q0 q1 q2 qf1 qf2 x0 x1 x2 x3 x4 u0 u1 u2 u3 u4 u5 hres HST HA AL HPB HNX2 hle j1 hbr HO HF HB7 HV HTX hsz hblw hblw' hlw0 hPl
          have HPL := Lib.hid (And.intro hpos (And.intro hlen hN))
          clear hpos hlen hN HPP' HPP HK2 hlp hpr hnpb hpl'
          go_cut [177] from 177 to 185 (fun _ wx => Hid (QI w pb bt cap ts n (ns ++ [T']) acc ⟨er, j, z :: l4⟩ wx))
          case first =>
            go_region_law (first
              | (go_simp; go_at_call 29; (with_reducible refine (IC.out).mono ?_); rintro e3 w3 ⟨k3, m3, e3', t3, an3, nn3, cn3, ai3, ni3, ci3, rfl, hP3, hc3, hJ3⟩; have hc3' : Chg (fun k => k = pb) w6 w3 := (Chg.of_below ((Below.refl _ _).drew)).trans hc3; have hs3 := hc3'.size; have hl3 : w.heap.size + 2 < w3.heap.size := (by omega); have hl3' : w.heap.size + 1 + 1 < w3.heap.size := (by omega); have HO3 := Lib.hid (HO6.out.chgR hc3' (by omega) (by omega)); have y5' := (six_of HO3.out.blk).2.2.2.2.2; have yf := free_of HO3.out.blk 5; have HNE := Lib.hid HO3.out.ine; have HP3 := Lib.hid hP3; have HC3 := Lib.hid hc3'; have HJ3 := Lib.hid hJ3; clear hP3 hc3 hc3' hJ3)
              | (refine step_append_lies _ (by rfl) _ _ _ (by rfl) (w.heap.size + 3) 27 i0 _ 6 88 Tryz.underlying25 hi0 hz0 hz1 hz2 rfl (by omega) _ acc.length (vs6.flatMap aggC) (by rfl) (HO3.out.irow.alloc _) ⟨w3.heap.size, 0, none⟩ 1 1 [.int .i64 k3, .int .i64 m3, .int .i64 e3', .string t3, .slice an3 nn3 cn3, .slice ai3 ni3 ci3] (by rfl) (by rfl) (World.news_of_block (cs := #[.int .i64 k3, .int .i64 m3, .int .i64 e3', .string t3, .slice an3 nn3 cn3, .slice ai3 ni3 ci3]) (t := 27) (fr := (0, 0)) (heap_alloc_new _ _)) (by simp [Value.oneCell']) (by omega) (by unfold maxLen; omega) (by omega) (by simp; omega) (w3.heap.size + 1) (by simp) ?_; intro g cp w4 hown hgrow hat hlt; have k5 := (hgrow.cell_far ⟨w.heap.size + 2, 5, none⟩ (by simp; omega) (fun h => HNE.out h.symm)).trans ((World.cell?_of_block (w := w3) (a := ⟨w.heap.size + 2, 5, none⟩) (Below.heap_alloc _ _ _ (by show w.heap.size + 2 < w3.heap.size; omega))).trans y5'); have kf := (hgrow.frozen_far ⟨w.heap.size + 2, 5, none⟩ (by simp; omega) (fun h => HNE.out h.symm)).trans ((World.frozen?_of_block (w := w3) (a := ⟨w.heap.size + 2, 5, none⟩) (Below.heap_alloc _ _ _ (by show w.heap.size + 2 < w3.heap.size; omega))).trans yf)))
            all_goals go_wp2_with fail
            all_goals go_meet
            all_goals
              obtain ⟨hP5, hF5, hB5⟩ := item_leaves (g := g) (cp := cp) hpl htl HF6.out HO6.out HC3.out HP3.out ((Below.refl w3.heap.size w3).alloc (Nat.le_refl _) _) hgrow
              exact ⟨hP5, hF5, hB5, fun he => item_makes hpl HF6.out HO6.out HC3.out ((Below.refl w3.heap.size w3).alloc (Nat.le_refl _) _) hgrow (hat.imp id (fun h => by omega)) hown (HJ3.out he)⟩
          case rest =>
            have HQ := hcut
            generalize wc = w5x at *
            have HF5 := Lib.hid HQ.out.pf
            have HB5 := Lib.hid HQ.out.blk
            have I44 := Lib.hid (is_any HQ.out.pa 44 ⟨#[44]⟩ rfl)
            have hg3 := HG.out.2
            have HV5' := Lib.hid HQ.out.pv
            clear HQ hcut HO6 HF6 y0 y1 y2 y3 y4 y5 IC
            by_cases he : er = 0
            · subst he
              have HV5 : Hid (PV w n 7 (ns ++ [T']) (acc ++ [j]) w5x) := HV5'.out rfl
              clear HV5'
              have hg4 := hg3 rfl
              cases h44 : sgB z 44 with
              | true =>
                rw [h44] at I44
                simp only [decide_true, Bool.and_self, if_true] at I44
                have h93 := sg_apart h44 (show (44 : UInt8) ≠ 125 by decide)
                have HR2 : Hid (RR = objL (valS n) N' (ns ++ [T']) (acc ++ [j]) l4) := by
                  show _ = _
                  rw [HR.out, HU.out, if_pos rfl]
                  unfold moreS
                  simp only
                  rw [if_neg (by rw [h93]; decide), if_pos h44]
                go_wp2_with (go_at_call 51; (with_reducible refine (I44.out).mono ?_); rintro e8 w8 ⟨rfl, hP8, hc8⟩)
                have hp6 := hP8.pos
                obtain ⟨hpos, hlen, hN⟩ := HPL.out
                go_roundw
                case rel => exact .inl ⟨N', ns ++ [T'], acc ++ [j], l4, rfl, hP8, HF5.out.chgR hpl hc8, HV5.out.chgR hpl hc8, HR2, by simp at hg4 hN; omega, by simp at hg4 hlen ⊢; omega, by have := HNL.out; simp; omega⟩
                case measure => simp only [dnN]; rw [hp6, hpos]; simp at hg4 ⊢; omega
              | false =>
                rw [h44] at I44
                simp only [Bool.and_false, Bool.false_eq_true, if_false] at I44
                cases h93 : sgB z 125 with
                | true =>
                  have HR2 : Hid (RR = ⟨0, .mk 7 0 0 [] (ns ++ [T']) (acc ++ [j]), l4⟩) := by
                    show _ = _
                    rw [HR.out, HU.out, if_pos rfl]
                    unfold moreS
                    simp only
                    rw [if_pos h93]
                  go_wp2_with (first
                    | (go_at_call 51; (with_reducible refine (I44.out).mono ?_); rintro e8 w8 ⟨rfl, hP8, hc8⟩; have M93 := must_any hP8 125 ⟨#[125]⟩ rfl; unfold mustE at M93; rw [h93, if_pos rfl, if_pos rfl] at M93; simp only [decide_true, Bool.and_self, if_true] at M93; have HM := Lib.hid M93; clear M93)
                    | (go_at_call 52; (with_reducible refine (HM.out).mono ?_); rintro e9 w9 ⟨rfl, hP9, hc9⟩))
                  obtain ⟨hpos, hlen, hN⟩ := HPL.out
                  go_roundw
                  case rel =>
                    refine .inr ⟨rfl, ?_⟩
                    show PE _ _ _ _ _ _ _ _ _
                    have hc67 := hc8.trans hc9
                    have hV7 := HV5.out.chgR hpl hc67
                    rw [HR2.out]
                    exact ⟨hP9, HF5.out.chgR hpl hc67, hV7.pb, fun _ => hV7.pj ⟨by decide, by decide⟩ (by have := HNL.out; simp at hlen ⊢; have := HNN.out; omega) (by simp at hlen ⊢; have := HNN.out; omega)⟩
                  case measure => simp only [dnN]; omega
                | false =>
                  have HR2 : Hid (RR = ⟨40, j0, z :: l4⟩) := by
                    show _ = _
                    rw [HR.out, HU.out, if_pos rfl]
                    unfold moreS
                    simp only
                    rw [if_neg (by rw [h93]; decide), if_neg (by rw [h44]; decide)]
                  go_wp2_with (first
                    | (go_at_call 51; (with_reducible refine (I44.out).mono ?_); rintro e8 w8 ⟨rfl, hP8, hc8⟩; have M93 := must_any hP8 125 ⟨#[125]⟩ rfl; unfold mustE at M93; rw [h93, if_pos rfl, if_neg (by decide)] at M93; simp only [Bool.and_false, Bool.false_eq_true, if_false] at M93; have HM := Lib.hid M93; clear M93)
                    | (go_at_call 52; (with_reducible refine (HM.out).mono ?_); rintro e9 w9 ⟨rfl, hP9, hc9⟩))
                  obtain ⟨hpos, hlen, hN⟩ := HPL.out
                  go_roundw
                  case rel =>
                    refine .inr ⟨rfl, ?_⟩
                    show PE _ _ _ _ _ _ _ _ _
                    have hc67 := hc8.trans hc9
                    rw [HR2.out]
                    exact ⟨hP9, HF5.out.chgR hpl hc67, HB5.out.chgR hpl hc67, fun h => absurd (show (40 : Int) = 0 from h) (by decide)⟩
                  case measure => simp only [dnN]; omega
            · have HR2 : Hid (RR = ⟨er, j0, z :: l4⟩) := by
                show _ = _
                rw [HR.out, HU.out, if_neg he]
              rw [decide_eq_false he] at I44
              simp only [Bool.false_and, Bool.false_eq_true, if_false] at I44
              have HER := Lib.hid he
              clear HV5'
              go_wp2_with (first
                | (go_at_call 51; (with_reducible refine (I44.out).mono ?_); rintro e8 w8 ⟨rfl, hP8, hc8⟩; have M93 := must_any hP8 125 ⟨#[125]⟩ rfl; unfold mustE at M93; rw [if_neg HER.out, decide_eq_false HER.out] at M93; simp only [Bool.false_and, Bool.false_eq_true, if_false] at M93; have HM := Lib.hid M93; clear M93)
                | (go_at_call 52; (with_reducible refine (HM.out).mono ?_); rintro e9 w9 ⟨rfl, hP9, hc9⟩))
              obtain ⟨hpos, hlen, hN⟩ := HPL.out
              go_roundw
              case rel =>
                refine .inr ⟨rfl, ?_⟩
                show PE _ _ _ _ _ _ _ _ _
                have hc67 := hc8.trans hc9
                rw [HR2.out]
                exact ⟨hP9, HF5.out.chgR hpl hc67, HB5.out.chgR hpl hc67, fun h => absurd h HER.out⟩
              case measure => simp only [dnN]; omega
      · have hne : ((x'.k : Int) != 2) = true := by simp; omega
        have HRE := Lib.hid (HR.out.trans (obj_no hk))
        obtain ⟨a, nn, c, a', nn', c', b1, b2, b3, hfin⟩ := brk (n := n + 1) hpl htl HPa.out HF.out HB7.out (Below.refl wr.heap.size wr) 40 (by decide)
        rw [← HRE.out] at hfin
        have HFIN := Lib.hid hfin
        unfold zero6 at b2
        obtain ⟨v0, v1, v2, v3, v4, v5⟩ := six_of b1
        obtain ⟨z0, z1, z2, z3, z4, z5⟩ := six_of b2
        have g0 := free_of b2 0
        have g1 := free_of b2 1
        have g2 := free_of b2 2
        have g3 := free_of b2 3
        have g4 := free_of b2 4
        have g5 := free_of b2 5
        have hnz : ¬ w.heap.size = pb := by omega
        have hnz2 : ¬ pb = w.heap.size := by omega
        clear hfin b1 b2 b3 hk hO hgd IH
        generalize x'.k = K' at *
        generalize x'.m = M' at *
        generalize x'.e = E' at *
        generalize x'.p = Q'' at *
        generalize x'.t = T' at *
        go_wp2_with fail
        go_region
        go_wp2_with fail
        refine bodyPost_ret (v := .agg #[.int .i64 7, .int .i64 0, .int .i64 0, .string ⟨#[]⟩, .slice a nn c, .slice a' nn' c']) (by simp [results, Tryz.results29, go_sem, z0, z1, z2, z3, z4, z5, hlw0, hnz, hnz2, Nat.ne_of_lt hlw0]) rfl ?_
        exact (HFIN.out _ _ _ _ _ _).below ((Below.refl _ _).alloc (Nat.le_refl _) _).drew
    · obtain ⟨a, nn, c, a', nn', c', hb, hfin⟩ := HE.out.fin hpl htl
      obtain ⟨y0, y1, y2, y3, y4, y5⟩ := six_of hb
      have hres := HE.out.pf.bres
      unfold zero6 at hres
      obtain ⟨z0, z1, z2, z3, z4, z5⟩ := six_of hres
      have g0 := free_of hres 0
      have g1 := free_of hres 1
      have g2 := free_of hres 2
      have g3 := free_of hres 3
      have g4 := free_of hres 4
      have g5 := free_of hres 5
      have HFIN := Lib.hid hfin
      have hlb := Own.block_lt hb
      clear hfin hb hres HE IH
      go_wp2_with fail
      refine bodyPost_ret (v := .agg #[.int .i64 7, .int .i64 0, .int .i64 0, .string ⟨#[]⟩, .slice a nn c, .slice a' nn' c']) (by simp [results, Tryz.results29, go_sem, z0, z1, z2, z3, z4, z5]) rfl ?_
      exact HFIN.out _ _ _ _ _ _
end Go.Proofs.YtmlpefpjemiccaaGreatDoor.Js
