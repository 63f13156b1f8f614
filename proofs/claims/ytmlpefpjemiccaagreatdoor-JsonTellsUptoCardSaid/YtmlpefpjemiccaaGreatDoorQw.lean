import Derived.Test.YtmlpefpjemiccaaGreatDoorQv
import Derived.RegionTactic
import Derived.BigRegion
/- The document's Parser: value but for arrays and objects. -/
set_option linter.unusedVariables false
set_option linter.unusedSimpArgs false
namespace Go.Proofs.YtmlpefpjemiccaaGreatDoor.Js
open Go.RowKit Lex

set_option maxHeartbeats 4000000 in
set_option maxRecDepth 100000 in
theorem rvalue_err {w : World} {pb bt cap : Nat} {ts l : List Tok} {E : Int} (h : Pa w pb bt cap ts l E) (hE : E ≠ 0) (D : Int) :
    Calls Tryz.prog 29 #[.pointer (some ⟨pb, 0, none⟩), .int .i64 D] w fun e w' => e = .returned (.agg #[.int .i64 0, .int .i64 0, .int .i64 0, .string ⟨#[]⟩, .slice none 0 0, .slice none 0 0]) ∧ Below w.heap.size w w' := by
  obtain ⟨r0, r1, r2⟩ := three_of h.blk
  have hpl := h.lt
  have hne : (E != 0) = true := by simpa using hE
  have hB := fun o => ((Below.refl w.heap.size w).alloc (Nat.le_refl _) o)
  have HB := Lib.hid hB
  clear h hE hB
  go_enter Tryz.func29, Tryz.ntmps29
  go_wp2_with fail
  exact bodyPost_ret (v := .agg #[.int .i64 0, .int .i64 0, .int .i64 0, .string ⟨#[]⟩, .slice none 0 0, .slice none 0 0]) (by simp [results, Tryz.results29, go_sem]) rfl ⟨rfl, HB.out _⟩
/-- What a value leaves that is told by one token. -/
theorem rv_done {w W0 : World} {pb bt cap n : Nat} {ts : List Tok} {r : R} {k m e : Int} {t : ByteArray} {a a' : Option Addr} {nn c nn' c' : Nat} (hP : Pa W0 pb bt cap ts r.l r.er) (hc : Chg (· = pb) w W0)
    (hJ : r.er = 0 → ∀ w', JAt (fun b => w.heap.size ≤ b) w' n (.agg #[.int .i64 k, .int .i64 m, .int .i64 e, .string t, .slice a nn c, .slice a' nn' c']) r.j) (o1 o2 : Obj) :
    RVRet w pb bt cap ts n r (.returned (.agg #[.int .i64 k, .int .i64 m, .int .i64 e, .string t, .slice a nn c, .slice a' nn' c'])) ((W0.alloc o1).alloc o2).drew := by
  have hb : Below W0.heap.size W0 ((W0.alloc o1).alloc o2).drew := (((Below.refl _ _).alloc (Nat.le_refl _) _).alloc (by simp) _).drew
  exact ⟨_, _, _, _, _, _, _, _, _, _, rfl, hP.below hb, hc.trans (.of_below hb), fun he => hJ he _⟩
set_option maxHeartbeats 4000000 in
set_option maxRecDepth 100000 in
theorem rvalue_five {w : World} {pb bt cap : Nat} {ts l : List Tok} {x : Tok} (h : Pa w pb bt cap ts (x :: l) 0) (hx : x.k = 5) (D : Int)  (n : Nat) :
    Calls Tryz.prog 29 #[.pointer (some ⟨pb, 0, none⟩), .int .i64 D] w (RVRet w pb bt cap ts n ⟨40, j0, x :: l⟩) := by
  have HP := Lib.hid h
  obtain ⟨x0, x1, x2, x3, x4⟩ := h.here
  obtain ⟨r0, r1, r2⟩ := three_of h.blk
  have pf := free_of h.blk 2
  have pf1 := free_of h.blk 1
  have hpl := h.lt
  have htl := h.blt
  have hle := h.at_.1
  have i1 : ((ts.length - (x :: l).length : Nat) : Int) < (ts.length : Int) := by omega
  have hln := h.len
  rw [hx] at x0
  clear h
  obtain ⟨P, HPP⟩ : ∃ P, Hid (ts.length - (x :: l).length = P) := ⟨_, rfl⟩
  rw [HPP.out] at hle i1 r1 x0 x1 x2 x3 x4
  obtain ⟨NN, HNN⟩ : ∃ N, Hid (ts.length = N) := ⟨_, rfl⟩
  rw [HNN.out] at i1 hln hle r0
  generalize x.t = T at *
  generalize x.m = M at *
  generalize x.e = EE at *
  generalize x.p = Q at *
  go_enter Tryz.func29, Tryz.ntmps29
  go_wp2_with fail
  go_region
  all_goals go_wp2_with fail
  exact bodyPost_ret (v := .agg #[.int .i64 0, .int .i64 0, .int .i64 0, .string ⟨#[]⟩, .slice none 0 0, .slice none 0 0]) (by simp [results, Tryz.results29, go_sem]) rfl (rv_done (HP.out.err 40) (Chg.setCell (X := fun k => k = pb) (Chg.refl _ w) (p := ⟨pb, 2, none⟩) (.inl rfl) _) (fun h => absurd (show (40 : Int) = 0 from h) (by decide)) _ _)
set_option maxHeartbeats 4000000 in
set_option maxRecDepth 100000 in
theorem rvalue_sign {w : World} {pb bt cap : Nat} {ts l : List Tok} {x : Tok} (h : Pa w pb bt cap ts (x :: l) 0) (hx : x.k = 1) {c : UInt8} (hc : x.t = [c]) (h1 : c ≠ 91) (h2 : c ≠ 123) (D : Int)  (n : Nat) :
    Calls Tryz.prog 29 #[.pointer (some ⟨pb, 0, none⟩), .int .i64 D] w (RVRet w pb bt cap ts n ⟨40, j0, x :: l⟩) := by
  have HP := Lib.hid h
  obtain ⟨x0, x1, x2, x3, x4⟩ := h.here
  obtain ⟨r0, r1, r2⟩ := three_of h.blk
  have pf := free_of h.blk 2
  have pf1 := free_of h.blk 1
  have hpl := h.lt
  have htl := h.blt
  have hle := h.at_.1
  have i1 : ((ts.length - (x :: l).length : Nat) : Int) < (ts.length : Int) := by omega
  have hln := h.len
  rw [hx] at x0
  rw [hc] at x1
  have e1 : ([c] == [(91 : UInt8)]) = false := by simpa using h1
  have e2 : ([c] == [(123 : UInt8)]) = false := by simpa using h2
  clear h
  obtain ⟨P, HPP⟩ : ∃ P, Hid (ts.length - (x :: l).length = P) := ⟨_, rfl⟩
  rw [HPP.out] at hle i1 r1 x0 x1 x2 x3 x4
  obtain ⟨NN, HNN⟩ : ∃ N, Hid (ts.length = N) := ⟨_, rfl⟩
  rw [HNN.out] at i1 hln hle r0
  generalize x.m = M at *
  generalize x.e = EE at *
  generalize x.p = Q at *
  go_enter Tryz.func29, Tryz.ntmps29
  go_wp2_with fail
  go_region
  all_goals go_wp2_with fail
  exact bodyPost_ret (v := .agg #[.int .i64 0, .int .i64 0, .int .i64 0, .string ⟨#[]⟩, .slice none 0 0, .slice none 0 0]) (by simp [results, Tryz.results29, go_sem]) rfl (rv_done (HP.out.err 40) (Chg.setCell (X := fun k => k = pb) (Chg.refl _ w) (p := ⟨pb, 2, none⟩) (.inl rfl) _) (fun h => absurd (show (40 : Int) = 0 from h) (by decide)) _ _)
set_option maxHeartbeats 4000000 in
set_option maxRecDepth 100000 in
theorem rdeep_text {w : World} {pb bt cap : Nat} {ts l : List Tok} {x : Tok} (h : Pa w pb bt cap ts (x :: l) 0) (hx : x.k = 2) (D : Int) (hD : 16 < D) (n : Nat) :
    Calls Tryz.prog 29 #[.pointer (some ⟨pb, 0, none⟩), .int .i64 D] w (RVRet w pb bt cap ts n ⟨41, j0, x :: l⟩) := by
  have HP := Lib.hid h
  obtain ⟨x0, x1, x2, x3, x4⟩ := h.here
  obtain ⟨r0, r1, r2⟩ := three_of h.blk
  have pf := free_of h.blk 2
  have pf1 := free_of h.blk 1
  have hpl := h.lt
  have htl := h.blt
  have hle := h.at_.1
  have i1 : ((ts.length - (x :: l).length : Nat) : Int) < (ts.length : Int) := by omega
  have hln := h.len
  rw [hx] at x0
  clear h
  obtain ⟨P, HPP⟩ : ∃ P, Hid (ts.length - (x :: l).length = P) := ⟨_, rfl⟩
  rw [HPP.out] at hle i1 r1 x0 x1 x2 x3 x4
  obtain ⟨NN, HNN⟩ : ∃ N, Hid (ts.length = N) := ⟨_, rfl⟩
  rw [HNN.out] at i1 hln hle r0
  generalize x.t = T at *
  generalize x.m = M at *
  generalize x.e = EE at *
  generalize x.p = Q at *
  go_enter Tryz.func29, Tryz.ntmps29
  go_wp2_with fail
  go_region
  all_goals go_wp2_with fail
  exact bodyPost_ret (v := .agg #[.int .i64 0, .int .i64 0, .int .i64 0, .string ⟨#[]⟩, .slice none 0 0, .slice none 0 0]) (by simp [results, Tryz.results29, go_sem]) rfl (rv_done (HP.out.err 41) (Chg.setCell (X := fun k => k = pb) (Chg.refl _ w) (p := ⟨pb, 2, none⟩) (.inl rfl) _) (fun h => absurd (show (41 : Int) = 0 from h) (by decide)) _ _)
set_option maxHeartbeats 4000000 in
set_option maxRecDepth 100000 in
theorem rdeep_num {w : World} {pb bt cap : Nat} {ts l : List Tok} {x : Tok} (h : Pa w pb bt cap ts (x :: l) 0) (hx : x.k = 3) (D : Int) (hD : 16 < D) (n : Nat) :
    Calls Tryz.prog 29 #[.pointer (some ⟨pb, 0, none⟩), .int .i64 D] w (RVRet w pb bt cap ts n ⟨41, j0, x :: l⟩) := by
  have HP := Lib.hid h
  obtain ⟨x0, x1, x2, x3, x4⟩ := h.here
  obtain ⟨r0, r1, r2⟩ := three_of h.blk
  have pf := free_of h.blk 2
  have pf1 := free_of h.blk 1
  have hpl := h.lt
  have htl := h.blt
  have hle := h.at_.1
  have i1 : ((ts.length - (x :: l).length : Nat) : Int) < (ts.length : Int) := by omega
  have hln := h.len
  rw [hx] at x0
  clear h
  obtain ⟨P, HPP⟩ : ∃ P, Hid (ts.length - (x :: l).length = P) := ⟨_, rfl⟩
  rw [HPP.out] at hle i1 r1 x0 x1 x2 x3 x4
  obtain ⟨NN, HNN⟩ : ∃ N, Hid (ts.length = N) := ⟨_, rfl⟩
  rw [HNN.out] at i1 hln hle r0
  generalize x.t = T at *
  generalize x.m = M at *
  generalize x.e = EE at *
  generalize x.p = Q at *
  go_enter Tryz.func29, Tryz.ntmps29
  go_wp2_with fail
  go_region
  all_goals go_wp2_with fail
  exact bodyPost_ret (v := .agg #[.int .i64 0, .int .i64 0, .int .i64 0, .string ⟨#[]⟩, .slice none 0 0, .slice none 0 0]) (by simp [results, Tryz.results29, go_sem]) rfl (rv_done (HP.out.err 41) (Chg.setCell (X := fun k => k = pb) (Chg.refl _ w) (p := ⟨pb, 2, none⟩) (.inl rfl) _) (fun h => absurd (show (41 : Int) = 0 from h) (by decide)) _ _)
set_option maxHeartbeats 4000000 in
set_option maxRecDepth 100000 in
theorem rdeep_word {w : World} {pb bt cap : Nat} {ts l : List Tok} {x : Tok} (h : Pa w pb bt cap ts (x :: l) 0) (hx : x.k = 4) (D : Int) (hD : 16 < D) (n : Nat) :
    Calls Tryz.prog 29 #[.pointer (some ⟨pb, 0, none⟩), .int .i64 D] w (RVRet w pb bt cap ts n ⟨41, j0, x :: l⟩) := by
  have HP := Lib.hid h
  obtain ⟨x0, x1, x2, x3, x4⟩ := h.here
  obtain ⟨r0, r1, r2⟩ := three_of h.blk
  have pf := free_of h.blk 2
  have pf1 := free_of h.blk 1
  have hpl := h.lt
  have htl := h.blt
  have hle := h.at_.1
  have i1 : ((ts.length - (x :: l).length : Nat) : Int) < (ts.length : Int) := by omega
  have hln := h.len
  rw [hx] at x0
  clear h
  obtain ⟨P, HPP⟩ : ∃ P, Hid (ts.length - (x :: l).length = P) := ⟨_, rfl⟩
  rw [HPP.out] at hle i1 r1 x0 x1 x2 x3 x4
  obtain ⟨NN, HNN⟩ : ∃ N, Hid (ts.length = N) := ⟨_, rfl⟩
  rw [HNN.out] at i1 hln hle r0
  generalize x.t = T at *
  generalize x.m = M at *
  generalize x.e = EE at *
  generalize x.p = Q at *
  go_enter Tryz.func29, Tryz.ntmps29
  go_wp2_with fail
  go_region
  all_goals go_wp2_with fail
  exact bodyPost_ret (v := .agg #[.int .i64 0, .int .i64 0, .int .i64 0, .string ⟨#[]⟩, .slice none 0 0, .slice none 0 0]) (by simp [results, Tryz.results29, go_sem]) rfl (rv_done (HP.out.err 41) (Chg.setCell (X := fun k => k = pb) (Chg.refl _ w) (p := ⟨pb, 2, none⟩) (.inl rfl) _) (fun h => absurd (show (41 : Int) = 0 from h) (by decide)) _ _)
set_option maxHeartbeats 4000000 in
set_option maxRecDepth 100000 in
theorem rdeep_arr {w : World} {pb bt cap : Nat} {ts l : List Tok} {x : Tok} (h : Pa w pb bt cap ts (x :: l) 0) (hx : x.k = 1) (hc : x.t = [91]) (D : Int) (hD : 16 < D) (n : Nat) :
    Calls Tryz.prog 29 #[.pointer (some ⟨pb, 0, none⟩), .int .i64 D] w (RVRet w pb bt cap ts n ⟨41, j0, x :: l⟩) := by
  have HP := Lib.hid h
  obtain ⟨x0, x1, x2, x3, x4⟩ := h.here
  obtain ⟨r0, r1, r2⟩ := three_of h.blk
  have pf := free_of h.blk 2
  have pf1 := free_of h.blk 1
  have hpl := h.lt
  have htl := h.blt
  have hle := h.at_.1
  have i1 : ((ts.length - (x :: l).length : Nat) : Int) < (ts.length : Int) := by omega
  have hln := h.len
  rw [hx] at x0
  rw [hc] at x1
  clear h
  obtain ⟨P, HPP⟩ : ∃ P, Hid (ts.length - (x :: l).length = P) := ⟨_, rfl⟩
  rw [HPP.out] at hle i1 r1 x0 x1 x2 x3 x4
  obtain ⟨NN, HNN⟩ : ∃ N, Hid (ts.length = N) := ⟨_, rfl⟩
  rw [HNN.out] at i1 hln hle r0
  generalize x.m = M at *
  generalize x.e = EE at *
  generalize x.p = Q at *
  go_enter Tryz.func29, Tryz.ntmps29
  go_wp2_with fail
  go_region
  all_goals go_wp2_with fail
  exact bodyPost_ret (v := .agg #[.int .i64 0, .int .i64 0, .int .i64 0, .string ⟨#[]⟩, .slice none 0 0, .slice none 0 0]) (by simp [results, Tryz.results29, go_sem]) rfl (rv_done (HP.out.err 41) (Chg.setCell (X := fun k => k = pb) (Chg.refl _ w) (p := ⟨pb, 2, none⟩) (.inl rfl) _) (fun h => absurd (show (41 : Int) = 0 from h) (by decide)) _ _)
set_option maxHeartbeats 4000000 in
set_option maxRecDepth 100000 in
theorem rdeep_obj {w : World} {pb bt cap : Nat} {ts l : List Tok} {x : Tok} (h : Pa w pb bt cap ts (x :: l) 0) (hx : x.k = 1) (hc : x.t = [123]) (D : Int) (hD : 16 < D) (n : Nat) :
    Calls Tryz.prog 29 #[.pointer (some ⟨pb, 0, none⟩), .int .i64 D] w (RVRet w pb bt cap ts n ⟨41, j0, x :: l⟩) := by
  have HP := Lib.hid h
  obtain ⟨x0, x1, x2, x3, x4⟩ := h.here
  obtain ⟨r0, r1, r2⟩ := three_of h.blk
  have pf := free_of h.blk 2
  have pf1 := free_of h.blk 1
  have hpl := h.lt
  have htl := h.blt
  have hle := h.at_.1
  have i1 : ((ts.length - (x :: l).length : Nat) : Int) < (ts.length : Int) := by omega
  have hln := h.len
  rw [hx] at x0
  rw [hc] at x1
  clear h
  obtain ⟨P, HPP⟩ : ∃ P, Hid (ts.length - (x :: l).length = P) := ⟨_, rfl⟩
  rw [HPP.out] at hle i1 r1 x0 x1 x2 x3 x4
  obtain ⟨NN, HNN⟩ : ∃ N, Hid (ts.length = N) := ⟨_, rfl⟩
  rw [HNN.out] at i1 hln hle r0
  generalize x.m = M at *
  generalize x.e = EE at *
  generalize x.p = Q at *
  go_enter Tryz.func29, Tryz.ntmps29
  go_wp2_with fail
  go_region
  all_goals go_wp2_with fail
  exact bodyPost_ret (v := .agg #[.int .i64 0, .int .i64 0, .int .i64 0, .string ⟨#[]⟩, .slice none 0 0, .slice none 0 0]) (by simp [results, Tryz.results29, go_sem]) rfl (rv_done (HP.out.err 41) (Chg.setCell (X := fun k => k = pb) (Chg.refl _ w) (p := ⟨pb, 2, none⟩) (.inl rfl) _) (fun h => absurd (show (41 : Int) = 0 from h) (by decide)) _ _)
set_option maxHeartbeats 4000000 in
set_option maxRecDepth 100000 in
theorem rleaf_text {w : World} {pb bt cap : Nat} {ts l : List Tok} {x : Tok} (h : Pa w pb bt cap ts (x :: l) 0) (hx : x.k = 2) (D : Int) (hD : D ≤ 16) (n : Nat) :
    Calls Tryz.prog 29 #[.pointer (some ⟨pb, 0, none⟩), .int .i64 D] w (RVRet w pb bt cap ts (n + 1) ⟨0, begunS x, l⟩) := by
  have HP := Lib.hid h
  obtain ⟨x0, x1, x2, x3, x4⟩ := h.here
  obtain ⟨r0, r1, r2⟩ := three_of h.blk
  have pf := free_of h.blk 2
  have pf1 := free_of h.blk 1
  have hpl := h.lt
  have htl := h.blt
  have hle := h.at_.1
  have i1 : ((ts.length - (x :: l).length : Nat) : Int) < (ts.length : Int) := by omega
  have hln := h.len
  have HJ : Hid (∀ w', JAt (fun b => w.heap.size ≤ b) w' (n + 1) (.agg #[.int .i64 5, .int .i64 0, .int .i64 0, .string ⟨x.t.toArray⟩, .slice none 0 0, .slice none 0 0]) (begunS x)) := fun w' => by
    have := begun_jat (S := fun b => w.heap.size ≤ b) (w := w') (d := n) (h.good x (h.suf.mem (by simp)))
    unfold begunV bareV at this
    have hb : begunS x = .mk 5 0 0 x.t [] [] := by unfold begunS; rw [if_pos hx]
    rw [hb] at this ⊢
    exact this
  have HN := Lib.hid (h.next (x := x) (by omega))
  rw [hx] at x0
  clear h
  obtain ⟨P, HPP⟩ : ∃ P, Hid (ts.length - (x :: l).length = P) := ⟨_, rfl⟩
  rw [HPP.out] at hle i1 r1 x0 x1 x2 x3 x4
  obtain ⟨NN, HNN⟩ : ∃ N, Hid (ts.length = N) := ⟨_, rfl⟩
  rw [HNN.out] at i1 hln hle r0
  rw [HPP.out] at HN
  generalize x.t = T at *
  generalize x.m = M at *
  generalize x.e = EE at *
  generalize x.p = Q at *
  go_enter Tryz.func29, Tryz.ntmps29
  go_wp2_with fail
  go_region
  all_goals go_wp2_with fail
  exact bodyPost_ret (v := .agg #[.int .i64 5, .int .i64 0, .int .i64 0, .string ⟨T.toArray⟩, .slice none 0 0, .slice none 0 0]) (by simp [results, Tryz.results29, go_sem]) rfl (rv_done HN.out (Chg.setCell (X := fun k => k = pb) (Chg.refl _ w) (p := ⟨pb, 1, none⟩) (.inl rfl) _) (fun _ w' => HJ.out w') _ _)
set_option maxHeartbeats 4000000 in
set_option maxRecDepth 100000 in
theorem rleaf_num {w : World} {pb bt cap : Nat} {ts l : List Tok} {x : Tok} (h : Pa w pb bt cap ts (x :: l) 0) (hx : x.k = 3) (D : Int) (hD : D ≤ 16) (n : Nat) :
    Calls Tryz.prog 29 #[.pointer (some ⟨pb, 0, none⟩), .int .i64 D] w (RVRet w pb bt cap ts (n + 1) ⟨0, begunS x, l⟩) := by
  have HP := Lib.hid h
  obtain ⟨x0, x1, x2, x3, x4⟩ := h.here
  obtain ⟨r0, r1, r2⟩ := three_of h.blk
  have pf := free_of h.blk 2
  have pf1 := free_of h.blk 1
  have hpl := h.lt
  have htl := h.blt
  have hle := h.at_.1
  have i1 : ((ts.length - (x :: l).length : Nat) : Int) < (ts.length : Int) := by omega
  have hln := h.len
  have HJ : Hid (∀ w', JAt (fun b => w.heap.size ≤ b) w' (n + 1) (.agg #[.int .i64 4, .int .i64 x.m, .int .i64 x.e, .string ⟨#[]⟩, .slice none 0 0, .slice none 0 0]) (begunS x)) := fun w' => by
    have := begun_jat (S := fun b => w.heap.size ≤ b) (w := w') (d := n) (h.good x (h.suf.mem (by simp)))
    unfold begunV bareV at this
    have hb : begunS x = .mk 4 x.m x.e [] [] [] := by unfold begunS; rw [if_neg (by omega), if_pos hx]
    rw [hb] at this ⊢
    exact this
  have HN := Lib.hid (h.next (x := x) (by omega))
  rw [hx] at x0
  clear h
  obtain ⟨P, HPP⟩ : ∃ P, Hid (ts.length - (x :: l).length = P) := ⟨_, rfl⟩
  rw [HPP.out] at hle i1 r1 x0 x1 x2 x3 x4
  obtain ⟨NN, HNN⟩ : ∃ N, Hid (ts.length = N) := ⟨_, rfl⟩
  rw [HNN.out] at i1 hln hle r0
  rw [HPP.out] at HN
  generalize x.t = T at *
  generalize x.m = M at *
  generalize x.e = EE at *
  generalize x.p = Q at *
  go_enter Tryz.func29, Tryz.ntmps29
  go_wp2_with fail
  go_region
  all_goals go_wp2_with fail
  exact bodyPost_ret (v := .agg #[.int .i64 4, .int .i64 M, .int .i64 EE, .string ⟨#[]⟩, .slice none 0 0, .slice none 0 0]) (by simp [results, Tryz.results29, go_sem]) rfl (rv_done HN.out (Chg.setCell (X := fun k => k = pb) (Chg.refl _ w) (p := ⟨pb, 1, none⟩) (.inl rfl) _) (fun _ w' => HJ.out w') _ _)
end Go.Proofs.YtmlpefpjemiccaaGreatDoor.Js
