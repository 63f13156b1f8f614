import Derived.Test.YthmblgfcjbiomaaRm
import Derived.Test.YthmblgfcjbiomaaYk
/- Chapter 12's example. -/
set_option linter.unusedVariables false
set_option linter.unusedSimpArgs false
namespace Go.Proofs.Ythmblgfcjbiomaa.Rt
open Go.RowKit Ly

/-- Three numbers by value. -/
def ArrZ (w : World) (v : Value) (z : Ed) : Prop := v = .agg #[.int .i64 z.1, .int .i64 z.2.1, .int .i64 z.2.2] ∧ i64B z.1 ∧ i64B z.2.1 ∧ i64B z.2.2
def esZ : List Ed := [(0, 1, 1), (1, 2, 1), (0, 2, 2)]
theorem right_z : RightL 3 esZ := by
  refine ⟨by decide, by decide, by decide, fun i hi => ?_⟩
  have hi' : i < 3 := hi
  have : i = 0 ∨ i = 1 ∨ i = 2 := by omega
  rcases this with rfl | rfl | rfl
  · exact ⟨by simp [EdgeOk, ate, esZ], fun j hj => by omega⟩
  · refine ⟨by simp [EdgeOk, ate, esZ], fun j hj => ?_⟩
    obtain rfl : j = 0 := by omega
    simp [Same, ate, esZ]
  · refine ⟨by simp [EdgeOk, ate, esZ], fun j hj => ?_⟩
    have : j = 0 ∨ j = 1 := by omega
    rcases this with rfl | rfl <;> simp [Same, ate, esZ]
theorem three_v {v : Int} (h0 : 0 ≤ v) (h1 : v < 3) : v = 0 ∨ v = 1 ∨ v = 2 := by omega
theorem three_k {k : Nat} (h : k < esZ.length) : k = 0 ∨ k = 1 ∨ k = 2 := by
  have : k < 3 := h
  omega
theorem wz2 {bl : List Int} (h : mayB bl (ate esZ 1) = true) : WayL esZ bl 2 1 [1] := WayL.step (by decide) h rfl .nil
theorem far_z2 : farL 3 esZ [] 2 = [2, 1, 0] := by
  refine (farL_eq right_z (by decide) (by decide) rfl ⟨rfl, fun v v0 v1 => ?_, fun v v0 v1 _ => ?_, fun k hk hm hd => ?_⟩).symm
  · rcases three_v v0 v1 with rfl | rfl | rfl <;> decide
  · rcases three_v v0 v1 with rfl | rfl | rfl
    · exact ⟨[0, 1], WayL.step (by decide) rfl rfl (wz2 rfl), by decide⟩
    · exact ⟨[1], wz2 rfl, by decide⟩
    · exact ⟨[], .nil, by decide⟩
  · rcases three_k hk with rfl | rfl | rfl <;> decide
theorem far_z1 : farL 3 esZ [1] 2 = [2, 1, 0] := by
  refine (farL_eq right_z (by decide) (by decide) rfl ⟨rfl, fun v v0 v1 => ?_, fun v v0 v1 _ => ?_, fun k hk hm hd => ?_⟩).symm
  · rcases three_v v0 v1 with rfl | rfl | rfl <;> decide
  · rcases three_v v0 v1 with rfl | rfl | rfl
    · exact ⟨[2], WayL.step (by decide) rfl rfl .nil, by decide⟩
    · exact ⟨[1], wz2 rfl, by decide⟩
    · exact ⟨[], .nil, by decide⟩
  · rcases three_k hk with rfl | rfl | rfl <;> revert hm hd <;> decide
theorem far_z0 : farL 3 esZ [] 0 = [0, -1, -1] := by
  refine (farL_eq right_z (by decide) (by decide) rfl ⟨rfl, fun v v0 v1 => ?_, fun v v0 v1 hd => ?_, fun k hk hm hd => ?_⟩).symm
  · rcases three_v v0 v1 with rfl | rfl | rfl <;> decide
  · rcases three_v v0 v1 with rfl | rfl | rfl
    · exact ⟨[], .nil, by decide⟩
    · exact absurd hd (by decide)
    · exact absurd hd (by decide)
  · rcases three_k hk with rfl | rfl | rfl <;> revert hm hd <;> decide
theorem ok_z (a b : Int) (ha : nodeB 3 a = true) (hb : nodeB 3 b = true) : (rightB 3 esZ && (nodeB 3 a && nodeB 3 b)) = true := by rw [rightB_true right_z, ha, hb]; rfl
theorem route_z2 : routeS 3 esZ [] 0 2 = ([0, 1], 0) := by
  have h := routeS_way (es := esZ) (bl := []) (ok_z 0 2 rfl rfl)
  rw [far_z2] at h
  rw [h (by decide)]
  decide
theorem route_z1 : routeS 3 esZ [1] 0 2 = ([2], 0) := by
  have h := routeS_way (es := esZ) (bl := [1]) (ok_z 0 2 rfl rfl)
  rw [far_z1] at h
  rw [h (by decide)]
  decide
theorem route_z0 : routeS 3 esZ [] 2 0 = ([], 120) := by
  have h := routeS_none (es := esZ) (bl := []) (ok_z 2 0 rfl rfl)
  rw [far_z0] at h
  exact h (by decide)
theorem farS_z : farS 3 esZ [] 2 = [2, 1, 0] := by rw [farS_yes right_z (by decide) (by decide), far_z2]
def X9z : Array Value := #[.int .i64 0, .int .i64 1, .int .i64 1, .int .i64 1, .int .i64 2, .int .i64 1, .int .i64 0, .int .i64 2, .int .i64 2]
theorem edges_z {w : World} {b : Nat} (h : w.heap[b]? = some (.cells X9z 41 (0, 0))) : EdgesAt w (.slice (some ⟨b, 0, none⟩) 3 3) esZ := by
  refine ⟨_, 3, rfl, by decide, fun _ => ⟨b, 0, rfl, (Array.getElem?_eq_some_iff.1 h).1, fun j hj => ?_⟩⟩
  have hj' : j < 3 := hj
  have : j = 0 ∨ j = 1 ∨ j = 2 := by omega
  rcases this with rfl | rfl | rfl
  all_goals
    refine ⟨?_, ?_, ?_⟩ <;> rw [cell_of_row _ _ _ _ _ _ h] <;> rfl
theorem ints_lit3 {w : World} {b : Nat} {x y z : Int} (h : w.heap[b]? = some (.cells #[.int .i64 x, .int .i64 y, .int .i64 z] 3 (0, 0))) : IntsAt w (.slice (some ⟨b, 0, none⟩) 3 3) [x, y, z] := by
  refine ⟨_, 3, rfl, by simp, fun _ => ⟨b, 0, rfl, (Array.getElem?_eq_some_iff.1 h).1, fun j hj => ?_⟩⟩
  have hj' : j < 3 := hj
  have : j = 0 ∨ j = 1 ∨ j = 2 := by omega
  rcases this with rfl | rfl | rfl <;> rw [cell_of_row _ _ _ _ _ _ h] <;> rfl
theorem RetTwo.ints {r : List Int × Int} {w w' : World} {v : Value} (h : w'.ownsRow w.heap.size 3 1 v r.1.length (intC r.1)) (hl : r.1.length ≤ 1000000) : IntsAt w' v r.1 := ints_own h rfl (by omega)
/-- What Route answers, as it is read. -/
def RetTwoI (r : List Int × Int) (w : World) (e : Ending) (w' : World) : Prop := ∃ v, e = .returned (.tuple #[v, .int .i64 r.2]) ∧ IntsAt w' v r.1 ∧ Below w.heap.size w w'
theorem route_read {n : Int} {es : List Ed} {w : World} (v bv : Value) (hv : EdgesAt w v es) (bl : List Int) (hb : IntsAt w bv bl) (a b : Int) :
    Calls Try.prog 12 #[.agg #[.int .i64 n, v], bv, .int .i64 a, .int .i64 b] w (RetTwoI (routeS n es bl a b) w) :=
  (route_any v bv hv bl hb a b).mono fun e w' ⟨x, h1, h2, h3⟩ => ⟨x, h1, ints_own h2 rfl (by have := routeS_len n es bl a b; omega), h3⟩
theorem tourS_len (n : Int) (es : List Ed) (bl : List Int) (a b c : Int) : (tourS n es bl a b c).1.length ≤ 100000 := by
  have h1 := routeS_len n es bl a b
  have h2 := routeS_len n es bl b c
  unfold tourS
  split
  · split
    · rw [List.length_append]; omega
    · simp
  · simp
theorem tour_read {n : Int} {es : List Ed} {w : World} (v bv : Value) (hv : EdgesAt w v es) (bl : List Int) (hb : IntsAt w bv bl) (a b c : Int) :
    Calls Try.prog 14 #[.agg #[.int .i64 n, v], bv, .int .i64 a, .int .i64 b, .int .i64 c] w (RetTwoI (tourS n es bl a b c) w) :=
  (tour_any v bv hv bl hb a b c).mono fun e w' ⟨x, h1, h2, h3⟩ => ⟨x, h1, ints_own h2 rfl (by have := tourS_len n es bl a b c; omega), h3⟩

set_option maxHeartbeats 16000000 in
theorem awake12_any (w : World) : Calls Try.prog 9 #[] w (Ret (.bool true) w) := by
  obtain ⟨Q, HQ⟩ : ∃ Q, Hid (Ret (.bool true) w = Q) := ⟨_, rfl⟩
  rw [HQ.out]
  go_enter Try.func9, Try.ntmps9
  go_upto_region 2 with fail
  have HK1 : Hid (KX w ((w.alloc (.cells X9z 41)).alloc (.cells #[.int .i64 3, .slice (some ⟨w.heap.size, 0, none⟩) 3 3] 24)) (w.heap.size + 1) 3 (.slice (some ⟨w.heap.size, 0, none⟩) 3 3) esZ) := by
    have hx := BoxAt.new 3 (.slice (some ⟨w.heap.size, 0, none⟩) 3 3) (w.alloc (.cells X9z 41))
    rw [show (w.alloc (.cells X9z 41)).heap.size = w.heap.size + 1 by simp] at hx
    exact ⟨((Below.refl _ w).alloc (Nat.le_refl _) _).alloc (by simp) _, hx, edges_z (heap_alloc2_old w _ _)⟩
  unfold X9z at HK1
  generalize (w.alloc (.cells #[.int .i64 0, .int .i64 1, .int .i64 1, .int .i64 1, .int .i64 2, .int .i64 1, .int .i64 0, .int .i64 2, .int .i64 2] 41)).alloc (.cells #[.int .i64 3, .slice (some ⟨w.heap.size, 0, none⟩) 3 3] 24) = w1 at *
  generalize (Value.slice (some ⟨w.heap.size, 0, none⟩) 3 3) = v at *
  have C1 := Lib.hid (fun w' (hu : EdgesAt w' v esZ) => by have := route_read (n := 3) (w := w') v (.slice none 0 0) hu [] (IntsAt.nil _ _) 0 2; rw [route_z2] at this; exact this)
  have C2 := Lib.hid (fun w' bv (hu : EdgesAt w' v esZ) (hb : IntsAt w' bv [1]) => by have := route_read (n := 3) (w := w') v bv hu [1] hb 0 2; rw [route_z1] at this; exact this)
  have C3 := Lib.hid (fun w' (hu : EdgesAt w' v esZ) => by have := route_read (n := 3) (w := w') v (.slice none 0 0) hu [] (IntsAt.nil _ _) 2 0; rw [route_z0] at this; exact this)
  have C4 := Lib.hid (fun w' va vb (ha : IntsAt w' va [0, 1]) (hb : IntsAt w' vb [0, 1]) => ints_any [0, 1] [0, 1] va vb w' ha hb true (by simp))
  have C5 := Lib.hid (fun w' va vb (ha : IntsAt w' va [2]) (hb : IntsAt w' vb [2]) => ints_any [2] [2] va vb w' ha hb true (by simp))
  have C6 := Lib.hid (fun w' bv (hu : EdgesAt w' v esZ) (hb : IntsAt w' bv [0, 1]) => by have := cost_any (w := w') v bv hu [0, 1] hb right_z (by simp); rw [show costI esZ [0, 1] = 2 by decide] at this; exact this)
  have C7 := Lib.hid (fun w' (hu : EdgesAt w' v esZ) => by have := far_any (n := 3) (w := w') v (.slice none 0 0) hu [] (IntsAt.nil _ _) 2; rw [farS_z] at this; exact this)
  have C8 := Lib.hid (fun w' va vb (ha : IntsAt w' va [2, 1, 0]) (hb : IntsAt w' vb [2, 1, 0]) => ints_any [2, 1, 0] [2, 1, 0] va vb w' ha hb true (by simp))
  have c0 := HK1.out.box.c0
  have c1 := HK1.out.box.c1
  go_upto_region 3 with (go_at_call 12; (with_reducible refine (C1.out _ HK1.out.ed).mono ?_); rintro e w2 ⟨v2, rfl, hv2, hb⟩; have HK2 := Lib.hid (HK1.out.grow hb); have HV2 := Lib.hid hv2; have d0 := HK2.out.box.c0; have d1 := HK2.out.box.c1; clear hb hv2)
  clear c0 c1
  go_upto_region 4 with (go_at_call 12; (with_reducible refine (C2.out _ _ (HK2.out.alloc _).ed (ints_lit1 (heap_alloc_new w2 _))).mono ?_); rintro e w3 ⟨v3, rfl, hv3, hb⟩; have HK3 := Lib.hid ((HK2.out.alloc _).grow hb); have HV3 := Lib.hid hv3; have HV23 := Lib.hid ((HV2.out.below ((Below.refl _ w2).alloc (Nat.le_refl _) _) (Nat.le_refl _)).below hb (Nat.le_refl _)); have e0 := HK3.out.box.c0; have e1 := HK3.out.box.c1; clear hb hv3)
  clear d0 d1
  go_upto_region 5 with (go_at_call 12; (with_reducible refine (C3.out _ HK3.out.ed).mono ?_); rintro e w4 ⟨v4, rfl, hv4, hb⟩; have HK4 := Lib.hid (HK3.out.grow hb); have HV24 := Lib.hid (HV23.out.below hb (Nat.le_refl _)); have HV34 := Lib.hid (HV3.out.below hb (Nat.le_refl _)); clear hb hv4)
  clear e0 e1
  go_wp2_with (first
    | (go_at_call 16; (with_reducible refine (C4.out _ _ _ (HV24.out.below ((Below.refl _ w4).alloc (Nat.le_refl _) _) (Nat.le_refl _)) (ints_lit2 (heap_alloc_new w4 _))).mono ?_); rintro e w5 ⟨rfl, hb⟩; have HK5 := Lib.hid ((HK4.out.alloc _).grow hb); have HV25 := Lib.hid ((HV24.out.below ((Below.refl _ w4).alloc (Nat.le_refl _) _) (Nat.le_refl _)).below hb (Nat.le_refl _)); have HV35 := Lib.hid ((HV34.out.below ((Below.refl _ w4).alloc (Nat.le_refl _) _) (Nat.le_refl _)).below hb (Nat.le_refl _)); clear hb)
    | (go_at_call 16; (with_reducible refine (C5.out _ _ _ (HV35.out.below ((Below.refl _ w5).alloc (Nat.le_refl _) _) (Nat.le_refl _)) (ints_lit1 (heap_alloc_new w5 _))).mono ?_); rintro e w6 ⟨rfl, hb⟩; have HK6 := Lib.hid ((HK5.out.alloc _).grow hb); have HV26 := Lib.hid ((HV25.out.below ((Below.refl _ w5).alloc (Nat.le_refl _) _) (Nat.le_refl _)).below hb (Nat.le_refl _)); have g0 := HK6.out.box.c0; have g1 := HK6.out.box.c1; clear hb)
    | (go_at_call 19; (with_reducible refine (C6.out _ _ HK6.out.ed HV26.out).mono ?_); rintro e w7 ⟨rfl, hb⟩; have HK7 := Lib.hid (HK6.out.grow hb); have j0 := HK7.out.box.c0; have j1 := HK7.out.box.c1; clear hb)
    | (go_at_call 17; (with_reducible refine (C7.out _ HK7.out.ed).mono ?_); rintro e w8 ⟨v8, rfl, hv8, hb⟩; have HK8 := Lib.hid (HK7.out.grow hb); have HV8 := Lib.hid hv8; clear hb hv8)
    | (go_at_call 16; (with_reducible refine (C8.out _ _ _ (HV8.out.below ((Below.refl _ w8).alloc (Nat.le_refl _) _) (Nat.le_refl _)) (ints_lit3 (heap_alloc_new w8 _))).mono ?_); rintro e w9 ⟨rfl, hb⟩; have HK9 := Lib.hid ((HK8.out.alloc _).grow hb); clear hb))
  rw [← HQ.out]
  exact ⟨rfl, HK9.out.below⟩
end Go.Proofs.Ythmblgfcjbiomaa.Rt
