/- The law StateChanged (with one byte changed, or one more behind, nothing is taken) answers true for all inputs; taken that Go's own tables (those of strconv, math/bits and unicode/utf8) hold what the program's text lays, which the card ties. -/
import Derived.Test.YtcpggmdiojaalaaGreatDoorMAj
import Derived.Test.YtcpggmdiojaalaaGreatDoorSe
import Derived.Test.YtcpggmdiojaalaaGreatDoorAF
import Derived.Test.YtcpggmdiojaalaaGreatDoorMG
/- StateChanged: with one byte changed, or one more behind, nothing is taken. -/
set_option linter.unusedVariables false
set_option linter.unusedSimpArgs false
namespace Go.Proofs.YtcpggmdiojaalaaGreatDoor.Sta
open Go.RowKit Js Lex Od

theorem take9_none {s : List UInt8} (h : Se.openS s = none) (w : World) (hs : s.length ≤ 281474976710656) : Calls Tryz.prog 41 #[.string ⟨s.toArray⟩] w (Ret (.tuple #[.agg #[.int .i64 0, .int .i64 0, .string ⟨#[]⟩, .int .i64 0, .int .i64 0, .bool false, .int .i64 0, .int .i64 0, .bool false, .int .i64 0], .int .i64 60]) w) := by
  have := Take9_any s w hs
  rwa [show takeS9 Tp.nameB s = (60, none) by unfold takeS9; rw [h]] at this
theorem run_two9 (u : World) (o : Obj) (c : UInt8) (cap : Nat) : (convert 62 9 (.slice (some ⟨u.heap.size + 1, 0, none⟩) 1 cap)).run Tryz.prog ((u.alloc o).alloc (.cells #[.int .u8 (c.toNat : Int)] 5)) = .ok (.string ⟨#[c]⟩) ((u.alloc o).alloc (.cells #[.int .u8 (c.toNat : Int)] 5)) := by
  have := Se.run_one (u.alloc o) c cap 5
  rwa [show (u.alloc o).heap.size = u.heap.size + 1 by simp] at this
set_option maxHeartbeats 8000000 in
set_option maxRecDepth 100000 in
theorem changed9_walk (x : S9) (at0 : Int) (c : UInt8) (w : World) (hT : Dec.Tab w) (hx : x.ok) (a0 : -9223372036854775808 ≤ at0) (a1 : at0 ≤ 9223372036854775807) :
    Calls Tryz.prog 8 #[sV x, .int .i64 at0, .int .u8 c.toNat] w (Ret (.bool true) w) := by
  have A1 := Lib.hid (fun (w' : World) (hb : Below w.heap.size w w') => awake9_any w' (hT.below hb))
  have F1 := Lib.hid (fun (w' : World) => fit9_any x w' hx)
  have hr := fit9_right Tp.fit_name x
  generalize fit9 Tp.fitL x = y at *
  have L1 := Lib.hid (fun (w' : World) (hb : Below w.heap.size w w') => lay9_yes hr w' (hT.below hb))
  have hlen := layS9_len hr
  obtain ⟨L, hL⟩ : ∃ L, layS9 y = L := ⟨_, rfl⟩
  rw [hL] at L1 hlen
  have hUL : Se.sealS (printJ (layJ9 y)) = L := hL
  have hne : (⟨L.toArray⟩ : ByteArray).toList.isEmpty = false := by
    rw [Se.tl_eq]
    cases L with
    | nil => simp at hlen
    | cons => rfl
  have hq : (⟨L.toArray⟩ : ByteArray).size = L.length := bs_size L
  have pk0 := Quo.pickS_nonneg (c := at0) (n := (L.length : Int)) (by omega)
  have pk1 := Quo.pickS_lt (c := at0) (n := (L.length : Int)) (by omega)
  have PK := Lib.hid (fun (u : World) => pick9_any at0 (L.length : Int) u a0 a1 (by omega) (by omega))
  generalize Quo.pickS at0 (L.length : Int) = m at *
  obtain ⟨k, rfl⟩ := Int.eq_ofNat_of_zero_le pk0
  have hk : k < L.length := by omega
  have hO1 : Se.openS (L.set k (Se.turnB L[k] c)) = none := by
    have e : Se.sealS (printJ (layJ9 y)) = L.take k ++ L[k] :: L.drop (k + 1) := by
      rw [hUL, ← List.drop_eq_getElem_cons hk, List.take_append_drop]
    have := Se.open_changed _ _ e (Se.turn_ne L[k] c)
    rw [List.set_eq_take_append_cons_drop, if_pos hk]
    exact this
  have hO2 : Se.openS (L ++ [c]) = none := by
    have := Se.open_more (printJ (layJ9 y)) c
    rw [hUL] at this
    exact this
  have C2 := Lib.hid (fun (u : World) => take9_none hO1 u (by rw [List.length_set]; omega))
  have C3 := Lib.hid (fun (u : World) => take9_none hO2 u (by rw [List.length_append, List.length_singleton]; omega))
  have HA : Hid ((⟨L.toArray⟩ : ByteArray) ++ ⟨#[c]⟩ = ⟨(L ++ [c]).toArray⟩) := Se.bs_append L [c]
  have RL := Lib.hid (fun (u : World) => Se.row_laid u L)
  have HK : Hid (k < L.length) := hk
  have HX := Lib.hid (Se.turn_bits L[k] c)
  generalize hx : L[k] = xx at *
  have Hx := Lib.hid hx
  clear hx
  generalize hyy : Se.turnB xx c = yy at *
  clear hyy hO1 hO2 hUL hL hr
  generalize L ++ [c] = LA at *
  obtain ⟨n, hn⟩ : ∃ n, L.length = n := ⟨_, rfl⟩
  have HLN := Lib.hid hn
  rw [hn] at PK RL hq hk pk1 hlen
  obtain ⟨hln1, hln2⟩ := hlen
  clear hn
  generalize hqq : (⟨L.toArray⟩ : ByteArray) = q at *
  clear hqq pk0 pk1
  obtain ⟨hd, bo, nm, od, up, lv, nd, sq, dr, ac⟩ := x
  obtain ⟨hd1, bo1, nm1, od1, up1, lv1, nd1, sq1, dr1, ac1⟩ := y
  unfold sV sC at *
  simp only at F1 L1
  have B0 := Lib.hid (belowOne w (.cells #[.int .i64 hd, .int .i64 bo, .string ⟨nm.toArray⟩, .int .i64 od, .int .i64 up, .bool lv, .int .i64 nd, .int .i64 sq, .bool dr, .int .i64 ac] 53))
  have X0 := Lib.hid (BX9.new w #[.int .i64 hd, .int .i64 bo, .string ⟨nm.toArray⟩, .int .i64 od, .int .i64 up, .bool lv, .int .i64 nd, .int .i64 sq, .bool dr, .int .i64 ac])
  go_enter Tryz.func8, Tryz.ntmps8
  go_wp2_with (first
    | (go_at_call 32; (with_reducible refine (A1.out _ B0.out).mono ?_); rintro e1 w1 ⟨rfl, hb1⟩; have B1 := Lib.hid (below_next B0.out hb1); have X1 := Lib.hid (X0.out.below hb1); obtain ⟨x0, x1, x2, x3, x4, x5, x6, x7, x8, x9⟩ := ten_of X1.out.blk; clear hb1)
    | (go_at_call 33; (with_reducible refine (F1.out _).mono ?_); rintro e2 w2 ⟨rfl, hb2⟩; have B2 := Lib.hid (below_next B1.out hb2); clear hb2 x0 x1 x2 x3 x4 x5 x6 x7 x8 x9)
    | (go_at_call 34; (with_reducible refine (L1.out _ B2.out).mono ?_); rintro e3 w3 ⟨rfl, hb3⟩; have B3 := Lib.hid (below_next B2.out hb3); clear hb3))
  obtain ⟨cap, W, hcv, hrow, hbw⟩ := RL.out w3
  have HR := Lib.hid hrow
  rw [hcv]
  clear hcv RL
  have hbs : w3.heap.size < W.heap.size := by
    rcases Nat.lt_or_ge w3.heap.size W.heap.size with h' | h'
    · exact h'
    · exfalso
      have := hrow.cell 0 (by rw [HLN.out]; omega)
      simp [World.cell?, Array.getElem?_eq_none h'] at this
  have hcell := hrow.cell k HK.out
  have hfro := hrow.fro k HK.out
  have e : L[k]'HK.out = xx := Hx.out
  rw [e] at hcell
  have hbW := B3.out.trans (hbw.mono B3.out.size)
  have hle := B3.out.size
  clear hrow hbw
  generalize w3.heap.size = b at *
  go_wp2_with (go_at_call 40; (with_reducible refine (PK.out _).mono ?_); rintro e w4 ⟨rfl, rfl⟩)
  rw [HX.out]
  have hS := (HR.out.set (y := yy) HK.out).back (cap := cap)
  rw [List.length_set, HLN.out] at hS
  rw [hS]
  have hbX : Below w.heap.size w (W.setCell ⟨b, k, none⟩ (.int .u8 (yy.toNat : Int))) := hbW.setCell (p := ⟨b, k, none⟩) hle _
  clear hbW hbs hcell hfro hS e
  generalize W.setCell ⟨b, k, none⟩ (.int .u8 (yy.toNat : Int)) = W2 at *
  have R1 := fun (u : World) (o : Obj) => run_two9 u o c 1
  have hA := HA.out
  have h1 : (⟨#[c]⟩ : ByteArray).size = 1 := rfl
  generalize (⟨#[c]⟩ : ByteArray) = cs at *
  generalize (⟨LA.toArray⟩ : ByteArray) = la at *
  generalize (⟨(L.set k yy).toArray⟩ : ByteArray) = lc at *
  have HBX := Lib.hid hbX
  clear HX HK Hx HR HA PK hk hne hbX
  go_wp2_with (go_at_call 41; (with_reducible refine (C2.out _).mono ?_); rintro e w5 ⟨rfl, hb5⟩; have B5 := Lib.hid (below_box (below_next HBX.out hb5) (.cells #[.int .i64 0, .int .i64 0, .string ⟨#[]⟩, .int .i64 0, .int .i64 0, .bool false, .int .i64 0, .int .i64 0, .bool false, .int .i64 0] 53)); have K5 := Lib.hid (BX9.new w5 #[.int .i64 0, .int .i64 0, .string ⟨#[]⟩, .int .i64 0, .int .i64 0, .bool false, .int .i64 0, .int .i64 0, .bool false, .int .i64 0]); clear hb5)
  have B5' := Lib.hid (below_box B5.out (.cells #[.int .u8 (c.toNat : Int)] 5))
  have K5' := Lib.hid (K5.out.box (.cells #[.int .u8 (c.toNat : Int)] 5))
  go_wp2_with (go_at_call 41; (with_reducible refine (C3.out _).mono ?_); rintro e w6 ⟨rfl, hb6⟩; have B6 := Lib.hid (below_box (below_next B5'.out hb6) (.cells #[.int .i64 0, .int .i64 0, .string ⟨#[]⟩, .int .i64 0, .int .i64 0, .bool false, .int .i64 0, .int .i64 0, .bool false, .int .i64 0] 53)); have K6 := Lib.hid ((K5'.out.below hb6).box (.cells #[.int .i64 0, .int .i64 0, .string ⟨#[]⟩, .int .i64 0, .int .i64 0, .bool false, .int .i64 0, .int .i64 0, .bool false, .int .i64 0] 53)); obtain ⟨y0, y1, y2, y3, y4, y5, y6, y7, y8, y9⟩ := ten_of K6.out.blk; clear hb6)
  go_ret
  exact ⟨rfl, B6.out⟩
end Go.Proofs.YtcpggmdiojaalaaGreatDoor.Sta

/- The law StateChanged (with one byte changed, or one more behind, nothing is taken) answers true for all raw states, numbers and bytes; taken that Go's own tables (those of strconv, math/bits and unicode/utf8) hold what the program's text lays, which the card ties. -/
set_option linter.unusedSimpArgs false
set_option linter.unusedVariables false
namespace Go.Proofs.YtcpggmdiojaalaaGreatDoor.stateChanged
open Go.ChangeShapes Go.WideShapes Go.ChangeAt Go.RowKit Go.Proofs.YtcpggmdiojaalaaGreatDoor.Sta Go.Proofs.YtcpggmdiojaalaaGreatDoor.Od
open Go.Proofs.YtcpggmdiojaalaaGreatDoor.Js (laid5 laid_met laidWorld tab_of_laid)

set_option maxRecDepth 100000 in
theorem contract (H : Type) (enc : TypeId × Value → H) (W : World) (base : Nat) (args : Array Value) (ds gs : List (DataW H)) (before : List MemPlace)
    (hval : ∀ (j : Nat) t v, Tryz.f8.params[j]? = some t → args[j]? = some v → Value.okWide Tryz.prog W .any base t v)
    (hW : DataW.Whole enc Tryz.prog Tryz.f8.params.toList Rows.stateChangedSpec.vars false W args.toList ds gs before) (hz : (DataW.weightsEach Tryz.prog (Tryz.f8.params.toList ++ (OpenSpec.ofChange Rows.stateChangedSpec).bare.plain.varTypes Tryz.prog) (ds ++ gs)).all (· ≤ reachBytes) = true) (hL : laidMetH Tryz.prog laid5 W) :
    Calls Tryz.prog 8 args W fun e W' => ∃ v, e = .returned v ∧ Rows.stateChangedSpec.post enc Tryz.prog Tryz.f8 false true false false W args v W' := by
  have hT := tab_of_laid hL
  clear hL
  have hW' := hW
  have hlt := hW.lt
  obtain ⟨p, q, hA0, hV, rfl, hfz, hnd⟩ := hW
  have hA : DataW.TrodAll enc Tryz.prog W 0 (fun _ => true) true Tryz.f8.params.toList args.toList ds p := hA0
  rw [Tryz.params8] at hA hval
  obtain ⟨v0, vs0, d0, ds0, p0, q0, hargs, rfl, rfl, h0, r0⟩ := trodAll_cons hA
  obtain ⟨v1, vs1, d1, ds1, p1, q1, rfl, rfl, rfl, h1, r1⟩ := trodAll_cons r0
  obtain ⟨v2, vs2, d2, ds2, p2, q2, rfl, rfl, rfl, h2, r2⟩ := trodAll_cons r1
  obtain ⟨rfl, rfl, rfl⟩ := trodAll_nil r2
  obtain rfl : args = #[v0, v1, v2] := Array.ext' hargs
  obtain ⟨rfl, rfl⟩ := trodVars_none hV
  have k0 := h0
  have k1 := h1
  have k2 := h2
  have wt0 : Wt 53 d0 := wt_of hz (j := 0) (by rw [Tryz.params8]; rfl) rfl
  obtain ⟨z0, rfl, hz0⟩ := open_state (hval 0 53 v0 rfl rfl) h0 wt0
  obtain ⟨x1, rfl, rfl, rfl, wx1⟩ := open_int Tryz.underlying3 (hval 1 3 v1 rfl rfl) h1
  obtain ⟨b1, c1⟩ := bounds_i64 wx1
  obtain ⟨x2, rfl, rfl, rfl, wx2⟩ := open_int Tryz.underlying5 (hval 2 5 v2 rfl rfl) h2
  obtain ⟨c2, rfl⟩ := byte_of wx2
  clear hA0
  simp only [List.append_nil] at hW'
  refine (changed9_walk z0 x1 c2 W hT hz0 b1 c1).mono fun e W' ⟨he, hg⟩ => ?_
  subst he
  exact ⟨_, rfl, _, _, _, [], _, [], hW', trodAll_cons_mk (shut_bool Tryz.underlying4 _) trodAll_mk0,
    (trodAll_cons_mk (Below.trod laidOut (by kernel_rfl) (of_decide_eq_true (by kernel_rfl)) k0 hg (fun x hx => by first | (exact absurd hx (by simp)) | exact hlt x (by simp [hx]))) (trodAll_cons_mk (Below.trod laidOut (by kernel_rfl) (of_decide_eq_true (by kernel_rfl)) k1 hg (fun x hx => by first | (exact absurd hx (by simp)) | exact hlt x (by simp [hx]))) (trodAll_cons_mk (Below.trod laidOut (by kernel_rfl) (of_decide_eq_true (by kernel_rfl)) k2 hg (fun x hx => by first | (exact absurd hx (by simp)) | exact hlt x (by simp [hx]))) trodAll_mk0))), rfl,
    hg.frame _, fun h => by cases h⟩

theorem reads (os : Os) {H : Type} (enc : TypeId × Value → H) : ∃ places, DataW.whole enc Tryz.prog ((laidWorld os).forCall (fun _ _ => 0) ⟨#[], #[.agg #[.int .i64 0, .int .i64 0, .string ⟨#[]⟩, .int .i64 0, .int .i64 0, .bool false, .int .i64 0, .int .i64 0, .bool false, .int .i64 0], .int .i64 0, .int .u8 0], []⟩).memory Tryz.f8.params.toList Rows.stateChangedSpec.vars false (#[Value.agg #[.int .i64 0, .int .i64 0, .string ⟨#[]⟩, .int .i64 0, .int .i64 0, .bool false, .int .i64 0, .int .i64 0, .bool false, .int .i64 0], Value.int .i64 0, Value.int .u8 0] : Array Value).toList 8 = some ([.agg [.lit (.int .i64 0), .lit (.int .i64 0), .lit (.string []), .lit (.int .i64 0), .lit (.int .i64 0), .lit (.bool false), .lit (.int .i64 0), .lit (.int .i64 0), .lit (.bool false), .lit (.int .i64 0)], .lit (.int .i64 0), .lit (.int .u8 0)], [], places) :=
  ⟨[], by kernel_rfl⟩

set_option maxRecDepth 100000 in
theorem lifted (os : Os) (started : os.Started) (H : Type) (enc : TypeId × Value → H) (F : Stop.Interp) :
    ReturnsInHanded {} Tryz.checked os 8 .any ((OpenSpec.ofChange Rows.stateChangedSpec).preRow enc Tryz.prog Tryz.f8 Rows.stateChangedRow.domain false Rows.stateChangedRow.laid) (((OpenSpec.ofChange Rows.stateChangedSpec).at F).post enc Tryz.prog Tryz.f8 false true false false) := by
  obtain ⟨places, hx⟩ := reads os enc
  refine returnsInHanded_of_row (C := Tryz.checked) (s := OpenSpec.ofChange Rows.stateChangedSpec) own started (by kernel_rfl) Tryz.func8
    (witness_row_at (enc := enc) (C := Tryz.checked) false (laidWorld os) #[.agg #[.int .i64 0, .int .i64 0, .string ⟨#[]⟩, .int .i64 0, .int .i64 0, .bool false, .int .i64 0, .int .i64 0, .bool false, .int .i64 0], .int .i64 0, .int .u8 0] rfl (by kernel_rfl) (by kernel_rfl) (by kernel_rfl)
      (OpenSpec.preRow_of_cond 8 hx (by kernel_rfl) (fun k hk => by cases hk) (by kernel_rfl) (laid_met os _))) ?_
  intro W base args ds gs before hval hW _ _ hz hL _ _
  exact contract H enc W base args ds gs before hval hW hz hL

theorem said : Rows.StateChangedSaid :=
  OpenClaim.holds_of_cond 8 Tryz.f8 rfl rfl rfl rfl rfl rfl rfl ⟨rfl, rfl, rfl, rfl, rfl⟩ rfl rfl rfl rfl rfl (by kernel_rfl) Tryz.func8 (by kernel_rfl)
    (of_decide_eq_true (by kernel_rfl)) (by unfold Func.isWrapper; first | (rw [if_pos (by decide +kernel)]; kernel_rfl) | (rw [if_neg (by decide +kernel)]; exact ⟨rfl, rfl⟩))
    (fun os started H enc _ F => by rw [OpenClaim.pre_eq_preRow]; exact lifted os started H enc F)

theorem plain (f : FuncId) (fn : Func) (hf : Tryz.pinned.checked.prog.funcNamed Rows.stateChangedRow.func = some f) (hfn : Tryz.pinned.checked.prog.funcs[f]? = some fn) :
    false = Tryz.pinned.checked.prog.looks [] ∧ ∀ (j : Nat) t, fn.params[j]? = some t → Tryz.pinned.checked.prog.wantsStandIn t = false := by
  obtain rfl : f = 8 := Option.some.inj ((show Tryz.prog.funcNamed Rows.stateChangedRow.func = some 8 by kernel_rfl).symm.trans hf) |>.symm
  obtain rfl : fn = Tryz.f8 := (Option.some.inj (Tryz.func8.symm.trans hfn)).symm
  refine ⟨by kernel_rfl, fun j t ht => ?_⟩
  rw [Tryz.params8] at ht
  have hm := Array.mem_of_getElem? ht
  have hh : t = 53 ∨ t = 5 ∨ t = 3 := by simp at hm; first | (rcases hm with h | h | h <;> simp [h]) | (rcases hm with h | h | h <;> simp [h])
  rcases hh with rfl | rfl | rfl
  · exact (show Tryz.prog.wantsStandIn 53 = false by kernel_rfl)
  · exact (show Tryz.prog.wantsStandIn 5 = false by kernel_rfl)
  · exact (show Tryz.prog.wantsStandIn 3 = false by kernel_rfl)

theorem card : Rows.StateChangedCardSaid :=
  Claim7.holds_tied_plain_at .later [] _ _ _ _ said (fun _ h => by cases h) (by kernel_rfl) (fun _ h => by cases h) stateChanged_row_tie rfl ⟨rfl, rfl⟩ (by kernel_rfl) rfl plain (by kernel_rfl)
end Go.Proofs.YtcpggmdiojaalaaGreatDoor.stateChanged
