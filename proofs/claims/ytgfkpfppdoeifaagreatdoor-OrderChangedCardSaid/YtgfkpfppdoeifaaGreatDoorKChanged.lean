/- The law OrderChanged (with one byte changed, or one more behind, nothing is taken) answers true for all inputs; taken that Go's own tables (those of strconv, math/bits and unicode/utf8) hold what the program's text lays, which the card ties. -/
import Derived.Test.YtgfkpfppdoeifaaGreatDoorMOg
import Derived.Test.YtgfkpfppdoeifaaGreatDoorSe
import Derived.Test.YtgfkpfppdoeifaaGreatDoorMF
import Derived.Test.YtgfkpfppdoeifaaGreatDoorMG
/- OrderChanged: with one byte changed, or one more behind, nothing is taken. -/
set_option linter.unusedVariables false
set_option linter.unusedSimpArgs false
namespace Go.Proofs.YtgfkpfppdoeifaaGreatDoor.Od
open Go.RowKit Js Lex

theorem take_none {s : List UInt8} (h : Se.openS s = none) (w : World) (hs : s.length ≤ 281474976710656) : Calls Tryz.prog 22 #[.string ⟨s.toArray⟩] w (fun e w' => ∃ a c b f, e = .returned (.tuple #[.agg #[.int .i64 0, .string ⟨#[]⟩, .int .i64 0, .int .i64 0, .slice a 0 c, .slice b 0 f], .int .i64 60]) ∧
    OAt Any w' (.agg #[.int .i64 0, .string ⟨#[]⟩, .int .i64 0, .int .i64 0, .slice a 0 c, .slice b 0 f]) o0 ∧ Below w.heap.size w w') := by
  refine (Take_any s w hs).mono ?_
  rw [show takeS Tp.nameB s = (60, none) by unfold takeS; rw [h]]
  rintro e w' ⟨v, rfl, hv, hb⟩
  have hv' : OAt Any w' v o0 := hv
  obtain ⟨a, c, b, f, rfl, -⟩ := hv'.open_
  exact ⟨a, c, b, f, rfl, hv', hb⟩

theorem byte_of {n : Int} (h : (Lit.int .u8 n).wf = true) : ∃ c : UInt8, n = (c.toNat : Int) := by
  obtain ⟨h0, h1⟩ := bounds_u8 h
  refine ⟨UInt8.ofNat n.toNat, ?_⟩
  rw [UInt8.toNat_ofNat']
  omega

theorem run_two (u : World) (o : Obj) (c : UInt8) (cap : Nat) : (convert 42 9 (.slice (some ⟨u.heap.size + 1, 0, none⟩) 1 cap)).run Tryz.prog ((u.alloc o).alloc (.cells #[.int .u8 (c.toNat : Int)] 5)) = .ok (.string ⟨#[c]⟩) ((u.alloc o).alloc (.cells #[.int .u8 (c.toNat : Int)] 5)) := by
  have := Se.run_one (u.alloc o) c cap 5
  rwa [show (u.alloc o).heap.size = u.heap.size + 1 by simp] at this
set_option maxHeartbeats 8000000 in
set_option maxRecDepth 100000 in
theorem changed_walk (v0 : Value) (x : O) (base at0 : Int) (c : UInt8) (w : World) (hT : Dec.Tab w) (h : OAt Any w v0 x) (b0 : -9223372036854775808 ≤ base) (b1 : base ≤ 9223372036854775807) (a0 : -9223372036854775808 ≤ at0) (a1 : at0 ≤ 9223372036854775807) :
    Calls Tryz.prog 6 #[v0, .int .i64 base, .int .i64 at0, .int .u8 c.toNat] w (Ret (.bool true) w) := by
  obtain ⟨p0, q0, e0, f0, rfl, -⟩ := h.open_
  have X0 := Lib.hid (BX8.new h)
  have A1 := Lib.hid (fun (w' : World) (hb : Below w.heap.size w w') => awake8_any w' (hT.below hb))
  have hr := fit_rightO Tp.fit_name x base
  obtain ⟨y, hy⟩ : ∃ y, fitO Tp.fitL x base = y := ⟨_, rfl⟩
  have F1 := Lib.hid (fun (w' : World) (b : Nat) (a : Option Addr) (c : Nat) (e : Option Addr) (f : Nat) (hx : BX8 x b a c e f w') => fit8 hy hx b0 b1)
  rw [hy] at hr
  have L1 := Lib.hid (fun (w' : World) (v : Value) (hb : Below w.heap.size w w') (hx : OAt Any w' v y) => Lay_any Any v y w' (hT.below hb) hx)
  rw [if_pos hr] at L1
  have hlen := layS_len hr
  obtain ⟨L, hL⟩ : ∃ L, layS y = L := ⟨_, rfl⟩
  rw [hL] at L1 hlen
  have hUL : Se.sealS (printJ (layJ y)) = L := hL
  have hne : (⟨L.toArray⟩ : ByteArray).toList.isEmpty = false := by
    rw [Se.tl_eq]
    cases L with
    | nil => simp at hlen
    | cons => rfl
  have hq : (⟨L.toArray⟩ : ByteArray).size = L.length := bs_size L
  have pk0 := Quo.pickS_nonneg (c := at0) (n := (L.length : Int)) (by omega)
  have pk1 := Quo.pickS_lt (c := at0) (n := (L.length : Int)) (by omega)
  have PK := Lib.hid (fun (u : World) => pick8_any at0 (L.length : Int) u a0 a1 (by omega) (by omega))
  generalize Quo.pickS at0 (L.length : Int) = m at *
  obtain ⟨k, rfl⟩ := Int.eq_ofNat_of_zero_le pk0
  have hk : k < L.length := by omega
  have hO1 : Se.openS (L.set k (Se.turnB L[k] c)) = none := by
    have e : Se.sealS (printJ (layJ y)) = L.take k ++ L[k] :: L.drop (k + 1) := by
      rw [hUL, ← List.drop_eq_getElem_cons hk, List.take_append_drop]
    have := Se.open_changed _ _ e (Se.turn_ne L[k] c)
    rw [List.set_eq_take_append_cons_drop, if_pos hk]
    exact this
  have hO2 : Se.openS (L ++ [c]) = none := by
    have := Se.open_more (printJ (layJ y)) c
    rw [hUL] at this
    exact this
  have C2 := Lib.hid (fun (u : World) => take_none hO1 u (by rw [List.length_set]; omega))
  have C3 := Lib.hid (fun (u : World) => take_none hO2 u (by rw [List.length_append, List.length_singleton]; omega))
  have S2 := Lib.hid (fun (w' : World) (v : Value) (hx : OAt Any w' v o0) => rsame8_any Any Any v _ o0 o0 w' hx (o0_at (S := Any)))
  rw [sameO_iff.2 rfl] at S2
  have HA : Hid ((⟨L.toArray⟩ : ByteArray) ++ ⟨#[c]⟩ = ⟨(L ++ [c]).toArray⟩) := Se.bs_append L [c]
  have RL := Lib.hid (fun (u : World) => Se.row_laid u L)
  have HK : Hid (k < L.length) := hk
  have HX := Lib.hid (Se.turn_bits L[k] c)
  generalize hx : L[k] = xx at *
  have Hx := Lib.hid hx
  clear hx
  generalize hyy : Se.turnB xx c = yy at *
  clear hyy hO1 hO2 hUL hL hr hy h
  generalize L ++ [c] = LA at *
  obtain ⟨n, hn⟩ : ∃ n, L.length = n := ⟨_, rfl⟩
  have HLN := Lib.hid hn
  rw [hn] at PK RL hq hk pk1 hlen
  obtain ⟨hln1, hln2⟩ := hlen
  clear hn
  generalize hqq : (⟨L.toArray⟩ : ByteArray) = q at *
  clear hqq pk0 pk1
  have B0 := Lib.hid (belowOne w (.cells #[.int .i64 x.h, .string ⟨x.v.toArray⟩, .int .i64 x.o, .int .i64 x.u, .slice p0 x.ns.length q0, .slice e0 x.es.length f0] 25))
  go_enter Tryz.func6, Tryz.ntmps6
  go_wp2_with (first
    | (go_at_call 10; (with_reducible refine (A1.out _ B0.out).mono ?_); rintro e1 w1 ⟨rfl, hb1⟩; have B1 := Lib.hid (B0.out.trans (hb1.mono B0.out.size)); have X1 := Lib.hid (X0.out.below hb1); obtain ⟨x0, x1, x2, x3, x4, x5⟩ := six_of X1.out.blk)
    | (go_at_call 11; (with_reducible refine (F1.out _ _ _ _ _ _ X1.out).mono ?_); rintro e2 w2 ⟨a2, c2, d2, f2, rfl, hv2, hb2⟩; have B2 := Lib.hid (B1.out.trans (hb2.mono B1.out.size)); have V2 := Lib.hid hv2)
    | (go_at_call 12; (with_reducible refine (L1.out _ _ B2.out V2.out).mono ?_); rintro e3 w3 ⟨rfl, hb3⟩; have B3 := Lib.hid (B2.out.trans (hb3.mono B2.out.size))))
  obtain ⟨cap, W, hcv, hrow, hbw⟩ := RL.out w3
  have HR := Lib.hid hrow
  rw [hcv]
  clear hcv RL
  have hbs : w3.heap.size < W.heap.size := by
    rcases Nat.lt_or_ge w3.heap.size W.heap.size with h' | h'
    · exact h'
    · exfalso
      have := hrow.cell 0 (by rw [HLN.out]; omega)
      simp [World.cell?, Array.getElem?_eq_none h'] at this
  have hcell := hrow.cell k HK.out
  have hfro := hrow.fro k HK.out
  have e : L[k]'HK.out = xx := Hx.out
  rw [e] at hcell
  have hbW := B3.out.trans (hbw.mono B3.out.size)
  have hle := B3.out.size
  clear hrow hbw
  generalize w3.heap.size = b at *
  go_wp2_with (go_at_call 20; (with_reducible refine (PK.out _).mono ?_); rintro e w4 ⟨rfl, rfl⟩)
  rw [HX.out]
  have hS := (HR.out.set (y := yy) HK.out).back (cap := cap)
  rw [List.length_set, HLN.out] at hS
  rw [hS]
  have hbX : Below w.heap.size w (W.setCell ⟨b, k, none⟩ (.int .u8 (yy.toNat : Int))) := below_set1 hbW hle _
  clear hbW hbs hcell hfro hS e
  generalize W.setCell ⟨b, k, none⟩ (.int .u8 (yy.toNat : Int)) = W2 at *
  have R1 := fun (u : World) (o : Obj) => run_two u o c 1
  have hA := HA.out
  have h1 : (⟨#[c]⟩ : ByteArray).size = 1 := rfl
  generalize (⟨#[c]⟩ : ByteArray) = cs at *
  generalize (⟨LA.toArray⟩ : ByteArray) = la at *
  generalize (⟨(L.set k yy).toArray⟩ : ByteArray) = lc at *
  clear HX HK Hx HR HA PK hk hne
  go_wp2_with (go_at_call 22; (with_reducible refine (C2.out _).mono ?_); rintro e w5 ⟨a5, c5, d5, f5, rfl, hv5, hb5⟩; have V5 := Lib.hid (OAt.below hv5 (belowOne w5 (.cells #[.int .i64 0, .string ⟨#[]⟩, .int .i64 0, .int .i64 0, .slice a5 0 c5, .slice d5 0 f5] 25)) (Nat.le_refl _)); have B5 := Lib.hid ((hbX.trans (hb5.mono hbX.size)).alloc (Nat.le_trans hbX.size hb5.size) (.cells #[.int .i64 0, .string ⟨#[]⟩, .int .i64 0, .int .i64 0, .slice a5 0 c5, .slice d5 0 f5] 25)); have K5 := Lib.hid (heap_alloc_new w5 (.cells #[.int .i64 0, .string ⟨#[]⟩, .int .i64 0, .int .i64 0, .slice a5 0 c5, .slice d5 0 f5] 25)))
  have B5' := Lib.hid (B5.out.alloc B5.out.size (.cells #[.int .u8 (c.toNat : Int)] 5))
  have V5' := Lib.hid (V5.out.below (belowOne _ (.cells #[.int .u8 (c.toNat : Int)] 5)) (Nat.le_refl _))
  have K5' := Lib.hid ((heap_alloc_old _ (.cells #[.int .u8 (c.toNat : Int)] 5) (Own.block_lt K5.out)).trans K5.out)
  have lk := Own.block_lt K5'.out
  go_wp2_with (first
    | (go_at_call 22; (with_reducible refine (C3.out _).mono ?_); rintro e w6 ⟨a6, c6, d6, f6, rfl, hv6, hb6⟩; have V6 := Lib.hid (OAt.below (OAt.below V5'.out hb6 (Nat.le_refl _)) (belowOne w6 (.cells #[.int .i64 0, .string ⟨#[]⟩, .int .i64 0, .int .i64 0, .slice a6 0 c6, .slice d6 0 f6] 25)) (Nat.le_refl _)); have B6 := Lib.hid ((B5'.out.trans (hb6.mono B5'.out.size)).alloc (Nat.le_trans B5'.out.size hb6.size) (.cells #[.int .i64 0, .string ⟨#[]⟩, .int .i64 0, .int .i64 0, .slice a6 0 c6, .slice d6 0 f6] 25)); obtain ⟨y0, y1, y2, y3, y4, y5⟩ := six_of ((heap_alloc_old w6 (.cells #[.int .i64 0, .string ⟨#[]⟩, .int .i64 0, .int .i64 0, .slice a6 0 c6, .slice d6 0 f6] 25) (Nat.lt_of_lt_of_le lk hb6.size)).trans ((hb6.block _ lk).trans K5'.out)))
    | (go_at_call 17; (with_reducible refine (S2.out _ _ V6.out).mono ?_); rintro e w7 ⟨rfl, hb7⟩))
  go_ret
  exact ⟨rfl, B6.out.trans (hb7.mono B6.out.size)⟩
end Go.Proofs.YtgfkpfppdoeifaaGreatDoor.Od

/- The law OrderChanged (with one byte changed, or one more behind, nothing is taken) answers true for all raw orders, numbers and bytes; taken that Go's own tables (those of strconv, math/bits and unicode/utf8) hold what the program's text lays, which the card ties. -/
set_option linter.unusedSimpArgs false
set_option linter.unusedVariables false
namespace Go.Proofs.YtgfkpfppdoeifaaGreatDoor.orderChanged
open Go.ChangeShapes Go.WideShapes Go.ChangeAt Go.RowKit Go.Proofs.YtgfkpfppdoeifaaGreatDoor.Od
open Go.Proofs.YtgfkpfppdoeifaaGreatDoor.Js (laid5 laid_met laidWorld tab_of_laid)

set_option maxRecDepth 100000 in
theorem contract (H : Type) (enc : TypeId × Value → H) (W : World) (base : Nat) (args : Array Value) (ds gs : List (DataW H)) (before : List MemPlace)
    (hval : ∀ (j : Nat) t v, Tryz.f6.params[j]? = some t → args[j]? = some v → Value.okWide Tryz.prog W .any base t v)
    (hW : DataW.Whole enc Tryz.prog Tryz.f6.params.toList Rows.orderChangedSpec.vars false W args.toList ds gs before) (hz : (DataW.weightsEach Tryz.prog (Tryz.f6.params.toList ++ (OpenSpec.ofChange Rows.orderChangedSpec).bare.plain.varTypes Tryz.prog) (ds ++ gs)).all (· ≤ reachBytes) = true) (hL : laidMetH Tryz.prog laid5 W) :
    Calls Tryz.prog 6 args W fun e W' => ∃ v, e = .returned v ∧ Rows.orderChangedSpec.post enc Tryz.prog Tryz.f6 false true false false W args v W' := by
  have hT := tab_of_laid hL
  clear hL
  have hW' := hW
  have hlt := hW.lt
  obtain ⟨p, q, hA0, hV, rfl, hfz, hnd⟩ := hW
  have hA : DataW.TrodAll enc Tryz.prog W 0 (fun _ => true) true Tryz.f6.params.toList args.toList ds p := hA0
  rw [Tryz.params6] at hA hval
  obtain ⟨v0, vs0, d0, ds0, p0, q0, hargs, rfl, rfl, h0, r0⟩ := trodAll_cons hA
  obtain ⟨v1, vs1, d1, ds1, p1, q1, rfl, rfl, rfl, h1, r1⟩ := trodAll_cons r0
  obtain ⟨v2, vs2, d2, ds2, p2, q2, rfl, rfl, rfl, h2, r2⟩ := trodAll_cons r1
  obtain ⟨v3, vs3, d3, ds3, p3, q3, rfl, rfl, rfl, h3, r3⟩ := trodAll_cons r2
  obtain ⟨rfl, rfl, rfl⟩ := trodAll_nil r3
  obtain rfl : args = #[v0, v1, v2, v3] := Array.ext' hargs
  obtain ⟨rfl, rfl⟩ := trodVars_none hV
  have k0 := h0
  have k1 := h1
  have k2 := h2
  have k3 := h3
  have wt0 : Wt 25 d0 := wt_of hz (j := 0) (by rw [Tryz.params6]; rfl) rfl
  obtain ⟨z0, hz0⟩ := open_order (hval 0 25 v0 rfl rfl) h0 wt0
  obtain ⟨x1, rfl, rfl, rfl, wx1⟩ := open_int Tryz.underlying3 (hval 1 3 v1 rfl rfl) h1
  obtain ⟨b1, c1⟩ := bounds_i64 wx1
  obtain ⟨x2, rfl, rfl, rfl, wx2⟩ := open_int Tryz.underlying3 (hval 2 3 v2 rfl rfl) h2
  obtain ⟨b2, c2⟩ := bounds_i64 wx2
  obtain ⟨x3, rfl, rfl, rfl, wx3⟩ := open_int Tryz.underlying5 (hval 3 5 v3 rfl rfl) h3
  obtain ⟨c3, rfl⟩ := byte_of wx3
  clear hA0
  simp only [List.append_nil] at hW'
  refine (changed_walk v0 z0 x1 x2 c3 W hT hz0 b1 c1 b2 c2).mono fun e W' ⟨he, hg⟩ => ?_
  subst he
  exact ⟨_, rfl, _, _, _, [], _, [], hW', trodAll_cons_mk (shut_bool Tryz.underlying4 _) trodAll_mk0,
    (trodAll_cons_mk (Below.trod laidOut (by kernel_rfl) (of_decide_eq_true (by kernel_rfl)) k0 hg (fun x hx => by first | (exact absurd hx (by simp)) | exact hlt x (by simp [hx]))) (trodAll_cons_mk (Below.trod laidOut (by kernel_rfl) (of_decide_eq_true (by kernel_rfl)) k1 hg (fun x hx => by first | (exact absurd hx (by simp)) | exact hlt x (by simp [hx]))) (trodAll_cons_mk (Below.trod laidOut (by kernel_rfl) (of_decide_eq_true (by kernel_rfl)) k2 hg (fun x hx => by first | (exact absurd hx (by simp)) | exact hlt x (by simp [hx]))) (trodAll_cons_mk (Below.trod laidOut (by kernel_rfl) (of_decide_eq_true (by kernel_rfl)) k3 hg (fun x hx => by first | (exact absurd hx (by simp)) | exact hlt x (by simp [hx]))) trodAll_mk0)))), rfl,
    hg.frame _, fun h => by cases h⟩

theorem reads (os : Os) {H : Type} (enc : TypeId × Value → H) : ∃ places, DataW.whole enc Tryz.prog ((laidWorld os).forCall (fun _ _ => 0) ⟨#[], #[.agg #[.int .i64 0, .string ⟨#[]⟩, .int .i64 0, .int .i64 0, .slice none 0 0, .slice none 0 0], .int .i64 0, .int .i64 0, .int .u8 0], []⟩).memory Tryz.f6.params.toList Rows.orderChangedSpec.vars false (#[Value.agg #[.int .i64 0, .string ⟨#[]⟩, .int .i64 0, .int .i64 0, .slice none 0 0, .slice none 0 0], Value.int .i64 0, Value.int .i64 0, Value.int .u8 0] : Array Value).toList 8 = some ([.agg [.lit (.int .i64 0), .lit (.string []), .lit (.int .i64 0), .lit (.int .i64 0), .nil, .nil], .lit (.int .i64 0), .lit (.int .i64 0), .lit (.int .u8 0)], [], places) :=
  ⟨[], by kernel_rfl⟩

set_option maxRecDepth 100000 in
theorem lifted (os : Os) (started : os.Started) (H : Type) (enc : TypeId × Value → H) (F : Stop.Interp) :
    ReturnsInHanded {} Tryz.checked os 6 .any ((OpenSpec.ofChange Rows.orderChangedSpec).preRow enc Tryz.prog Tryz.f6 Rows.orderChangedRow.domain false Rows.orderChangedRow.laid) (((OpenSpec.ofChange Rows.orderChangedSpec).at F).post enc Tryz.prog Tryz.f6 false true false false) := by
  obtain ⟨places, hx⟩ := reads os enc
  refine returnsInHanded_of_row (C := Tryz.checked) (s := OpenSpec.ofChange Rows.orderChangedSpec) own started (by kernel_rfl) Tryz.func6
    (witness_row_at (enc := enc) (C := Tryz.checked) false (laidWorld os) #[.agg #[.int .i64 0, .string ⟨#[]⟩, .int .i64 0, .int .i64 0, .slice none 0 0, .slice none 0 0], .int .i64 0, .int .i64 0, .int .u8 0] rfl (by kernel_rfl) (by kernel_rfl) (by kernel_rfl)
      (OpenSpec.preRow_of_cond 8 hx (by kernel_rfl) (fun k hk => by cases hk) (by kernel_rfl) (laid_met os _))) ?_
  intro W base args ds gs before hval hW _ _ hz hL _ _
  exact contract H enc W base args ds gs before hval hW hz hL

theorem said : Rows.OrderChangedSaid :=
  OpenClaim.holds_of_cond 6 Tryz.f6 rfl rfl rfl rfl rfl rfl rfl ⟨rfl, rfl, rfl, rfl, rfl⟩ rfl rfl rfl rfl rfl (by kernel_rfl) Tryz.func6 (by kernel_rfl)
    (of_decide_eq_true (by kernel_rfl)) (by unfold Func.isWrapper; first | (rw [if_pos (by decide +kernel)]; kernel_rfl) | (rw [if_neg (by decide +kernel)]; exact ⟨rfl, rfl⟩))
    (fun os started H enc _ F => by rw [OpenClaim.pre_eq_preRow]; exact lifted os started H enc F)

theorem plain (f : FuncId) (fn : Func) (hf : Tryz.pinned.checked.prog.funcNamed Rows.orderChangedRow.func = some f) (hfn : Tryz.pinned.checked.prog.funcs[f]? = some fn) :
    false = Tryz.pinned.checked.prog.looks [] ∧ ∀ (j : Nat) t, fn.params[j]? = some t → Tryz.pinned.checked.prog.wantsStandIn t = false := by
  obtain rfl : f = 6 := Option.some.inj ((show Tryz.prog.funcNamed Rows.orderChangedRow.func = some 6 by kernel_rfl).symm.trans hf) |>.symm
  obtain rfl : fn = Tryz.f6 := (Option.some.inj (Tryz.func6.symm.trans hfn)).symm
  refine ⟨by kernel_rfl, fun j t ht => ?_⟩
  rw [Tryz.params6] at ht
  have hm := Array.mem_of_getElem? ht
  have hh : t = 25 ∨ t = 5 ∨ t = 3 := by simp at hm; first | (rcases hm with h | h | h <;> simp [h]) | (rcases hm with h | h | h | h <;> simp [h])
  rcases hh with rfl | rfl | rfl
  · exact (show Tryz.prog.wantsStandIn 25 = false by kernel_rfl)
  · exact (show Tryz.prog.wantsStandIn 5 = false by kernel_rfl)
  · exact (show Tryz.prog.wantsStandIn 3 = false by kernel_rfl)

theorem card : Rows.OrderChangedCardSaid :=
  Claim7.holds_tied_plain_at .later [] _ _ _ _ said (fun _ h => by cases h) (by kernel_rfl) (fun _ h => by cases h) orderChanged_row_tie rfl ⟨rfl, rfl⟩ (by kernel_rfl) rfl plain (by kernel_rfl)
end Go.Proofs.YtgfkpfppdoeifaaGreatDoor.orderChanged
