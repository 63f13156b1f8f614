/- The law OrderForms (fields in another order, and more of them, count for nothing; a field less is no order) answers true for all inputs; taken that Go's own tables (those of strconv, math/bits and unicode/utf8) hold what the program's text lays, which the card ties. -/
import Derived.Test.YtcpggmdiojaalaaGreatDoorFz
import Derived.Test.YtcpggmdiojaalaaGreatDoorMF
import Derived.ShutString
import Derived.Test.YtcpggmdiojaalaaGreatDoorMG
/- OrderForms: fields in another order, and more of them, count for nothing; a field less is no order. -/
set_option linter.unusedVariables false
set_option linter.unusedSimpArgs false
namespace Go.Proofs.YtcpggmdiojaalaaGreatDoor.Od
open Go.RowKit Js Lex

theorem below_next8 {w a b : World} (h : Below w.heap.size w a) (k : Below a.heap.size a b) : Below w.heap.size w b := h.trans (k.mono h.size)
theorem below_box8 {w a : World} (h : Below w.heap.size w a) (o : Obj) : Below w.heap.size w (a.alloc o) := h.alloc h.size o
theorem take_zero8 {s : List UInt8} {k : Int} (h : takeS Tp.nameB s = (k, none)) (w : World) (hs : s.length ≤ 281474976710656) : Calls Tryz.prog 24 #[.string ⟨s.toArray⟩] w (fun e w' => ∃ a c b f, e = .returned (.tuple #[.agg #[.int .i64 0, .string ⟨#[]⟩, .int .i64 0, .int .i64 0, .slice a 0 c, .slice b 0 f], .int .i64 k]) ∧ Below w.heap.size w w') := by
  refine (Take_any s w hs).mono ?_
  rw [h]
  rintro e w' ⟨v, rfl, hv, hb⟩
  have hv' : OAt Any w' v o0 := hv
  obtain ⟨a, c, b, f, rfl, -⟩ := hv'.open_
  exact ⟨a, c, b, f, rfl, hb⟩
theorem take_some8 {s : List UInt8} {y : O} (h : takeS Tp.nameB s = (0, some y)) (w : World) (hs : s.length ≤ 281474976710656) : Calls Tryz.prog 24 #[.string ⟨s.toArray⟩] w (fun e w' => ∃ a c b f, e = .returned (.tuple #[.agg #[.int .i64 y.h, .string ⟨y.v.toArray⟩, .int .i64 y.o, .int .i64 y.u, .slice a y.ns.length c, .slice b y.es.length f], .int .i64 0]) ∧
    OAt Any w' (.agg #[.int .i64 y.h, .string ⟨y.v.toArray⟩, .int .i64 y.o, .int .i64 y.u, .slice a y.ns.length c, .slice b y.es.length f]) y ∧ Below w.heap.size w w') := by
  refine (Take_any s w hs).mono ?_
  rw [h]
  rintro e w' ⟨v, rfl, hv, hb⟩
  have hv' : OAt Any w' v y := hv
  obtain ⟨a, c, b, f, rfl, -⟩ := hv'.open_
  exact ⟨a, c, b, f, rfl, hv', hb⟩
set_option maxHeartbeats 16000000 in
set_option maxRecDepth 100000 in
theorem forms_walk (v0 : Value) (x : O) (base out : Int) (name : List UInt8) (w : World) (hT : Dec.Tab w) (h : OAt Any w v0 x) (b0 : -9223372036854775808 ≤ base) (b1 : base ≤ 9223372036854775807) (a0 : -9223372036854775808 ≤ out) (a1 : out ≤ 9223372036854775807) (hm : name.length ≤ 140737488351232) :
    Calls Tryz.prog 4 #[v0, .int .i64 base, .int .i64 out, .string ⟨name.toArray⟩] w (Ret (.bool true) w) := by
  obtain ⟨p0, q0, e0, f0, rfl, -⟩ := h.open_
  have X0 := Lib.hid (BX8.new h)
  have A1 := Lib.hid (fun (w' : World) (hb : Below w.heap.size w w') => awake8_any w' (hT.below hb))
  have hr := fit_rightO Tp.fit_name x base
  obtain ⟨y, hy⟩ : ∃ y, fitO Tp.fitL x base = y := ⟨_, rfl⟩
  have F1 := Lib.hid (fun (w' : World) (b : Nat) (a : Option Addr) (c : Nat) (e : Option Addr) (f : Nat) (hx : BX8 x b a c e f w') => fit8 hy hx b0 b1)
  rw [hy] at hr
  have L1 := Lib.hid (fun (w' : World) (b : Nat) (a : Option Addr) (c : Nat) (e : Option Addr) (f : Nat) (hb : Below w.heap.size w w') (hx : BX8 y b a c e f w') => lay_yes hr (hT.below hb) hx)
  have hlen := layS_len hr
  have OP := Lib.hid (fun (u : World) => Se.open_some (Se.open_seal (printJ (layJ y))) u (show (layS y).length ≤ _ by omega))
  have PA := Lib.hid (fun (u : World) => parse_lay8 hr u)
  have HR := Lib.hid hr
  have FN := Lib.hid (fun (u : World) => Tp.Fit_any name u (by unfold Tp.reachN; omega))
  have HFN := Lib.hid (name_ok _ (Tp.fit_name name))
  have I1 := Lib.hid (fun (u : World) => str5_any [121] u)
  unfold bareV at I1
  have hq : (⟨(Se.sealS (printJ (layJ y))).toArray⟩ : ByteArray) = ⟨(layS y).toArray⟩ := rfl
  rw [hq] at OP
  have hmo : MoreOk (Tp.fitL name) := by
    obtain ⟨h1, h2⟩ := HFN.out
    refine ⟨?_, by omega⟩
    unfold asciiB at h1 ⊢
    rw [List.all_cons, h1]
    decide
  have hbr := back_right name_ok hr hmo
  have hbs := back_size name_ok hr hmo
  have hbl : (printJ (backJ y (Tp.fitL name))).length ≤ 20000 := by
    have := obj_len (ns := backN (Tp.fitL name)) (is := backI y) rfl
    have e : backJ y (Tp.fitL name) = .mk 7 0 0 [] (backN (Tp.fitL name)) (backI y) := rfl
    rw [e]
    omega
  have MK := Lib.hid (fun (lo : Nat) (wA wr : World) (nv iv : Value) (h : TF lo wA (backN (Tp.fitL name)) (backI y) nv iv wr) => make_back8 h)
  have hps : printS (backJ y (Tp.fitL name)) = printJ (backJ y (Tp.fitL name)) := by unfold printS; rw [if_pos hbr]
  have PR := Lib.hid (fun (w' : World) (v : Value) (hb : Below w.heap.size w w') (hJ : JAt Any w' 16 v (backJ y (Tp.fitL name))) => print_of Any v (backJ y (Tp.fitL name)) w' (hT.below hb) ⟨16, hJ⟩ (by omega))
  rw [hps] at PR
  have SE := Lib.hid (fun (w' : World) => Se.seal_l (32 :: (printJ (backJ y (Tp.fitL name)) ++ [10])) w' (by simp; omega))
  have TK := Lib.hid (fun (w' : World) => take_some8 (takeS_back name_ok hr hmo) w' (by rw [Se.sealS_len]; simp; omega))
  have HPD : Hid ((⟨#[32]⟩ : ByteArray) ++ ⟨(printJ (backJ y (Tp.fitL name))).toArray⟩ ++ ⟨#[10]⟩ = ⟨(32 :: (printJ (backJ y (Tp.fitL name)) ++ [10])).toArray⟩) := by
    show _ = _
    rw [Se.bs_append [32] (printJ (backJ y (Tp.fitL name))), Se.bs_append ([32] ++ printJ (backJ y (Tp.fitL name))) [10]]
    rfl
  have hub : (⟨(printJ (backJ y (Tp.fitL name))).toArray⟩ : ByteArray).size ≤ 20000 := by rw [bs_size]; exact hbl
  have pk0 := Quo.pickS_nonneg (c := out) (n := 6) (by decide)
  have pk1 := Quo.pickS_lt (c := out) (n := 6) (by decide)
  have PK := Lib.hid (fun (u : World) => pick8_any out 6 u a0 a1 (by decide) (by decide))
  generalize Quo.pickS out 6 = kz at *
  obtain ⟨k, rfl⟩ := Int.eq_ofNat_of_zero_le pk0
  have hk6 : k < 6 := by omega
  generalize Se.sealS (32 :: (printJ (backJ y (Tp.fitL name)) ++ [10])) = TB at *
  generalize (⟨(32 :: (printJ (backJ y (Tp.fitL name)) ++ [10])).toArray⟩ : ByteArray) = UC at *
  generalize (⟨(printJ (backJ y (Tp.fitL name))).toArray⟩ : ByteArray) = UB at *
  generalize backJ y (Tp.fitL name) = JB at *
  have hlr := less_right name_ok hr hmo hk6
  have hll : (printJ (lessJ y (Tp.fitL name) k)).length ≤ 20000 := by
    have h2 : (printJ (lessJ y (Tp.fitL name) k)).length ≤ sizeL ((backN (Tp.fitL name)).eraseIdx k) ((backI y).eraseIdx k) + 2 := obj_len (by rw [List.length_eraseIdx, List.length_eraseIdx]; rfl)
    have h3 := size_erase (backN (Tp.fitL name)) (backI y) k
    omega
  have hps2 : printS (lessJ y (Tp.fitL name) k) = printJ (lessJ y (Tp.fitL name) k) := by unfold printS; rw [if_pos hlr]
  have PR2 := Lib.hid (fun (w' : World) (v : Value) (hb : Below w.heap.size w w') (hJ : JAt Any w' 16 v (lessJ y (Tp.fitL name) k)) => print_of Any v (lessJ y (Tp.fitL name) k) w' (hT.below hb) ⟨16, hJ⟩ (by omega))
  rw [hps2] at PR2
  have SE2 := Lib.hid (fun (w' : World) => Se.seal_l (printJ (lessJ y (Tp.fitL name) k)) w' (by omega))
  have TK2 := Lib.hid (fun (w' : World) => take_zero8 (takeS_less name_ok hr hmo hk6) w' (by rw [Se.sealS_len]; omega))
  have HML := Lib.hid (mk_lessO y (Tp.fitL name) k)
  have HTX := Lib.hid (backN_txt (n := Tp.fitL name) (by have := HFN.out.2; omega))
  have HNS := Lib.hid (backN_take (Tp.fitL name))
  have HIS := Lib.hid (backI_take y)
  have HN7 : Hid ((backN (Tp.fitL name)).take 6 ++ [120 :: Tp.fitL name] = backN (Tp.fitL name)) := rfl
  have HI7 : Hid ((backI y).take 6 ++ [.mk 5 0 0 [121] [] []] = backI y) := rfl
  have HL7 : Hid ((backN (Tp.fitL name)).length = 7) := rfl
  have HM7 : Hid ((backI y).length = 7) := rfl
  have HNT : Hid (∀ p, p < 6 → txtB (namesO.getD p [])) := fun p hp => by
    have h2 : ∀ m ∈ namesO, m.length ≤ 20 := by decide
    have hm : namesO.getD p [] ∈ namesO := by
      rw [List.getD_eq_getElem?_getD, List.getElem?_eq_getElem (show p < namesO.length from hp)]
      exact List.getElem_mem _
    have := h2 _ hm
    unfold txtB; omega
  generalize Se.sealS (printJ (lessJ y (Tp.fitL name) k)) = TL at *
  generalize printJ (lessJ y (Tp.fitL name) k) = UL at *
  generalize lessJ y (Tp.fitL name) k = JL at *
  have SM := Lib.hid (fun (w' : World) (b : Nat) (a : Option Addr) (c : Nat) (e : Option Addr) (f : Nat) (hx : BX8 y b a c e f w') (b' : Nat) (a' : Option Addr) (c' : Nat) (e' : Option Addr) (f' : Nat) (hx' : BX8 y b' a' c' e' f' w') => same8_any Any Any _ _ y y w' hx.oat hx'.oat)
  rw [sameO_iff.2 rfl] at SM
  clear hq hlen hr hmo hbr hbs hbl hps pk0 pk1 hy h hlr hll hps2
  generalize (⟨(layS y).toArray⟩ : ByteArray) = TS at *
  generalize (⟨(printJ (layJ y)).toArray⟩ : ByteArray) = US at *
  generalize backN (Tp.fitL name) = NS at *
  generalize backI y = IS at *
  generalize itemsO y = itO at *
  generalize hfl : Tp.fitL name = fl at *
  have HXN : Hid ((⟨#[120]⟩ : ByteArray) ++ ⟨fl.toArray⟩ = ⟨(120 :: fl).toArray⟩) := Se.bs_append [120] fl
  have hfs : (⟨fl.toArray⟩ : ByteArray).size ≤ 1000 := by rw [bs_size]; have := HFN.out.2; omega
  have hs1 : (⟨#[120]⟩ : ByteArray).size = 1 := rfl
  have hs2 : (⟨#[32]⟩ : ByteArray).size = 1 := rfl
  have hs3 : (⟨#[10]⟩ : ByteArray).size = 1 := rfl
  generalize hfb : (⟨fl.toArray⟩ : ByteArray) = FB at *
  generalize h120 : (⟨#[120]⟩ : ByteArray) = B120 at *
  generalize h32 : (⟨#[32]⟩ : ByteArray) = B32 at *
  generalize h10 : (⟨#[10]⟩ : ByteArray) = BLF at *
  generalize (⟨name.toArray⟩ : ByteArray) = NB at *
  clear hfl hfb
  obtain ⟨i0, hi0, hz0, hz1, hz2⟩ := info_parts json_info
  obtain ⟨i1, hi1, hx0, hx1, hx2⟩ := info_parts str_info2
  have B0 := Lib.hid (belowOne w (.cells #[.int .i64 x.h, .string ⟨x.v.toArray⟩, .int .i64 x.o, .int .i64 x.u, .slice p0 x.ns.length q0, .slice e0 x.es.length f0] 25))
  go_enter Tryz.func4, Tryz.ntmps4
  go_wp2_with (first
    | (go_at_call 12; (with_reducible refine (A1.out _ B0.out).mono ?_); rintro e1 w1 ⟨rfl, hb1⟩; have B1 := Lib.hid (below_next8 B0.out hb1); have X1 := Lib.hid (X0.out.below hb1); obtain ⟨x0, x1, x2, x3, x4, x5⟩ := six_of X1.out.blk; clear hb1)
    | (go_at_call 13; (with_reducible refine (F1.out _ _ _ _ _ _ X1.out).mono ?_); rintro e2 w2 ⟨a2, c2, d2, f2, rfl, hv2, hb2⟩; have Y2 := Lib.hid (BX8.new hv2); have B2 := Lib.hid (below_box8 (below_next8 B1.out hb2) (.cells #[.int .i64 y.h, .string ⟨y.v.toArray⟩, .int .i64 y.o, .int .i64 y.u, .slice a2 y.ns.length c2, .slice d2 y.es.length f2] 25)); clear hb2 hv2 x0 x1 x2 x3 x4 x5; obtain ⟨y0, y1, y2, y3, y4, y5⟩ := six_of Y2.out.blk)
    | (go_at_call 14; (with_reducible refine (L1.out _ _ _ _ _ _ B2.out Y2.out).mono ?_); rintro e3 w3 ⟨rfl, hb3⟩; have Y3 := Lib.hid (Y2.out.below hb3); have B3 := Lib.hid (below_next8 B2.out hb3); clear hb3 y0 y1 y2 y3 y4 y5)
    | (go_at_call 26; (with_reducible refine (OP.out _).mono ?_); rintro e4 w4 ⟨rfl, hb4⟩; have Y4 := Lib.hid (Y3.out.below hb4); have B4 := Lib.hid (below_next8 B3.out hb4); clear hb4)
    | (go_at_call 27; (with_reducible refine (PA.out _).mono ?_); rintro e5 w5 ⟨t5, bn, on, cn, bi, oi, ci, rfl, hcn, hci, hbn, hbi, hN5, hI5, hb5⟩; have Y5 := Lib.hid ((Y4.out.below hb5).box (.cells #[.int .i64 7, .int .i64 0, .int .i64 0, .string t5, .slice (some ⟨bn, on, none⟩) 6 cn, .slice (some ⟨bi, oi, none⟩) 6 ci] 45)); have B5 := Lib.hid (below_box8 (below_next8 B4.out hb5) (.cells #[.int .i64 7, .int .i64 0, .int .i64 0, .string t5, .slice (some ⟨bn, on, none⟩) 6 cn, .slice (some ⟨bi, oi, none⟩) 6 ci] 45)); have HB5 := Lib.hid hb5; have N5 := Lib.hid hN5; have I5 := Lib.hid hI5; clear hN5 hI5 hb5; obtain ⟨g0, g1, g2, g3, g4, g5⟩ := six_of (heap_alloc_new w5 (.cells #[.int .i64 7, .int .i64 0, .int .i64 0, .string t5, .slice (some ⟨bn, on, none⟩) 6 cn, .slice (some ⟨bi, oi, none⟩) 6 ci] 45))))
  have HVB : Hid ((w5.alloc (.cells #[.int .i64 7, .int .i64 0, .int .i64 0, .string t5, .slice (some ⟨bn, on, none⟩) 6 cn, .slice (some ⟨bi, oi, none⟩) 6 ci] 45)).heap[w5.heap.size]? = some (.cells #[.int .i64 7, .int .i64 0, .int .i64 0, .string t5, .slice (some ⟨bn, on, none⟩) 6 cn, .slice (some ⟨bi, oi, none⟩) 6 ci] 45 (0, 0))) := heap_alloc_new _ _
  have HAB := Lib.hid (belowOne w5 (.cells #[.int .i64 7, .int .i64 0, .int .i64 0, .string t5, .slice (some ⟨bn, on, none⟩) 6 cn, .slice (some ⟨bi, oi, none⟩) 6 ci] 45))
  have HAS : Hid ((w5.alloc (.cells #[.int .i64 7, .int .i64 0, .int .i64 0, .string t5, .slice (some ⟨bn, on, none⟩) 6 cn, .slice (some ⟨bi, oi, none⟩) 6 ci] 45)).heap.size = w5.heap.size + 1) := by show _ = _; simp
  clear g0 g1 g2 g3 g4 g5
  generalize w5.alloc (.cells #[.int .i64 7, .int .i64 0, .int .i64 0, .string t5, .slice (some ⟨bn, on, none⟩) 6 cn, .slice (some ⟨bi, oi, none⟩) 6 ci] 45) = wA at *
  have HLO : Hid (w4.heap.size ≤ w5.heap.size) := HB5.out.size
  obtain ⟨lo, HLOE⟩ : ∃ lo, Hid (w4.heap.size = lo) := ⟨_, rfl⟩
  rw [HLOE.out] at I5 HLO
  have hbnA : bn < wA.heap.size := by have := HAS.out; omega
  have hbiA : bi < wA.heap.size := by have := HAS.out; omega
  have HF0 : Hid (TF lo wA (NS.take (6 - 6)) (IS.take (6 - 6)) (.slice none 0 0) (.slice none 0 0) wA) := TF.void (Below.refl _ _)
  have HNL : Hid (∀ k, (NS.take k).length ≤ 7 ∧ (IS.take k).length ≤ 7) := fun k => by
    rw [List.length_take, List.length_take, HL7.out, HM7.out]
    omega
  go_loopw [18, 19, 20] (fun s18 s19 i wr => ∃ (p : Nat), p ≤ 6 ∧ i = .int .i64 ((p : Int) - 1) ∧ Hid (TF lo wA (NS.take (6 - p)) (IS.take (6 - p)) s18 s19 wr)) (fun _ _ i _ => (intOf i + 1).toNat)
  case atStart => exact ⟨6, Nat.le_refl _, rfl, HF0⟩
  case round =>
    clear HF0
    obtain ⟨p, hp, hi, HT⟩ := hrel
    have hvb := (HT.out.bel.block w5.heap.size (by have := HAS.out; omega)).trans HVB.out
    cases p with
    | succ p =>
      have hi' : u20 = .int .i64 (p : Int) := by rw [hi]; congr 1; omega
      subst hi'
      clear hi
      obtain ⟨g0, g1, g2, g3, g4, g5⟩ := six_of hvb
      clear hvb
      have a1 : (0 : Int) ≤ (p : Int) := by omega
      have a2 : (p : Int) < 6 := by omega
      have hpl : p < 6 := by omega
      have n1 := (HT.out.bel.cell (p := ⟨bn, on + p, none⟩) hbnA).trans ((HAB.out.cell (p := ⟨bn, on + p, none⟩) hbn).trans (N5.out p hpl))
      unfold strW at n1
      have HSN := Lib.hid (HNS.out p hpl)
      have HSI := Lib.hid (HIS.out p hpl)
      have HTQ := Lib.hid (HNT.out p hpl)
      obtain ⟨u, hu1, hu2⟩ := I5.out p hpl
      obtain ⟨fk, fm, fe, ft, fan, fnn, fcn, fai, fni, fci, rfl⟩ := jAt_form hu2
      have HU1 := Lib.hid hu1
      have HU2 := Lib.hid hu2
      obtain ⟨hnl, hal⟩ := HNL.out (6 - (p + 1))
      generalize NS.take (6 - (p + 1)) = ns at *
      generalize IS.take (6 - (p + 1)) = acc at *
      generalize namesO.getD p [] = nq at *
      generalize itO.getD p j0 = jq at *
      have hbr := HT.out.bel.size
      have hlor : lo ≤ wr.heap.size := by have := HLO.out; have := HAS.out; omega
      obtain ⟨vs, hO⟩ := HT.out.own
      obtain ⟨ao1, cn1, rfl⟩ := own_slice hO.irow
      obtain ⟨an1, cn2, rfl⟩ := own_slice hO.nrow
      have HO := Lib.hid hO
      clear hO hu1 hu2
      go_wp2_with (first
        | (at_builtin; (refine wpList_append_lies _ rfl _ _ 36 rfl lo 9 i1 _ 1 16 Tryz.underlying36 hi1 hx0 hx1 hx2 rfl (by omega) _ ns.length (ns.map strW) rfl (HO.out.nrow.alloc _) ⟨wr.heap.size, 0, none⟩ 1 1 [.string ⟨nq.toArray⟩] rfl rfl (World.news_of_block (cs := #[.string ⟨nq.toArray⟩]) (t := 9) (fr := (0, 0)) (heap_alloc_new _ _)) (by simp [Value.oneCell']) (by omega) (by unfold maxLen; omega) (by omega) (by simp; omega) (wr.heap.size + 1) (by simp) ?_); intro g cp wB hown hgrow hat hlt2; have HT2 := Lib.hid (HT.out.name hgrow (belowOne _ _) (hat.imp id (fun h => by omega)) HTQ.out hown); have hvb2 := (HT2.out.bel.block w5.heap.size (by have := HAS.out; omega)).trans HVB.out; clear g0 g1 g2 g3 g4 g5 n1; obtain ⟨g0, g1, g2, g3, g4, g5⟩ := six_of hvb2; obtain ⟨m0, m1, m2, m3, m4, m5⟩ := (HU1.out.keep ((HT2.out.bel.block bi hbiA).trans (HAB.out.block bi hbi))).six; have hsB := HT2.out.bel.size; obtain ⟨vs2, hO2⟩ := HT2.out.own; have HO2 := Lib.hid hO2; clear hO2 hown hgrow hat hvb2)
        | (at_builtin; (refine wpList_append_lies _ rfl _ _ 43 rfl lo 45 i0 _ 6 88 Tryz.underlying43 hi0 hz0 hz1 hz2 rfl (by omega) _ acc.length (vs2.flatMap aggC) rfl (HO2.out.irow.alloc _) ⟨wB.heap.size, 0, none⟩ 1 1 [.int .i64 fk, .int .i64 fm, .int .i64 fe, .string ft, .slice fan fnn fcn, .slice fai fni fci] rfl rfl (World.news_of_block (cs := #[.int .i64 fk, .int .i64 fm, .int .i64 fe, .string ft, .slice fan fnn fcn, .slice fai fni fci]) (t := 45) (fr := (0, 0)) (heap_alloc_new _ _)) (by simp [Value.oneCell']) (by omega) (by unfold maxLen; omega) (by omega) (by simp; have := HLO.out; have := HAS.out; omega) (wB.heap.size + 1) (by simp) ?_); intro g2' cp2 w4' hown2 hgrow2 hat2 hlt3; have HT4 := Lib.hid (HT2.out.item HO2.out hgrow2 (belowOne _ _) (hat2.imp id (fun h => by omega)) hown2 (HU2.out.keep (fun b hb _ => ⟨hb.1, by have := HAS.out; omega⟩) (fun b hb _ => (HT2.out.bel.block b (by have := HAS.out; omega)).trans (HAB.out.block b hb.2)) (by have := HAS.out; omega))); clear hown2 hgrow2 hat2))
      go_roundw
      case rel =>
        refine ⟨p, by omega, by go_num, ?_⟩
        show TF _ _ _ _ _ _ _
        rw [HSN.out, HSI.out]
        exact HT4.out
      case measure => simp [intOf] <;> omega
    | zero =>
      have hi' : u20 = .int .i64 (-1) := by rw [hi]; rfl
      subst hi'
      clear hi hvb
      have HTA : Hid (TF lo wA (NS.take 6) (IS.take 6) u18 u19 wr) := HT.out
      clear HT
      have HL6 : Hid ((NS.take 6).length = 6) := by show _ = _; rw [List.length_take, HL7.out]; rfl
      have HM6 : Hid ((IS.take 6).length = 6) := by show _ = _; rw [List.length_take, HM7.out]; rfl
      have HTX0 : Hid (txtB (120 :: fl)) := by have := HFN.out.2; show txtB _; unfold txtB; simp; omega
      have hbr := HTA.out.bel.size
      have hlor : lo ≤ wr.heap.size := by have := HLO.out; have := HAS.out; omega
      generalize NS.take 6 = ns6 at *
      generalize IS.take 6 = is6 at *
      obtain ⟨vs, hO⟩ := HTA.out.own
      obtain ⟨ao1, cn1, rfl⟩ := own_slice hO.irow
      obtain ⟨an1, cn2, rfl⟩ := own_slice hO.nrow
      clear hO
      rw [HL6.out, HM6.out] at HTA
      rw [HL6.out, HM6.out]
      have HAW : Hid (Below w.heap.size w wA) := B5.out
      rw [← HPD.out] at SE
      go_upto_region 17 with (first
        | (go_at_call 28; (with_reducible refine (FN.out _).mono ?_); rintro e6 w6 ⟨rfl, hb6⟩; have HT6 := Lib.hid (HTA.out.below hb6); have hs6 := hb6.size; obtain ⟨vs6, hO6⟩ := HT6.out.own; have HO6 := Lib.hid hO6; clear hb6 hO6)
        | (at_builtin; (refine wpList_append_lies _ rfl _ _ 36 rfl lo 9 i1 _ 1 16 Tryz.underlying36 hi1 hx0 hx1 hx2 rfl (by omega) _ 6 (ns6.map strW) rfl (by have := HO6.out.nrow.alloc (.cells #[.string (B120 ++ FB)] 9); rw [HL6.out] at this; exact this) ⟨w6.heap.size, 0, none⟩ 1 1 [.string (B120 ++ FB)] rfl rfl (World.news_of_block (cs := #[.string (B120 ++ FB)]) (t := 9) (fr := (0, 0)) (heap_alloc_new _ _)) (by simp [Value.oneCell']) (by omega) (by unfold maxLen; omega) (by omega) (by simp; omega) (w6.heap.size + 1) (by simp) ?_); intro bm cm w7 hown hgrow hat hlt2; have HT7 : Hid (TF lo wA NS is6 (.slice (some ⟨bm, 0, none⟩) 7 cm) (.slice ao1 6 cn1) w7) := (by have q := HT6.out.name (nm := 120 :: fl) (g := bm) (cp := cm) hgrow (belowOne _ _) (hat.imp id (fun h => by omega)) HTX0.out (by rw [HL6.out]; rw [HXN.out] at hown; exact hown); rw [HN7.out, HL6.out] at q; exact q); have hs7 := HT7.out.bel.size; clear hown hgrow hat)
        | (go_at_call 29; (with_reducible refine (I1.out _).mono ?_); rintro e8 w8 ⟨rfl, hb8⟩; have HT8 := Lib.hid (HT7.out.below hb8); have hs8 := hb8.size; obtain ⟨vs8, hO8⟩ := HT8.out.own; have HO8 := Lib.hid hO8; clear hb8 hO8)
        | (at_builtin; (refine wpList_append_lies _ rfl _ _ 43 rfl lo 45 i0 _ 6 88 Tryz.underlying43 hi0 hz0 hz1 hz2 rfl (by omega) _ 6 (vs8.flatMap aggC) rfl (by have := HO8.out.irow.alloc (.cells #[.int .i64 5, .int .i64 0, .int .i64 0, .string ⟨[121].toArray⟩, .slice none 0 0, .slice none 0 0] 45); rw [HM6.out] at this; exact this) ⟨w8.heap.size, 0, none⟩ 1 1 [.int .i64 5, .int .i64 0, .int .i64 0, .string ⟨[121].toArray⟩, .slice none 0 0, .slice none 0 0] rfl rfl (World.news_of_block (cs := #[.int .i64 5, .int .i64 0, .int .i64 0, .string ⟨[121].toArray⟩, .slice none 0 0, .slice none 0 0]) (t := 45) (fr := (0, 0)) (heap_alloc_new _ _)) (by simp [Value.oneCell']) (by omega) (by unfold maxLen; omega) (by omega) (by simp; have := HLO.out; have := HAS.out; omega) (w8.heap.size + 1) (by simp) ?_); intro bo co w9 hown2 hgrow2 hat2 hlt3; have HT9 : Hid (TF lo wA NS IS (.slice (some ⟨bm, 0, none⟩) 7 cm) (.slice (some ⟨bo, 0, none⟩) 7 co) w9) := (by have q := HT8.out.leaf (g := bo) (cp := co) (j := .mk 5 0 0 [121] [] []) HO8.out hgrow2 (belowOne _ _) (hat2.imp id (fun h => by omega)) (by rw [HM6.out]; exact hown2) (fun S w => (str_jat (t := [121]) (by unfold txtB; simp)).deep (by omega)); rw [HI7.out, HM6.out] at q; exact q); clear hown2 hgrow2 hat2))
      have B9 := Lib.hid (HAW.out.trans (HT9.out.bel.mono HAW.out.size))
      have Y9 := Lib.hid (Y5.out.below HT9.out.bel)
      clear HT6 HT7 HT8 HO6 HO8 HTA
      go_upto_region 19 with (first
        | (go_at_call 31; (with_reducible refine (MK.out _ _ _ _ _ HT9.out).mono ?_); rintro e10 w10 ⟨k8, m8, e8', t8, an8, nn8, cn8, ai8, ni8, ci8, rfl, hJ8, hb8⟩; have J8 := Lib.hid hJ8.any; have B10 := Lib.hid (below_next8 B9.out hb8); have Y10 := Lib.hid (Y9.out.below hb8); have T10 := Lib.hid (HT9.out.below hb8); clear hJ8 hb8)
        | (go_at_call 30; (with_reducible refine (PR.out _ _ B10.out J8.out).mono ?_); rintro e11 w11 ⟨rfl, hb9⟩; have B11 := Lib.hid (below_next8 B10.out hb9); have Y11 := Lib.hid (Y10.out.below hb9); have T11 := Lib.hid (T10.out.below hb9); clear hb9)
        | (go_at_call 23; (with_reducible refine (SE.out _).mono ?_); rintro e12 w12 ⟨rfl, hb10⟩; have B12 := Lib.hid (below_next8 B11.out hb10); have Y12 := Lib.hid (Y11.out.below hb10); have T12 := Lib.hid (T11.out.below hb10); clear hb10)
        | (go_at_call 24; (with_reducible refine (TK.out _).mono ?_); rintro e13 w13 ⟨a7, c7, d7, f7, rfl, hv7, hb11⟩; have V13 := Lib.hid (BX8.new hv7); have B13 := Lib.hid (below_box8 (below_next8 B12.out hb11) (.cells #[.int .i64 y.h, .string ⟨y.v.toArray⟩, .int .i64 y.o, .int .i64 y.u, .slice a7 y.ns.length c7, .slice d7 y.es.length f7] 25)); have Y13 := Lib.hid ((Y12.out.below hb11).box (.cells #[.int .i64 y.h, .string ⟨y.v.toArray⟩, .int .i64 y.o, .int .i64 y.u, .slice a7 y.ns.length c7, .slice d7 y.es.length f7] 25)); have T13 := Lib.hid ((T12.out.below hb11).below (belowOne _ (.cells #[.int .i64 y.h, .string ⟨y.v.toArray⟩, .int .i64 y.o, .int .i64 y.u, .slice a7 y.ns.length c7, .slice d7 y.es.length f7] 25))); clear hb11 hv7)
        | (go_at_call 22; (with_reducible refine (PK.out _).mono ?_); rintro e14 w14 ⟨rfl, rfl⟩))
      rename_i K3 A3
      have BS := Lib.hid B13.out
      generalize w13.alloc (.cells #[.int .i64 y.h, .string ⟨y.v.toArray⟩, .int .i64 y.o, .int .i64 y.u, .slice a7 y.ns.length c7, .slice d7 y.es.length f7] 25) = wS at *
      obtain ⟨vs, hO⟩ := T13.out.own
      obtain ⟨bq, cq, bp, cq2, e1, e2, hcm, hco, hbnS, hbiS, hNc, hIc⟩ := Od.Own3.read hO (by rw [HL7.out]; omega) (by rw [HM7.out]; omega)
      rw [HL7.out] at e1 hcm hNc
      rw [HM7.out] at e2 hco hIc
      simp only [Value.slice.injEq, Option.some.injEq, Addr.mk.injEq, true_and, and_true] at e1 e2
      obtain ⟨hq1, hq2⟩ := e1
      obtain ⟨hq3, hq4⟩ := e2
      subst hq1 hq2 hq3 hq4
      have hvl : vs.length = 7 := by rw [hO.vl, HM7.out]
      have hJs := hO.items
      rw [HM7.out] at hJs
      have HJW : Hid (∀ i, i < 7 → JAt (fun b => lo ≤ b) wS 15 (vs.getD i undef) (IS.getD i j0)) := fun i hi => (hJs i hi).keep (fun b hb _ => hb.1) (fun _ _ _ => rfl) (Nat.le_refl _)
      have HNW := Lib.hid hNc
      have HIW := Lib.hid hIc
      have h6 : ∀ v ∈ vs, (aggC v).length = 6 := fun v hv => by
        obtain ⟨i, hi, rfl⟩ := List.mem_iff_getElem.1 hv
        have hq := hJs i (by omega)
        rw [List.getD_eq_getElem?_getD, List.getElem?_eq_getElem hi] at hq
        obtain ⟨_, _, _, _, _, _, _, _, _, _, e⟩ := jAt_form hq
        simp only [Option.getD_some] at e
        rw [e]; rfl
      have h61 : ∀ u ∈ vs.flatMap aggC, u.oneCell' = true := fun u hu => by
        obtain ⟨v, hv, hu⟩ := List.mem_flatMap.1 hu
        obtain ⟨i, hi, rfl⟩ := List.mem_iff_getElem.1 hv
        have hq := hJs i (by omega)
        rw [List.getD_eq_getElem?_getD, List.getElem?_eq_getElem hi] at hq
        obtain ⟨_, _, _, _, _, _, _, _, _, _, e⟩ := jAt_form hq
        simp only [Option.getD_some] at e
        rw [e] at hu
        simp [aggC] at hu
        rcases hu with rfl | rfl | rfl | rfl | rfl | rfl <;> rfl
      clear hO hJs hNc hIc
      obtain ⟨aN, HAN⟩ : ∃ a : Option Addr, Hid ((if cm = k + 1 then some (⟨bm, 0, none⟩ : Addr) else some ⟨bm, 0 + (k + 1) * 1, none⟩) = a) := ⟨_, rfl⟩
      obtain ⟨aI, HAI⟩ : ∃ a : Option Addr, Hid ((if co = k + 1 then some (⟨bo, 0, none⟩ : Addr) else some ⟨bo, 0 + (k + 1) * 6, none⟩) = a) := ⟨_, rfl⟩
      have HAN1 : Hid ((if cm = k + 1 then some (⟨bm, 0, none⟩ : Addr) else some ⟨bm, k + 1, none⟩) = aN) := by show _ = _; rw [← HAN.out, Nat.mul_one, Nat.zero_add]
      have HAI1 : Hid ((if co = k + 1 then some (⟨bo, 0, none⟩ : Addr) else some ⟨bo, (k + 1) * 6, none⟩) = aI) := by show _ = _; rw [← HAI.out, Nat.zero_add]
      have HW8 : Hid (IntKind.i64.wrap (((k : Nat) : Int) + 1) = ((k : Nat) : Int) + 1) := IntWalk.i64_in _ (by omega)
      have G9 : Hid ((0 : Int) ≤ ((k : Nat) : Int) + 1 ∧ ((k : Nat) : Int) + 1 ≤ 7) := ⟨by omega, by omega⟩
      have G3 : Hid (k ≤ cm) := by show _ ≤ _; omega
      have G14 : Hid (k ≤ co) := by show _ ≤ _; omega
      have hloS : lo ≤ wS.heap.size := by have := T13.out.bel.size; have := HLO.out; have := HAS.out; omega
      obtain ⟨nl0, nl1, nl2⟩ := names_len7 HL7.out k hk6
      obtain ⟨il0, il1, il2⟩ := items_len7 hvl h6 k hk6
      have nlI : (IS.eraseIdx k).length = 6 := by rw [List.length_eraseIdx, HM7.out, if_pos (by omega)]
      have HCN0 : Hid (∀ wz, Below wS.heap.size wS wz → ∀ j u, ((NS.take k).map strW)[j]? = some u → wz.cell? ((⟨bm, 0, none⟩ : Addr).add j) = some u) := fun wz hb j u hj => by
        rw [add_off]
        refine strs_cells (fun i hi => ?_) j u hj
        have hik : i < k := by rw [List.length_take] at hi; omega
        rw [getD_take hik]
        exact (hb.cell (p := ⟨bm, 0 + i, none⟩) hbnS).trans (HNW.out i (by omega))
      have HCN1 : Hid (∀ wz, Below wS.heap.size wS wz → ∀ j u, ((NS.drop (k + 1)).map strW)[j]? = some u → wz.cell? ⟨bm, 0 + (k + 1) * 1 + j, none⟩ = some u) := fun wz hb j u hj => by
        refine strs_cells (fun i hi => ?_) j u hj
        have hik : k + 1 + i < 7 := by rw [List.length_drop, HL7.out] at hi; omega
        rw [getD_drop, show 0 + (k + 1) * 1 + i = 0 + (k + 1 + i) by omega]
        exact (hb.cell (p := ⟨bm, 0 + (k + 1 + i), none⟩) hbnS).trans (HNW.out _ hik)
      have HCI0 : Hid (∀ wz, Below wS.heap.size wS wz → ∀ j u, ((vs.take k).flatMap aggC)[j]? = some u → wz.cell? ((⟨bo, 0, none⟩ : Addr).add j) = some u) := fun wz hb j u hj => by
        rw [add_off]
        refine lies_cells (fun v hv => h6 v (List.mem_of_mem_take hv)) (fun i hi => ?_) j u hj
        have hik : i < k := by rw [List.length_take] at hi; omega
        rw [getD_take hik]
        exact (HIW.out i (by omega)).keep (hb.block bo hbiS)
      have HCI1 : Hid (∀ wz, Below wS.heap.size wS wz → ∀ j u, ((vs.drop (k + 1)).flatMap aggC)[j]? = some u → wz.cell? ⟨bo, 0 + (k + 1) * 6 + j, none⟩ = some u) := fun wz hb j u hj => by
        refine lies_cells (fun v hv => h6 v (List.mem_of_mem_drop hv)) (fun i hi => ?_) j u hj
        have hik : k + 1 + i < 7 := by rw [List.length_drop] at hi; omega
        rw [getD_drop, show 0 + (k + 1) * 6 + i * 6 = 0 + (k + 1 + i) * 6 by omega]
        exact (HIW.out _ hik).keep (hb.block bo hbiS)
      clear PA I5 N5 MK SE PR OP L1 F1 A1 TK HNS HIS HVB HNL HNT I1 FN
      have HAsc : Asc 3 8 12 17 18 19 20 := ⟨by decide, by decide, by decide, by decide, by decide, by decide⟩
      refine wp_region_inv mixed8 (fun l a wz => ∃ zs, a = (fun zs : List Value => ({ tmps := List.toArray (Value.agg #[Value.int IntKind.i64 x.h, Value.string ⟨x.v.toArray⟩, Value.int IntKind.i64 x.o, Value.int IntKind.i64 x.u, Value.slice p0 x.ns.length q0, Value.slice e0 x.es.length f0] :: Value.int IntKind.i64 base :: Value.int IntKind.i64 out :: Value.string NB :: Value.pointer (some ⟨w.heap.size, 0, none⟩) :: undef :: undef :: undef :: Value.bool false :: Value.bool true :: Value.pointer (some ⟨w2.heap.size, 0, none⟩) :: Value.string TS :: Value.int IntKind.i64 0 :: Value.string US :: Value.int IntKind.i64 0 :: Value.pointer (some ⟨w5.heap.size, 0, none⟩) :: Value.int IntKind.i64 0 :: Value.int IntKind.i64 0 :: Value.slice (some ⟨bm, 0, none⟩) 7 cm :: Value.slice (some ⟨bo, 0, none⟩) 7 co :: Value.int IntKind.i64 (-1) :: Value.pointer (some ⟨w13.heap.size, 0, none⟩) :: Value.int IntKind.i64 0 :: Value.int IntKind.i64 ((k : Nat) : Int) :: zs.getD 19 undef :: undef :: undef :: Value.bool true :: Value.agg #[Value.int IntKind.i64 x.h, Value.string ⟨x.v.toArray⟩, Value.int IntKind.i64 x.o, Value.int IntKind.i64 x.u, Value.slice p0 x.ns.length q0, Value.slice e0 x.es.length f0] :: Value.int IntKind.i64 base :: Value.agg #[Value.int IntKind.i64 y.h, Value.string ⟨y.v.toArray⟩, Value.int IntKind.i64 y.o, Value.int IntKind.i64 y.u, Value.slice a2 y.ns.length c2, Value.slice d2 y.es.length f2] :: Value.tuple #[Value.string TS, Value.int IntKind.i64 0] :: Value.agg #[Value.int IntKind.i64 y.h, Value.string ⟨y.v.toArray⟩, Value.int IntKind.i64 y.o, Value.int IntKind.i64 y.u, Value.slice a2 y.ns.length c2, Value.slice d2 y.es.length f2] :: Value.tuple #[Value.string TS, Value.int IntKind.i64 0] :: Value.string TS :: Value.int IntKind.i64 0 :: Value.tuple #[Value.string US, Value.int IntKind.i64 0] :: Value.string TS :: Value.tuple #[Value.string US, Value.int IntKind.i64 0] :: Value.string US :: Value.int IntKind.i64 0 :: Value.tuple #[Value.agg #[Value.int IntKind.i64 7, Value.int IntKind.i64 0, Value.int IntKind.i64 0, Value.string t5, Value.slice (some ⟨bn, on, none⟩) 6 cn, Value.slice (some ⟨bi, oi, none⟩) 6 ci], Value.int IntKind.i64 0, Value.int IntKind.i64 0] :: Value.string US :: Value.tuple #[Value.agg #[Value.int IntKind.i64 7, Value.int IntKind.i64 0, Value.int IntKind.i64 0, Value.string t5, Value.slice (some ⟨bn, on, none⟩) 6 cn, Value.slice (some ⟨bi, oi, none⟩) 6 ci], Value.int IntKind.i64 0, Value.int IntKind.i64 0] :: Value.agg #[Value.int IntKind.i64 7, Value.int IntKind.i64 0, Value.int IntKind.i64 0, Value.string t5, Value.slice (some ⟨bn, on, none⟩) 6 cn, Value.slice (some ⟨bi, oi, none⟩) 6 ci] :: Value.int IntKind.i64 0 :: Value.int IntKind.i64 0 :: Value.bool true :: Value.bool false :: Value.bool false :: Value.int IntKind.i64 0 :: Value.bool false :: Value.bool false :: Value.bool false :: Value.int IntKind.i64 0 :: Value.bool false :: Value.bool false :: Value.bool false :: Value.int IntKind.i64 0 :: Value.bool false :: Value.bool false :: Value.bool false :: Value.pointer (some ⟨w5.heap.size, 4, none⟩) :: Value.slice (some ⟨bn, on, none⟩) 6 cn :: Value.int IntKind.i64 6 :: Value.bool false :: Value.bool false :: Value.bool false :: Value.pointer (some ⟨w5.heap.size, 5, none⟩) :: Value.slice (some ⟨bi, oi, none⟩) 6 ci :: Value.int IntKind.i64 6 :: Value.bool false :: Value.bool false :: Value.int IntKind.i64 (-1) :: Value.bool false :: u75 :: u76 :: u77 :: u78 :: u79 :: u80 :: u81 :: u82 :: u83 :: u84 :: u85 :: u86 :: u87 :: u88 :: u89 :: u90 :: u91 :: u92 :: Value.slice an1 6 cn2 :: Value.string NB :: Value.string FB :: Value.string (B120 ++ FB) :: Value.slice (some ⟨w6.heap.size, 0, none⟩) 1 1 :: Value.slice (some ⟨bm, 0, none⟩) 7 cm :: Value.slice ao1 6 cn1 :: Value.agg #[Value.int IntKind.i64 5, Value.int IntKind.i64 0, Value.int IntKind.i64 0, Value.string ⟨#[121]⟩, Value.slice none 0 0, Value.slice none 0 0] :: Value.slice (some ⟨w8.heap.size, 0, none⟩) 1 1 :: Value.slice (some ⟨bo, 0, none⟩) 7 co :: Value.tuple #[Value.agg #[Value.int IntKind.i64 y.h, Value.string ⟨y.v.toArray⟩, Value.int IntKind.i64 y.o, Value.int IntKind.i64 y.u, Value.slice a7 y.ns.length c7, Value.slice d7 y.es.length f7], Value.int IntKind.i64 0] :: Value.slice (some ⟨bm, 0, none⟩) 7 cm :: Value.slice (some ⟨bo, 0, none⟩) 7 co :: Value.agg #[Value.int IntKind.i64 k8, Value.int IntKind.i64 m8, Value.int IntKind.i64 e8', Value.string t8, Value.slice an8 nn8 cn8, Value.slice ai8 ni8 ci8] :: Value.string UB :: Value.string (B32 ++ UB) :: Value.string (B32 ++ UB ++ BLF) :: Value.string ⟨TB.toArray⟩ :: Value.tuple #[Value.agg #[Value.int IntKind.i64 y.h, Value.string ⟨y.v.toArray⟩, Value.int IntKind.i64 y.o, Value.int IntKind.i64 y.u, Value.slice a7 y.ns.length c7, Value.slice d7 y.es.length f7], Value.int IntKind.i64 0] :: Value.agg #[Value.int IntKind.i64 y.h, Value.string ⟨y.v.toArray⟩, Value.int IntKind.i64 y.o, Value.int IntKind.i64 y.u, Value.slice a7 y.ns.length c7, Value.slice d7 y.es.length f7] :: Value.int IntKind.i64 0 :: Value.int IntKind.i64 out :: Value.int IntKind.i64 ((k : Nat) : Int) :: zs.getD 0 undef :: zs.getD 1 undef :: zs.getD 2 undef :: zs.getD 3 undef :: zs.getD 4 undef :: zs.getD 5 undef :: zs.getD 6 undef :: zs.getD 7 undef :: zs.getD 8 undef :: zs.getD 9 undef :: zs.getD 10 undef :: zs.getD 11 undef :: zs.getD 12 undef :: zs.getD 13 undef :: zs.getD 14 undef :: zs.getD 15 undef :: zs.getD 16 undef :: zs.getD 17 undef :: zs.getD 18 undef :: undef :: undef :: undef :: undef :: undef :: undef :: undef :: undef :: undef :: undef :: undef :: undef :: undef :: undef :: undef :: undef :: undef :: undef :: []), defers := [] } : Act)) zs ∧ FX 3 8 12 17 18 19 20 wS [some (Value.slice (some ⟨bm, 0, none⟩) 7 cm), some (Value.int .i64 ((k : Nat) : Int)), some (Value.slice (some ⟨bm, 0, none⟩) k cm), none, some (Value.slice (some ⟨bm, 0, none⟩) 7 cm), some (Value.int .i64 ((k : Nat) : Int)), some (Value.int .i64 (((k : Nat) : Int) + 1)), some (Value.slice aN (6 - k) (cm - (k + 1))), none, some (Value.slice (some ⟨bo, 0, none⟩) 7 co), some (Value.int .i64 ((k : Nat) : Int)), some (Value.slice (some ⟨bo, 0, none⟩) k co), none, some (Value.slice (some ⟨bo, 0, none⟩) 7 co), some (Value.int .i64 ((k : Nat) : Int)), some (Value.int .i64 (((k : Nat) : Int) + 1)), some (Value.slice aI (6 - k) (co - (k + 1))), none, none, none] (rx8 k NS vs) JL zs (lst l) wz) ?_ ?_ ?_
      · refine ⟨List.replicate 20 undef, rfl, ?_⟩
        rw [show lst (Array.replicate _ false) = fun _ => false from by funext j; unfold lst; simp [Array.getD_eq_getD_getElem?, Array.getElem?_replicate]; split <;> rfl]
        exact FX.start rfl
      · intro l a wz i hl hi hI
        obtain ⟨hli, o, ho, hpre⟩ := ready_mem hi
        obtain ⟨zs, rfl, hF⟩ := hI
        have hi25 : i < 21 := (Array.getElem?_eq_some_iff.1 ho).1
        have hs25 : l.size = 21 := hl
        clear hi hl
        have hc : i = 0 ∨ i = 1 ∨ i = 2 ∨ i = 3 ∨ i = 4 ∨ i = 5 ∨ i = 6 ∨ i = 7 ∨ i = 8 ∨ i = 9 ∨ i = 10 ∨ i = 11 ∨ i = 12 ∨ i = 13 ∨ i = 14 ∨ i = 15 ∨ i = 16 ∨ i = 17 ∨ i = 18 ∨ i = 19 ∨ i = 20 := by omega
        have hli' : lst l i = false := by
          unfold lst
          rw [Array.getD_eq_getD_getElem?, Array.getElem?_eq_getElem (by omega)] at hli ⊢
          exact hli
        clear hli
        have hzl := hF.len
        match zs, hzl with
        | z0 :: z1 :: z2 :: z3 :: z4 :: z5 :: z6 :: z7 :: z8 :: z9 :: z10 :: z11 :: z12 :: z13 :: z14 :: z15 :: z16 :: z17 :: z18 :: z19 :: [], _ =>
        change wpOp _ _ _ _ _ { tmps := List.toArray (Value.agg #[Value.int IntKind.i64 x.h, Value.string ⟨x.v.toArray⟩, Value.int IntKind.i64 x.o, Value.int IntKind.i64 x.u, Value.slice p0 x.ns.length q0, Value.slice e0 x.es.length f0] :: Value.int IntKind.i64 base :: Value.int IntKind.i64 out :: Value.string NB :: Value.pointer (some ⟨w.heap.size, 0, none⟩) :: undef :: undef :: undef :: Value.bool false :: Value.bool true :: Value.pointer (some ⟨w2.heap.size, 0, none⟩) :: Value.string TS :: Value.int IntKind.i64 0 :: Value.string US :: Value.int IntKind.i64 0 :: Value.pointer (some ⟨w5.heap.size, 0, none⟩) :: Value.int IntKind.i64 0 :: Value.int IntKind.i64 0 :: Value.slice (some ⟨bm, 0, none⟩) 7 cm :: Value.slice (some ⟨bo, 0, none⟩) 7 co :: Value.int IntKind.i64 (-1) :: Value.pointer (some ⟨w13.heap.size, 0, none⟩) :: Value.int IntKind.i64 0 :: Value.int IntKind.i64 ((k : Nat) : Int) :: z19 :: undef :: undef :: Value.bool true :: Value.agg #[Value.int IntKind.i64 x.h, Value.string ⟨x.v.toArray⟩, Value.int IntKind.i64 x.o, Value.int IntKind.i64 x.u, Value.slice p0 x.ns.length q0, Value.slice e0 x.es.length f0] :: Value.int IntKind.i64 base :: Value.agg #[Value.int IntKind.i64 y.h, Value.string ⟨y.v.toArray⟩, Value.int IntKind.i64 y.o, Value.int IntKind.i64 y.u, Value.slice a2 y.ns.length c2, Value.slice d2 y.es.length f2] :: Value.tuple #[Value.string TS, Value.int IntKind.i64 0] :: Value.agg #[Value.int IntKind.i64 y.h, Value.string ⟨y.v.toArray⟩, Value.int IntKind.i64 y.o, Value.int IntKind.i64 y.u, Value.slice a2 y.ns.length c2, Value.slice d2 y.es.length f2] :: Value.tuple #[Value.string TS, Value.int IntKind.i64 0] :: Value.string TS :: Value.int IntKind.i64 0 :: Value.tuple #[Value.string US, Value.int IntKind.i64 0] :: Value.string TS :: Value.tuple #[Value.string US, Value.int IntKind.i64 0] :: Value.string US :: Value.int IntKind.i64 0 :: Value.tuple #[Value.agg #[Value.int IntKind.i64 7, Value.int IntKind.i64 0, Value.int IntKind.i64 0, Value.string t5, Value.slice (some ⟨bn, on, none⟩) 6 cn, Value.slice (some ⟨bi, oi, none⟩) 6 ci], Value.int IntKind.i64 0, Value.int IntKind.i64 0] :: Value.string US :: Value.tuple #[Value.agg #[Value.int IntKind.i64 7, Value.int IntKind.i64 0, Value.int IntKind.i64 0, Value.string t5, Value.slice (some ⟨bn, on, none⟩) 6 cn, Value.slice (some ⟨bi, oi, none⟩) 6 ci], Value.int IntKind.i64 0, Value.int IntKind.i64 0] :: Value.agg #[Value.int IntKind.i64 7, Value.int IntKind.i64 0, Value.int IntKind.i64 0, Value.string t5, Value.slice (some ⟨bn, on, none⟩) 6 cn, Value.slice (some ⟨bi, oi, none⟩) 6 ci] :: Value.int IntKind.i64 0 :: Value.int IntKind.i64 0 :: Value.bool true :: Value.bool false :: Value.bool false :: Value.int IntKind.i64 0 :: Value.bool false :: Value.bool false :: Value.bool false :: Value.int IntKind.i64 0 :: Value.bool false :: Value.bool false :: Value.bool false :: Value.int IntKind.i64 0 :: Value.bool false :: Value.bool false :: Value.bool false :: Value.pointer (some ⟨w5.heap.size, 4, none⟩) :: Value.slice (some ⟨bn, on, none⟩) 6 cn :: Value.int IntKind.i64 6 :: Value.bool false :: Value.bool false :: Value.bool false :: Value.pointer (some ⟨w5.heap.size, 5, none⟩) :: Value.slice (some ⟨bi, oi, none⟩) 6 ci :: Value.int IntKind.i64 6 :: Value.bool false :: Value.bool false :: Value.int IntKind.i64 (-1) :: Value.bool false :: u75 :: u76 :: u77 :: u78 :: u79 :: u80 :: u81 :: u82 :: u83 :: u84 :: u85 :: u86 :: u87 :: u88 :: u89 :: u90 :: u91 :: u92 :: Value.slice an1 6 cn2 :: Value.string NB :: Value.string FB :: Value.string (B120 ++ FB) :: Value.slice (some ⟨w6.heap.size, 0, none⟩) 1 1 :: Value.slice (some ⟨bm, 0, none⟩) 7 cm :: Value.slice ao1 6 cn1 :: Value.agg #[Value.int IntKind.i64 5, Value.int IntKind.i64 0, Value.int IntKind.i64 0, Value.string ⟨#[121]⟩, Value.slice none 0 0, Value.slice none 0 0] :: Value.slice (some ⟨w8.heap.size, 0, none⟩) 1 1 :: Value.slice (some ⟨bo, 0, none⟩) 7 co :: Value.tuple #[Value.agg #[Value.int IntKind.i64 y.h, Value.string ⟨y.v.toArray⟩, Value.int IntKind.i64 y.o, Value.int IntKind.i64 y.u, Value.slice a7 y.ns.length c7, Value.slice d7 y.es.length f7], Value.int IntKind.i64 0] :: Value.slice (some ⟨bm, 0, none⟩) 7 cm :: Value.slice (some ⟨bo, 0, none⟩) 7 co :: Value.agg #[Value.int IntKind.i64 k8, Value.int IntKind.i64 m8, Value.int IntKind.i64 e8', Value.string t8, Value.slice an8 nn8 cn8, Value.slice ai8 ni8 ci8] :: Value.string UB :: Value.string (B32 ++ UB) :: Value.string (B32 ++ UB ++ BLF) :: Value.string ⟨TB.toArray⟩ :: Value.tuple #[Value.agg #[Value.int IntKind.i64 y.h, Value.string ⟨y.v.toArray⟩, Value.int IntKind.i64 y.o, Value.int IntKind.i64 y.u, Value.slice a7 y.ns.length c7, Value.slice d7 y.es.length f7], Value.int IntKind.i64 0] :: Value.agg #[Value.int IntKind.i64 y.h, Value.string ⟨y.v.toArray⟩, Value.int IntKind.i64 y.o, Value.int IntKind.i64 y.u, Value.slice a7 y.ns.length c7, Value.slice d7 y.es.length f7] :: Value.int IntKind.i64 0 :: Value.int IntKind.i64 out :: Value.int IntKind.i64 ((k : Nat) : Int) :: z0 :: z1 :: z2 :: z3 :: z4 :: z5 :: z6 :: z7 :: z8 :: z9 :: z10 :: z11 :: z12 :: z13 :: z14 :: z15 :: z16 :: z17 :: z18 :: undef :: undef :: undef :: undef :: undef :: undef :: undef :: undef :: undef :: undef :: undef :: undef :: undef :: undef :: undef :: undef :: undef :: undef :: []), defers := [] } _
        rcases hc with rfl | rfl | rfl | rfl | rfl | rfl | rfl | rfl | rfl | rfl | rfl | rfl | rfl | rfl | rfl | rfl | rfl | rfl | rfl | rfl | rfl
        · clear ho hpre
          refine wpOp_here rfl (fun K' hK => ?_)
          go_simp
          exact hK _ _ ⟨[z0, z1, z2, z3, z4, z5, z6, z7, z8, z9, z10, z11, z12, z13, z14, z15, z16, z17, z18, z19].set 0 (Value.slice (some ⟨bm, 0, none⟩) 7 cm), rfl, by rw [lst_set (by omega)]; exact hF.pure (k := 0) rfl (by decide) (by decide) (by decide) (by decide) (by decide) (by decide) (by decide)⟩
        · clear ho hpre
          refine wpOp_here rfl (fun K' hK => ?_)
          go_simp
          exact hK _ _ ⟨[z0, z1, z2, z3, z4, z5, z6, z7, z8, z9, z10, z11, z12, z13, z14, z15, z16, z17, z18, z19].set 1 (Value.int .i64 ((k : Nat) : Int)), rfl, by rw [lst_set (by omega)]; exact hF.pure (k := 1) rfl (by decide) (by decide) (by decide) (by decide) (by decide) (by decide) (by decide)⟩
        · have q0 := hF.cst 0 _ z0 rfl rfl (hpre ⟨0, .data⟩ (by cases ho; simp) rfl)
          subst q0
          have q1 := hF.cst 1 _ z1 rfl rfl (hpre ⟨1, .data⟩ (by cases ho; simp) rfl)
          subst q1
          clear ho hpre
          refine wpOp_here rfl (fun K' hK => ?_)
          go_simp
          rw [if_pos G3.out]
          go_simp
          exact hK _ _ ⟨[(Value.slice (some ⟨bm, 0, none⟩) 7 cm), (Value.int .i64 ((k : Nat) : Int)), z2, z3, z4, z5, z6, z7, z8, z9, z10, z11, z12, z13, z14, z15, z16, z17, z18, z19].set 2 (Value.slice (some ⟨bm, 0, none⟩) k cm), rfl, by rw [lst_set (by omega)]; exact hF.pure (k := 2) rfl (by decide) (by decide) (by decide) (by decide) (by decide) (by decide) (by decide)⟩
        · have q2 := hF.cst 2 _ z2 rfl rfl (hpre ⟨2, .data⟩ (by cases ho; simp) rfl)
          subst q2
          clear ho hpre
          refine wpOp_here rfl (fun K' hK => ?_)
          refine step_append_at rfl _ _ _ rfl wS.heap.size 9 i1 _ 1 16 Tryz.underlying36 hi1 hx0 hx1 hx2 rfl (by omega) (.slice none 0 0) 0 [] rfl (World.ownsRow_nil _ _ _ _) ⟨bm, 0, none⟩ k cm ((NS.take k).map strW) rfl nl0 (HCN0.out _ hF.bel) (strs_one _) (by unfold maxLen; omega) (by omega) hF.bel.size ?_
          intro v' w' hown hg hat
          rw [Nat.zero_add, List.nil_append] at hown
          exact hK _ _ ⟨[z0, z1, (Value.slice (some ⟨bm, 0, none⟩) k cm), z3, z4, z5, z6, z7, z8, z9, z10, z11, z12, z13, z14, z15, z16, z17, z18, z19].set 3 (v'), rfl, by rw [lst_set (by omega)]; exact hF.copyA HAsc hli' rfl hown hg hat⟩
        · clear ho hpre
          refine wpOp_here rfl (fun K' hK => ?_)
          go_simp
          exact hK _ _ ⟨[z0, z1, z2, z3, z4, z5, z6, z7, z8, z9, z10, z11, z12, z13, z14, z15, z16, z17, z18, z19].set 4 (Value.slice (some ⟨bm, 0, none⟩) 7 cm), rfl, by rw [lst_set (by omega)]; exact hF.pure (k := 4) rfl (by decide) (by decide) (by decide) (by decide) (by decide) (by decide) (by decide)⟩
        · clear ho hpre
          refine wpOp_here rfl (fun K' hK => ?_)
          go_simp
          exact hK _ _ ⟨[z0, z1, z2, z3, z4, z5, z6, z7, z8, z9, z10, z11, z12, z13, z14, z15, z16, z17, z18, z19].set 5 (Value.int .i64 ((k : Nat) : Int)), rfl, by rw [lst_set (by omega)]; exact hF.pure (k := 5) rfl (by decide) (by decide) (by decide) (by decide) (by decide) (by decide) (by decide)⟩
        · have q5 := hF.cst 5 _ z5 rfl rfl (hpre ⟨5, .data⟩ (by cases ho; simp) rfl)
          subst q5
          clear ho hpre
          refine wpOp_here rfl (fun K' hK => ?_)
          go_simp
          rw [HW8.out]
          exact hK _ _ ⟨[z0, z1, z2, z3, z4, (Value.int .i64 ((k : Nat) : Int)), z6, z7, z8, z9, z10, z11, z12, z13, z14, z15, z16, z17, z18, z19].set 6 (Value.int .i64 (((k : Nat) : Int) + 1)), rfl, by rw [lst_set (by omega)]; exact hF.pure (k := 6) rfl (by decide) (by decide) (by decide) (by decide) (by decide) (by decide) (by decide)⟩
        · have q4 := hF.cst 4 _ z4 rfl rfl (hpre ⟨4, .data⟩ (by cases ho; simp) rfl)
          subst q4
          have q6 := hF.cst 6 _ z6 rfl rfl (hpre ⟨6, .data⟩ (by cases ho; simp) rfl)
          subst q6
          clear ho hpre
          refine wpOp_here rfl (fun K' hK => ?_)
          go_simp
          rw [if_pos G9.out]
          go_simp
          rw [HAN1.out]
          exact hK _ _ ⟨[z0, z1, z2, z3, (Value.slice (some ⟨bm, 0, none⟩) 7 cm), z5, (Value.int .i64 (((k : Nat) : Int) + 1)), z7, z8, z9, z10, z11, z12, z13, z14, z15, z16, z17, z18, z19].set 7 (Value.slice aN (6 - k) (cm - (k + 1))), rfl, by rw [lst_set (by omega)]; exact hF.pure (k := 7) rfl (by decide) (by decide) (by decide) (by decide) (by decide) (by decide) (by decide)⟩
        · have q7 := hF.cst 7 _ z7 rfl rfl (hpre ⟨7, .data⟩ (by cases ho; simp) rfl)
          subst q7
          have p3 : lst l 3 = true := hpre ⟨3, .data⟩ (by cases ho; simp) rfl
          have hN : lst l 20 = false := hF.not_s hli' (by simp)
          have hr := hF.rowA hN p3 hli'
          obtain ⟨ad, had, hadc⟩ := part_at (n := 7) HAN.out hcm (l := (NS.drop (k + 1)).map strW) (by rw [nl1]; omega) (HCN1.out _ hF.bel)
          subst had
          clear ho hpre
          refine wpOp_here rfl (fun K' hK => ?_)
          refine step_append_at rfl _ _ _ rfl wS.heap.size 9 i1 _ 1 16 Tryz.underlying36 hi1 hx0 hx1 hx2 rfl (by omega) z3 k ((NS.take k).map strW) rfl hr ad (6 - k) (cm - (k + 1)) ((NS.drop (k + 1)).map strW) rfl nl1 hadc (strs_one _) (by unfold maxLen; omega) (by omega) hF.bel.size ?_
          intro v' w' hown hg hat
          rw [names_join, show k + (6 - k) = 6 by omega] at hown
          exact hK _ _ ⟨[z0, z1, z2, z3, z4, z5, z6, (Value.slice (some ad) (6 - k) (cm - (k + 1))), z8, z9, z10, z11, z12, z13, z14, z15, z16, z17, z18, z19].set 8 (v'), rfl, by rw [lst_set (by omega)]; exact hF.growB HAsc hli' p3 rfl hown hg hat⟩
        · clear ho hpre
          refine wpOp_here rfl (fun K' hK => ?_)
          go_simp
          exact hK _ _ ⟨[z0, z1, z2, z3, z4, z5, z6, z7, z8, z9, z10, z11, z12, z13, z14, z15, z16, z17, z18, z19].set 9 (Value.slice (some ⟨bo, 0, none⟩) 7 co), rfl, by rw [lst_set (by omega)]; exact hF.pure (k := 9) rfl (by decide) (by decide) (by decide) (by decide) (by decide) (by decide) (by decide)⟩
        · clear ho hpre
          refine wpOp_here rfl (fun K' hK => ?_)
          go_simp
          exact hK _ _ ⟨[z0, z1, z2, z3, z4, z5, z6, z7, z8, z9, z10, z11, z12, z13, z14, z15, z16, z17, z18, z19].set 10 (Value.int .i64 ((k : Nat) : Int)), rfl, by rw [lst_set (by omega)]; exact hF.pure (k := 10) rfl (by decide) (by decide) (by decide) (by decide) (by decide) (by decide) (by decide)⟩
        · have q9 := hF.cst 9 _ z9 rfl rfl (hpre ⟨9, .data⟩ (by cases ho; simp) rfl)
          subst q9
          have q10 := hF.cst 10 _ z10 rfl rfl (hpre ⟨10, .data⟩ (by cases ho; simp) rfl)
          subst q10
          clear ho hpre
          refine wpOp_here rfl (fun K' hK => ?_)
          go_simp
          rw [if_pos G14.out]
          go_simp
          exact hK _ _ ⟨[z0, z1, z2, z3, z4, z5, z6, z7, z8, (Value.slice (some ⟨bo, 0, none⟩) 7 co), (Value.int .i64 ((k : Nat) : Int)), z11, z12, z13, z14, z15, z16, z17, z18, z19].set 11 (Value.slice (some ⟨bo, 0, none⟩) k co), rfl, by rw [lst_set (by omega)]; exact hF.pure (k := 11) rfl (by decide) (by decide) (by decide) (by decide) (by decide) (by decide) (by decide)⟩
        · have q11 := hF.cst 11 _ z11 rfl rfl (hpre ⟨11, .data⟩ (by cases ho; simp) rfl)
          subst q11
          clear ho hpre
          refine wpOp_here rfl (fun K' hK => ?_)
          refine step_append_at rfl _ _ _ rfl wS.heap.size 45 i0 _ 6 88 Tryz.underlying43 hi0 hz0 hz1 hz2 rfl (by omega) (.slice none 0 0) 0 [] rfl (World.ownsRow_nil _ _ _ _) ⟨bo, 0, none⟩ k co ((vs.take k).flatMap aggC) rfl il0 (HCI0.out _ hF.bel) (fun u hu => h61 u (by obtain ⟨v, hv, hu⟩ := List.mem_flatMap.1 hu; exact List.mem_flatMap.2 ⟨v, List.mem_of_mem_take hv, hu⟩)) (by unfold maxLen; omega) (by omega) hF.bel.size ?_
          intro v' w' hown hg hat
          rw [Nat.zero_add, List.nil_append] at hown
          exact hK _ _ ⟨[z0, z1, z2, z3, z4, z5, z6, z7, z8, z9, z10, (Value.slice (some ⟨bo, 0, none⟩) k co), z12, z13, z14, z15, z16, z17, z18, z19].set 12 (v'), rfl, by rw [lst_set (by omega)]; exact hF.copyC HAsc hli' rfl hown hg hat⟩
        · clear ho hpre
          refine wpOp_here rfl (fun K' hK => ?_)
          go_simp
          exact hK _ _ ⟨[z0, z1, z2, z3, z4, z5, z6, z7, z8, z9, z10, z11, z12, z13, z14, z15, z16, z17, z18, z19].set 13 (Value.slice (some ⟨bo, 0, none⟩) 7 co), rfl, by rw [lst_set (by omega)]; exact hF.pure (k := 13) rfl (by decide) (by decide) (by decide) (by decide) (by decide) (by decide) (by decide)⟩
        · clear ho hpre
          refine wpOp_here rfl (fun K' hK => ?_)
          go_simp
          exact hK _ _ ⟨[z0, z1, z2, z3, z4, z5, z6, z7, z8, z9, z10, z11, z12, z13, z14, z15, z16, z17, z18, z19].set 14 (Value.int .i64 ((k : Nat) : Int)), rfl, by rw [lst_set (by omega)]; exact hF.pure (k := 14) rfl (by decide) (by decide) (by decide) (by decide) (by decide) (by decide) (by decide)⟩
        · have q14 := hF.cst 14 _ z14 rfl rfl (hpre ⟨14, .data⟩ (by cases ho; simp) rfl)
          subst q14
          clear ho hpre
          refine wpOp_here rfl (fun K' hK => ?_)
          go_simp
          rw [HW8.out]
          exact hK _ _ ⟨[z0, z1, z2, z3, z4, z5, z6, z7, z8, z9, z10, z11, z12, z13, (Value.int .i64 ((k : Nat) : Int)), z15, z16, z17, z18, z19].set 15 (Value.int .i64 (((k : Nat) : Int) + 1)), rfl, by rw [lst_set (by omega)]; exact hF.pure (k := 15) rfl (by decide) (by decide) (by decide) (by decide) (by decide) (by decide) (by decide)⟩
        · have q13 := hF.cst 13 _ z13 rfl rfl (hpre ⟨13, .data⟩ (by cases ho; simp) rfl)
          subst q13
          have q15 := hF.cst 15 _ z15 rfl rfl (hpre ⟨15, .data⟩ (by cases ho; simp) rfl)
          subst q15
          clear ho hpre
          refine wpOp_here rfl (fun K' hK => ?_)
          go_simp
          rw [if_pos G9.out]
          go_simp
          rw [HAI1.out]
          exact hK _ _ ⟨[z0, z1, z2, z3, z4, z5, z6, z7, z8, z9, z10, z11, z12, (Value.slice (some ⟨bo, 0, none⟩) 7 co), z14, (Value.int .i64 (((k : Nat) : Int) + 1)), z16, z17, z18, z19].set 16 (Value.slice aI (6 - k) (co - (k + 1))), rfl, by rw [lst_set (by omega)]; exact hF.pure (k := 16) rfl (by decide) (by decide) (by decide) (by decide) (by decide) (by decide) (by decide)⟩
        · have q16 := hF.cst 16 _ z16 rfl rfl (hpre ⟨16, .data⟩ (by cases ho; simp) rfl)
          subst q16
          have p12 : lst l 12 = true := hpre ⟨12, .data⟩ (by cases ho; simp) rfl
          have hN : lst l 20 = false := hF.not_s hli' (by simp)
          have hr := hF.rowC hN p12 hli'
          obtain ⟨ad, had, hadc⟩ := part_at (n := 7) HAI.out hco (l := (vs.drop (k + 1)).flatMap aggC) (by rw [il1]; omega) (HCI1.out _ hF.bel)
          subst had
          clear ho hpre
          refine wpOp_here rfl (fun K' hK => ?_)
          refine step_append_at rfl _ _ _ rfl wS.heap.size 45 i0 _ 6 88 Tryz.underlying43 hi0 hz0 hz1 hz2 rfl (by omega) z12 k ((vs.take k).flatMap aggC) rfl hr ad (6 - k) (co - (k + 1)) ((vs.drop (k + 1)).flatMap aggC) rfl il1 hadc (fun u hu => h61 u (by obtain ⟨v, hv, hu⟩ := List.mem_flatMap.1 hu; exact List.mem_flatMap.2 ⟨v, List.mem_of_mem_drop hv, hu⟩)) (by unfold maxLen; omega) (by omega) hF.bel.size ?_
          intro v' w' hown hg hat
          rw [items_join8, show k + (6 - k) = 6 by omega] at hown
          exact hK _ _ ⟨[z0, z1, z2, z3, z4, z5, z6, z7, z8, z9, z10, z11, z12, z13, z14, z15, (Value.slice (some ad) (6 - k) (co - (k + 1))), z17, z18, z19].set 17 (v'), rfl, by rw [lst_set (by omega)]; exact hF.growD HAsc hli' p12 rfl hown hg hat⟩
        · have p8 : lst l 8 = true := hpre ⟨8, .data⟩ (by cases ho; simp) rfl
          have p17 : lst l 17 = true := hpre ⟨17, .data⟩ (by cases ho; simp) rfl
          have hN : lst l 20 = false := hF.not_s hli' (by simp)
          have hrb := hF.rowB hN p8
          have hrd := hF.rowD hN p17
          have hc := make_rows lo wS wz (NS.eraseIdx k) (vs.eraseIdx k) (IS.eraseIdx k) z8 z17 hF.bel hloS (by rw [nl2]; exact hrb) (by rw [nlI]; exact hrd) (by rw [il2, nlI]) (fun x hx => HTX.out x (List.mem_of_mem_eraseIdx hx)) (fun i hi => by
            rw [nlI] at hi
            rw [getD_erase, getD_erase]
            split
            · exact HJW.out i (by omega)
            · exact HJW.out (i + 1) (by omega)) (by omega) (by rw [nlI]; omega)
          rw [HML.out] at hc
          unfold CRet at hc
          clear ho hpre
          refine wpOp_here rfl (fun K' hK => ?_)
          go_simp
          refine hc.mono ?_
          rintro e6 w6 ⟨k6, m6, e6', t6, an6, nn6, cn6, ai6, ni6, ci6, rfl, hJ6, hb6⟩
          exact hK _ _ ⟨[z0, z1, z2, z3, z4, z5, z6, z7, z8, z9, z10, z11, z12, z13, z14, z15, z16, z17, z18, z19].set 18 ((.agg #[.int .i64 k6, .int .i64 m6, .int .i64 e6', .string t6, .slice an6 nn6 cn6, .slice ai6 ni6 ci6])), rfl, by rw [lst_set (by omega)]; exact hF.made HAsc hli' p8 p17 rfl hb6 hJ6⟩
        · clear ho hpre
          refine wpOp_here rfl (fun K' hK => ?_)
          go_simp
          exact hK _ _ ⟨[z0, z1, z2, z3, z4, z5, z6, z7, z8, z9, z10, z11, z12, z13, z14, z15, z16, z17, z18, z19].set 19 (.pointer (some ⟨wz.heap.size, 0, none⟩)), rfl, by rw [lst_set (by omega)]; exact hF.box HAsc hli' rfl⟩
        · have p18 : lst l 18 = true := hpre ⟨18, .data⟩ (by cases ho; simp) rfl
          have p19 : lst l 19 = true := hpre ⟨19, .data⟩ (by cases ho; simp) rfl
          obtain ⟨g, hg, hge, hh⟩ := hF.place hli' p19
          have hg' : z19 = .pointer (some ⟨g, 0, none⟩) := hg
          obtain ⟨k6, m6, e6', t6, an6, nn6, cn6, ai6, ni6, ci6, hu, hJ⟩ := hF.rm p18 hli'
          have hu' : z18 = .agg #[.int .i64 k6, .int .i64 m6, .int .i64 e6', .string t6, .slice an6 nn6 cn6, .slice ai6 ni6 ci6] := hu
          subst hg' hu'
          obtain ⟨⟨c0, c1, c2, c3, c4, c5⟩, f0, f1, f2, f3, f4, f5⟩ := twelve_of hh
          clear ho hpre
          refine wpOp_here rfl (fun K' hK => ?_)
          go_simp
          rw [put6_is]
          exact hK _ _ ⟨[z0, z1, z2, z3, z4, z5, z6, z7, z8, z9, z10, z11, z12, z13, z14, z15, z16, z17, (.agg #[.int .i64 k6, .int .i64 m6, .int .i64 e6', .string t6, .slice an6 nn6 cn6, .slice ai6 ni6 ci6]), (.pointer (some ⟨g, 0, none⟩))], rfl, by rw [lst_set (by omega)]; exact hF.store HAsc hli' p18 p19 rfl hge hh rfl⟩
      · intro l a wz hl hr hI
        obtain ⟨zs, rfl, hF⟩ := hI
        have hall := Od.all_run (acB_of (by kernel_rfl)) hl hr 20 (by rw [← hl, hl]; decide)
        have hfin := hF.fin hall
        have hzl := hF.len
        match zs, hzl with
        | z0 :: z1 :: z2 :: z3 :: z4 :: z5 :: z6 :: z7 :: z8 :: z9 :: z10 :: z11 :: z12 :: z13 :: z14 :: z15 :: z16 :: z17 :: z18 :: z19 :: [], _ =>
        obtain ⟨g, k6, m6, e6', t6, an6, nn6, cn6, ai6, ni6, ci6, hz, hb, hh, hJ⟩ := hfin
        have hz' : z19 = .pointer (some ⟨g, 0, none⟩) := hz
        subst hz'
        refine A3 _ _ ?_
        change Code.wp _ _ _ { tmps := List.toArray (Value.agg #[Value.int IntKind.i64 x.h, Value.string ⟨x.v.toArray⟩, Value.int IntKind.i64 x.o, Value.int IntKind.i64 x.u, Value.slice p0 x.ns.length q0, Value.slice e0 x.es.length f0] :: Value.int IntKind.i64 base :: Value.int IntKind.i64 out :: Value.string NB :: Value.pointer (some ⟨w.heap.size, 0, none⟩) :: undef :: undef :: undef :: Value.bool false :: Value.bool true :: Value.pointer (some ⟨w2.heap.size, 0, none⟩) :: Value.string TS :: Value.int IntKind.i64 0 :: Value.string US :: Value.int IntKind.i64 0 :: Value.pointer (some ⟨w5.heap.size, 0, none⟩) :: Value.int IntKind.i64 0 :: Value.int IntKind.i64 0 :: Value.slice (some ⟨bm, 0, none⟩) 7 cm :: Value.slice (some ⟨bo, 0, none⟩) 7 co :: Value.int IntKind.i64 (-1) :: Value.pointer (some ⟨w13.heap.size, 0, none⟩) :: Value.int IntKind.i64 0 :: Value.int IntKind.i64 ((k : Nat) : Int) :: Value.pointer (some ⟨g, 0, none⟩) :: undef :: undef :: Value.bool true :: Value.agg #[Value.int IntKind.i64 x.h, Value.string ⟨x.v.toArray⟩, Value.int IntKind.i64 x.o, Value.int IntKind.i64 x.u, Value.slice p0 x.ns.length q0, Value.slice e0 x.es.length f0] :: Value.int IntKind.i64 base :: Value.agg #[Value.int IntKind.i64 y.h, Value.string ⟨y.v.toArray⟩, Value.int IntKind.i64 y.o, Value.int IntKind.i64 y.u, Value.slice a2 y.ns.length c2, Value.slice d2 y.es.length f2] :: Value.tuple #[Value.string TS, Value.int IntKind.i64 0] :: Value.agg #[Value.int IntKind.i64 y.h, Value.string ⟨y.v.toArray⟩, Value.int IntKind.i64 y.o, Value.int IntKind.i64 y.u, Value.slice a2 y.ns.length c2, Value.slice d2 y.es.length f2] :: Value.tuple #[Value.string TS, Value.int IntKind.i64 0] :: Value.string TS :: Value.int IntKind.i64 0 :: Value.tuple #[Value.string US, Value.int IntKind.i64 0] :: Value.string TS :: Value.tuple #[Value.string US, Value.int IntKind.i64 0] :: Value.string US :: Value.int IntKind.i64 0 :: Value.tuple #[Value.agg #[Value.int IntKind.i64 7, Value.int IntKind.i64 0, Value.int IntKind.i64 0, Value.string t5, Value.slice (some ⟨bn, on, none⟩) 6 cn, Value.slice (some ⟨bi, oi, none⟩) 6 ci], Value.int IntKind.i64 0, Value.int IntKind.i64 0] :: Value.string US :: Value.tuple #[Value.agg #[Value.int IntKind.i64 7, Value.int IntKind.i64 0, Value.int IntKind.i64 0, Value.string t5, Value.slice (some ⟨bn, on, none⟩) 6 cn, Value.slice (some ⟨bi, oi, none⟩) 6 ci], Value.int IntKind.i64 0, Value.int IntKind.i64 0] :: Value.agg #[Value.int IntKind.i64 7, Value.int IntKind.i64 0, Value.int IntKind.i64 0, Value.string t5, Value.slice (some ⟨bn, on, none⟩) 6 cn, Value.slice (some ⟨bi, oi, none⟩) 6 ci] :: Value.int IntKind.i64 0 :: Value.int IntKind.i64 0 :: Value.bool true :: Value.bool false :: Value.bool false :: Value.int IntKind.i64 0 :: Value.bool false :: Value.bool false :: Value.bool false :: Value.int IntKind.i64 0 :: Value.bool false :: Value.bool false :: Value.bool false :: Value.int IntKind.i64 0 :: Value.bool false :: Value.bool false :: Value.bool false :: Value.pointer (some ⟨w5.heap.size, 4, none⟩) :: Value.slice (some ⟨bn, on, none⟩) 6 cn :: Value.int IntKind.i64 6 :: Value.bool false :: Value.bool false :: Value.bool false :: Value.pointer (some ⟨w5.heap.size, 5, none⟩) :: Value.slice (some ⟨bi, oi, none⟩) 6 ci :: Value.int IntKind.i64 6 :: Value.bool false :: Value.bool false :: Value.int IntKind.i64 (-1) :: Value.bool false :: u75 :: u76 :: u77 :: u78 :: u79 :: u80 :: u81 :: u82 :: u83 :: u84 :: u85 :: u86 :: u87 :: u88 :: u89 :: u90 :: u91 :: u92 :: Value.slice an1 6 cn2 :: Value.string NB :: Value.string FB :: Value.string (B120 ++ FB) :: Value.slice (some ⟨w6.heap.size, 0, none⟩) 1 1 :: Value.slice (some ⟨bm, 0, none⟩) 7 cm :: Value.slice ao1 6 cn1 :: Value.agg #[Value.int IntKind.i64 5, Value.int IntKind.i64 0, Value.int IntKind.i64 0, Value.string ⟨#[121]⟩, Value.slice none 0 0, Value.slice none 0 0] :: Value.slice (some ⟨w8.heap.size, 0, none⟩) 1 1 :: Value.slice (some ⟨bo, 0, none⟩) 7 co :: Value.tuple #[Value.agg #[Value.int IntKind.i64 y.h, Value.string ⟨y.v.toArray⟩, Value.int IntKind.i64 y.o, Value.int IntKind.i64 y.u, Value.slice a7 y.ns.length c7, Value.slice d7 y.es.length f7], Value.int IntKind.i64 0] :: Value.slice (some ⟨bm, 0, none⟩) 7 cm :: Value.slice (some ⟨bo, 0, none⟩) 7 co :: Value.agg #[Value.int IntKind.i64 k8, Value.int IntKind.i64 m8, Value.int IntKind.i64 e8', Value.string t8, Value.slice an8 nn8 cn8, Value.slice ai8 ni8 ci8] :: Value.string UB :: Value.string (B32 ++ UB) :: Value.string (B32 ++ UB ++ BLF) :: Value.string ⟨TB.toArray⟩ :: Value.tuple #[Value.agg #[Value.int IntKind.i64 y.h, Value.string ⟨y.v.toArray⟩, Value.int IntKind.i64 y.o, Value.int IntKind.i64 y.u, Value.slice a7 y.ns.length c7, Value.slice d7 y.es.length f7], Value.int IntKind.i64 0] :: Value.agg #[Value.int IntKind.i64 y.h, Value.string ⟨y.v.toArray⟩, Value.int IntKind.i64 y.o, Value.int IntKind.i64 y.u, Value.slice a7 y.ns.length c7, Value.slice d7 y.es.length f7] :: Value.int IntKind.i64 0 :: Value.int IntKind.i64 out :: Value.int IntKind.i64 ((k : Nat) : Int) :: z0 :: z1 :: z2 :: z3 :: z4 :: z5 :: z6 :: z7 :: z8 :: z9 :: z10 :: z11 :: z12 :: z13 :: z14 :: z15 :: z16 :: z17 :: z18 :: undef :: undef :: undef :: undef :: undef :: undef :: undef :: undef :: undef :: undef :: undef :: undef :: undef :: undef :: undef :: undef :: undef :: undef :: []), defers := [] } _
        obtain ⟨r0, r1, r2, r3, r4, r5⟩ := six_of hh
        have BZ := Lib.hid (below_next8 BS.out hb)
        have YZ := Lib.hid (Y13.out.below hb)
        have VZ := Lib.hid (V13.out.below hb)
        have JZ := Lib.hid hJ
        clear hF hall hl hr hz hJ hh hb HCN0 HCN1 HCI0 HCI1 HNW HIW HJW h6 h61 A3 HAN HAN1 HAI HAI1 HTX
        go_upto_region 21 with (first
          | (go_at_call 30; (with_reducible refine (PR2.out _ _ BZ.out JZ.out).mono ?_); rintro e13 w13 ⟨rfl, hb13⟩; have BA := Lib.hid (below_next8 BZ.out hb13); have YA := Lib.hid (YZ.out.below hb13); have VA := Lib.hid (VZ.out.below hb13); clear hb13)
          | (go_at_call 23; (with_reducible refine (SE2.out _).mono ?_); rintro e14 w14 ⟨rfl, hb14⟩; have BB := Lib.hid (below_next8 BA.out hb14); have YB := Lib.hid (YA.out.below hb14); have VB := Lib.hid (VA.out.below hb14); clear hb14)
          | (go_at_call 24; (with_reducible refine (TK2.out _).mono ?_); rintro e15 w15 ⟨a8, c8, d8, f8, rfl, hb15⟩; have BC := Lib.hid (below_box8 (below_next8 BB.out hb15) (.cells #[.int .i64 0, .string ⟨#[]⟩, .int .i64 0, .int .i64 0, .slice a8 0 c8, .slice d8 0 f8] 25)); have YC := Lib.hid ((YB.out.below hb15).box (.cells #[.int .i64 0, .string ⟨#[]⟩, .int .i64 0, .int .i64 0, .slice a8 0 c8, .slice d8 0 f8] 25)); have VC := Lib.hid ((VB.out.below hb15).box (.cells #[.int .i64 0, .string ⟨#[]⟩, .int .i64 0, .int .i64 0, .slice a8 0 c8, .slice d8 0 f8] 25)); clear hb15))
        generalize w15.alloc (.cells #[.int .i64 0, .string ⟨#[]⟩, .int .i64 0, .int .i64 0, .slice a8 0 c8, .slice d8 0 f8] 25) = wX at *
        obtain ⟨s0, s1, s2, s3, s4, s5⟩ := six_of YC.out.blk
        obtain ⟨t0, t1, t2, t3, t4, t5'⟩ := six_of VC.out.blk
        go_wp2_with (go_at_call 18; (with_reducible refine (SM.out _ _ _ _ _ _ YC.out _ _ _ _ _ VC.out).mono ?_); rintro e16 w16 ⟨rfl, hb16⟩; have BD := Lib.hid (below_next8 BC.out hb16); clear hb16)
        go_ret
        exact ⟨rfl, BD.out⟩
end Go.Proofs.YtcpggmdiojaalaaGreatDoor.Od

/- The law OrderForms (fields in another order, and more of them, count for nothing; a field less is no order) answers true for all raw orders, numbers and names; taken that Go's own tables (those of strconv, math/bits and unicode/utf8) hold what the program's text lays, which the card ties. -/
set_option linter.unusedSimpArgs false
set_option linter.unusedVariables false
namespace Go.Proofs.YtcpggmdiojaalaaGreatDoor.orderForms
open Go.ChangeShapes Go.WideShapes Go.ChangeAt Go.RowKit Go.Proofs.YtcpggmdiojaalaaGreatDoor.Od
open Go.Proofs.YtcpggmdiojaalaaGreatDoor.Js (laid5 laid_met laidWorld tab_of_laid)
open Go.ChangeMaps (open_string shut_string)

set_option maxRecDepth 100000 in
theorem contract (H : Type) (enc : TypeId × Value → H) (W : World) (base : Nat) (args : Array Value) (ds gs : List (DataW H)) (before : List MemPlace)
    (hval : ∀ (j : Nat) t v, Tryz.f4.params[j]? = some t → args[j]? = some v → Value.okWide Tryz.prog W .any base t v)
    (hW : DataW.Whole enc Tryz.prog Tryz.f4.params.toList Rows.orderFormsSpec.vars false W args.toList ds gs before) (hz : (DataW.weightsEach Tryz.prog (Tryz.f4.params.toList ++ (OpenSpec.ofChange Rows.orderFormsSpec).bare.plain.varTypes Tryz.prog) (ds ++ gs)).all (· ≤ reachBytes) = true) (hL : laidMetH Tryz.prog laid5 W) :
    Calls Tryz.prog 4 args W fun e W' => ∃ v, e = .returned v ∧ Rows.orderFormsSpec.post enc Tryz.prog Tryz.f4 false true false false W args v W' := by
  have hT := tab_of_laid hL
  clear hL
  have hW' := hW
  have hlt := hW.lt
  obtain ⟨p, q, hA0, hV, rfl, hfz, hnd⟩ := hW
  have hA : DataW.TrodAll enc Tryz.prog W 0 (fun _ => true) true Tryz.f4.params.toList args.toList ds p := hA0
  rw [Tryz.params4] at hA hval
  obtain ⟨v0, vs0, d0, ds0, p0, q0, hargs, rfl, rfl, h0, r0⟩ := trodAll_cons hA
  obtain ⟨v1, vs1, d1, ds1, p1, q1, rfl, rfl, rfl, h1, r1⟩ := trodAll_cons r0
  obtain ⟨v2, vs2, d2, ds2, p2, q2, rfl, rfl, rfl, h2, r2⟩ := trodAll_cons r1
  obtain ⟨v3, vs3, d3, ds3, p3, q3, rfl, rfl, rfl, h3, r3⟩ := trodAll_cons r2
  obtain ⟨rfl, rfl, rfl⟩ := trodAll_nil r3
  obtain rfl : args = #[v0, v1, v2, v3] := Array.ext' hargs
  obtain ⟨rfl, rfl⟩ := trodVars_none hV
  have k0 := h0
  have k1 := h1
  have k2 := h2
  have k3 := h3
  have wt0 : Wt 25 d0 := wt_of hz (j := 0) (by rw [Tryz.params4]; rfl) rfl
  obtain ⟨z0, hz0⟩ := open_order (hval 0 25 v0 rfl rfl) h0 wt0
  obtain ⟨x1, rfl, rfl, rfl, wx1⟩ := open_int Tryz.underlying3 (hval 1 3 v1 rfl rfl) h1
  obtain ⟨b1, c1⟩ := bounds_i64 wx1
  obtain ⟨x2, rfl, rfl, rfl, wx2⟩ := open_int Tryz.underlying3 (hval 2 3 v2 rfl rfl) h2
  obtain ⟨b2, c2⟩ := bounds_i64 wx2
  have wt3 : Wt 9 d3 := wt_of hz (j := 3) (by rw [Tryz.params4]; rfl) rfl
  obtain ⟨s3, rfl, rfl, rfl, hs3⟩ := open_string Tryz.underlying9 (hval 3 9 v3 rfl rfl) h3
  have l3 := wt_string wt3
  clear hs3
  obtain ⟨t3, rfl⟩ : ∃ t : List UInt8, s3 = ⟨t.toArray⟩ := ⟨s3.data.toList, by cases s3; simp⟩
  clear hA0
  simp only [List.append_nil] at hW'
  refine (forms_walk v0 z0 x1 x2 t3 W hT hz0 b1 c1 b2 c2 (by simp at l3; omega)).mono fun e W' ⟨he, hg⟩ => ?_
  subst he
  exact ⟨_, rfl, _, _, _, [], _, [], hW', trodAll_cons_mk (shut_bool Tryz.underlying4 _) trodAll_mk0,
    (trodAll_cons_mk (Below.trod laidOut (by kernel_rfl) (of_decide_eq_true (by kernel_rfl)) k0 hg (fun x hx => by first | (exact absurd hx (by simp)) | exact hlt x (by simp [hx]))) (trodAll_cons_mk (Below.trod laidOut (by kernel_rfl) (of_decide_eq_true (by kernel_rfl)) k1 hg (fun x hx => by first | (exact absurd hx (by simp)) | exact hlt x (by simp [hx]))) (trodAll_cons_mk (Below.trod laidOut (by kernel_rfl) (of_decide_eq_true (by kernel_rfl)) k2 hg (fun x hx => by first | (exact absurd hx (by simp)) | exact hlt x (by simp [hx]))) (trodAll_cons_mk (Below.trod laidOut (by kernel_rfl) (of_decide_eq_true (by kernel_rfl)) k3 hg (fun x hx => by first | (exact absurd hx (by simp)) | exact hlt x (by simp [hx]))) trodAll_mk0)))), rfl,
    hg.frame _, fun h => by cases h⟩

theorem reads (os : Os) {H : Type} (enc : TypeId × Value → H) : ∃ places, DataW.whole enc Tryz.prog ((laidWorld os).forCall (fun _ _ => 0) ⟨#[], #[.agg #[.int .i64 0, .string ⟨#[]⟩, .int .i64 0, .int .i64 0, .slice none 0 0, .slice none 0 0], .int .i64 0, .int .i64 0, .string ⟨#[]⟩], []⟩).memory Tryz.f4.params.toList Rows.orderFormsSpec.vars false (#[Value.agg #[.int .i64 0, .string ⟨#[]⟩, .int .i64 0, .int .i64 0, .slice none 0 0, .slice none 0 0], Value.int .i64 0, Value.int .i64 0, Value.string ⟨#[]⟩] : Array Value).toList 8 = some ([.agg [.lit (.int .i64 0), .lit (.string []), .lit (.int .i64 0), .lit (.int .i64 0), .nil, .nil], .lit (.int .i64 0), .lit (.int .i64 0), .lit (.string [])], [], places) :=
  ⟨[], by kernel_rfl⟩

set_option maxRecDepth 100000 in
theorem lifted (os : Os) (started : os.Started) (H : Type) (enc : TypeId × Value → H) (F : Stop.Interp) :
    ReturnsInHanded {} Tryz.checked os 4 .any ((OpenSpec.ofChange Rows.orderFormsSpec).preRow enc Tryz.prog Tryz.f4 Rows.orderFormsRow.domain false Rows.orderFormsRow.laid) (((OpenSpec.ofChange Rows.orderFormsSpec).at F).post enc Tryz.prog Tryz.f4 false true false false) := by
  obtain ⟨places, hx⟩ := reads os enc
  refine returnsInHanded_of_row (C := Tryz.checked) (s := OpenSpec.ofChange Rows.orderFormsSpec) own started (by kernel_rfl) Tryz.func4
    (witness_row_at (enc := enc) (C := Tryz.checked) false (laidWorld os) #[.agg #[.int .i64 0, .string ⟨#[]⟩, .int .i64 0, .int .i64 0, .slice none 0 0, .slice none 0 0], .int .i64 0, .int .i64 0, .string ⟨#[]⟩] rfl (by kernel_rfl) (by kernel_rfl) (by kernel_rfl)
      (OpenSpec.preRow_of_cond 8 hx (by kernel_rfl) (fun k hk => by cases hk) (by kernel_rfl) (laid_met os _))) ?_
  intro W base args ds gs before hval hW _ _ hz hL _ _
  exact contract H enc W base args ds gs before hval hW hz hL

theorem said : Rows.OrderFormsSaid :=
  OpenClaim.holds_of_cond 4 Tryz.f4 rfl rfl rfl rfl rfl rfl rfl ⟨rfl, rfl, rfl, rfl, rfl⟩ rfl rfl rfl rfl rfl (by kernel_rfl) Tryz.func4 (by kernel_rfl)
    (of_decide_eq_true (by kernel_rfl)) (by unfold Func.isWrapper; first | (rw [if_pos (by decide +kernel)]; kernel_rfl) | (rw [if_neg (by decide +kernel)]; exact ⟨rfl, rfl⟩))
    (fun os started H enc _ F => by rw [OpenClaim.pre_eq_preRow]; exact lifted os started H enc F)

theorem plain (f : FuncId) (fn : Func) (hf : Tryz.pinned.checked.prog.funcNamed Rows.orderFormsRow.func = some f) (hfn : Tryz.pinned.checked.prog.funcs[f]? = some fn) :
    false = Tryz.pinned.checked.prog.looks [] ∧ ∀ (j : Nat) t, fn.params[j]? = some t → Tryz.pinned.checked.prog.wantsStandIn t = false := by
  obtain rfl : f = 4 := Option.some.inj ((show Tryz.prog.funcNamed Rows.orderFormsRow.func = some 4 by kernel_rfl).symm.trans hf) |>.symm
  obtain rfl : fn = Tryz.f4 := (Option.some.inj (Tryz.func4.symm.trans hfn)).symm
  refine ⟨by kernel_rfl, fun j t ht => ?_⟩
  rw [Tryz.params4] at ht
  have hm := Array.mem_of_getElem? ht
  have hh : t = 25 ∨ t = 3 ∨ t = 9 := by simp at hm; first | (rcases hm with h | h | h <;> simp [h]) | (rcases hm with h | h | h | h <;> simp [h])
  rcases hh with rfl | rfl | rfl
  · exact (show Tryz.prog.wantsStandIn 25 = false by kernel_rfl)
  · exact (show Tryz.prog.wantsStandIn 3 = false by kernel_rfl)
  · exact (show Tryz.prog.wantsStandIn 9 = false by kernel_rfl)

theorem card : Rows.OrderFormsCardSaid :=
  Claim7.holds_tied_plain_at .later [] _ _ _ _ said (fun _ h => by cases h) (by kernel_rfl) (fun _ h => by cases h) orderForms_row_tie rfl ⟨rfl, rfl⟩ (by kernel_rfl) rfl plain (by kernel_rfl)
end Go.Proofs.YtcpggmdiojaalaaGreatDoor.orderForms
