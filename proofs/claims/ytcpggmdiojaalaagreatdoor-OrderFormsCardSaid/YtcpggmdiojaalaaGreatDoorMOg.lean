import Derived.Test.YtcpggmdiojaalaaGreatDoorMOe
import Derived.Test.YtcpggmdiojaalaaGreatDoorMOc
import Derived.Test.YtcpggmdiojaalaaGreatDoorMOf
import Derived.Maps.AppendAt
import Derived.Deep.Upon
import Derived.Deep.AppendLies
/- Layer 8: the chapter's example. -/
set_option linter.unusedVariables false
set_option linter.unusedSimpArgs false
namespace Go.Proofs.YtcpggmdiojaalaaGreatDoor.Od
open Go.RowKit Js Lex

def exO : O := ⟨1, [118, 49], 2, 0, [⟨3, 0, true⟩], []⟩
theorem ex_rightO : rightO Tp.nameB exO = true := by decide
theorem ex_base : baseO exO = 1 := by decide
theorem o0_wrong : rightO Tp.nameB o0 = false := by decide
theorem digit_right : ∀ d : Nat, d < 10 → Dec.rightB (d : Int) 0 = true := by decide +kernel
theorem num_digit {d : Nat} (h : d < 10) : printJ (numJ (d : Int)) = [UInt8.ofNat (48 + d)] := by
  have hm : Dec.mk (d : Int) 0 = ((d : Int), 0, true) := Dec.mk_right _ _ (digit_right d h)
  unfold numJ
  rw [hm]
  simp only
  rw [printJ, if_neg (by decide), if_neg (by decide), if_neg (by decide), if_pos rfl]
  unfold Dec.printS
  rw [if_pos (digit_right d h), if_pos (by decide), Lib.itoa_nonneg, Lib.decDigits_one h]
  rfl
theorem ex_part : printJ (partJ nidL ⟨3, 0, true⟩) = [123, 34, 110, 111, 100, 101, 73, 100, 34, 58, 51, 44, 34, 115, 101, 113, 117, 101, 110, 99, 101, 73, 100, 34, 58, 48, 44, 34, 114, 101, 108, 101, 97, 115, 101, 100, 34, 58, 116, 114, 117, 101, 125] := by
  have q1 := ascii_quote (l := nidL) (by decide)
  have q2 := ascii_quote (l := seqL) (by decide)
  have q3 := ascii_quote (l := relL) (by decide)
  have n1 := num_digit (d := 3) (by decide)
  have n2 := num_digit (d := 0) (by decide)
  have b1 : printJ (boolJ true) = [116, 114, 117, 101] := by
    show printJ (.mk 3 0 0 [] [] []) = _
    rw [printJ, if_neg (by decide), if_neg (by decide), if_pos rfl]; rfl
  unfold partJ
  rw [printJ, if_neg (by decide), if_neg (by decide), if_neg (by decide), if_neg (by decide), if_neg (by decide), if_neg (by decide), if_pos rfl, printL, printL, printL, printL]
  simp only [List.headD_cons, List.tail_cons, if_true]
  rw [q1, q2, q3, show (3 : Int) = ((3 : Nat) : Int) from rfl, n1, show (0 : Int) = ((0 : Nat) : Int) from rfl, n2, b1]
  rfl
def exT : List UInt8 := [123, 34, 104, 101, 97, 100, 101, 114, 73, 100, 34, 58, 49, 44, 34, 115, 101, 114, 105, 97, 108, 78, 117, 109, 98, 101, 114, 34, 58, 34, 118, 49, 34, 44, 34, 111, 114, 100, 101, 114, 73, 100, 34, 58, 50, 44, 34, 111, 114, 100, 101, 114, 85, 112, 100, 97, 116, 101, 73, 100, 34, 58, 48, 44, 34, 110, 111, 100, 101, 115, 34, 58, 91, 123, 34, 110, 111, 100, 101, 73, 100, 34, 58, 51, 44, 34, 115, 101, 113, 117, 101, 110, 99, 101, 73, 100, 34, 58, 48, 44, 34, 114, 101, 108, 101, 97, 115, 101, 100, 34, 58, 116, 114, 117, 101, 125, 93, 44, 34, 101, 100, 103, 101, 115, 34, 58, 91, 93, 125]
theorem ex_text : printJ (layJ exO) = exT := by
  have q1 := ascii_quote (l := hdrL) (by decide)
  have q2 := ascii_quote (l := serL) (by decide)
  have q3 := ascii_quote (l := ordL) (by decide)
  have q4 := ascii_quote (l := updL) (by decide)
  have q5 := ascii_quote (l := nodL) (by decide)
  have q6 := ascii_quote (l := edgL) (by decide)
  have q7 := ascii_quote (l := [118, 49]) (by decide)
  have n1 := num_digit (d := 1) (by decide)
  have n2 := num_digit (d := 2) (by decide)
  have n3 := num_digit (d := 0) (by decide)
  have hs : printJ (.mk 5 0 0 [118, 49] [] []) = Quo.quoteL [118, 49] := by rw [printJ, if_neg (by decide), if_neg (by decide), if_neg (by decide), if_neg (by decide), if_pos rfl]
  have ha : ∀ l, printJ (.mk 6 0 0 [] [] l) = 91 :: (printL false true [] l ++ [93]) := fun l => by rw [printJ, if_neg (by decide), if_neg (by decide), if_neg (by decide), if_neg (by decide), if_neg (by decide), if_pos rfl]
  have h1 : printL false true [] [partJ nidL ⟨3, 0, true⟩] = printJ (partJ nidL ⟨3, 0, true⟩) := by
    rw [printL, printL]; simp
  have h2 : printL false true [] ([] : List J) = [] := by rw [printL]
  unfold layJ exO
  simp only [List.map_cons, List.map_nil]
  rw [printJ, if_neg (by decide), if_neg (by decide), if_neg (by decide), if_neg (by decide), if_neg (by decide), if_neg (by decide), if_pos rfl, printL, printL, printL, printL, printL, printL, printL]
  simp only [List.headD_cons, List.tail_cons, if_true]
  rw [q1, q2, q3, q4, q5, q6, hs, ha, ha, h1, h2, ex_part, q7, show (1 : Int) = ((1 : Nat) : Int) from rfl, n1, show (2 : Int) = ((2 : Nat) : Int) from rfl, n2, show (0 : Int) = ((0 : Nat) : Int) from rfl, n3]
  rfl
theorem ex_len : (layS exO).length = 138 := by
  unfold layS
  rw [Se.sealS_len, ex_text]
  rfl
end Go.Proofs.YtcpggmdiojaalaaGreatDoor.Od

/- Layer 8: awake answers true. -/
set_option linter.unusedVariables false
set_option linter.unusedSimpArgs false
namespace Go.Proofs.YtcpggmdiojaalaaGreatDoor.Od
open Go.RowKit Js Lex

theorem ex_at (w : World) : OAt Any ((w.alloc (.cells #[.int .i64 3, .int .i64 0, .bool true] 68)).alloc (.cells #[.int .i64 1, .string ⟨#[118, 49]⟩, .int .i64 2, .int .i64 0, .slice (some ⟨w.heap.size, 0, none⟩) 1 1, .slice none 0 0] 25))
    (.agg #[.int .i64 1, .string ⟨#[118, 49]⟩, .int .i64 2, .int .i64 0, .slice (some ⟨w.heap.size, 0, none⟩) 1 1, .slice none 0 0]) exO := by
  have h := two_old w (.cells #[.int .i64 3, .int .i64 0, .bool true] 68) (.cells #[.int .i64 1, .string ⟨#[118, 49]⟩, .int .i64 2, .int .i64 0, .slice (some ⟨w.heap.size, 0, none⟩) 1 1, .slice none 0 0] 25)
  refine ⟨_, _, rfl, ⟨by decide, by decide⟩, by decide, ⟨by decide, by decide⟩, ⟨by decide, by decide⟩, ⟨some ⟨w.heap.size, 0, none⟩, 1, rfl, by decide, by decide, fun x hx => ?_, fun _ => ⟨w.heap.size, 0, rfl, trivial, Own.block_lt h, fun i hi q c hq => ?_⟩⟩, sts_nil⟩
  · simp [exO] at hx
    subst hx
    exact ⟨⟨by decide, by decide⟩, ⟨by decide, by decide⟩⟩
  · obtain rfl : i = 0 := by simp [exO] at hi; omega
    rw [cell_of_row _ _ _ _ _ _ h]
    simpa [exO, stV, aggC] using hq
/-- What stays of the example. -/
structure EX8 (w w' : World) : Prop where
  bel : Below w.heap.size w w'
  oat : OAt Any w' (.agg #[.int .i64 1, .string ⟨#[118, 49]⟩, .int .i64 2, .int .i64 0, .slice (some ⟨w.heap.size, 0, none⟩) 1 1, .slice none 0 0]) exO
  box : w'.heap[w.heap.size + 1]? = some (.cells #[.int .i64 1, .string ⟨#[118, 49]⟩, .int .i64 2, .int .i64 0, .slice (some ⟨w.heap.size, 0, none⟩) 1 1, .slice none 0 0] 25 (0, 0))
theorem EX8.below {w a b : World} (h : EX8 w a) (hb : Below a.heap.size a b) : EX8 w b := ⟨h.bel.trans (hb.mono h.bel.size), h.oat.below hb (Nat.le_refl _), (hb.block _ (Own.block_lt h.box)).trans h.box⟩
theorem ex8_new (w : World) : EX8 w ((w.alloc (.cells #[.int .i64 3, .int .i64 0, .bool true] 68)).alloc (.cells #[.int .i64 1, .string ⟨#[118, 49]⟩, .int .i64 2, .int .i64 0, .slice (some ⟨w.heap.size, 0, none⟩) 1 1, .slice none 0 0] 25)) := ⟨belowTwo _ _ _, ex_at w, two_new _ _ _⟩

set_option maxHeartbeats 8000000 in
set_option maxRecDepth 100000 in
theorem awake8_any (w : World) (hT : Dec.Tab w) : Calls Tryz.prog 12 #[] w (Ret (.bool true) w) := by
  have L1 := Lib.hid (fun (w' : World) (h : EX8 w w') => Lay_any Any _ exO w' (hT.below h.bel) h.oat)
  rw [if_pos ex_rightO] at L1
  have L0 := Lib.hid (fun (w' : World) (h : EX8 w w') => Lay_any Any _ o0 w' (hT.below h.bel) (o0_at (S := Any)))
  rw [if_neg (by rw [o0_wrong]; decide)] at L0
  have T1 := Lib.hid (fun (w' : World) => Take_any (layS exO) w' (by rw [ex_len]; omega))
  rw [takeS_layS name_ok ex_rightO] at T1
  have S1 := Lib.hid (fun (w' : World) (h : EX8 w w') (v : Value) (hv : OAt Any w' v exO) => same8_any Any Any _ v exO exO w' h.oat hv)
  rw [sameO_iff.2 rfl] at S1
  have B1 := Lib.hid (fun (w' : World) (h : EX8 w w') => base8_any Any _ exO w' h.oat)
  rw [ex_base] at B1
  have R1 := Lib.hid (fun (w' : World) (h : EX8 w w') => right_any Any _ exO w' h.oat)
  rw [ex_rightO] at R1
  have SE := Lib.hid (fun (w' : World) => Se.seal_l exT w' (by decide))
  have HL := Lib.hid ex_len
  have hLS : Se.sealS exT = layS exO := by unfold layS; rw [ex_text]
  rw [hLS] at SE
  unfold exT at SE
  unfold TRet at T1
  have HSZ : Hid ((⟨(layS exO).toArray⟩ : ByteArray).size = 138) := by show _ = _; rw [bs_size, HL.out]
  have h138 := HSZ.out
  generalize layS exO = T at *
  simp only at T1
  clear hLS
  have E0 := Lib.hid (ex8_new w)
  go_enter Tryz.func12, Tryz.ntmps12
  go_wp2_with (first
    | (go_at_call 14; (with_reducible refine (L1.out _ E0.out).mono ?_); rintro e1 w1 ⟨rfl, hb1⟩; have E1 := Lib.hid (E0.out.below hb1))
    | (go_at_call 24; (with_reducible refine (T1.out _).mono ?_); rintro e2 w2 ⟨v2, rfl, hv2, hb2⟩; obtain ⟨an2, cn2, ae2, ce2, rfl, -⟩ := OAt.open_ hv2; have E2 := Lib.hid ((E1.out.below hb2).below (belowOne w2 (.cells #[.int .i64 exO.h, .string ⟨exO.v.toArray⟩, .int .i64 exO.o, .int .i64 exO.u, .slice an2 exO.ns.length cn2, .slice ae2 exO.es.length ce2] 25))); have HV2 := Lib.hid (OAt.below hv2 (belowOne w2 (.cells #[.int .i64 exO.h, .string ⟨exO.v.toArray⟩, .int .i64 exO.o, .int .i64 exO.u, .slice an2 exO.ns.length cn2, .slice ae2 exO.es.length ce2] 25)) (Nat.le_refl _)); have HX2 := Lib.hid (heap_alloc_new w2 (.cells #[.int .i64 exO.h, .string ⟨exO.v.toArray⟩, .int .i64 exO.o, .int .i64 exO.u, .slice an2 exO.ns.length cn2, .slice ae2 exO.es.length ce2] 25)))
    | (go_at_call 14; (with_reducible refine (L0.out _ E2.out).mono ?_); rintro e3 w3 ⟨rfl, hb3⟩; have E3 := Lib.hid (E2.out.below hb3); have HV3 := Lib.hid (OAt.below HV2.out hb3 (Nat.le_refl _)); have HX3 := Lib.hid ((hb3.block _ (Own.block_lt HX2.out)).trans HX2.out))
    | (go_at_call 23; (with_reducible refine (SE.out _).mono ?_); rintro e4 w4 ⟨rfl, hb4⟩; have E4 := Lib.hid (E3.out.below hb4); have HV4 := Lib.hid (OAt.below HV3.out hb4 (Nat.le_refl _)); have HX4 := (hb4.block _ (Own.block_lt HX3.out)).trans HX3.out; obtain ⟨y0, y1, y2, y3, y4, y5⟩ := six_of HX4; obtain ⟨x0, x1, x2, x3, x4, x5⟩ := six_of E4.out.box)
    | (go_at_call 18; (with_reducible refine (S1.out _ E4.out _ HV4.out).mono ?_); rintro e5 w5 ⟨rfl, hb5⟩; have E5 := Lib.hid (E4.out.below hb5); obtain ⟨z0, z1, z2, z3, z4, z5⟩ := six_of E5.out.box)
    | (go_at_call 20; (with_reducible refine (B1.out _ E5.out).mono ?_); rintro e6 w6 ⟨rfl, hb6⟩; have E6 := Lib.hid (E5.out.below hb6); obtain ⟨u0, u1, u2, u3, u4, u5⟩ := six_of E6.out.box)
    | (go_at_call 16; (with_reducible refine (R1.out _ E6.out).mono ?_); rintro e7 w7 ⟨rfl, hb7⟩; have E7 := Lib.hid (E6.out.below hb7)))
  go_ret
  exact ⟨rfl, E7.out.bel⟩
end Go.Proofs.YtcpggmdiojaalaaGreatDoor.Od

/- Layer 8: orders in boxes; what the laws call, as they meet it. -/
set_option linter.unusedVariables false
set_option linter.unusedSimpArgs false
namespace Go.Proofs.YtcpggmdiojaalaaGreatDoor.Od
open Go.RowKit Js Lex

/-- An order in a box. -/
structure BX8 (y : O) (b : Nat) (a : Option Addr) (c : Nat) (e : Option Addr) (f : Nat) (w : World) : Prop where
  blk : w.heap[b]? = some (.cells #[.int .i64 y.h, .string ⟨y.v.toArray⟩, .int .i64 y.o, .int .i64 y.u, .slice a y.ns.length c, .slice e y.es.length f] 25 (0, 0))
  oat : OAt Any w (.agg #[.int .i64 y.h, .string ⟨y.v.toArray⟩, .int .i64 y.o, .int .i64 y.u, .slice a y.ns.length c, .slice e y.es.length f]) y
section
variable {y : O} {b : Nat} {a : Option Addr} {c : Nat} {e : Option Addr} {f : Nat} {w w' : World}
theorem BX8.new (h : OAt Any w (.agg #[.int .i64 y.h, .string ⟨y.v.toArray⟩, .int .i64 y.o, .int .i64 y.u, .slice a y.ns.length c, .slice e y.es.length f]) y) :
    BX8 y w.heap.size a c e f (w.alloc (.cells #[.int .i64 y.h, .string ⟨y.v.toArray⟩, .int .i64 y.o, .int .i64 y.u, .slice a y.ns.length c, .slice e y.es.length f] 25)) := ⟨heap_alloc_new _ _, h.below (belowOne _ _) (Nat.le_refl _)⟩
theorem BX8.below (h : BX8 y b a c e f w) (hb : Below w.heap.size w w') : BX8 y b a c e f w' := ⟨(hb.block _ (Own.block_lt h.blk)).trans h.blk, h.oat.below hb (Nat.le_refl _)⟩
theorem BX8.lt (h : BX8 y b a c e f w) : b < w.heap.size := Own.block_lt h.blk
theorem BX8.box (h : BX8 y b a c e f w) (o : Obj) : BX8 y b a c e f (w.alloc o) := h.below (belowOne _ _)
end
/-- What Lay and Take tell of a right order. -/
theorem lay_yes {y : O} (hr : rightO Tp.nameB y = true) {b : Nat} {a : Option Addr} {c : Nat} {e : Option Addr} {f : Nat} {w : World} (hT : Dec.Tab w) (h : BX8 y b a c e f w) :
    Calls Tryz.prog 14 #[.agg #[.int .i64 y.h, .string ⟨y.v.toArray⟩, .int .i64 y.o, .int .i64 y.u, .slice a y.ns.length c, .slice e y.es.length f]] w (Ret (.tuple #[.string ⟨(layS y).toArray⟩, .int .i64 0]) w) := by
  have := Lay_any Any _ y w hT h.oat
  rwa [if_pos hr] at this
theorem lay_no {y : O} (hr : rightO Tp.nameB y = false) {b : Nat} {a : Option Addr} {c : Nat} {e : Option Addr} {f : Nat} {w : World} (hT : Dec.Tab w) (h : BX8 y b a c e f w) :
    Calls Tryz.prog 14 #[.agg #[.int .i64 y.h, .string ⟨y.v.toArray⟩, .int .i64 y.o, .int .i64 y.u, .slice a y.ns.length c, .slice e y.es.length f]] w (Ret (.tuple #[.string ⟨#[]⟩, .int .i64 1]) w) := by
  have := Lay_any Any _ y w hT h.oat
  rwa [if_neg (by rw [hr]; decide)] at this
theorem layS_len {y : O} (hr : rightO Tp.nameB y = true) : 9 ≤ (layS y).length ∧ (layS y).length ≤ 20009 := by
  have := lay_len name_ok hr
  unfold layS
  rw [Se.sealS_len]
  omega
theorem take_lay8 {y : O} (hr : rightO Tp.nameB y = true) (w : World) : Calls Tryz.prog 24 #[.string ⟨(layS y).toArray⟩] w (fun e w' => ∃ a c b f, e = .returned (.tuple #[.agg #[.int .i64 y.h, .string ⟨y.v.toArray⟩, .int .i64 y.o, .int .i64 y.u, .slice a y.ns.length c, .slice b y.es.length f], .int .i64 0]) ∧
    OAt Any w' (.agg #[.int .i64 y.h, .string ⟨y.v.toArray⟩, .int .i64 y.o, .int .i64 y.u, .slice a y.ns.length c, .slice b y.es.length f]) y ∧ Below w.heap.size w w') := by
  refine (Take_any (layS y) w (by have := (layS_len hr).2; omega)).mono ?_
  rw [takeS_layS name_ok hr]
  rintro e w' ⟨v, rfl, hv, hb⟩
  have hv' : OAt Any w' v y := hv
  obtain ⟨a, c, b, f, rfl, -⟩ := hv'.open_
  exact ⟨a, c, b, f, rfl, hv', hb⟩
theorem fit8 {x y : O} {base : Int} (hy : fitO Tp.fitL x base = y) {b : Nat} {a : Option Addr} {c : Nat} {e : Option Addr} {f : Nat} {w : World} (h : BX8 x b a c e f w) (b0 : -9223372036854775808 ≤ base) (b1 : base ≤ 9223372036854775807) :
    Calls Tryz.prog 13 #[.agg #[.int .i64 x.h, .string ⟨x.v.toArray⟩, .int .i64 x.o, .int .i64 x.u, .slice a x.ns.length c, .slice e x.es.length f], .int .i64 base] w (fun e w' => ∃ a c b f, e = .returned (.agg #[.int .i64 y.h, .string ⟨y.v.toArray⟩, .int .i64 y.o, .int .i64 y.u, .slice a y.ns.length c, .slice b y.es.length f]) ∧
    OAt Any w' (.agg #[.int .i64 y.h, .string ⟨y.v.toArray⟩, .int .i64 y.o, .int .i64 y.u, .slice a y.ns.length c, .slice b y.es.length f]) y ∧ Below w.heap.size w w') := by
  subst hy
  refine (Fit_any Any _ x base w h.oat b0 b1).mono ?_
  rintro e w' ⟨v, rfl, hv, hb⟩
  obtain ⟨a, c, b, f, rfl, -⟩ := hv.open_
  exact ⟨a, c, b, f, rfl, hv, hb⟩
end Go.Proofs.YtcpggmdiojaalaaGreatDoor.Od

/- Layer 8: orders that are bent: rows that are copied and changed. -/
set_option linter.unusedVariables false
set_option linter.unusedSimpArgs false
namespace Go.Proofs.YtcpggmdiojaalaaGreatDoor.Od
open Go.RowKit Js Lex

theorem add_pl (b off j : Nat) : (⟨b, off, none⟩ : Addr).add j = ⟨b, off + j, none⟩ := by
  simp only [Addr.add]; split <;> simp_all
theorem sts_news {S : Nat → Prop} {w : World} {b off n c : Nat} {l : List St} (h : StsAt S w (.slice (some ⟨b, off, none⟩) n c) l) : ∀ (j : Nat) (u : Value), (cellsS l)[j]? = some u → w.cell? ((⟨b, off, none⟩ : Addr).add j) = some u := fun j u hu => by
  obtain ⟨ao, cap, h1, h2, h3, h4, h5⟩ := h
  cases h1
  have hj : j < l.length * 3 := by
    have := (List.getElem?_eq_some_iff.1 hu).1
    rwa [cellsS_len] at this
  obtain ⟨b', off', e1, e2, e3, e4⟩ := h5 (by omega)
  cases e1
  have e : j = j / 3 * 3 + j % 3 := by omega
  rw [add_pl]
  have h6 := cellsS_get l (j / 3) (j % 3) (by omega) (by omega)
  rw [← e, hu] at h6
  have h7 := e4 (j / 3) (by omega) (j % 3) u h6.symm
  rw [show off + j = off + j / 3 * 3 + j % 3 by omega]
  exact h7
theorem one_cells (l : List St) : ∀ u ∈ cellsS l, u.oneCell' = true := fun u hu => by
  unfold cellsS at hu
  obtain ⟨x, _, hx⟩ := List.mem_flatMap.1 hu
  simp at hx
  rcases hx with rfl | rfl | rfl <;> rfl
/-- What append of a list to nothing leaves. -/
theorem run_copy_sts {P : Program} {Ts T : TypeId} {z : Value} (hinfo : (P.info? T).map (fun i => (i.zero, i.size, i.bytes)) = some (some z, 3, 24)) (hz : z.cells.size = 3) (hu : P.underlying Ts = some (.slice T)) (ty : TypeId) (S : Nat → Prop) (w : World) (an : Option Addr) (cn : Nat) (l : List St) (hl : l.length ≤ 64) (hS : StsAt S w (.slice an l.length cn) l) :
    ∃ a' c' w', (Builtin.append_ #[Ts, Ts] ty #[.slice none 0 0, .slice an l.length cn]).run P w = .ok (.slice a' l.length c') w' ∧ w'.ownsRow w.heap.size T 3 (.slice a' l.length c') l.length (cellsS l) ∧ w.grownBy w' none := by
  obtain ⟨i0, hi0, hz0, hz1, hz2⟩ := info_parts hinfo
  by_cases h0 : l = []
  · subst h0
    refine ⟨none, 0, w, ?_, World.ownsRow_nil _ _ _ _, World.grownBy.refl _ _⟩
    cases an with
    | none => exact run_append_nothing w _ _ _ _ i0 hu hi0 none 0 0 (Nat.le_refl _) _ (Src.ofNil w hu cn)
    | some a => exact run_append_nothing w _ _ _ _ i0 hu hi0 none 0 0 (Nat.le_refl _) _ (Src.ofSlice w hu a 0 cn [] (by simp) (fun j u h => by simp at h) (fun u h => by simp at h))
  · have hp : 0 < l.length := List.length_pos_iff.2 h0
    obtain ⟨b, off, rfl, -⟩ := hS.at_ (k := 0) hp
    obtain ⟨v', w', hr, hown, hgrow, hn, hat⟩ := run_append_own_at (P := P) w w.heap.size Ts ty T i0 _ 3 24 hu hi0 hz0 hz1 hz2 hz (by decide) (.slice none 0 0) 0 [] (World.ownsRow_nil _ _ _ _) ⟨b, off, none⟩ l.length cn (cellsS l) (cellsS_len l) (sts_news hS) (one_cells l) (by unfold maxLen; omega) (by omega) (Nat.le_refl _)
    rw [Nat.zero_add, List.nil_append] at hown
    obtain ⟨a', c', rfl⟩ := own_slice hown
    exact ⟨a', c', w', hr, hown, hgrow⟩
theorem wpList_copy_sts {P : Program} {ops : Array Oper} {rest : List Oper} {o : Oper} {a : Act} {w : World} {Q : Exit → Act → World → Prop} (hgd : o.guard = none) (s x : Operand) {Ts T : TypeId} {z : Value}
    (hinfo : (P.info? T).map (fun i => (i.zero, i.size, i.bytes)) = some (some z, 3, 24)) (hz : z.cells.size = 3) (hu : P.underlying Ts = some (.slice T))
    (ho : o.op = .call { callee := .builtin .append, args := #[s, x], argTypes := #[Ts, Ts] }) (hs : a.eval s = .slice none 0 0) (an : Option Addr) (cn : Nat) (l : List St) (hx : a.eval x = .slice an l.length cn)
    (S : Nat → Prop) (hl : l.length ≤ 64) (hS : StsAt S w (.slice an l.length cn) l)
    (h : ∀ a' c' w', w'.ownsRow w.heap.size T 3 (.slice a' l.length c') l.length (cellsS l) → w.grownBy w' none → wpList P ops Q rest (a.put o.dst (.slice a' l.length c')) w') : wpList P ops Q (o :: rest) a w := by
  obtain ⟨a', c', w', hr, hA, hB⟩ := run_copy_sts hinfo hz hu o.type S w an cn l hl hS
  refine wpList_plain hgd fun _ hK => ?_
  unfold Oper.wp execOp
  simp only [ho, resolve, invoke, builtin, Sem.run_bind, Sem.run_pure, Result.andThen_ok, List.map_toArray, List.map_cons, List.map_nil, hs, hx, hr]
  exact hK _ _ (h a' c' w' hA hB)

theorem cellsS_id : ∀ (l : List St) (k : Nat) (z : Int), k < l.length → (cellsS l).set (k * 3) (.int .i64 z) = cellsS (l.set k { l.getD k st0 with id := z })
  | [], k, z, h => by simp at h
  | x :: r, 0, z, _ => rfl
  | x :: r, k + 1, z, h => by
    have e : cellsS (x :: r) = .int .i64 x.id :: .int .i64 x.seq :: .bool x.rel :: cellsS r := rfl
    rw [e, show (k + 1) * 3 = k * 3 + 1 + 1 + 1 by omega, List.set_cons_succ, List.set_cons_succ, List.set_cons_succ, cellsS_id r k z (by simpa using h)]
    rfl
theorem cellsS_seq : ∀ (l : List St) (k : Nat) (z : Int), k < l.length → (cellsS l).set (k * 3 + 1) (.int .i64 z) = cellsS (l.set k { l.getD k st0 with seq := z })
  | [], k, z, h => by simp at h
  | x :: r, 0, z, _ => rfl
  | x :: r, k + 1, z, h => by
    have e : cellsS (x :: r) = .int .i64 x.id :: .int .i64 x.seq :: .bool x.rel :: cellsS r := rfl
    rw [e, show (k + 1) * 3 + 1 = k * 3 + 1 + 1 + 1 + 1 by omega, List.set_cons_succ, List.set_cons_succ, List.set_cons_succ, cellsS_seq r k z (by simpa using h)]
    rfl
theorem cellsS_rel : ∀ (l : List St) (k : Nat) (z : Bool), k < l.length → (cellsS l).set (k * 3 + 2) (.bool z) = cellsS (l.set k { l.getD k st0 with rel := z })
  | [], k, z, h => by simp at h
  | x :: r, 0, z, _ => rfl
  | x :: r, k + 1, z, h => by
    have e : cellsS (x :: r) = .int .i64 x.id :: .int .i64 x.seq :: .bool x.rel :: cellsS r := rfl
    rw [e, show (k + 1) * 3 + 2 = k * 3 + 2 + 1 + 1 + 1 by omega, List.set_cons_succ, List.set_cons_succ, List.set_cons_succ, cellsS_rel r k z (by simpa using h)]
    rfl
section
variable {w1 : World} {bo : Nat} {c0 c1 c2 c3 : Value} {ln le : List St} {nv ev : Value} {wr : World}
/-- A cell of a node, or of an edge, is stored. -/
theorem FT.nset {g c : Nat} (h : FT w1 bo c0 c1 c2 c3 ln le (.slice (some ⟨g, 0, none⟩) ln.length c) ev wr) {i : Nat} {u : Value} {ln' : List St} (hl : ln'.length = ln.length) (hc : (cellsS ln).set i u = cellsS ln') :
    FT w1 bo c0 c1 c2 c3 ln' le (.slice (some ⟨g, 0, none⟩) ln.length c) ev (wr.setCell ⟨g, i, none⟩ u) := by
  have hg := (World.ownsRow.lt h.nrow g rfl).1
  have hlt := h.lt
  refine ⟨h.mv.setCell (p := ⟨g, i, none⟩) (.inl hg) _, h.lt, (heap_setCell_other _ _ _ _ (by show bo ≠ g; omega)).trans h.blk, ?_, ?_⟩
  · rw [hl, ← hc]
    exact (h.nrow.stored i u).1
  · refine row_keep h.erow (fun k e hl => heap_setCell_other _ _ _ _ ?_)
    show k ≠ g
    rintro rfl
    rcases Own.own_apart h.nrow h.erow (by decide) with e' | e'
    · rw [e'] at e; cases e
    · exact e' e
theorem FT.eset {g c : Nat} (h : FT w1 bo c0 c1 c2 c3 ln le nv (.slice (some ⟨g, 0, none⟩) le.length c) wr) {i : Nat} {u : Value} {le' : List St} (hl : le'.length = le.length) (hc : (cellsS le).set i u = cellsS le') :
    FT w1 bo c0 c1 c2 c3 ln le' nv (.slice (some ⟨g, 0, none⟩) le.length c) (wr.setCell ⟨g, i, none⟩ u) := by
  have hg := (World.ownsRow.lt h.erow g rfl).1
  have hlt := h.lt
  refine ⟨h.mv.setCell (p := ⟨g, i, none⟩) (.inl hg) _, h.lt, (heap_setCell_other _ _ _ _ (by show bo ≠ g; omega)).trans h.blk, ?_, ?_⟩
  · refine row_keep h.nrow (fun k e hl => heap_setCell_other _ _ _ _ ?_)
    show k ≠ g
    rintro rfl
    rcases Own.own_apart h.erow h.nrow (by decide) with e' | e'
    · rw [e'] at e; cases e
    · exact e' e
  · rw [hl, ← hc]
    exact (h.erow.stored i u).1
theorem FT.put1 (h : FT w1 bo c0 c1 c2 c3 ln le nv ev wr) (u : Value) : FT w1 bo c0 u c2 c3 ln le nv ev (wr.setCell ⟨bo, 1, none⟩ u) := by
  have hlt := h.lt
  refine ⟨h.mv.setCell (p := ⟨bo, 1, none⟩) (.inr rfl) _, h.lt, ?_, ?_, ?_⟩
  · rw [heap_setCell_same wr bo 1 _ 25 _ h.blk]; rfl
  · exact row_keep h.nrow (fun g e hl => heap_setCell_other _ _ _ _ (by have := (World.ownsRow.lt h.nrow g e).1; show g ≠ bo; omega))
  · exact row_keep h.erow (fun g e hl => heap_setCell_other _ _ _ _ (by have := (World.ownsRow.lt h.erow g e).1; show g ≠ bo; omega))
theorem FT.put3 (h : FT w1 bo c0 c1 c2 c3 ln le nv ev wr) (u : Value) : FT w1 bo c0 c1 c2 u ln le nv ev (wr.setCell ⟨bo, 3, none⟩ u) := by
  have hlt := h.lt
  refine ⟨h.mv.setCell (p := ⟨bo, 3, none⟩) (.inr rfl) _, h.lt, ?_, ?_, ?_⟩
  · rw [heap_setCell_same wr bo 3 _ 25 _ h.blk]; rfl
  · exact row_keep h.nrow (fun g e hl => heap_setCell_other _ _ _ _ (by have := (World.ownsRow.lt h.nrow g e).1; show g ≠ bo; omega))
  · exact row_keep h.erow (fun g e hl => heap_setCell_other _ _ _ _ (by have := (World.ownsRow.lt h.erow g e).1; show g ≠ bo; omega))
end
/-- An order that was put together, as an order in a box. -/
theorem FT.bx {w1 W : World} {bo : Nat} {z : O} {a : Option Addr} {n c : Nat} {e : Option Addr} {m f : Nat} (h : FT w1 bo (.int .i64 z.h) (.string ⟨z.v.toArray⟩) (.int .i64 z.o) (.int .i64 z.u) z.ns z.es (.slice a n c) (.slice e m f) W) (hn : z.ns.length = n) (hm : z.es.length = m)
    (i1 : i64B z.h) (i2 : z.v.length ≤ 140737488355328) (i3 : i64B z.o) (i4 : i64B z.u) (g1 : ∀ y ∈ z.ns, goodS y) (g2 : ∀ y ∈ z.es, goodS y) (l1 : z.ns.length ≤ 100) (l2 : z.es.length ≤ 100) : BX8 z bo a c e f W := by
  subst hn hm
  exact ⟨h.blk, ⟨_, _, rfl, i1, i2, i3, i4, (sts_own h.nrow (by omega) g1).any, (sts_own h.erow (by omega) g2).any⟩⟩
theorem good_set {l : List St} {k : Nat} {y : St} (h : ∀ x ∈ l, goodS x) (hy : goodS y) : ∀ x ∈ l.set k y, goodS x := fun x hx => by
  rcases List.mem_or_eq_of_mem_set hx with h' | h'
  · exact h x h'
  · subst h'; exact hy
/-- A right order's stops and ways are good. -/
theorem right_good {nm : List UInt8 → Bool} {y : O} (h : rightO nm y = true) : (∀ x ∈ y.ns, goodS x) ∧ (∀ x ∈ y.es, goodS x) ∧ i64B y.h ∧ i64B y.o ∧ i64B y.u := by
  obtain ⟨h1, h2, h3, h4, h5, h6, h7, h8, h9⟩ := rightO_parts h
  exact ⟨fun x hx => ⟨numB_64 (h8 x hx).1, numB_64 (h8 x hx).2⟩, fun x hx => ⟨numB_64 (h9 x hx).1, numB_64 (h9 x hx).2⟩, numB_64 h2, numB_64 h3, numB_64 h4⟩
/-- A row that is not empty has a block. -/
theorem own_some {w : World} {base T n : Nat} {v : Value} {xs : List Value} (h : w.ownsRow base T 3 v n xs) (hn : 0 < n) : ∃ g c, v = .slice (some ⟨g, 0, none⟩) n c := by
  rcases h.2 with ⟨_, h0⟩ | ⟨g, cap, cur, hv, _⟩
  · omega
  · exact ⟨g, cap, hv⟩
end Go.Proofs.YtcpggmdiojaalaaGreatDoor.Od
