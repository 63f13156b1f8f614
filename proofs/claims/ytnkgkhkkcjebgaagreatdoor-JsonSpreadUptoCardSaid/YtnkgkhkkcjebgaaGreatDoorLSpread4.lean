import Derived.Test.YtnkgkhkkcjebgaaGreatDoorRo3
import Derived.Test.YtnkgkhkkcjebgaaGreatDoorParse
import Derived.Test.YtnkgkhkkcjebgaaGreatDoorLBack4
/- Plain: a value's tokens, each on a line of its own, are read as that value. -/
set_option linter.unusedVariables false
set_option linter.unusedSimpArgs false
namespace Go.Proofs.YtnkgkhkkcjebgaaGreatDoor.Js
open Lex

/-- The word of a token. -/
def tokW (x : Tok) : List UInt8 := if x.k = 2 then Quo.quoteL x.t else x.t
def lineL : List UInt8 := [13, 10, 32]
def spreadL (ts : List Tok) : List UInt8 := ts.flatMap fun x => lineL ++ tokW x
def spreadT (n : Nat) : List Tok → List Tok
  | [] => []
  | x :: r => x.at_ (n + 3) :: spreadT (n + 3 + (tokW x).length) r
def WordsOk (ts : List Tok) : Prop := ∀ x ∈ ts, IsW (tokW x) (x.at_ 0)
theorem line_blank : ∀ c ∈ lineL, blankB c = true := by decide
theorem fin_spread (ts : List Tok) {rest : List UInt8} (h : Fin rest) : Fin (spreadL ts ++ rest) := by
  cases ts with
  | nil => exact h
  | cons x r => exact fin_blank (c := 13) (by decide) _
theorem scan_spread : ∀ (ts : List Tok) (n : Nat) (rest : List UInt8), WordsOk ts → Fin rest → scanL (spreadL ts ++ rest) n = combR (spreadT n ts) (scanL rest (n + (spreadL ts).length))
  | [], n, rest, _, _ => by simp [spreadL, spreadT, combR_nil]
  | x :: r, n, rest, h, hr => by
    have e : spreadL (x :: r) ++ rest = lineL ++ (tokW x ++ (spreadL r ++ rest)) := by simp [spreadL]
    have el : (spreadL (x :: r)).length = 3 + (tokW x).length + (spreadL r).length := by simp [spreadL, lineL]; omega
    rw [e, scan_blanks line_blank, scan_w (h x (by simp)) (fin_spread r hr), scan_spread r _ rest (fun y hy => h y (by simp [hy])) hr, combR_comb, el]
    show combR ([_] ++ spreadT (n + 3 + (tokW x).length) r) _ = combR (x.at_ (n + 3) :: spreadT (n + 3 + (tokW x).length) r) _
    rw [show n + lineL.length + (tokW x).length + (spreadL r).length = n + (3 + (tokW x).length + (spreadL r).length) by simp [lineL]; omega]
    rfl
theorem spreadT_map : ∀ (ts : List Tok) (n : Nat), (spreadT n ts).map (fun x => x.at_ 0) = ts.map (fun x => x.at_ 0)
  | [], n => rfl
  | x :: r, n => by rw [spreadT, List.map_cons, spreadT_map r, List.map_cons]; rfl
theorem spread_len : ∀ (ts : List Tok), (spreadL ts).length = 3 * ts.length + (ts.flatMap tokW).length
  | [] => rfl
  | x :: r => by
    have := spread_len r
    simp only [spreadL, List.flatMap_cons, List.length_append, List.length_cons] at this ⊢
    rw [this]; simp [lineL]; omega
theorem words_sg {c : UInt8} (h : signB c = true) (n : Nat) : IsW (tokW (sg c n)) ((sg c n).at_ 0) := isW_sign h
theorem tokW_sg (c : UInt8) (n : Nat) : tokW (sg c n) = [c] := rfl
mutual
theorem toks_words : ∀ (j : J) (n : Nat), goodJ j = true → WordsOk (toksJ n j)
  | .mk k m e t ns is, n, h => by
    rcases goodJ_forms h with h1 | h1 | h1 | ⟨m', e', h1, hm⟩ | ⟨t', h1, ht⟩ | ⟨is', h1, hi⟩ | ⟨ns', is', h1, hl, hn, hi⟩
    · cases h1
      rw [toksJ, if_pos rfl]
      intro x hx; rw [List.mem_singleton.1 hx]; exact isW_three (show threeB _ = true from by first | exact (by decide : threeB nullL = true) | exact (by decide : threeB falseL = true) | exact (by decide : threeB trueL = true))
    · cases h1
      rw [toksJ, if_neg (by decide), if_pos rfl]
      intro x hx; rw [List.mem_singleton.1 hx]; exact isW_three (show threeB _ = true from by first | exact (by decide : threeB nullL = true) | exact (by decide : threeB falseL = true) | exact (by decide : threeB trueL = true))
    · cases h1
      rw [toksJ, if_neg (by decide), if_neg (by decide), if_pos rfl]
      intro x hx; rw [List.mem_singleton.1 hx]; exact isW_three (show threeB _ = true from by first | exact (by decide : threeB nullL = true) | exact (by decide : threeB falseL = true) | exact (by decide : threeB trueL = true))
    · cases h1
      rw [toksJ, if_neg (by decide), if_neg (by decide), if_neg (by decide), if_pos rfl]
      intro x hx; rw [List.mem_singleton.1 hx]; exact isW_num hm
    · cases h1
      rw [toksJ, if_neg (by decide), if_neg (by decide), if_neg (by decide), if_neg (by decide), if_pos rfl]
      intro x hx; rw [List.mem_singleton.1 hx]; exact isW_whole ht
    · cases h1
      rw [toksJ, if_neg (by decide), if_neg (by decide), if_neg (by decide), if_neg (by decide), if_neg (by decide), if_pos rfl]
      have hL := toksL_words is false true [] (n + 1) hi (fun h => by cases h)
      intro x hx
      rcases List.mem_cons.1 hx with rfl | hx
      · exact words_sg (by decide) _
      · rcases List.mem_append.1 hx with hx | hx
        · exact hL x hx
        · rw [List.mem_singleton.1 hx]; exact words_sg (by decide) _
    · cases h1
      rw [toksJ, if_neg (by decide), if_neg (by decide), if_neg (by decide), if_neg (by decide), if_neg (by decide), if_neg (by decide)]
      have hL := toksL_words is true true ns (n + 1) hi (fun _ => ⟨hl, names_whole' hn⟩)
      intro x hx
      rcases List.mem_cons.1 hx with rfl | hx
      · exact words_sg (by decide) _
      · rcases List.mem_append.1 hx with hx | hx
        · exact hL x hx
        · rw [List.mem_singleton.1 hx]; exact words_sg (by decide) _
theorem toksL_words : ∀ (is : List J) (o f : Bool) (ns : List (List UInt8)) (n : Nat), goodL is = true → NamesOk o ns is.length → WordsOk (toksL o f ns n is)
  | [], o, f, ns, n, _, _ => by rw [toksL]; intro x hx; cases hx
  | x :: r, o, f, ns, n, h, hn => by
    rw [goodL, Bool.and_eq_true] at h
    have hx := fun n => toks_words x n h.1
    have hn2 : NamesOk o ns.tail r.length := fun ho => by
      obtain ⟨a, b⟩ := hn ho
      refine ⟨by simp at a ⊢; omega, fun y hy => b y (List.mem_of_mem_tail hy)⟩
    have hi := fun n => toksL_words r o false ns.tail n h.2 hn2
    rw [toksL]
    intro y hy
    rcases List.mem_append.1 hy with hy | hy
    · cases f with
      | true => cases hy
      | false => rw [if_neg (by decide)] at hy; rw [List.mem_singleton.1 hy]; exact words_sg (by decide) _
    · rcases List.mem_append.1 hy with hy | hy
      · cases o with
        | false => cases hy
        | true =>
          have hw : Quo.wholeB (ns.headD []) = true := by
            obtain ⟨a, b⟩ := hn rfl
            cases ns with
            | nil => simp at a
            | cons y s => exact b y (by simp)
          rw [if_pos rfl] at hy
          rcases List.mem_cons.1 hy with rfl | hy
          · exact isW_whole hw
          · rw [List.mem_singleton.1 hy]; exact words_sg (by decide) _
      · rcases List.mem_append.1 hy with hy | hy
        · exact hx _ y hy
        · exact hi _ y hy
end
mutual
theorem toks_flat : ∀ (j : J) (n : Nat), goodJ j = true → (toksJ n j).flatMap tokW = printJ j
  | .mk k m e t ns is, n, h => by
    rcases goodJ_forms h with h1 | h1 | h1 | ⟨m', e', h1, hm⟩ | ⟨t', h1, ht⟩ | ⟨is', h1, hi⟩ | ⟨ns', is', h1, hl, hn, hi⟩
    · cases h1
      rw [toksJ, printJ, if_pos rfl, if_pos rfl]; rfl
    · cases h1
      rw [toksJ, printJ, if_neg (by decide), if_pos rfl, if_neg (by decide), if_pos rfl]; rfl
    · cases h1
      rw [toksJ, printJ, if_neg (by decide), if_neg (by decide), if_pos rfl, if_neg (by decide), if_neg (by decide), if_pos rfl]; rfl
    · cases h1
      rw [toksJ, printJ, if_neg (by decide), if_neg (by decide), if_neg (by decide), if_pos rfl, if_neg (by decide), if_neg (by decide), if_neg (by decide), if_pos rfl]
      simp [tokW]
    · cases h1
      rw [toksJ, printJ, if_neg (by decide), if_neg (by decide), if_neg (by decide), if_neg (by decide), if_pos rfl, if_neg (by decide), if_neg (by decide), if_neg (by decide), if_neg (by decide), if_pos rfl]
      simp [tokW]
    · cases h1
      rw [toksJ, printJ, if_neg (by decide), if_neg (by decide), if_neg (by decide), if_neg (by decide), if_neg (by decide), if_pos rfl, if_neg (by decide), if_neg (by decide), if_neg (by decide), if_neg (by decide), if_neg (by decide), if_pos rfl]
      have hL := toksL_flat is false true [] (n + 1) hi
      simp only [List.flatMap_cons, List.flatMap_append, hL, List.flatMap_nil, tokW_sg, List.append_nil, List.cons_append, List.nil_append]
    · cases h1
      rw [toksJ, printJ, if_neg (by decide), if_neg (by decide), if_neg (by decide), if_neg (by decide), if_neg (by decide), if_neg (by decide), if_neg (by decide), if_neg (by decide), if_neg (by decide), if_neg (by decide), if_neg (by decide), if_neg (by decide), if_pos rfl]
      have hL := toksL_flat is true true ns (n + 1) hi
      simp only [List.flatMap_cons, List.flatMap_append, hL, List.flatMap_nil, tokW_sg, List.append_nil, List.cons_append, List.nil_append]
theorem toksL_flat : ∀ (is : List J) (o f : Bool) (ns : List (List UInt8)) (n : Nat), goodL is = true → (toksL o f ns n is).flatMap tokW = printL o f ns is
  | [], o, f, ns, n, _ => by rw [toksL, printL]; rfl
  | x :: r, o, f, ns, n, h => by
    rw [goodL, Bool.and_eq_true] at h
    have hx := fun n => toks_flat x n h.1
    have hi := fun n => toksL_flat r o false ns.tail n h.2
    rw [toksL, printL]
    simp only [List.flatMap_append, hx, hi]
    cases f <;> cases o <;> simp [tokW, sg]
end
theorem keeps0 : Keeps (fun x => x.at_ 0) := fun _ => ⟨rfl, rfl, rfl, rfl⟩
/-- A value's text of at most 3000 bytes, each token on a line of its own. -/
theorem spread_parse {j : J} (h : rightJ 1 j = true) (hl : (printJ j).length ≤ 3000) : parseS (spreadL (toksJ 0 j) ++ lineL) = (0, j, 0) ∧ (spreadL (toksJ 0 j)).length ≤ 12000 ∧ (toksJ 0 j).length ≤ 3000 := by
  have hg := good_right 1 j h
  have hs := scan_whole hg
  have hc := scan_len hs
  simp only [List.length_append, List.length_cons, List.length_nil] at hc
  have hlen := spread_len (toksJ 0 j)
  rw [toks_flat j 0 hg] at hlen
  refine ⟨?_, by omega, by omega⟩
  unfold parseS scanS
  rw [if_neg (by simp [lineL]; omega), scan_spread _ _ lineL (toks_words j 0 hg) (fin_blank (c := 13) (by decide) [10, 32])]
  rw [show scanL lineL (0 + (spreadL (toksJ 0 j)).length) = .inr [⟨5, [], 0, 0, 0 + (spreadL (toksJ 0 j)).length + 3⟩] by
    have := scan_blanks line_blank [] (0 + (spreadL (toksJ 0 j)).length)
    rw [List.append_nil, scanL_nil] at this
    exact this]
  generalize 0 + (spreadL (toksJ 0 j)).length + 3 = q
  show parseT (spreadT 0 (toksJ 0 j) ++ [⟨5, [], 0, 0, q⟩]) = _
  have h1 := val_map keeps0 16 (spreadT 0 (toksJ 0 j) ++ [⟨5, [], 0, 0, q⟩])
  have h2 := val_map keeps0 16 (toksJ 0 j ++ [⟨5, [], 0, 0, 0⟩])
  rw [List.map_append, spreadT_map] at h1
  rw [List.map_append] at h2
  have e : (valS 16 (spreadT 0 (toksJ 0 j) ++ [⟨5, [], 0, 0, q⟩])).map (fun x => x.at_ 0) = (valS 16 (toksJ 0 j ++ [⟨5, [], 0, 0, 0⟩])).map (fun x => x.at_ 0) := by
    rw [← h1, ← h2]; rfl
  rw [val_toks 16 (by omega) j 0 [⟨5, [], 0, 0, 0⟩] h] at e
  unfold parseT
  generalize valS 16 (spreadT 0 (toksJ 0 j) ++ [⟨5, [], 0, 0, q⟩]) = RR at *
  obtain ⟨er, jj, l⟩ := RR
  simp only [R.map, R.mk.injEq] at e
  obtain ⟨rfl, rfl, e3⟩ := e
  cases l with
  | nil => simp at e3
  | cons y l =>
    have hk : y.k = 5 := by
      have := (List.cons.inj e3).1
      have h2 := congrArg Tok.k this
      exact h2
    unfold topS
    simp [hk]
end Go.Proofs.YtnkgkhkkcjebgaaGreatDoor.Js

/- The walk of the law JsonSpread: it answers true. -/
set_option linter.unusedVariables false
set_option linter.unusedSimpArgs false
namespace Go.Proofs.YtnkgkhkkcjebgaaGreatDoor.Js
open Go.RowKit Lex

theorem spreadL_snoc {ts : List Tok} {k : Nat} (h : k < ts.length) : spreadL (ts.take (k + 1)) = spreadL (ts.take k) ++ (lineL ++ tokW (ts.getD k tok0)) := by
  rw [List.take_succ_eq_append_getElem h, spreadL, List.flatMap_append, ← spreadL]
  simp [List.getD_eq_getElem?_getD, List.getElem?_eq_getElem h]
theorem spreadL_app (a b : List Tok) : spreadL (a ++ b) = spreadL a ++ spreadL b := by simp [spreadL]
theorem spreadL_take (ts : List Tok) (k : Nat) : (spreadL (ts.take k)).length ≤ (spreadL ts).length := by
  have h := spreadL_app (ts.take k) (ts.drop k)
  rw [List.take_append_drop] at h
  rw [h]; simp
set_option maxHeartbeats 8000000 in
set_option maxRecDepth 100000 in
theorem spread_walk (v : Value) (r : RT) (w : World) (hT : Dec.Tab w) (hR : RAt w 15 v r) (hs : rsz r ≤ 1048576) : Calls Tryz.prog 8 #[v] w (Ret (.bool true) w) := by
  have A1 := Lib.hid (fun (w' : World) (hb : Below w.heap.size w w') => awake_any w' (hT.below hb))
  obtain ⟨p1, p2, p3⟩ := fit_printed 15 r (by omega) hs
  obtain ⟨k, m, e, ao, tl, c, ai, ni, ci, rfl, -⟩ := hR.form
  have F1 := Lib.hid (fun (w' : World) (hb : Below w.heap.size w w') => fit_at 15 (by omega) 1 rfl w' _ r (hR.below hb))
  have HT : Hid (∀ w', Below w.heap.size w w' → Dec.Tab w') := fun w' hb => hT.below hb
  clear hR hs hT
  generalize fitJ 15 r = jj at *
  have PR := Lib.hid (fun w' v' (hT : Dec.Tab w') (h : JA Any w' v' jj) => print_of Any v' jj w' hT h (by omega))
  rw [p2] at PR
  have SA := Lib.hid (fun w' v1 v2 (h : JA Any w' v1 jj) (h2 : JA Any w' v2 jj) => same_of Any Any v1 v2 jj jj w' h h2)
  rw [sameJ_refl] at SA
  by_cases hl : (printJ jj).length ≤ 3000
  · obtain ⟨sp1, sp2, sp3⟩ := spread_parse p1 hl
    have hsc : scanS (printJ jj) = .inr (toksJ 0 jj ++ [⟨5, [], 0, 0, (printJ jj).length⟩]) := by unfold scanS; rw [if_neg (by omega)]; exact scan_whole (good_right 1 jj p1)
    obtain ⟨-, g1, -⟩ := scanS_inr hsc
    have HSC := Lib.hid (fun w' => scan_toks (printJ jj) _ hsc w' (by unfold maxLen; omega))
    have hfull : spreadL (toksJ 0 jj) ++ lineL = spreadL (toksJ 0 jj ++ [⟨5, [], 0, 0, (printJ jj).length⟩]) := by rw [spreadL_app]; rfl
    have hlen : (toksJ 0 jj ++ [(⟨5, [], 0, 0, (printJ jj).length⟩ : Tok)]).length ≤ 3001 := by simp; omega
    have hlen2 : (spreadL (toksJ 0 jj ++ [⟨5, [], 0, 0, (printJ jj).length⟩])).length ≤ 12003 := by rw [← hfull]; simp [lineL]; omega
    rw [hfull] at sp1
    clear hsc hfull sp2 sp3 p1 p2 p3
    have hl' : (((printJ jj).length : Nat) : Int) ≤ 3000 := by omega
    generalize (toksJ 0 jj ++ [(⟨5, [], 0, 0, (printJ jj).length⟩ : Tok)] : List Tok) = ts at *
    generalize printJ jj = s at *
    have PX := Lib.hid (fun w' => parse_x (spreadL ts) 0 jj 0 sp1 _ rfl (by unfold maxLen; omega) w')
    have HG := Lib.hid g1
    have HL2 := Lib.hid hlen2
    clear g1 sp1 hl hlen2
    obtain ⟨N, HN⟩ : ∃ N, Hid (ts.length = N) := ⟨_, rfl⟩
    rw [HN.out] at HSC hlen
    go_enter Tryz.func8, Tryz.ntmps8
    go_wp2_with (first
      | (go_at_call 11; (with_reducible refine (A1.out _ (below_a _ _)).mono ?_); rintro e1 w1 ⟨rfl, hb1⟩; obtain ⟨x1, x2, hbw1⟩ := box5 hb1; obtain ⟨y0, y1, y2, y3, y4⟩ := five_of x1)
      | (go_at_call 12; (with_reducible refine (F1.out _ hbw1).mono ?_); rintro e2 w2 ⟨k2, m2, e2', t2, an2, nn2, cn2, ai2, ni2, ci2, rfl, hJ2, hb2⟩; have hbw2 := below_step hbw1 hb2; have HJ2 := Lib.hid hJ2)
      | (go_at_call 16; (with_reducible refine (PR.out _ _ (HT.out _ (below_step hbw2 (below_a _ _))) (HJ2.out.below (below_a _ _) (Nat.le_refl _))).mono ?_); rintro e3 w3 ⟨rfl, hb3⟩; obtain ⟨x3, x4, hbw3'⟩ := box6 hb3; obtain ⟨z0, z1, z2, z3, z4, z5⟩ := six_of x3; have hbw3 := below_step hbw2 hbw3')
      | (go_at_call 22; (with_reducible refine (HSC.out _).mono ?_); rintro e4 w4 ⟨bt, cap, rfl, hbt, hTk, hb4⟩; have HTk := Lib.hid hTk; have hbw4' := below_step hbw3' hb4; have hbw4 := below_step hbw3 hb4; have x5 := (hb4.block _ x4).trans x3; have x6 : w2.heap.size < w4.heap.size := Own.block_lt x5))
    clear z0 z1 z2 z3 z4 z5 y0 y1 y2 y3 y4 x1 x2 x3 x4 hb1 hb2 hb3 hb4 hTk hJ2 hbw1 hbw2 hbw3 hbw3' HSC PR F1 A1
    have HX5 := Lib.hid x5
    have HB4 := Lib.hid (And.intro hbw4 hbw4')
    clear x5 hbw4 hbw4'
    go_loopw [9, 10] (fun sv i wr => ∃ (k : Nat) (S : List UInt8), k ≤ N ∧ i = .int .i64 k ∧ sv = .string ⟨S.toArray⟩ ∧ Hid (S = spreadL (ts.take k)) ∧ S.length ≤ 12003 ∧ Below w4.heap.size w4 wr) (fun _ i _ => N - (intOf i).toNat)
    case atStart => exact ⟨0, [], Nat.zero_le _, rfl, rfl, rfl, by simp, Below.refl _ _⟩
    case round =>
      obtain ⟨k, S, hkN, rfl, rfl, HS, hSl, hbw⟩ := hrel
      have hsz := hbw.size
      by_cases hlt : k < N
      · have hk' : k < ts.length := by rw [HN.out]; exact hlt
        obtain ⟨c0, c1, -, -, -⟩ := (HTk.out k hlt).below hbw hbt
        have hg := HG.out (ts.getD k tok0) (by rw [List.getD_eq_getElem?_getD, List.getElem?_eq_getElem hk']; exact List.getElem_mem _)
        have HS2 := Lib.hid (spreadL_snoc hk')
        have HS3 := Lib.hid (spreadL_take ts (k + 1))
        have htw : tokW (ts.getD k tok0) = if (ts.getD k tok0).k = 2 then Quo.quoteL (ts.getD k tok0).t else (ts.getD k tok0).t := rfl
        generalize ts.getD k tok0 = X at *
        obtain ⟨K, T, M, E, Q⟩ := X
        simp only at c0 c1 htw
        by_cases hk2 : K = 2
        · subst hk2
          rw [if_pos rfl] at htw
          rw [htw] at HS2
          have QQ := Lib.hid (fun w' => quote_of T w' hg.len (hg.txt rfl))
          generalize Quo.quoteL T = QT at *
          have hS4 : (S ++ (lineL ++ QT)).length ≤ 12003 := by
            have h1 := HS3.out; rw [HS2.out, ← HS.out] at h1; have := HL2.out; omega
          have hq1 : QT.length ≤ 12003 := by simp at hS4; omega
          have HS4 := Lib.hid hS4
          clear hg htw hk' hS4
          go_wp2_with (go_at_call 23; (with_reducible refine (QQ.out _).mono ?_); rintro e5 w5 ⟨rfl, hb5⟩; have hbw5 := below_step hbw hb5)
          go_roundw
          case rel => exact ⟨k + 1, S ++ (lineL ++ QT), by omega, by go_num, by rw [show (⟨#[13, 10, 32]⟩ : ByteArray) = ⟨lineL.toArray⟩ from rfl, bs_app, bs_app, List.append_assoc], by show _ = _; rw [HS2.out, ← HS.out], HS4.out, hbw5⟩
          case measure => simp [intOf]; omega
        · rw [if_neg hk2] at htw
          rw [htw] at HS2
          have hne : ((K : Int) == 2) = false := by simp; omega
          have hS4 : (S ++ (lineL ++ T)).length ≤ 12003 := by
            have h1 := HS3.out; rw [HS2.out, ← HS.out] at h1; have := HL2.out; omega
          have hq1 : T.length ≤ 12003 := by simp at hS4; omega
          have HS4 := Lib.hid hS4
          clear hg htw hk' hS4 hk2
          go_wp2_with fail
          go_roundw
          case rel => exact ⟨k + 1, S ++ (lineL ++ T), by omega, by go_num, by rw [show (⟨#[13, 10, 32]⟩ : ByteArray) = ⟨lineL.toArray⟩ from rfl, bs_app, bs_app, List.append_assoc], by show _ = _; rw [HS2.out, ← HS.out], HS4.out, hbw⟩
          case measure => simp [intOf]; omega
      · obtain rfl : k = N := by omega
        obtain rfl : S = spreadL ts := by rw [HS.out, ← HN.out, List.take_length]
        clear HTk hlt
        obtain ⟨hbw4, hbw4'⟩ := HB4.out
        have x7 := (hbw.block _ x6).trans HX5.out
        have x8 : w2.heap.size < wr.heap.size := Own.block_lt x7
        have hbw5' := below_step hbw4' hbw
        have hbw5 := below_step hbw4 hbw
        clear HS
        generalize spreadL ts = SS at *
        go_wp2_with (first
          | (go_at_call 20; (with_reducible refine (PX.out _).mono ?_); rintro e6 w6 ⟨k6, m6, e6', t6, an6, nn6, cn6, ai6, ni6, ci6, rfl, hJ6, hb6⟩; have x9 := (hb6.block _ x8).trans x7; have x10 : w2.heap.size < w6.heap.size := Own.block_lt x9; obtain ⟨q0, q1, q2, q3, q4, q5⟩ := six_of x9; have hbw6' := below_step hbw5' hb6; have hbw6 := below_step hbw5 hb6; have HJ6 := Lib.hid hJ6.any)
          | (go_at_call 17; (with_reducible refine (SA.out _ _ _ (HJ2.out.below (below_step hbw6' (below_a _ _)) (Nat.le_refl _)) (HJ6.out.below (below_a _ _) (Nat.le_refl _))).mono ?_); rintro e7 w7 ⟨rfl, hb7⟩; have hbw7 := below_step (below_step hbw6 (below_a _ _)) hb7))
        go_ret
        exact ⟨rfl, hbw7⟩
  · have hl' : 3000 < (((printJ jj).length : Nat) : Int) := by omega
    generalize printJ jj = s at *
    go_enter Tryz.func8, Tryz.ntmps8
    go_wp2_with (first
      | (go_at_call 11; (with_reducible refine (A1.out _ (below_a _ _)).mono ?_); rintro e1 w1 ⟨rfl, hb1⟩; obtain ⟨x1, x2, hbw1⟩ := box5 hb1; obtain ⟨y0, y1, y2, y3, y4⟩ := five_of x1)
      | (go_at_call 12; (with_reducible refine (F1.out _ hbw1).mono ?_); rintro e2 w2 ⟨k2, m2, e2', t2, an2, nn2, cn2, ai2, ni2, ci2, rfl, hJ2, hb2⟩; have hbw2 := below_step hbw1 hb2; have HJ2 := Lib.hid hJ2)
      | (go_at_call 16; (with_reducible refine (PR.out _ _ (HT.out _ (below_step hbw2 (below_a _ _))) (HJ2.out.below (below_a _ _) (Nat.le_refl _))).mono ?_); rintro e3 w3 ⟨rfl, hb3⟩; obtain ⟨x3, x4, hbw3'⟩ := box6 hb3; have hbw3 := below_step hbw2 hbw3'))
    go_ret
    exact ⟨rfl, hbw3⟩
end Go.Proofs.YtnkgkhkkcjebgaaGreatDoor.Js
