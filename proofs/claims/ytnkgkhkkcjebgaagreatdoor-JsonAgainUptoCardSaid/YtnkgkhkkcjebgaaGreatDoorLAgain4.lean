import Derived.Test.YtnkgkhkkcjebgaaGreatDoorFt2
import Derived.Test.YtnkgkhkkcjebgaaGreatDoorParse
import Derived.Test.YtnkgkhkkcjebgaaGreatDoorRo3
import Derived.Test.YtnkgkhkkcjebgaaGreatDoorLBack4
/- Plain: how long the text of a value is that was parsed. -/
set_option linter.unusedVariables false
set_option linter.unusedSimpArgs false
namespace Go.Proofs.YtnkgkhkkcjebgaaGreatDoor.Js
open Lex

theorem flat_len : ∀ rs : List Nat, rs.length ≤ (Quo.flat rs).length
  | [] => by simp
  | r :: rs => by
    have h1 := (Quo.enc_len r).1
    have h2 := flat_len rs
    unfold Quo.flat at h2 ⊢
    simp only [List.flatMap_cons, List.length_append, List.length_cons]
    omega
theorem quoteL_len {t : List UInt8} (h : Quo.wholeB t = true) : (Quo.quoteL t).length ≤ 6 * t.length + 2 := by
  obtain ⟨rs, hr, rfl⟩ := Quo.whole_flat h
  have h1 := bodyQ_len hr
  have h2 := flat_len rs
  unfold Quo.quoteL
  rw [Quo.qBody_flat' hr]
  simp
  omega
theorem printL_snocA : ∀ (acc : List J) (f : Bool) (x : J), (printL false f [] (acc ++ [x])).length ≤ (printL false f [] acc).length + 1 + (printJ x).length
  | [], f, x => by
    rw [List.nil_append, printL, printL, printL]
    cases f <;> simp <;> omega
  | y :: r, f, x => by
    have := printL_snocA r false x
    rw [List.cons_append, printL, printL]
    simp only [List.tail_nil, List.length_append]
    omega
theorem printL_snocO : ∀ (acc : List J) (ns : List (List UInt8)) (f : Bool) (x : J) (n : List UInt8), ns.length = acc.length → (printL true f (ns ++ [n]) (acc ++ [x])).length ≤ (printL true f ns acc).length + 2 + (Quo.quoteL n).length + (printJ x).length
  | [], ns, f, x, n, h => by
    obtain rfl : ns = [] := List.length_eq_zero_iff.1 h
    rw [List.nil_append, List.nil_append, printL, printL, printL]
    cases f <;> simp <;> omega
  | y :: r, [], f, x, n, h => by simp at h
  | y :: r, m :: ns, f, x, n, h => by
    have := printL_snocO r ns false x n (by simpa using h)
    rw [List.cons_append, List.cons_append, printL, printL]
    simp only [List.tail_cons, List.headD_cons, List.length_append]
    omega
theorem name_len {seen : List (List UInt8)} {l : List Tok} (h : EndL l) (he : (nameS seen l).1 = 0) : (nameS seen l).2.2.length + 2 = l.length := by
  cases l with
  | nil => exact absurd rfl h.ne
  | cons x l1 =>
    unfold nameS at he ⊢
    simp only at he ⊢
    split at he
    · rename_i hx
      rw [if_pos hx]
      split at he
      · exact absurd (show (42 : Int) = 0 from he) (by decide)
      · rename_i hs
        rw [if_neg hs]
        cases l1 with
        | nil => exact absurd (show (40 : Int) = 0 from he) (by decide)
        | cons y l2 =>
          simp only at he ⊢
          split at he
          · rename_i hy
            rw [if_pos hy]
            simp
          · exact absurd (show (40 : Int) = 0 from he) (by decide)
    · exact absurd (show (40 : Int) = 0 from he) (by decide)
/-- No text is longer than what was read. -/
def Short (f : List Tok → R) : Prop := ∀ l, EndL l → AllG 20000 l → (f l).er = 0 → (printJ (f l).j).length + 200000 * (f l).l.length ≤ 200000 * l.length
theorem print6 (is : List J) : (printJ (.mk 6 0 0 [] [] is)).length = 2 + (printL false true [] is).length := by
  rw [printJ, if_neg (by decide), if_neg (by decide), if_neg (by decide), if_neg (by decide), if_neg (by decide), if_pos rfl]; simp; omega
theorem print7 (ns : List (List UInt8)) (is : List J) : (printJ (.mk 7 0 0 [] ns is)).length = 2 + (printL true true ns is).length := by
  rw [printJ, if_neg (by decide), if_neg (by decide), if_neg (by decide), if_neg (by decide), if_neg (by decide), if_neg (by decide), if_pos rfl]; simp; omega
theorem le_more (a b c : Nat) (h : a + 200000 * b ≤ 0 + 200000 * c) : a + 200000 * b ≤ 200000 * (c + 1) := by omega
theorem arr_short {f : List Tok → R} (hg : Good f) (hf : Short f) : ∀ (n : Nat) (acc : List J) (l : List Tok), EndL l → AllG 20000 l → (arrL f n acc l).er = 0 →
    (printJ (arrL f n acc l).j).length + 200000 * (arrL f n acc l).l.length ≤ (printL false true [] acc).length + 200000 * l.length
  | 0, acc, l, h, hl, he => absurd (show (40 : Int) = 0 from he) (by decide)
  | n + 1, acc, l, h, hl, he => by
    obtain ⟨a, b, c⟩ := hg l h
    rw [arrL] at he ⊢
    by_cases h0 : (f l).er = 0
    · rw [if_pos h0] at he ⊢
      have hr := hf l h hl h0
      have hs := printL_snocA acc true (f l).j
      have hl' := hl.suf b
      generalize hq : (f l).l = q at *
      cases q with
      | nil => exact absurd rfl a.ne
      | cons y l' =>
        unfold moreS at he ⊢
        simp only at he ⊢
        simp only [List.length_cons] at hr
        by_cases h1 : sgB y 93 = true
        · rw [if_pos h1]
          have := print6 (acc ++ [(f l).j])
          simp only
          omega
        · rw [if_neg h1] at he ⊢
          by_cases h2 : sgB y 44 = true
          · rw [if_pos h2] at he ⊢
            have := arr_short hg hf n _ l' (a.tail (by rw [(sgB_k h2).1]; decide)) (hl'.suf (List.suffix_cons _ _)) he
            omega
          · rw [if_neg h2] at he; exact absurd (show (40 : Int) = 0 from he) (by decide)
    · rw [if_neg h0] at he; exact absurd he h0
theorem obj_short {f : List Tok → R} (hg : Good f) (hf : Short f) : ∀ (n : Nat) (ns : List (List UInt8)) (acc : List J) (l : List Tok), EndL l → AllG 20000 l → ns.length = acc.length → (objL f n ns acc l).er = 0 →
    (printJ (objL f n ns acc l).j).length + 200000 * (objL f n ns acc l).l.length ≤ (printL true true ns acc).length + 200000 * l.length
  | 0, ns, acc, l, h, hl, hlen, he => absurd (show (40 : Int) = 0 from he) (by decide)
  | n + 1, ns, acc, l, h, hl, hlen, he => by
    obtain ⟨n1, n2⟩ := name_good (seen := ns) h
    rw [objL] at he ⊢
    by_cases hz : (nameS ns l).1 = 0
    · rw [if_pos hz] at he ⊢
      obtain ⟨w1, w2, w3⟩ := name_right h hl hz
      have w4 := quoteL_len w1
      have w5 := name_len h hz
      have hlm := hl.suf n2
      generalize hql : (nameS ns l).2.2 = lm at *
      generalize hqn : (nameS ns l).2.1 = nm at *
      obtain ⟨a, b, c⟩ := hg lm n1
      by_cases h0 : (f lm).er = 0
      · rw [if_pos h0] at he ⊢
        have hr := hf lm n1 hlm h0
        have hs := printL_snocO acc ns true (f lm).j nm hlen
        have hlen' : (ns ++ [nm]).length = (acc ++ [(f lm).j]).length := by simp [hlen]
        have hl' := hlm.suf b
        generalize hq : (f lm).l = q at *
        cases q with
        | nil => exact absurd rfl a.ne
        | cons y l' =>
          unfold moreS at he ⊢
          simp only at he ⊢
          simp only [List.length_cons] at hr
          by_cases h1 : sgB y 125 = true
          · rw [if_pos h1]
            have := print7 (ns ++ [nm]) (acc ++ [(f lm).j])
            simp only
            omega
          · rw [if_neg h1] at he ⊢
            by_cases h2 : sgB y 44 = true
            · rw [if_pos h2] at he ⊢
              have := obj_short hg hf n _ _ l' (a.tail (by rw [(sgB_k h2).1]; decide)) (hl'.suf (List.suffix_cons _ _)) hlen' he
              omega
            · rw [if_neg h2] at he; exact absurd (show (40 : Int) = 0 from he) (by decide)
      · rw [if_neg h0] at he; exact absurd he h0
    · rw [if_neg hz] at he; exact absurd he hz
theorem val_short : ∀ n, Short (valS n)
  | 0, l, h, hl, he => by
    cases l with
    | nil => exact absurd rfl h.ne
    | cons x l =>
      rw [valS] at he
      simp only at he
      split at he <;> simp at he
  | n + 1, l, h, hl, he => by
    cases l with
    | nil => exact absurd rfl h.ne
    | cons x l =>
      have hf := val_short n
      rw [valS] at he ⊢
      by_cases h0 : (begunS x).k = 0
      · rw [if_pos h0] at he; exact absurd (show (40 : Int) = 0 from he) (by decide)
      · rw [if_neg h0] at he ⊢
        have ht := h.tail (begun_k h0)
        have hlt := hl.suf (List.suffix_cons x l)
        by_cases h6 : (begunS x).k = 6
        · rw [if_pos h6] at he ⊢
          unfold arrS at he ⊢
          cases l with
          | nil => exact absurd rfl ht.ne
          | cons y l' =>
            simp only at he ⊢
            by_cases h1 : sgB y 93 = true
            · rw [if_pos h1]
              have := print6 []
              simp only [printL, List.length_nil] at this
              simp only [List.length_cons]
              omega
            · rw [if_neg h1] at he ⊢
              have := arr_short (val_good n) hf _ _ _ ht hlt he
              simp only [printL, List.length_nil] at this
              simp only [List.length_cons] at this ⊢
              exact le_more _ _ _ this
        · rw [if_neg h6] at he ⊢
          by_cases h7 : (begunS x).k = 7
          · rw [if_pos h7] at he ⊢
            unfold objS at he ⊢
            cases l with
            | nil => exact absurd rfl ht.ne
            | cons y l' =>
              simp only at he ⊢
              by_cases h1 : sgB y 125 = true
              · rw [if_pos h1]
                have := print7 [] []
                simp only [printL, List.length_nil] at this
                simp only [List.length_cons]
                omega
              · rw [if_neg h1] at he ⊢
                have := obj_short (val_good n) hf _ _ _ _ ht hlt rfl he
                simp only [printL, List.length_nil] at this
                simp only [List.length_cons] at this ⊢
                exact le_more _ _ _ this
          · rw [if_neg h7]
            simp only [List.length_cons]
            rcases begun_cases x with h | ⟨h, hk⟩ | ⟨h, hk⟩ | h | h | h | h | h
            · exact absurd h h0
            · have h1 := quoteL_len ((hl x (by simp)).txt hk)
              have h2 := (hl x (by simp)).len
              rw [h, printJ, if_neg (by decide), if_neg (by decide), if_neg (by decide), if_neg (by decide), if_pos rfl]
              omega
            · have h1 := (Dec.print_len ((hl x (by simp)).num hk)).1
              rw [h, printJ, if_neg (by decide), if_neg (by decide), if_neg (by decide), if_pos rfl]
              omega
            · rw [h, printJ, if_pos rfl, show nullL.length = 4 from rfl]; omega
            · rw [h, printJ, if_neg (by decide), if_pos rfl, show falseL.length = 5 from rfl]; omega
            · rw [h, printJ, if_neg (by decide), if_neg (by decide), if_pos rfl, show trueL.length = 4 from rfl]; omega
            · exact absurd h h6
            · exact absurd h h7
/-- What is parsed is right, and its text is parsed to it, if it is short enough; an error comes with no value. -/
theorem parsed (s : List UInt8) : ((parseS s).1 ≠ 0 ∧ (parseS s).2.1 = j0) ∨ ((parseS s).1 = 0 ∧ rightJ 1 (parseS s).2.1 = true ∧ (printJ (parseS s).2.1).length ≤ 8000000000) := by
  unfold parseS
  cases hs : scanS s with
  | inl n => exact .inl ⟨by show (30 : Int) ≠ 0; decide, rfl⟩
  | inr ts =>
    dsimp only
    obtain ⟨h1, -, -⟩ := scanS_inr hs
    unfold scanS at hs
    split at hs
    · cases hs
    · rename_i hl
      have hlen := scan_len hs
      have hG : AllG 20000 ts := fun x hx => (scan_good hs x hx).mono (by omega)
      have hr := val_right 20000 16 (Nat.le_refl _) ts h1 hG
      have hsh := val_short 16 ts h1 hG
      unfold parseT topS
      split
      · rename_i he
        split
        · have := hsh he
          exact .inr ⟨rfl, hr he, by simp only; omega⟩
        · exact .inl ⟨by show (40 : Int) ≠ 0; decide, rfl⟩
      · rename_i he
        exact .inl ⟨he, rfl⟩
end Go.Proofs.YtnkgkhkkcjebgaaGreatDoor.Js

/- The walk of the law JsonAgain: it answers true. -/
set_option linter.unusedVariables false
set_option linter.unusedSimpArgs false
namespace Go.Proofs.YtnkgkhkkcjebgaaGreatDoor.Js
open Go.RowKit Lex
open Quo (pickS pickS_nonneg pickS_lt)

theorem bs_eta (t : ByteArray) : (⟨t.data.toList.toArray⟩ : ByteArray) = t := by cases t; simp
theorem parse_long {s : List UInt8} (h : 20000 < s.length) : parseS s = (30, j0, 0) := by
  unfold parseS scanS; rw [if_pos h]
set_option maxHeartbeats 16000000 in
set_option maxRecDepth 100000 in
theorem again_walk (s : ByteArray) (v : Value) (r : RT) (at0 : Int) (more : ByteArray) (w : World) (hT : Dec.Tab w) (hsz : s.size ≤ 1048576) (hR : RAt w 15 v r) (hs : rsz r ≤ 1048576) (a0 : -9223372036854775808 ≤ at0) (a1 : at0 ≤ 9223372036854775807) (hm : more.size ≤ 1048576) :
    Calls Tryz.prog 6 #[.string s, v, .int .i64 at0, .string more] w (Ret (.bool true) w) := by
  have A1 := Lib.hid (fun (w' : World) (hb : Below w.heap.size w w') => awake_any w' (hT.below hb))
  obtain ⟨p1, p2, p3⟩ := fit_printed 15 r (by omega) hs
  obtain ⟨k, m, e, ao, tl, c, ai, ni, ci, rfl, -⟩ := hR.form
  have F1 := Lib.hid (fun (w' : World) (hb : Below w.heap.size w w') => fit_at 15 (by omega) 1 rfl w' _ r (hR.below hb))
  have HT : Hid (∀ w', Below w.heap.size w w' → Dec.Tab w') := fun w' hb => hT.below hb
  clear hR hs hT
  generalize fitJ 15 r = jj at *
  have PR := Lib.hid (fun w' v' (hT : Dec.Tab w') (h : JA Any w' v' jj) => print_of Any v' jj w' hT h (by omega))
  rw [p2] at PR
  clear p1 p2 p3
  generalize printJ jj = Q at *
  by_cases hl0 : s.size ≤ 3000
  · have hl0' : (s.size : Int) ≤ 3000 := by omega
    by_cases hl : Q.length ≤ 3000
    · have hl' : (Q.length : Int) ≤ 3000 := by omega
      have pk0 := pickS_nonneg (c := at0) (n := (Q.length : Int) + 1) (by omega)
      have pk1 := pickS_lt (c := at0) (n := (Q.length : Int) + 1) (by omega)
      have PK := Lib.hid (fun u => pick_any at0 ((Q.length : Int) + 1) u ⟨a0, a1⟩ (by omega) (by omega))
      generalize pickS at0 ((Q.length : Int) + 1) = m at *
      obtain ⟨k, rfl⟩ := Int.eq_ofNat_of_zero_le pk0
      have hk : k ≤ Q.length := by omega
      have hk2 : (k : Int) ≤ (Q.length : Int) := by omega
      clear pk0 pk1
      go_enter Tryz.func6, Tryz.ntmps6
      go_wp2_with (first
        | (go_at_call 11; (with_reducible refine (A1.out _ (below_a _ _)).mono ?_); rintro e1 w1 ⟨rfl, hb1⟩; obtain ⟨x1, x2, hbw1⟩ := box5 hb1; obtain ⟨y0, y1, y2, y3, y4⟩ := five_of x1)
        | (go_at_call 12; (with_reducible refine (F1.out _ hbw1).mono ?_); rintro e2 w2 ⟨k2, m2, e2', t2, an2, nn2, cn2, ai2, ni2, ci2, rfl, hJ2, hb2⟩; have hbw2 := below_step hbw1 hb2; have HJ2 := Lib.hid hJ2)
        | (go_at_call 16; (with_reducible refine (PR.out _ _ (HT.out _ hbw2) HJ2.out).mono ?_); rintro e3 w3 ⟨rfl, hb3⟩; have hbw3 := below_step hbw2 hb3)
        | (go_at_call 19; (with_reducible refine (PK.out _).mono ?_); rintro e4 w4 ⟨rfl, rfl⟩))
      clear y0 y1 y2 y3 y4 x1 x2 hb1 hbw1 hb2 hJ2 HJ2 hbw2 hb3 PK PR F1 A1 a0 a1
      go_region
      have l5 : ((⟨Q.toArray⟩ : ByteArray).extract 0 k ++ more ++ (⟨Q.toArray⟩ : ByteArray).extract (min ((k : Int) + (more.size : Int)) (Q.length : Int)).toNat Q.length).size ≤ 2200000 := by
        simp only [ByteArray.size_append, ByteArray.size_extract, bs_size]
        omega
      have l7 : ((⟨Q.toArray⟩ : ByteArray).extract 0 k ++ more ++ (⟨Q.toArray⟩ : ByteArray).extract k Q.length).size ≤ 2200000 := by
        simp only [ByteArray.size_append, ByteArray.size_extract, bs_size]
        omega
      have l0 : s.size ≤ 2200000 := by omega
      generalize ((⟨Q.toArray⟩ : ByteArray).extract 0 k ++ more ++ (⟨Q.toArray⟩ : ByteArray).extract k Q.length) = X7 at *
      generalize ((⟨Q.toArray⟩ : ByteArray).extract 0 k ++ more ++ (⟨Q.toArray⟩ : ByteArray).extract (min ((k : Int) + (more.size : Int)) (Q.length : Int)).toNat Q.length) = X5 at *
      have hA : Below w.heap.size w (w3.alloc (.cells #[.string s, .string X5, .string X7] 9)).drew := (hbw3.alloc hbw3.size _).drew
      have hcs : Hid (∀ j, j < 3 → ∃ t, (w3.alloc (.cells #[.string s, .string X5, .string X7] 9)).drew.cell? ⟨w3.heap.size, j, none⟩ = some (.string t) ∧ t.size ≤ 2200000) := fun j hj => by
        have : j = 0 ∨ j = 1 ∨ j = 2 := by omega
        rcases this with rfl | rfl | rfl
        · exact ⟨s, by simp, l0⟩
        · exact ⟨X5, by simp, l5⟩
        · exact ⟨X7, by simp, l7⟩
      have hbs : w3.heap.size < (w3.alloc (.cells #[.string s, .string X5, .string X7] 9)).drew.heap.size := by simp
      generalize (w3.alloc (.cells #[.string s, .string X5, .string X7] 9)).drew = wA at *
      have HTA : Hid (∀ w', Below wA.heap.size wA w' → Dec.Tab w') := fun w' hb => HT.out w' (below_step hA hb)
      clear l0 l5 l7 hk hk2 hl hl' hl0 hl0' hm hsz HT
      go_wp2_with fail
      go_loopw [66] (fun iv wr => ∃ j : Nat, j ≤ 3 ∧ iv = .int .i64 j ∧ Below wA.heap.size wA wr) (fun iv _ => 3 - (intOf iv).toNat)
      case atStart => exact ⟨0, by omega, rfl, Below.refl _ _⟩
      case round =>
        obtain ⟨j, hj, rfl, hbr⟩ := hrel
        have hz : wA.heap.size ≤ wr.heap.size := hbr.size
        by_cases hlt : j < 3
        · obtain ⟨t, hcell, ht⟩ := hcs.out j hlt
          rw [← hbr.cell (p := ⟨w3.heap.size, j, none⟩) hbs] at hcell
          have hpd := parsed t.data.toList
          obtain ⟨P, hP⟩ : ∃ P, parseS t.data.toList = P := ⟨_, rfl⟩
          obtain ⟨E, j1, n⟩ := P
          rw [hP] at hpd
          simp only at hpd
          have P1 := Lib.hid (fun w' => parse_x t.data.toList E j1 n hP t (bs_eta t) (by rw [Array.length_toList]; show t.size ≤ _; unfold maxLen; omega) w')
          clear hP ht
          rcases hpd with ⟨hE, rfl⟩ | ⟨rfl, hr, hlen⟩
          · have hne : (E != 0) = true := by simpa using hE
            have SZ := Lib.hid (fun w' v1 (h : JA Any w' v1 j0) => same_of Any Any v1 (.agg #[.int .i64 0, .int .i64 0, .int .i64 0, .string ⟨#[]⟩, .slice none 0 0, .slice none 0 0]) j0 j0 w' h ⟨1, zero_jat⟩)
            rw [sameJ_refl] at SZ
            clear hE
            go_wp2_with (first
              | (go_at_call 20; (with_reducible refine (P1.out _).mono ?_); rintro e6 w6 ⟨k6, m6, e6', t6, an6, nn6, cn6, ai6, ni6, ci6, rfl, hJ6, hb6⟩; have hbw6 := below_step hbr hb6; have HJ6 := Lib.hid hJ6.any)
              | (go_at_call 17; (with_reducible refine (SZ.out _ _ (HJ6.out.below (below_a _ _) (Nat.le_refl _))).mono ?_); rintro e7 w7 ⟨rfl, hb7⟩; have hbw7 := below_step (below_step hbw6 (below_a _ _)) hb7))
            go_roundw
            case rel => exact ⟨j + 1, by omega, by go_num, hbw7⟩
            case measure => simp [intOf]; omega
          · have RI := Lib.hid (fun w' v' (h : JA Any w' v' j1) => right_of Any v' j1 w' h)
            rw [hr] at RI
            have PR := Lib.hid (fun w' v' (hT : Dec.Tab w') (h : JA Any w' v' j1) => print_of Any v' j1 w' hT h (by omega))
            rw [show printS j1 = printJ j1 by unfold printS; rw [if_pos hr]] at PR
            have SA := Lib.hid (fun w' v1 v2 (h : JA Any w' v1 j1) (h2 : JA Any w' v2 j1) => same_of Any Any v1 v2 j1 j1 w' h h2)
            rw [sameJ_refl] at SA
            have hne' : ¬ printJ j1 = [] := print_ne hr
            have hie : (printJ j1).isEmpty = false := by simpa using hne'
            by_cases hl : (printJ j1).length ≤ 20000
            · have PX := Lib.hid (fun w' => parse_x (printJ j1) 0 j1 0 (parse_print hr hl) _ rfl (by unfold maxLen; omega) w')
              have hl' : ((printJ j1).length : Int) ≤ 20000 := by omega
              clear hr
              generalize printJ j1 = p at *
              go_wp2_with (first
                | (go_at_call 20; (with_reducible refine (P1.out _).mono ?_); rintro e2 w2 ⟨k2, m2, e2', t2, an2, nn2, cn2, ai2, ni2, ci2, rfl, hJ2, hb2⟩; have hbw2 := below_step hbr hb2; have HJ2 := Lib.hid hJ2.any)
                | (go_at_call 16; (with_reducible refine (PR.out _ _ (HTA.out _ (below_step hbw2 (below_a _ _))) (HJ2.out.below (below_a _ _) (Nat.le_refl _))).mono ?_); rintro e3 w5 ⟨rfl, hb3⟩; obtain ⟨x3, x4, hbw3'⟩ := box6 hb3; obtain ⟨z0, z1, z2, z3, z4, z5⟩ := six_of x3; have hbw3 := below_step hbw2 hbw3')
                | (go_at_call 20; (with_reducible refine (PX.out _).mono ?_); rintro e4 w4 ⟨k4, m4, e4', t4, an4, nn4, cn4, ai4, ni4, ci4, rfl, hJ4, hb4⟩; have hbw4' := below_step hbw3' hb4; have hbw4 := below_step hbw3 hb4; have x5 := (hb4.block _ x4).trans x3; obtain ⟨q0, q1, q2, q3, q4, q5⟩ := six_of x5; have x6 : w2.heap.size < w4.heap.size := Own.block_lt x5; have HJ4 := Lib.hid hJ4.any)
                | (go_at_call 14; (with_reducible refine (RI.out _ _ (HJ2.out.below (below_step hbw4' (below_a _ _)) (Nat.le_refl _))).mono ?_); rintro e5 w6 ⟨rfl, hb5⟩; obtain ⟨x7, x8, hbw5'⟩ := box6 hb5; obtain ⟨u0, u1, u2, u3, u4, u5⟩ := six_of x7; have x9 := (hbw5'.block _ x6).trans x5; obtain ⟨v0, v1, v2, v3, v4, v5⟩ := six_of x9; have hbw5 := below_step hbw4 hbw5')
                | (go_at_call 17; (with_reducible refine (SA.out _ _ _ (HJ2.out.below (below_step hbw4' hbw5') (Nat.le_refl _)) (HJ4.out.below hbw5' (Nat.le_refl _))).mono ?_); rintro e6 w7 ⟨rfl, hb6⟩; have hbw6 := below_step hbw5 hb6))
              go_roundw
              case rel => exact ⟨j + 1, by omega, by go_num, hbw6⟩
              case measure => simp [intOf]; omega
            · have PX := Lib.hid (fun w' => parse_x (printJ j1) 30 j0 0 (parse_long (by omega)) _ rfl (by unfold maxLen; omega) w')
              have hl' : 20000 < ((printJ j1).length : Int) := by omega
              clear hr
              generalize printJ j1 = p at *
              go_wp2_with (first
                | (go_at_call 20; (with_reducible refine (P1.out _).mono ?_); rintro e2 w2 ⟨k2, m2, e2', t2, an2, nn2, cn2, ai2, ni2, ci2, rfl, hJ2, hb2⟩; have hbw2 := below_step hbr hb2; have HJ2 := Lib.hid hJ2.any)
                | (go_at_call 16; (with_reducible refine (PR.out _ _ (HTA.out _ (below_step hbw2 (below_a _ _))) (HJ2.out.below (below_a _ _) (Nat.le_refl _))).mono ?_); rintro e3 w5 ⟨rfl, hb3⟩; obtain ⟨x3, x4, hbw3'⟩ := box6 hb3; obtain ⟨z0, z1, z2, z3, z4, z5⟩ := six_of x3; have hbw3 := below_step hbw2 hbw3')
                | (go_at_call 20; (with_reducible refine (PX.out _).mono ?_); rintro e4 w4 ⟨k4, m4, e4', t4, an4, nn4, cn4, ai4, ni4, ci4, rfl, hJ4, hb4⟩; have hbw4' := below_step hbw3' hb4; have hbw4 := below_step hbw3 hb4; have x5 := (hb4.block _ x4).trans x3; obtain ⟨q0, q1, q2, q3, q4, q5⟩ := six_of x5; have x6 : w2.heap.size < w4.heap.size := Own.block_lt x5; have HJ4 := Lib.hid hJ4.any)
                | (go_at_call 14; (with_reducible refine (RI.out _ _ (HJ2.out.below (below_step hbw4' (below_a _ _)) (Nat.le_refl _))).mono ?_); rintro e5 w6 ⟨rfl, hb5⟩; have hbw5 := below_step (below_step hbw4 (below_a _ _)) hb5))
              go_roundw
              case rel => exact ⟨j + 1, by omega, by go_num, hbw5⟩
              case measure => simp [intOf]; omega
        · go_wp2_with fail
          go_ret
          exact ⟨rfl, below_step hA hbr⟩
    · have hl' : 3000 < (Q.length : Int) := by omega
      go_enter Tryz.func6, Tryz.ntmps6
      go_wp2_with (first
        | (go_at_call 11; (with_reducible refine (A1.out _ (below_a _ _)).mono ?_); rintro e1 w1 ⟨rfl, hb1⟩; obtain ⟨x1, x2, hbw1⟩ := box5 hb1; obtain ⟨y0, y1, y2, y3, y4⟩ := five_of x1)
        | (go_at_call 12; (with_reducible refine (F1.out _ hbw1).mono ?_); rintro e2 w2 ⟨k2, m2, e2', t2, an2, nn2, cn2, ai2, ni2, ci2, rfl, hJ2, hb2⟩; have hbw2 := below_step hbw1 hb2; have HJ2 := Lib.hid hJ2)
        | (go_at_call 16; (with_reducible refine (PR.out _ _ (HT.out _ hbw2) HJ2.out).mono ?_); rintro e3 w3 ⟨rfl, hb3⟩; have hbw3 := below_step hbw2 hb3))
      go_ret
      exact ⟨rfl, hbw3⟩
  · have hl' : 3000 < (s.size : Int) := by omega
    go_enter Tryz.func6, Tryz.ntmps6
    go_wp2_with (first
      | (go_at_call 11; (with_reducible refine (A1.out _ (below_a _ _)).mono ?_); rintro e1 w1 ⟨rfl, hb1⟩; obtain ⟨x1, x2, hbw1⟩ := box5 hb1; obtain ⟨y0, y1, y2, y3, y4⟩ := five_of x1)
      | (go_at_call 12; (with_reducible refine (F1.out _ hbw1).mono ?_); rintro e2 w2 ⟨k2, m2, e2', t2, an2, nn2, cn2, ai2, ni2, ci2, rfl, hJ2, hb2⟩; have hbw2 := below_step hbw1 hb2; have HJ2 := Lib.hid hJ2)
      | (go_at_call 16; (with_reducible refine (PR.out _ _ (HT.out _ hbw2) HJ2.out).mono ?_); rintro e3 w3 ⟨rfl, hb3⟩; have hbw3 := below_step hbw2 hb3))
    go_ret
    exact ⟨rfl, hbw3⟩
end Go.Proofs.YtnkgkhkkcjebgaaGreatDoor.Js
