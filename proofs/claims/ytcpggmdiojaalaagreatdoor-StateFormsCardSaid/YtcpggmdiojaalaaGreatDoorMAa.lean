import Derived.Test.YtcpggmdiojaalaaGreatDoorMOb
import Derived.Test.YtcpggmdiojaalaaGreatDoorMD
import Derived.Test.YtcpggmdiojaalaaGreatDoorMT
/- Layer 9, plain: states; the value that tells one; what of a value is told as a state; Take undoes Lay. -/
set_option linter.unusedVariables false
set_option linter.unusedSimpArgs false
namespace Go.Proofs.YtcpggmdiojaalaaGreatDoor.Sta
open Go.RowKit Js Lex Od

structure S9 where
  h : Int
  b : Int
  v : List UInt8
  o : Int
  u : Int
  lv : Bool
  n : Int
  q : Int
  dr : Bool
  ac : Int
def s0 : S9 := ⟨0, 0, [], 0, 0, false, 0, 0, false, 0⟩
def numsB (x : S9) : Bool := numB x.h && (numB x.b && (numB x.o && (numB x.u && (numB x.n && (numB x.q && numB x.ac)))))
def rightT (nm : List UInt8 → Bool) (x : S9) : Bool := numsB x && (nm x.v && (decide (x.q % 2 = 0) && (x.lv || !x.dr)))
def sameT (a b : S9) : Bool := a.h == b.h && (a.b == b.b && (a.v == b.v && (a.o == b.o && (a.u == b.u && (a.lv == b.lv && (a.n == b.n && (a.q == b.q && (a.dr == b.dr && a.ac == b.ac))))))))
theorem sameT_iff {x y : S9} : sameT x y = true ↔ x = y := by
  obtain ⟨h, b, v, o, u, lv, n, q, dr, ac⟩ := x
  obtain ⟨h', b', v', o', u', lv', n', q', dr', ac'⟩ := y
  unfold sameT
  simp only [Bool.and_eq_true, beq_iff_eq, S9.mk.injEq]
def newerB (a b : S9) : Bool := decide (b.b < a.b) || (a.b == b.b && decide (b.h < a.h))

def bootL : List UInt8 := [98, 111, 111, 116]
def liveL : List UInt8 := [108, 105, 118, 101]
def lnidL : List UInt8 := [108, 97, 115, 116, 78, 111, 100, 101, 73, 100]
def lseqL : List UInt8 := [108, 97, 115, 116, 78, 111, 100, 101, 83, 101, 113, 117, 101, 110, 99, 101, 73, 100]
def drivL : List UInt8 := [100, 114, 105, 118, 105, 110, 103]
def accL : List UInt8 := [97, 99, 99, 101, 112, 116, 101, 100]
def names9 : List (List UInt8) := [hdrL, bootL, serL, ordL, updL, liveL, lnidL, lseqL, drivL, accL]
def textJ (t : List UInt8) : J := .mk 5 0 0 t [] []
def items9 (x : S9) : List J := [numJ x.h, numJ x.b, textJ x.v, numJ x.o, numJ x.u, boolJ x.lv, numJ x.n, numJ x.q, boolJ x.dr, numJ x.ac]
def layJ9 (x : S9) : J := .mk 7 0 0 [] names9 (items9 x)
def layS9 (x : S9) : List UInt8 := Se.sealS (printJ (layJ9 x))

/-- What is told of a state. -/
def told9 (j : J) : S9 :=
  ⟨(tellG 0 numS j hdrL).1, (tellG 0 numS j bootL).1, (tellG [] txtS j serL).1, (tellG 0 numS j ordL).1, (tellG 0 numS j updL).1, (tellG false flagS j liveL).1, (tellG 0 numS j lnidL).1, (tellG 0 numS j lseqL).1, (tellG false flagS j drivL).1, (tellG 0 numS j accL).1⟩
def has9 (j : J) : Bool :=
  (tellG 0 numS j hdrL).2 && ((tellG 0 numS j bootL).2 && ((tellG ([] : List UInt8) txtS j serL).2 && ((tellG 0 numS j ordL).2 && ((tellG 0 numS j updL).2 && ((tellG false flagS j liveL).2 && ((tellG 0 numS j lnidL).2 && ((tellG 0 numS j lseqL).2 && ((tellG false flagS j drivL).2 && (tellG 0 numS j accL).2))))))))
def takeJ9 (nm : List UInt8 → Bool) (j : J) : Option S9 := if has9 j = true ∧ rightT nm (told9 j) = true then some (told9 j) else none
/-- What Take tells: an error's number or 0, a state. -/
def takeS9 (nm : List UInt8 → Bool) (s : List UInt8) : Int × Option S9 :=
  match Se.openS s with
  | none => (60, none)
  | some t => if (parseS t).1 = 0 then (match takeJ9 nm (parseS t).2.1 with | some x => (0, some x) | none => (90, none)) else ((parseS t).1, none)

theorem rightT_parts {nm : List UInt8 → Bool} {x : S9} (h : rightT nm x = true) : numB x.h = true ∧ numB x.b = true ∧ numB x.o = true ∧ numB x.u = true ∧ numB x.n = true ∧ numB x.q = true ∧ numB x.ac = true ∧ nm x.v = true := by
  unfold rightT numsB at h
  simp only [Bool.and_eq_true] at h
  obtain ⟨⟨h1, h2, h3, h4, h5, h6, h7⟩, h8, -⟩ := h
  exact ⟨h1, h2, h3, h4, h5, h6, h7, h8⟩
theorem tell_get {α : Type} {z : α} {f : J → α × Bool} {j : J} {nm : List UInt8} {y : J} (h : getS j nm = (y, true)) : tellG z f j nm = f y := by
  unfold getS at h
  unfold tellG
  split at h
  · simp at h
  · rename_i hp
    rw [if_neg hp]
    simp only [Prod.mk.injEq, and_true] at h
    rw [h]
theorem tell_none {α : Type} {z : α} {f : J → α × Bool} {j : J} {nm : List UInt8} (h : (getS j nm).2 = false) : tellG z f j nm = (z, false) := by
  unfold getS at h
  unfold tellG
  split at h
  · rename_i hp
    rw [if_pos hp]
  · simp at h
/-- A value with a state's fields tells it. -/
structure Tells (j : J) (x : S9) : Prop where
  g0 : getS j hdrL = (numJ x.h, true)
  g1 : getS j bootL = (numJ x.b, true)
  g2 : getS j serL = (textJ x.v, true)
  g3 : getS j ordL = (numJ x.o, true)
  g4 : getS j updL = (numJ x.u, true)
  g5 : getS j liveL = (boolJ x.lv, true)
  g6 : getS j lnidL = (numJ x.n, true)
  g7 : getS j lseqL = (numJ x.q, true)
  g8 : getS j drivL = (boolJ x.dr, true)
  g9 : getS j accL = (numJ x.ac, true)
theorem Tells.take {nm : List UInt8 → Bool} {j : J} {x : S9} (t : Tells j x) (h : rightT nm x = true) : takeJ9 nm j = some x := by
  obtain ⟨h1, h2, h3, h4, h5, h6, h7, h8⟩ := rightT_parts h
  have e1 : ∀ t : List UInt8, txtS (textJ t) = (t, true) := fun t => rfl
  have e : told9 j = x ∧ has9 j = true := by
    unfold told9 has9
    rw [tell_get t.g0, tell_get t.g1, tell_get t.g2, tell_get t.g3, tell_get t.g4, tell_get t.g5, tell_get t.g6, tell_get t.g7, tell_get t.g8, tell_get t.g9]
    rw [(num_told h1).1, (num_told h2).1, (num_told h3).1, (num_told h4).1, (num_told h5).1, (num_told h6).1, (num_told h7).1, e1, flag_told, flag_told]
    exact ⟨rfl, rfl⟩
  unfold takeJ9
  rw [e.1, e.2, if_pos ⟨rfl, h⟩]
/-- A field of an object. -/
theorem get_at {ns : List (List UInt8)} {is : List J} {m : List UInt8} {i : Nat} {y : J} (hp : plcL m ns 0 is.length = (i : Int)) (hy : is.getD i j0 = y) : getS (.mk 7 0 0 [] ns is) m = (y, true) := by
  have hpl : plc (.mk 7 0 0 [] ns is) m = (i : Int) := by
    unfold plc
    rw [if_pos (show (J.mk 7 0 0 [] ns is).k = 7 from rfl)]
    exact hp
  unfold getS
  rw [hpl, if_neg (by omega), Int.toNat_natCast, ← hy]
  rfl
theorem get_no {ns : List (List UInt8)} {is : List J} {m : List UInt8} (hp : plcL m ns 0 is.length = -1) : (getS (.mk 7 0 0 [] ns is) m).2 = false := by
  have hpl : plc (.mk 7 0 0 [] ns is) m = -1 := by
    unfold plc
    rw [if_pos (show (J.mk 7 0 0 [] ns is).k = 7 from rfl)]
    exact hp
  unfold getS
  rw [hpl, if_pos (by decide)]
theorem lay_tells (x : S9) : Tells (layJ9 x) x :=
  ⟨get_at (i := 0) (by show plcL _ _ 0 10 = _; decide) rfl, get_at (i := 1) (by show plcL _ _ 0 10 = _; decide) rfl, get_at (i := 2) (by show plcL _ _ 0 10 = _; decide) rfl, get_at (i := 3) (by show plcL _ _ 0 10 = _; decide) rfl, get_at (i := 4) (by show plcL _ _ 0 10 = _; decide) rfl, get_at (i := 5) (by show plcL _ _ 0 10 = _; decide) rfl, get_at (i := 6) (by show plcL _ _ 0 10 = _; decide) rfl, get_at (i := 7) (by show plcL _ _ 0 10 = _; decide) rfl, get_at (i := 8) (by show plcL _ _ 0 10 = _; decide) rfl, get_at (i := 9) (by show plcL _ _ 0 10 = _; decide) rfl⟩

/-- What Make makes of names that are all unlike. -/
theorem mkL_all : ∀ (r : List (List UInt8)) (s : List J) (ns : List (List UInt8)) (is : List J), r.length = s.length → r.Nodup → (∀ x ∈ r, x ∉ ns) → mkL r s ns is = (ns ++ r, is ++ s)
  | [], [], ns, is, _, _, _ => by rw [mkL, List.append_nil, List.append_nil]
  | x :: r, y :: s, ns, is, hl, hd, hn => by
    have hx : ns.contains x = false := by simpa using hn x (List.mem_cons_self ..)
    obtain ⟨d1, d2⟩ := List.nodup_cons.1 hd
    rw [mkL, if_neg (by rw [hx]; decide), mkL_all r s (ns ++ [x]) (is ++ [y]) (by simpa using hl) d2 (fun z hz hm => by
      rcases List.mem_append.1 hm with h | h
      · exact hn z (List.mem_cons_of_mem _ hz) h
      · rw [List.mem_singleton] at h
        subst h
        exact d1 hz)]
    simp
  | [], _ :: _, _, _, hl, _, _ => by simp at hl
  | _ :: _, [], _, _, hl, _, _ => by simp at hl
theorem mkJ_all {r : List (List UInt8)} {s : List J} (hl : r.length = s.length) (hd : r.Nodup) : mkJ r s = .mk 7 0 0 [] r s := by
  unfold mkJ
  rw [mkL_all r s [] [] hl hd (fun x _ => by simp)]
  rfl
theorem names9_nodup : names9.Nodup := by decide
theorem mk_lay (x : S9) : mkJ names9 (items9 x) = layJ9 x := mkJ_all rfl names9_nodup
theorem names9_ascii : ∀ n ∈ names9, asciiB n = true ∧ n.length ≤ 18 := by decide
/-- The values of a state's fields. -/
theorem text_right {t : List UInt8} (h : asciiB t = true) : rightJ 2 (textJ t) = true := by
  unfold textJ
  rw [rightJ, rightL]
  simp [bareB, formB, ascii_whole h]
theorem text_len {t : List UInt8} (h : asciiB t = true) : (printJ (textJ t)).length = t.length + 2 := by
  unfold textJ
  rw [printJ, if_neg (by decide), if_neg (by decide), if_neg (by decide), if_neg (by decide), if_pos rfl, quote_size h]
theorem items9_right {nm : List UInt8 → Bool} (hn : NameOk nm) {x : S9} (h : rightT nm x = true) : ∀ y ∈ items9 x, rightJ 2 y = true ∧ (printJ y).length ≤ 40 := by
  obtain ⟨h1, h2, h3, h4, h5, h6, h7, h8⟩ := rightT_parts h
  have N : ∀ {n : Int}, numB n = true → rightJ 2 (numJ n) = true ∧ (printJ (numJ n)).length ≤ 40 := fun h => ⟨num_right 2 (by omega) h, num_len h⟩
  have F : ∀ b, rightJ 2 (boolJ b) = true ∧ (printJ (boolJ b)).length ≤ 40 := fun b => ⟨flag_right b 2 (by omega), Nat.le_trans (flag_len b) (by omega)⟩
  obtain ⟨v1, v2⟩ := hn _ h8
  intro y hy
  unfold items9 at hy
  simp only [List.mem_cons, List.not_mem_nil, or_false] at hy
  rcases hy with rfl | rfl | rfl | rfl | rfl | rfl | rfl | rfl | rfl | rfl
  · exact N h1
  · exact N h2
  · exact ⟨text_right v1, by rw [text_len v1]; omega⟩
  · exact N h3
  · exact N h4
  · exact F _
  · exact N h5
  · exact N h6
  · exact F _
  · exact N h7
/-- The size of what is printed of an object whose names and items are short. -/
theorem size_le : ∀ (ns : List (List UInt8)) (is : List J), (∀ n ∈ ns, asciiB n = true ∧ n.length ≤ 118) → (∀ y ∈ is, (printJ y).length ≤ 40) → sizeL ns is ≤ ns.length * 170
  | [], is, _, _ => by cases is <;> simp [sizeL]
  | n :: ns, [], _, _ => by simp [sizeL]
  | n :: ns, y :: is, h1, h2 => by
    have ih := size_le ns is (fun n hn => h1 n (List.mem_cons_of_mem _ hn)) (fun y hy => h2 y (List.mem_cons_of_mem _ hy))
    obtain ⟨a1, a2⟩ := h1 n (List.mem_cons_self ..)
    have b := h2 y (List.mem_cons_self ..)
    have q := quote_size a1
    rw [sizeL, List.length_cons]
    omega
theorem lay9_right {nm : List UInt8 → Bool} (hn : NameOk nm) {x : S9} (h : rightT nm x = true) : rightJ 1 (layJ9 x) = true := by
  refine obj_right (by omega) rfl ?_ (rights_of fun y hy => (items9_right hn h y hy).1)
  simp only [names9, namesB, ascii_whole (show asciiB hdrL = true by decide), ascii_whole (show asciiB bootL = true by decide), ascii_whole (show asciiB serL = true by decide), ascii_whole (show asciiB ordL = true by decide), ascii_whole (show asciiB updL = true by decide), ascii_whole (show asciiB liveL = true by decide), ascii_whole (show asciiB lnidL = true by decide), ascii_whole (show asciiB lseqL = true by decide), ascii_whole (show asciiB drivL = true by decide), ascii_whole (show asciiB accL = true by decide)]
  decide
theorem lay9_len {nm : List UInt8 → Bool} (hn : NameOk nm) {x : S9} (h : rightT nm x = true) : (printJ (layJ9 x)).length ≤ 2000 := by
  have h1 := size_le names9 (items9 x) (fun n hm => ⟨(names9_ascii n hm).1, Nat.le_trans (names9_ascii n hm).2 (by omega)⟩) (fun y hy => (items9_right hn h y hy).2)
  have h2 : (printJ (layJ9 x)).length ≤ sizeL names9 (items9 x) + 2 := obj_len (ns := names9) (is := items9 x) rfl
  have h3 : names9.length = 10 := rfl
  omega
/-- Take undoes Lay. -/
theorem takeS9_layS9 {nm : List UInt8 → Bool} (hn : NameOk nm) {x : S9} (h : rightT nm x = true) : takeS9 nm (layS9 x) = (0, some x) := by
  have hl := lay9_len hn h
  unfold takeS9 layS9
  rw [Se.open_seal]
  simp only
  rw [parse_print (lay9_right hn h) (by omega), if_pos rfl, (lay_tells x).take h]
/-- Unlike right states have unlike texts. -/
theorem layS9_inj {nm : List UInt8 → Bool} (hn : NameOk nm) {x y : S9} (hx : rightT nm x = true) (hy : rightT nm y = true) : layS9 x = layS9 y ↔ x = y := by
  refine ⟨fun e => ?_, fun e => by rw [e]⟩
  have h1 := takeS9_layS9 hn hx
  rw [e, takeS9_layS9 hn hy] at h1
  simpa using h1.symm
/-- What is taken is right. -/
theorem takeS9_right {nm : List UInt8 → Bool} {s : List UInt8} {x : S9} (h : takeS9 nm s = (0, some x)) : rightT nm x = true := by
  unfold takeS9 at h
  split at h
  · cases h
  · split at h
    · split at h
      · rename_i t _ _ y hy
        simp only [Prod.mk.injEq, Option.some.injEq, true_and] at h
        subst h
        unfold takeJ9 at hy
        split at hy
        · rename_i hz
          simp only [Option.some.injEq] at hy
          subst hy
          exact hz.2
        · cases hy
      · simp at h
    · simp at h
/-- What Take tells is an error and no state, or a state that is right. -/
theorem takeS9_cases (nm : List UInt8 → Bool) (s : List UInt8) : (∃ e, e ≠ 0 ∧ takeS9 nm s = (e, none)) ∨ ∃ x, takeS9 nm s = (0, some x) := by
  unfold takeS9
  split
  · exact .inl ⟨60, by decide, rfl⟩
  · rename_i t _
    by_cases h : (parseS t).1 = 0
    · rw [if_pos h]
      split
      · exact .inr ⟨_, rfl⟩
      · exact .inl ⟨90, by decide, rfl⟩
    · rw [if_neg h]
      exact .inl ⟨_, h, rfl⟩
end Go.Proofs.YtcpggmdiojaalaaGreatDoor.Sta

/- Layer 9, plain: a state's fields in another order, one more of them, one less; of a raw state, a right one; which is newer. -/
set_option linter.unusedVariables false
set_option linter.unusedSimpArgs false
namespace Go.Proofs.YtcpggmdiojaalaaGreatDoor.Sta
open Go.RowKit Js Lex Od
open Quo (pickS pickS_nonneg pickS_lt)

/-- One field more, and a state's, the last one first. -/
def back9N (n : List UInt8) : List (List UInt8) := (120 :: n) :: names9.reverse
def back9I (x : S9) : List J := numJ 1 :: (items9 x).reverse
def back9J (x : S9) (n : List UInt8) : J := .mk 7 0 0 [] (back9N n) (back9I x)
def less9J (x : S9) (k : Nat) : J := .mk 7 0 0 [] (names9.eraseIdx k) ((items9 x).eraseIdx k)
theorem back9N_is (n : List UInt8) : back9N n = [120 :: n, accL, drivL, lseqL, lnidL, liveL, updL, ordL, serL, bootL, hdrL] := rfl
theorem back9I_is (x : S9) : back9I x = [numJ 1, numJ x.ac, boolJ x.dr, numJ x.q, numJ x.n, boolJ x.lv, numJ x.u, numJ x.o, textJ x.v, numJ x.b, numJ x.h] := rfl
theorem back9_nodup (n : List UInt8) : (back9N n).Nodup := by
  unfold back9N
  refine List.nodup_cons.2 ⟨fun h => ?_, by decide⟩
  have h2 : ∀ m ∈ names9.reverse, m.headD 0 ≠ 120 := by decide
  exact h2 _ h rfl
theorem mk_back (x : S9) (n : List UInt8) : mkJ (back9N n) (back9I x) = back9J x n := mkJ_all rfl (back9_nodup n)
theorem less9_nodup (k : Nat) : (names9.eraseIdx k).Nodup := names9_nodup.sublist (List.eraseIdx_sublist ..)
theorem less9_len (x : S9) (k : Nat) : (names9.eraseIdx k).length = ((items9 x).eraseIdx k).length := by rw [List.length_eraseIdx, List.length_eraseIdx]; rfl
theorem mk_less (x : S9) (k : Nat) : mkJ (names9.eraseIdx k) ((items9 x).eraseIdx k) = less9J x k := mkJ_all (less9_len x k) (less9_nodup k)
theorem back9_tells (x : S9) (n : List UInt8) : Tells (back9J x n) x := by
  have g : ∀ (i : Nat) (m : List UInt8) (y : J), plcL m [120 :: n, accL, drivL, lseqL, lnidL, liveL, updL, ordL, serL, bootL, hdrL] 0 11 = (i : Int) → (back9I x).getD i j0 = y → getS (back9J x n) m = (y, true) := fun i m y hp hy => get_at (i := i) (by rw [back9N_is]; exact hp) hy
  refine ⟨g 10 _ _ ?_ rfl, g 9 _ _ ?_ rfl, g 8 _ _ ?_ rfl, g 7 _ _ ?_ rfl, g 6 _ _ ?_ rfl, g 5 _ _ ?_ rfl, g 4 _ _ ?_ rfl, g 3 _ _ ?_ rfl, g 2 _ _ ?_ rfl, g 1 _ _ ?_ rfl⟩
  all_goals simp [plcL, hdrL, bootL, serL, ordL, updL, liveL, lnidL, lseqL, drivL, accL]
theorem less9_told (nm : List UInt8 → Bool) (x : S9) {k : Nat} (hk : k < 10) : takeJ9 nm (less9J x k) = none := by
  have G : ∀ m : List UInt8, plcL m (names9.eraseIdx k) 0 ((items9 x).eraseIdx k).length = -1 → (getS (less9J x k) m).2 = false := fun m h => get_no h
  have hl : ((items9 x).eraseIdx k).length = 9 := by rw [List.length_eraseIdx, if_pos (show k < (items9 x).length from hk)]; rfl
  rw [hl] at G
  have t : has9 (less9J x k) = false := by
    obtain rfl | rfl | rfl | rfl | rfl | rfl | rfl | rfl | rfl | rfl : k = 0 ∨ k = 1 ∨ k = 2 ∨ k = 3 ∨ k = 4 ∨ k = 5 ∨ k = 6 ∨ k = 7 ∨ k = 8 ∨ k = 9 := by omega
    · have e := tell_none (z := (0 : Int)) (f := numS) (G hdrL (by decide)); unfold has9; rw [e]; simp
    · have e := tell_none (z := (0 : Int)) (f := numS) (G bootL (by decide)); unfold has9; rw [e]; simp
    · have e := tell_none (z := ([] : List UInt8)) (f := txtS) (G serL (by decide)); unfold has9; rw [e]; simp
    · have e := tell_none (z := (0 : Int)) (f := numS) (G ordL (by decide)); unfold has9; rw [e]; simp
    · have e := tell_none (z := (0 : Int)) (f := numS) (G updL (by decide)); unfold has9; rw [e]; simp
    · have e := tell_none (z := false) (f := flagS) (G liveL (by decide)); unfold has9; rw [e]; simp
    · have e := tell_none (z := (0 : Int)) (f := numS) (G lnidL (by decide)); unfold has9; rw [e]; simp
    · have e := tell_none (z := (0 : Int)) (f := numS) (G lseqL (by decide)); unfold has9; rw [e]; simp
    · have e := tell_none (z := false) (f := flagS) (G drivL (by decide)); unfold has9; rw [e]; simp
    · have e := tell_none (z := (0 : Int)) (f := numS) (G accL (by decide)); unfold has9; rw [e]; simp
  unfold takeJ9
  rw [t, if_neg (by simp)]
section
variable {nm : List UInt8 → Bool} {x : S9} {n : List UInt8}
theorem back9_items (hn : NameOk nm) (h : rightT nm x = true) : ∀ y ∈ back9I x, rightJ 2 y = true ∧ (printJ y).length ≤ 40 := by
  intro y hy
  unfold back9I at hy
  rcases List.mem_cons.1 hy with rfl | hy
  · exact ⟨num_right 2 (by omega) (by decide), num_len (by decide)⟩
  · exact items9_right hn h y (List.mem_reverse.1 hy)
theorem back9_names (hm : MoreOk n) : ∀ m ∈ back9N n, asciiB m = true ∧ m.length ≤ 118 := by
  intro m hmem
  unfold back9N at hmem
  rcases List.mem_cons.1 hmem with rfl | h
  · exact ⟨hm.1, by have := hm.2; simp only [List.length_cons]; omega⟩
  · have := names9_ascii m (List.mem_reverse.1 h)
    exact ⟨this.1, by omega⟩
theorem back9_right (hn : NameOk nm) (h : rightT nm x = true) (hm : MoreOk n) : rightJ 1 (back9J x n) = true := by
  refine obj_right (by omega) rfl ?_ (rights_of fun y hy => (back9_items hn h y hy).1)
  rw [back9N_is]
  simp only [namesB, ascii_whole hm.1, ascii_whole (show asciiB hdrL = true by decide), ascii_whole (show asciiB bootL = true by decide), ascii_whole (show asciiB serL = true by decide), ascii_whole (show asciiB ordL = true by decide), ascii_whole (show asciiB updL = true by decide), ascii_whole (show asciiB liveL = true by decide), ascii_whole (show asciiB lnidL = true by decide), ascii_whole (show asciiB lseqL = true by decide), ascii_whole (show asciiB drivL = true by decide), ascii_whole (show asciiB accL = true by decide)]
  simp [hdrL, bootL, serL, ordL, updL, liveL, lnidL, lseqL, drivL, accL]
theorem less9_right (hn : NameOk nm) (h : rightT nm x = true) {k : Nat} (hk : k < 10) : rightJ 1 (less9J x k) = true := by
  refine obj_right (by omega) (less9_len x k) ?_ (rights_of fun y hy => (items9_right hn h y (List.mem_of_mem_eraseIdx hy)).1)
  obtain rfl | rfl | rfl | rfl | rfl | rfl | rfl | rfl | rfl | rfl : k = 0 ∨ k = 1 ∨ k = 2 ∨ k = 3 ∨ k = 4 ∨ k = 5 ∨ k = 6 ∨ k = 7 ∨ k = 8 ∨ k = 9 := by omega
  all_goals
    simp only [names9, List.eraseIdx_cons_zero, List.eraseIdx_cons_succ, namesB, ascii_whole (show asciiB hdrL = true by decide), ascii_whole (show asciiB bootL = true by decide), ascii_whole (show asciiB serL = true by decide), ascii_whole (show asciiB ordL = true by decide), ascii_whole (show asciiB updL = true by decide), ascii_whole (show asciiB liveL = true by decide), ascii_whole (show asciiB lnidL = true by decide), ascii_whole (show asciiB lseqL = true by decide), ascii_whole (show asciiB drivL = true by decide), ascii_whole (show asciiB accL = true by decide)]
    decide
theorem back9_len (hn : NameOk nm) (h : rightT nm x = true) (hm : MoreOk n) : (printJ (back9J x n)).length ≤ 2000 := by
  have h1 := size_le (back9N n) (back9I x) (back9_names hm) (fun y hy => (back9_items hn h y hy).2)
  have h2 : (printJ (back9J x n)).length ≤ sizeL (back9N n) (back9I x) + 2 := obj_len (ns := back9N n) (is := back9I x) rfl
  have h3 : (back9N n).length = 11 := rfl
  omega
theorem less9_size (hn : NameOk nm) (h : rightT nm x = true) (k : Nat) : (printJ (less9J x k)).length ≤ 2000 := by
  have h1 := size_le names9 (items9 x) (fun n hm => ⟨(names9_ascii n hm).1, Nat.le_trans (names9_ascii n hm).2 (by omega)⟩) (fun y hy => (items9_right hn h y hy).2)
  have h2 : (printJ (less9J x k)).length ≤ sizeL (names9.eraseIdx k) ((items9 x).eraseIdx k) + 2 := obj_len (less9_len x k)
  have h3 : names9.length = 10 := rfl
  have h4 := size_erase names9 (items9 x) k
  omega
/-- Fields in another order, and more of them, count for nothing. -/
theorem takeS9_back (hn : NameOk nm) (h : rightT nm x = true) (hm : MoreOk n) : takeS9 nm (Se.sealS (printJ (back9J x n))) = (0, some x) := by
  have hl := back9_len hn h hm
  unfold takeS9
  rw [Se.open_seal]
  simp only
  rw [parse_print (back9_right hn h hm) (by omega), if_pos rfl, (back9_tells x n).take h]
/-- A field less is no state. -/
theorem takeS9_less (hn : NameOk nm) (h : rightT nm x = true) {k : Nat} (hk : k < 10) : takeS9 nm (Se.sealS (printJ (less9J x k))) = (90, none) := by
  have hl := less9_size hn h k
  unfold takeS9
  rw [Se.open_seal]
  simp only
  rw [parse_print (less9_right hn h hk) (by omega), if_pos rfl, less9_told nm x hk]
end
/-- Of a raw state, a right one. -/
def fit9 (fit : List UInt8 → List UInt8) (x : S9) : S9 := ⟨numR x.h, numR x.b, fit x.v, numR x.o, numR x.u, x.lv || x.dr, numR x.n, 2 * pickS x.q 500000001, x.dr, numR x.ac⟩
theorem fit9_right {nm : List UInt8 → Bool} {fit : List UInt8 → List UInt8} (hf : ∀ s, nm (fit s) = true) (x : S9) : rightT nm (fit9 fit x) = true := by
  have h1 := pickS_nonneg (c := x.q) (n := 500000001) (by decide)
  have h2 := pickS_lt (c := x.q) (n := 500000001) (by decide)
  unfold rightT numsB fit9
  simp only [hf, numR_B, numB_of (n := 2 * pickS x.q 500000001) (by omega) (by omega), Bool.true_and]
  rw [Bool.and_eq_true]
  exact ⟨by simp, by cases x.lv <;> cases x.dr <;> rfl⟩
end Go.Proofs.YtcpggmdiojaalaaGreatDoor.Sta

/- Layer 9, plain: the chapter's example. -/
set_option linter.unusedVariables false
set_option linter.unusedSimpArgs false
namespace Go.Proofs.YtcpggmdiojaalaaGreatDoor.Sta
open Go.RowKit Js Lex Od

def ex9 : S9 := ⟨1, 2, [118], 3, 4, true, 5, 6, true, 7⟩
theorem ex9_right : rightT Tp.nameB ex9 = true := by decide
theorem s0_wrong : rightT Tp.nameB s0 = false := by decide
theorem dig_right : ∀ d : Nat, d < 10 → Dec.rightB (d : Int) 0 = true := by decide +kernel
theorem num_dig {d : Nat} (h : d < 10) : printJ (numJ (d : Int)) = [UInt8.ofNat (48 + d)] := by
  have hm : Dec.mk (d : Int) 0 = ((d : Int), 0, true) := Dec.mk_right _ _ (dig_right d h)
  unfold numJ
  rw [hm]
  simp only
  rw [printJ, if_neg (by decide), if_neg (by decide), if_neg (by decide), if_pos rfl]
  unfold Dec.printS
  rw [if_pos (dig_right d h), if_pos (by decide), Lib.itoa_nonneg, Lib.decDigits_one h]
  rfl
def ex9T : List UInt8 := [123, 34, 104, 101, 97, 100, 101, 114, 73, 100, 34, 58, 49, 44, 34, 98, 111, 111, 116, 34, 58, 50, 44, 34, 115, 101, 114, 105, 97, 108, 78, 117, 109, 98, 101, 114, 34, 58, 34, 118, 34, 44, 34, 111, 114, 100, 101, 114, 73, 100, 34, 58, 51, 44, 34, 111, 114, 100, 101, 114, 85, 112, 100, 97, 116, 101, 73, 100, 34, 58, 52, 44, 34, 108, 105, 118, 101, 34, 58, 116, 114, 117, 101, 44, 34, 108, 97, 115, 116, 78, 111, 100, 101, 73, 100, 34, 58, 53, 44, 34, 108, 97, 115, 116, 78, 111, 100, 101, 83, 101, 113, 117, 101, 110, 99, 101, 73, 100, 34, 58, 54, 44, 34, 100, 114, 105, 118, 105, 110, 103, 34, 58, 116, 114, 117, 101, 44, 34, 97, 99, 99, 101, 112, 116, 101, 100, 34, 58, 55, 125]
theorem ex9_text : printJ (layJ9 ex9) = ex9T := by
  have q0 := ascii_quote (l := hdrL) (by decide)
  have q1 := ascii_quote (l := bootL) (by decide)
  have q2 := ascii_quote (l := serL) (by decide)
  have q3 := ascii_quote (l := ordL) (by decide)
  have q4 := ascii_quote (l := updL) (by decide)
  have q5 := ascii_quote (l := liveL) (by decide)
  have q6 := ascii_quote (l := lnidL) (by decide)
  have q7 := ascii_quote (l := lseqL) (by decide)
  have q8 := ascii_quote (l := drivL) (by decide)
  have q9 := ascii_quote (l := accL) (by decide)
  have q10 := ascii_quote (l := [118]) (by decide)
  have n1 := num_dig (d := 1) (by decide)
  have n2 := num_dig (d := 2) (by decide)
  have n3 := num_dig (d := 3) (by decide)
  have n4 := num_dig (d := 4) (by decide)
  have n5 := num_dig (d := 5) (by decide)
  have n6 := num_dig (d := 6) (by decide)
  have n7 := num_dig (d := 7) (by decide)
  have hs : printJ (textJ [118]) = Quo.quoteL [118] := by unfold textJ; rw [printJ, if_neg (by decide), if_neg (by decide), if_neg (by decide), if_neg (by decide), if_pos rfl]
  have b1 : printJ (boolJ true) = [116, 114, 117, 101] := by
    show printJ (.mk 3 0 0 [] [] []) = _
    rw [printJ, if_neg (by decide), if_neg (by decide), if_pos rfl]; rfl
  unfold layJ9 items9 names9 ex9
  rw [printJ, if_neg (by decide), if_neg (by decide), if_neg (by decide), if_neg (by decide), if_neg (by decide), if_neg (by decide), if_pos rfl, printL, printL, printL, printL, printL, printL, printL, printL, printL, printL, printL]
  simp only [List.headD_cons, List.tail_cons, if_true]
  rw [q0, q1, q2, q3, q4, q5, q6, q7, q8, q9, hs, q10, b1, show (1 : Int) = ((1 : Nat) : Int) from rfl, n1, show (2 : Int) = ((2 : Nat) : Int) from rfl, n2, show (3 : Int) = ((3 : Nat) : Int) from rfl, n3, show (4 : Int) = ((4 : Nat) : Int) from rfl, n4, show (5 : Int) = ((5 : Nat) : Int) from rfl, n5, show (6 : Int) = ((6 : Nat) : Int) from rfl, n6, show (7 : Int) = ((7 : Nat) : Int) from rfl, n7]
  rfl
theorem ex9_len : (layS9 ex9).length = 159 := by
  unfold layS9
  rw [Se.sealS_len, ex9_text]
  rfl
end Go.Proofs.YtcpggmdiojaalaaGreatDoor.Sta
