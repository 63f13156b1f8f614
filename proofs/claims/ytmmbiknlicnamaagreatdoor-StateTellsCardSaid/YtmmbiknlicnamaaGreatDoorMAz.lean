import Derived.Test.YtmmbiknlicnamaaGreatDoorRd7
import Derived.Laws.EntriesVeiled
import Derived.IntWalk
import Derived.Test.YtmmbiknlicnamaaGreatDoorMOb
import Derived.Test.YtmmbiknlicnamaaGreatDoorMD
import Derived.Test.YtmmbiknlicnamaaGreatDoorMT
import Derived.Test.YtmmbiknlicnamaaGreatDoorMOc
import Derived.Test.YtmmbiknlicnamaaGreatDoorMOd
import Derived.Test.YtmmbiknlicnamaaGreatDoorME
import Derived.Test.YtmmbiknlicnamaaGreatDoorMPf
import Derived.Test.YtmmbiknlicnamaaGreatDoorMOe
set_option maxHeartbeats 8000000
set_option linter.unusedVariables false
set_option linter.unusedSimpArgs false
namespace Go.Proofs.YtmmbiknlicnamaaGreatDoor.Sta
open Go.RowKit Js Lex Od
structure S9 where
 h : Int
 b : Int
 v : List UInt8
 o : Int
 u : Int
 lv : Bool
 n : Int
 q : Int
 dr : Bool
 ac : Int
def s0 : S9 := ⟨0,0,[],0,0,false,0,0,false,0⟩
def numsB (x : S9) : Bool := numB x.h && (numB x.b && (numB x.o && (numB x.u && (numB x.n && (numB x.q && numB x.ac)))))
def rightT (nm : List UInt8 → Bool) (x : S9) : Bool := numsB x && (nm x.v && (decide (x.q % 2 = 0) && (x.lv || !x.dr)))
def sameT (a b : S9) : Bool := a.h == b.h && (a.b == b.b && (a.v == b.v && (a.o == b.o && (a.u == b.u && (a.lv == b.lv && (a.n == b.n && (a.q == b.q && (a.dr == b.dr && a.ac == b.ac))))))))
def newerB (a b : S9) : Bool := decide (b.b < a.b) || (a.b == b.b && decide (b.h < a.h))
def bootL : List UInt8 := [98,111,111,116]
def liveL : List UInt8 := [108,105,118,101]
def lnidL : List UInt8 := [108,97,115,116,78,111,100,101,73,100]
def lseqL : List UInt8 := [108,97,115,116,78,111,100,101,83,101,113,117,101,110,99,101,73,100]
def drivL : List UInt8 := [100,114,105,118,105,110,103]
def accL : List UInt8 := [97,99,99,101,112,116,101,100]
def names9 : List (List UInt8) := [hdrL,bootL,serL,ordL,updL,liveL,lnidL,lseqL,drivL,accL]
def textJ (t : List UInt8) : J := .mk 5 0 0 t [] []
def items9 (x : S9) : List J := [numJ x.h,numJ x.b,textJ x.v,numJ x.o,numJ x.u,boolJ x.lv,numJ x.n,numJ x.q,boolJ x.dr,numJ x.ac]
def layJ9 (x : S9) : J := .mk 7 0 0 [] names9 (items9 x)
def layS9 (x : S9) : List UInt8 := Se.sealS (printJ (layJ9 x))
def told9 (j : J) : S9 :=
 ⟨(tellG 0 numS j hdrL).1,(tellG 0 numS j bootL).1,(tellG [] txtS j serL).1,(tellG 0 numS j ordL).1,(tellG 0 numS j updL).1,(tellG false flagS j liveL).1,(tellG 0 numS j lnidL).1,(tellG 0 numS j lseqL).1,(tellG false flagS j drivL).1,(tellG 0 numS j accL).1⟩
def has9 (j : J) : Bool :=
 (tellG 0 numS j hdrL).2 && ((tellG 0 numS j bootL).2 && ((tellG ([] : List UInt8) txtS j serL).2 && ((tellG 0 numS j ordL).2 && ((tellG 0 numS j updL).2 && ((tellG false flagS j liveL).2 && ((tellG 0 numS j lnidL).2 && ((tellG 0 numS j lseqL).2 && ((tellG false flagS j drivL).2 && (tellG 0 numS j accL).2))))))))
def takeJ9 (nm : List UInt8 → Bool) (j : J) : Option S9 := if has9 j = true ∧ rightT nm (told9 j) = true then some (told9 j) else none
def takeS9 (nm : List UInt8 → Bool) (s : List UInt8) : Int × Option S9 :=
 match Se.openS s with
 | none => (60,none)
 | some t => if (parseS t).1 = 0 then (match takeJ9 nm (parseS t).2.1 with | some x => (0,some x) | none => (90,none)) else ((parseS t).1,none)
theorem rightT_parts {nm : List UInt8 → Bool} {x : S9} (h : rightT nm x = true) : numB x.h = true ∧ numB x.b = true ∧ numB x.o = true ∧ numB x.u = true ∧ numB x.n = true ∧ numB x.q = true ∧ numB x.ac = true ∧ nm x.v = true := by
 unfold rightT numsB at h
 simp only [Bool.and_eq_true] at h
 obtain ⟨⟨h1,h2,h3,h4,h5,h6,h7⟩,h8,-⟩ := h
 exact ⟨h1,h2,h3,h4,h5,h6,h7,h8⟩
theorem tell_get {α : Type} {z : α} {f : J → α × Bool} {j : J} {nm : List UInt8} {y : J} (h : getS j nm = (y,true)) : tellG z f j nm = f y := by
 unfold getS at h
 unfold tellG
 split at h
 ·simp at h
 ·rename_i hp
  rw [if_neg hp]
  simp only [Prod.mk.injEq,and_true] at h
  rw [h]
theorem tell_none {α : Type} {z : α} {f : J → α × Bool} {j : J} {nm : List UInt8} (h : (getS j nm).2 = false) : tellG z f j nm = (z,false) := by
 unfold getS at h
 unfold tellG
 split at h
 ·rename_i hp
  rw [if_pos hp]
 ·simp at h
structure Tells (j : J) (x : S9) : Prop where
 g0 : getS j hdrL = (numJ x.h,true)
 g1 : getS j bootL = (numJ x.b,true)
 g2 : getS j serL = (textJ x.v,true)
 g3 : getS j ordL = (numJ x.o,true)
 g4 : getS j updL = (numJ x.u,true)
 g5 : getS j liveL = (boolJ x.lv,true)
 g6 : getS j lnidL = (numJ x.n,true)
 g7 : getS j lseqL = (numJ x.q,true)
 g8 : getS j drivL = (boolJ x.dr,true)
 g9 : getS j accL = (numJ x.ac,true)
theorem Tells.take {nm : List UInt8 → Bool} {j : J} {x : S9} (t : Tells j x) (h : rightT nm x = true) : takeJ9 nm j = some x := by
 obtain ⟨h1,h2,h3,h4,h5,h6,h7,h8⟩ := rightT_parts h
 have e1 : ∀ t : List UInt8,txtS (textJ t) = (t,true) := fun t => rfl
 have e : told9 j = x ∧ has9 j = true := by
  unfold told9 has9
  rw [tell_get t.g0,tell_get t.g1,tell_get t.g2,tell_get t.g3,tell_get t.g4,tell_get t.g5,tell_get t.g6,tell_get t.g7,tell_get t.g8,tell_get t.g9]
  rw [(num_told h1).1,(num_told h2).1,(num_told h3).1,(num_told h4).1,(num_told h5).1,(num_told h6).1,(num_told h7).1,e1,flag_told,flag_told]
  exact ⟨rfl,rfl⟩
 unfold takeJ9
 rw [e.1,e.2,if_pos ⟨rfl,h⟩]
theorem get_at {ns : List (List UInt8)} {is : List J} {m : List UInt8} {i : Nat} {y : J} (hp : plcL m ns 0 is.length = (i : Int)) (hy : is.getD i j0 = y) : getS (.mk 7 0 0 [] ns is) m = (y,true) := by
 have hpl : plc (.mk 7 0 0 [] ns is) m = (i : Int) := by
  unfold plc
  rw [if_pos (show (J.mk 7 0 0 [] ns is).k = 7 from rfl)]
  exact hp
 unfold getS
 rw [hpl,if_neg (by omega),Int.toNat_natCast,← hy]
 rfl
theorem lay_tells (x : S9) : Tells (layJ9 x) x :=
 ⟨get_at (i := 0) (by show plcL _ _ 0 10 = _;decide) rfl,get_at (i := 1) (by show plcL _ _ 0 10 = _;decide) rfl,get_at (i := 2) (by show plcL _ _ 0 10 = _;decide) rfl,get_at (i := 3) (by show plcL _ _ 0 10 = _;decide) rfl,get_at (i := 4) (by show plcL _ _ 0 10 = _;decide) rfl,get_at (i := 5) (by show plcL _ _ 0 10 = _;decide) rfl,get_at (i := 6) (by show plcL _ _ 0 10 = _;decide) rfl,get_at (i := 7) (by show plcL _ _ 0 10 = _;decide) rfl,get_at (i := 8) (by show plcL _ _ 0 10 = _;decide) rfl,get_at (i := 9) (by show plcL _ _ 0 10 = _;decide) rfl⟩
theorem mkL_all : ∀ (r : List (List UInt8)) (s : List J) (ns : List (List UInt8)) (is : List J),r.length = s.length → r.Nodup → (∀ x ∈ r,x ∉ ns) → mkL r s ns is = (ns ++ r,is ++ s)
 | [],[],ns,is,_,_,_ => by rw [mkL,List.append_nil,List.append_nil]
 | x :: r,y :: s,ns,is,hl,hd,hn => by
   have hx : ns.contains x = false := by simpa using hn x (List.mem_cons_self ..)
   obtain ⟨d1,d2⟩ := List.nodup_cons.1 hd
   rw [mkL,if_neg (by rw [hx];decide),mkL_all r s (ns ++ [x]) (is ++ [y]) (by simpa using hl) d2 (fun z hz hm => by
    rcases List.mem_append.1 hm with h | h
    ·exact hn z (List.mem_cons_of_mem _ hz) h
    ·rw [List.mem_singleton] at h
     subst h
     exact d1 hz)]
   simp
 | [],_ :: _,_,_,hl,_,_ => by simp at hl
 | _ :: _,[],_,_,hl,_,_ => by simp at hl
theorem mkJ_all {r : List (List UInt8)} {s : List J} (hl : r.length = s.length) (hd : r.Nodup) : mkJ r s = .mk 7 0 0 [] r s := by
 unfold mkJ
 rw [mkL_all r s [] [] hl hd (fun x _ => by simp)]
 rfl
theorem names9_nodup : names9.Nodup := by decide
theorem mk_lay (x : S9) : mkJ names9 (items9 x) = layJ9 x := mkJ_all rfl names9_nodup
theorem names9_ascii : ∀ n ∈ names9,asciiB n = true ∧ n.length ≤ 18 := by decide
theorem text_right {t : List UInt8} (h : asciiB t = true) : rightJ 2 (textJ t) = true := by
 unfold textJ
 rw [rightJ,rightL]
 simp [bareB,formB,ascii_whole h]
theorem text_len {t : List UInt8} (h : asciiB t = true) : (printJ (textJ t)).length = t.length + 2 := by
 unfold textJ
 rw [printJ,if_neg (by decide),if_neg (by decide),if_neg (by decide),if_neg (by decide),if_pos rfl,quote_size h]
theorem items9_right {nm : List UInt8 → Bool} (hn : NameOk nm) {x : S9} (h : rightT nm x = true) : ∀ y ∈ items9 x,rightJ 2 y = true ∧ (printJ y).length ≤ 40 := by
 obtain ⟨h1,h2,h3,h4,h5,h6,h7,h8⟩ := rightT_parts h
 have N : ∀ {n : Int},numB n = true → rightJ 2 (numJ n) = true ∧ (printJ (numJ n)).length ≤ 40 := fun h => ⟨num_right 2 (by omega) h,num_len h⟩
 have F : ∀ b,rightJ 2 (boolJ b) = true ∧ (printJ (boolJ b)).length ≤ 40 := fun b => ⟨flag_right b 2 (by omega),Nat.le_trans (flag_len b) (by omega)⟩
 obtain ⟨v1,v2⟩ := hn _ h8
 intro y hy
 unfold items9 at hy
 simp only [List.mem_cons,List.not_mem_nil,or_false] at hy
 rcases hy with rfl | rfl | rfl | rfl | rfl | rfl | rfl | rfl | rfl | rfl
 ·exact N h1
 ·exact N h2
 ·exact ⟨text_right v1,by rw [text_len v1];omega⟩
 ·exact N h3
 ·exact N h4
 ·exact F _
 ·exact N h5
 ·exact N h6
 ·exact F _
 ·exact N h7
theorem size_le : ∀ (ns : List (List UInt8)) (is : List J),(∀ n ∈ ns,asciiB n = true ∧ n.length ≤ 118) → (∀ y ∈ is,(printJ y).length ≤ 40) → sizeL ns is ≤ ns.length * 170
 | [],is,_,_ => by cases is <;> simp [sizeL]
 | n :: ns,[],_,_ => by simp [sizeL]
 | n :: ns,y :: is,h1,h2 => by
   have ih := size_le ns is (fun n hn => h1 n (List.mem_cons_of_mem _ hn)) (fun y hy => h2 y (List.mem_cons_of_mem _ hy))
   obtain ⟨a1,a2⟩ := h1 n (List.mem_cons_self ..)
   have b := h2 y (List.mem_cons_self ..)
   have q := quote_size a1
   rw [sizeL,List.length_cons]
   omega
theorem lay9_right {nm : List UInt8 → Bool} (hn : NameOk nm) {x : S9} (h : rightT nm x = true) : rightJ 1 (layJ9 x) = true := by
 refine obj_right (by omega) rfl ?_ (rights_of fun y hy => (items9_right hn h y hy).1)
 simp only [names9,namesB,ascii_whole (show asciiB hdrL = true by decide),ascii_whole (show asciiB bootL = true by decide),ascii_whole (show asciiB serL = true by decide),ascii_whole (show asciiB ordL = true by decide),ascii_whole (show asciiB updL = true by decide),ascii_whole (show asciiB liveL = true by decide),ascii_whole (show asciiB lnidL = true by decide),ascii_whole (show asciiB lseqL = true by decide),ascii_whole (show asciiB drivL = true by decide),ascii_whole (show asciiB accL = true by decide)]
 decide
theorem lay9_len {nm : List UInt8 → Bool} (hn : NameOk nm) {x : S9} (h : rightT nm x = true) : (printJ (layJ9 x)).length ≤ 2000 := by
 have h1 := size_le names9 (items9 x) (fun n hm => ⟨(names9_ascii n hm).1,Nat.le_trans (names9_ascii n hm).2 (by omega)⟩) (fun y hy => (items9_right hn h y hy).2)
 have h2 : (printJ (layJ9 x)).length ≤ sizeL names9 (items9 x) + 2 := obj_len (ns := names9) (is := items9 x) rfl
 have h3 : names9.length = 10 := rfl
 omega
theorem takeS9_layS9 {nm : List UInt8 → Bool} (hn : NameOk nm) {x : S9} (h : rightT nm x = true) : takeS9 nm (layS9 x) = (0,some x) := by
 have hl := lay9_len hn h
 unfold takeS9 layS9
 rw [Se.open_seal]
 simp only
 rw [parse_print (lay9_right hn h) (by omega),if_pos rfl,(lay_tells x).take h]
end Go.Proofs.YtmmbiknlicnamaaGreatDoor.Sta
namespace Go.Proofs.YtmmbiknlicnamaaGreatDoor.Sta
open Go.RowKit Js Lex Od
open Quo (pickS pickS_nonneg pickS_lt)
def back9N (n : List UInt8) : List (List UInt8) := (120 :: n) :: names9.reverse
def back9I (x : S9) : List J := numJ 1 :: (items9 x).reverse
def back9J (x : S9) (n : List UInt8) : J := .mk 7 0 0 [] (back9N n) (back9I x)
def less9J (x : S9) (k : Nat) : J := .mk 7 0 0 [] (names9.eraseIdx k) ((items9 x).eraseIdx k)
section
variable {nm : List UInt8 → Bool} {x : S9} {n : List UInt8}
end
def fit9 (fit : List UInt8 → List UInt8) (x : S9) : S9 := ⟨numR x.h,numR x.b,fit x.v,numR x.o,numR x.u,x.lv || x.dr,numR x.n,2 * pickS x.q 500000001,x.dr,numR x.ac⟩
theorem fit9_right {nm : List UInt8 → Bool} {fit : List UInt8 → List UInt8} (hf : ∀ s,nm (fit s) = true) (x : S9) : rightT nm (fit9 fit x) = true := by
 have h1 := pickS_nonneg (c := x.q) (n := 500000001) (by decide)
 have h2 := pickS_lt (c := x.q) (n := 500000001) (by decide)
 unfold rightT numsB fit9
 simp only [hf,numR_B,numB_of (n := 2 * pickS x.q 500000001) (by omega) (by omega),Bool.true_and]
 rw [Bool.and_eq_true]
 exact ⟨by simp,by cases x.lv <;> cases x.dr <;> rfl⟩
end Go.Proofs.YtmmbiknlicnamaaGreatDoor.Sta
namespace Go.Proofs.YtmmbiknlicnamaaGreatDoor.Sta
open Go.RowKit Js Lex Od
def ex9 : S9 := ⟨1,2,[118],3,4,true,5,6,true,7⟩
theorem ex9_right : rightT Tp.nameB ex9 = true := by decide
theorem s0_wrong : rightT Tp.nameB s0 = false := by decide
theorem dig_right : ∀ d : Nat,d < 10 → Dec.rightB (d : Int) 0 = true := by decide +kernel
theorem num_dig {d : Nat} (h : d < 10) : printJ (numJ (d : Int)) = [UInt8.ofNat (48 + d)] := by
 have hm : Dec.mk (d : Int) 0 = ((d : Int),0,true) := Dec.mk_right _ _ (dig_right d h)
 unfold numJ
 rw [hm]
 simp only
 rw [printJ,if_neg (by decide),if_neg (by decide),if_neg (by decide),if_pos rfl]
 unfold Dec.printS
 rw [if_pos (dig_right d h),if_pos (by decide),Lib.itoa_nonneg,Lib.decDigits_one h]
 rfl
def ex9T : List UInt8 := [123,34,104,101,97,100,101,114,73,100,34,58,49,44,34,98,111,111,116,34,58,50,44,34,115,101,114,105,97,108,78,117,109,98,101,114,34,58,34,118,34,44,34,111,114,100,101,114,73,100,34,58,51,44,34,111,114,100,101,114,85,112,100,97,116,101,73,100,34,58,52,44,34,108,105,118,101,34,58,116,114,117,101,44,34,108,97,115,116,78,111,100,101,73,100,34,58,53,44,34,108,97,115,116,78,111,100,101,83,101,113,117,101,110,99,101,73,100,34,58,54,44,34,100,114,105,118,105,110,103,34,58,116,114,117,101,44,34,97,99,99,101,112,116,101,100,34,58,55,125]
theorem ex9_text : printJ (layJ9 ex9) = ex9T := by
 have q0 := ascii_quote (l := hdrL) (by decide)
 have q1 := ascii_quote (l := bootL) (by decide)
 have q2 := ascii_quote (l := serL) (by decide)
 have q3 := ascii_quote (l := ordL) (by decide)
 have q4 := ascii_quote (l := updL) (by decide)
 have q5 := ascii_quote (l := liveL) (by decide)
 have q6 := ascii_quote (l := lnidL) (by decide)
 have q7 := ascii_quote (l := lseqL) (by decide)
 have q8 := ascii_quote (l := drivL) (by decide)
 have q9 := ascii_quote (l := accL) (by decide)
 have q10 := ascii_quote (l := [118]) (by decide)
 have n1 := num_dig (d := 1) (by decide)
 have n2 := num_dig (d := 2) (by decide)
 have n3 := num_dig (d := 3) (by decide)
 have n4 := num_dig (d := 4) (by decide)
 have n5 := num_dig (d := 5) (by decide)
 have n6 := num_dig (d := 6) (by decide)
 have n7 := num_dig (d := 7) (by decide)
 have hs : printJ (textJ [118]) = Quo.quoteL [118] := by unfold textJ;rw [printJ,if_neg (by decide),if_neg (by decide),if_neg (by decide),if_neg (by decide),if_pos rfl]
 have b1 : printJ (boolJ true) = [116,114,117,101] := by
  show printJ (.mk 3 0 0 [] [] []) = _
  rw [printJ,if_neg (by decide),if_neg (by decide),if_pos rfl];rfl
 unfold layJ9 items9 names9 ex9
 rw [printJ,if_neg (by decide),if_neg (by decide),if_neg (by decide),if_neg (by decide),if_neg (by decide),if_neg (by decide),if_pos rfl,printL,printL,printL,printL,printL,printL,printL,printL,printL,printL,printL]
 simp only [List.headD_cons,List.tail_cons,if_true]
 rw [q0,q1,q2,q3,q4,q5,q6,q7,q8,q9,hs,q10,b1,show (1 : Int) = ((1 : Nat) : Int) from rfl,n1,show (2 : Int) = ((2 : Nat) : Int) from rfl,n2,show (3 : Int) = ((3 : Nat) : Int) from rfl,n3,show (4 : Int) = ((4 : Nat) : Int) from rfl,n4,show (5 : Int) = ((5 : Nat) : Int) from rfl,n5,show (6 : Int) = ((6 : Nat) : Int) from rfl,n6,show (7 : Int) = ((7 : Nat) : Int) from rfl,n7]
 rfl
theorem ex9_len : (layS9 ex9).length = 159 := by
 unfold layS9
 rw [Se.sealS_len,ex9_text]
 rfl
end Go.Proofs.YtmmbiknlicnamaaGreatDoor.Sta
namespace Go.Proofs.YtmmbiknlicnamaaGreatDoor.Sta
open Go.RowKit Js Lex Od
def sC (x : S9) : Array Value := #[.int .i64 x.h,.int .i64 x.b,.string ⟨x.v.toArray⟩,.int .i64 x.o,.int .i64 x.u,.bool x.lv,.int .i64 x.n,.int .i64 x.q,.bool x.dr,.int .i64 x.ac]
def sV (x : S9) : Value := .agg (sC x)
structure S9.ok (x : S9) : Prop where
 h : i64B x.h
 b : i64B x.b
 o : i64B x.o
 u : i64B x.u
 n : i64B x.n
 q : i64B x.q
 ac : i64B x.ac
 v : x.v.length ≤ 140737488355328
theorem s0_ok : s0.ok := by
 have z : i64B 0 := ⟨by decide,by decide⟩
 exact ⟨z,z,z,z,z,z,z,by simp [s0]⟩
theorem numB_i64 {n : Int} (h : numB n = true) : i64B n := by
 have := numB_iff h
 unfold i64B
 omega
theorem ok_right {nm : List UInt8 → Bool} (hn : NameOk nm) {x : S9} (h : rightT nm x = true) : x.ok := by
 obtain ⟨h1,h2,h3,h4,h5,h6,h7,h8⟩ := rightT_parts h
 exact ⟨numB_i64 h1,numB_i64 h2,numB_i64 h3,numB_i64 h4,numB_i64 h5,numB_i64 h6,numB_i64 h7,by have := (hn _ h8).2;omega⟩
theorem ten_of {w : World} {b : Nat} {T : TypeId} {f : Nat × Nat} {c0 c1 c2 c3 c4 c5 c6 c7 c8 c9 : Value} (h : w.heap[b]? = some (.cells #[c0,c1,c2,c3,c4,c5,c6,c7,c8,c9] T f)) :
 w.cell? ⟨b,0,none⟩ = some c0 ∧ w.cell? ⟨b,1,none⟩ = some c1 ∧ w.cell? ⟨b,2,none⟩ = some c2 ∧ w.cell? ⟨b,3,none⟩ = some c3 ∧ w.cell? ⟨b,4,none⟩ = some c4 ∧ w.cell? ⟨b,5,none⟩ = some c5 ∧ w.cell? ⟨b,6,none⟩ = some c6 ∧ w.cell? ⟨b,7,none⟩ = some c7 ∧ w.cell? ⟨b,8,none⟩ = some c8 ∧ w.cell? ⟨b,9,none⟩ = some c9 := by
 have k : ∀ i,w.cell? ⟨b,i,none⟩ = (#[c0,c1,c2,c3,c4,c5,c6,c7,c8,c9] : Array Value)[i]? := fun i => cell_of_row _ _ _ _ _ _ h
 exact ⟨k 0,k 1,k 2,k 3,k 4,k 5,k 6,k 7,k 8,k 9⟩
theorem free_ten {w : World} {b : Nat} {cs : Array Value} {T : TypeId} (h : w.heap[b]? = some (.cells cs T (0,0))) : w.frozen? ⟨b,0,none⟩ = false ∧ w.frozen? ⟨b,1,none⟩ = false ∧ w.frozen? ⟨b,2,none⟩ = false ∧ w.frozen? ⟨b,3,none⟩ = false ∧ w.frozen? ⟨b,4,none⟩ = false ∧ w.frozen? ⟨b,5,none⟩ = false ∧ w.frozen? ⟨b,6,none⟩ = false ∧ w.frozen? ⟨b,7,none⟩ = false ∧ w.frozen? ⟨b,8,none⟩ = false ∧ w.frozen? ⟨b,9,none⟩ = false := ⟨free_of h 0,free_of h 1,free_of h 2,free_of h 3,free_of h 4,free_of h 5,free_of h 6,free_of h 7,free_of h 8,free_of h 9⟩
theorem below_ten {w w1 : World} {b : Nat} (h : Below w.heap.size w w1) (hb : w.heap.size ≤ b) (u0 u1 u2 u3 u4 u5 u6 u7 u8 u9 : Value) : Below w.heap.size w ((((((((((w1.setCell ⟨b,0,none⟩ u0).setCell ⟨b,1,none⟩ u1).setCell ⟨b,2,none⟩ u2).setCell ⟨b,3,none⟩ u3).setCell ⟨b,4,none⟩ u4).setCell ⟨b,5,none⟩ u5).setCell ⟨b,6,none⟩ u6).setCell ⟨b,7,none⟩ u7).setCell ⟨b,8,none⟩ u8).setCell ⟨b,9,none⟩ u9) :=
 (((((((((h.setCell (p := ⟨b,0,none⟩) hb u0).setCell (p := ⟨b,1,none⟩) hb u1).setCell (p := ⟨b,2,none⟩) hb u2).setCell (p := ⟨b,3,none⟩) hb u3).setCell (p := ⟨b,4,none⟩) hb u4).setCell (p := ⟨b,5,none⟩) hb u5).setCell (p := ⟨b,6,none⟩) hb u6).setCell (p := ⟨b,7,none⟩) hb u7).setCell (p := ⟨b,8,none⟩) hb u8).setCell (p := ⟨b,9,none⟩) hb u9
theorem nums7 (x y z u v s t : Int) (b c : Nat) (w : World) (h : w.heap[b]? = some (.cells #[.int .i64 x,.int .i64 y,.int .i64 z,.int .i64 u,.int .i64 v,.int .i64 s,.int .i64 t] 3 (0,0))) (A : ∀ (b o n c : Nat) (l : List Int) (w : World),l.length = n → n ≤ 64 → (∀ q,q < n → w.cell? ⟨b,o + q,none⟩ = some (.int .i64 (l.getD q 0))) → Calls Tryz.prog 59 #[.slice (some ⟨b,o,none⟩) n c] w (fun e w' => e = .returned (.bool (l.all numB)) ∧ w = w')) :
 Calls Tryz.prog 59 #[.slice (some ⟨b,0,none⟩) 7 c] w (fun e w' => e = .returned (.bool (numB x && (numB y && (numB z && (numB u && (numB v && (numB s && numB t))))))) ∧ w = w') := by
 have := A b 0 7 c [x,y,z,u,v,s,t] w rfl (by omega) (lit_cells [x,y,z,u,v,s,t] h)
 rwa [show [x,y,z,u,v,s,t].all numB = (numB x && (numB y && (numB z && (numB u && (numB v && (numB s && numB t)))))) by simp] at this
set_option maxRecDepth 100000 in
theorem areNums9_any (b o n c : Nat) (l : List Int) (w : World) (hl : l.length = n) (hn : n ≤ 64) (hc : ∀ q,q < n → w.cell? ⟨b,o + q,none⟩ = some (.int .i64 (l.getD q 0))) :
 Calls Tryz.prog 59 #[.slice (some ⟨b,o,none⟩) n c] w (fun e w' => e = .returned (.bool (l.all numB)) ∧ w = w') := by
 have HC := Lib.hid hc
 have HL := Lib.hid hl
 obtain ⟨R,HR⟩ : ∃ R,Hid (l.all numB = R) := ⟨_,rfl⟩
 rw [HR.out]
 clear hc hl
 go_enter Tryz.func59,Tryz.ntmps59
 go_wp2_with fail
 go_loopw [7] (fun i wr => ∃ q : Nat,q ≤ n ∧ i = .int .i64 q ∧ w = wr ∧ Hid (R = (l.drop q).all numB)) (fun i _ => n - (intOf i).toNat)
 case atStart => exact ⟨0,Nat.zero_le _,rfl,rfl,HR.out.symm⟩
 case round =>
  obtain ⟨q,hq,rfl,rfl,HK⟩ := hrel
  by_cases hlt : q < n
  ·have x1 := HC.out q hlt
   have HS : Hid ((l.drop q).all numB = (numB (l.getD q 0) && (l.drop (q + 1)).all numB)) := by show _ = _;rw [drop_getD0 0 (by rw [HL.out];exact hlt),List.all_cons]
   have i1 : (q : Int) < (n : Int) := by omega
   clear HC
   generalize l.getD q 0 = X at *
   by_cases h0 : X < 0
   ·have HB : Hid (numB X = false) := by show _ = _;unfold Od.numB;simp;omega
    go_wp2_with fail
    go_ret
    exact ⟨Quo.ret_bool (by rw [HK.out,HS.out,HB.out];rfl),rfl⟩
   ·by_cases h1 : 1000000000 < X
    ·have HB : Hid (numB X = false) := by show _ = _;unfold Od.numB;simp;omega
     go_wp2_with fail
     go_ret
     exact ⟨Quo.ret_bool (by rw [HK.out,HS.out,HB.out];rfl),rfl⟩
    ·have HB : Hid (numB X = true) := by show _ = _;unfold Od.numB;simp;omega
     go_wp2_with fail
     go_roundw
     case rel => exact ⟨q + 1,by omega,by go_num,trivial,by show _ = _;rw [HK.out,HS.out,HB.out];simp⟩
     case measure => simp [intOf];omega
  ·have HE : Hid (R = true) := by show _ = _;rw [HK.out,List.drop_of_length_le (by rw [HL.out];omega)];rfl
   go_wp2_with fail
   go_ret
   exact ⟨Quo.ret_bool (by rw [HE.out]),rfl⟩
set_option maxRecDepth 100000 in
theorem right9_any (x : S9) (w : World) (hx : x.ok) : Calls Tryz.prog 23 #[sV x] w (Ret (.bool (rightT Tp.nameB x)) w) := by
 have hv := hx.v
 unfold sV sC rightT numsB
 obtain ⟨hd,bo,nm,od,up,lv,nd,sq,dr,ac⟩ := x
 simp only at hv ⊢
 have AN := Lib.hid (fun (w' : World) (b : Nat) (h : w'.heap[b]? = some (.cells #[.int .i64 hd,.int .i64 bo,.int .i64 od,.int .i64 up,.int .i64 nd,.int .i64 sq,.int .i64 ac] 3 (0,0))) => nums7 hd bo od up nd sq ac b 7 w' h areNums9_any)
 have NM := Lib.hid (fun (w' : World) => name_of_l nm w' hv)
 have HB2 := Lib.hid (fun o o' => belowTwo w o o')
 have HSQ := Lib.hid (show (numB hd && (numB bo && (numB od && (numB up && (numB nd && (numB sq && numB ac)))))) = true → 0 ≤ sq from fun h => by simp only [Bool.and_eq_true] at h;exact (numB_iff h.2.2.2.2.2.1).1)
 clear hx hv
 generalize (numB hd && (numB bo && (numB od && (numB up && (numB nd && (numB sq && numB ac)))))) = N at *
 generalize Tp.nameB nm = M at *
 generalize (⟨nm.toArray⟩ : ByteArray) = sv at *
 cases N with
 | false =>
   go_enter Tryz.func23,Tryz.ntmps23
   go_wp2_with (go_at_call 59;(with_reducible refine (AN.out _ _ (two_new _ _ _)).mono ?_);rintro e1 w1 ⟨rfl,rfl⟩)
   go_ret
   exact ⟨rfl,HB2.out _ _⟩
 | true =>
   have hs0 := HSQ.out rfl
   clear HSQ
   cases M with
   | false =>
     go_enter Tryz.func23,Tryz.ntmps23
     go_wp2_with (first
      | (go_at_call 59;(with_reducible refine (AN.out _ _ (two_new _ _ _)).mono ?_);rintro e1 w1 ⟨rfl,rfl⟩)
      | (go_at_call 41;(with_reducible refine (NM.out _).mono ?_);rintro e1 w1 ⟨rfl,rfl⟩))
     go_ret
     exact ⟨rfl,HB2.out _ _⟩
   | true =>
     by_cases he : sq % 2 = 0
     ·rw [decide_eq_true he]
      cases lv <;> cases dr
      all_goals
       go_enter Tryz.func23,Tryz.ntmps23
       go_wp2_with (first
        | (go_at_call 59;(with_reducible refine (AN.out _ _ (two_new _ _ _)).mono ?_);rintro e1 w1 ⟨rfl,rfl⟩)
        | (go_at_call 41;(with_reducible refine (NM.out _).mono ?_);rintro e1 w1 ⟨rfl,rfl⟩))
       go_ret
       exact ⟨rfl,HB2.out _ _⟩
     ·rw [decide_eq_false he]
      go_enter Tryz.func23,Tryz.ntmps23
      go_wp2_with (first
       | (go_at_call 59;(with_reducible refine (AN.out _ _ (two_new _ _ _)).mono ?_);rintro e1 w1 ⟨rfl,rfl⟩)
       | (go_at_call 41;(with_reducible refine (NM.out _).mono ?_);rintro e1 w1 ⟨rfl,rfl⟩))
      go_ret
      exact ⟨rfl,HB2.out _ _⟩
set_option maxRecDepth 100000 in
theorem newer9_any (x y : S9) (w : World) : Calls Tryz.prog 25 #[sV x,sV y] w (Ret (.bool (newerB x y)) w) := by
 unfold sV sC newerB
 obtain ⟨hd,bo,nm,od,up,lv,nd,sq,dr,ac⟩ := x
 obtain ⟨hd',bo',nm',od',up',lv',nd',sq',dr',ac'⟩ := y
 simp only
 generalize (⟨nm.toArray⟩ : ByteArray) = sv at *
 generalize (⟨nm'.toArray⟩ : ByteArray) = sv' at *
 by_cases h1 : bo' < bo
 ·rw [decide_eq_true h1]
  go_enter Tryz.func25,Tryz.ntmps25
  go_wp2_with fail
  go_ret
  exact ⟨rfl,belowTwo _ _ _⟩
 ·rw [decide_eq_false h1]
  by_cases h2 : bo = bo'
  ·subst h2
   by_cases h3 : hd' < hd
   ·rw [decide_eq_true h3]
    go_enter Tryz.func25,Tryz.ntmps25
    go_wp2_with fail
    go_ret
    exact ⟨by simp,belowTwo _ _ _⟩
   ·rw [decide_eq_false h3]
    go_enter Tryz.func25,Tryz.ntmps25
    go_wp2_with fail
    go_ret
    exact ⟨by simp,belowTwo _ _ _⟩
  ·have h3 : (bo == bo') = false := by simpa using h2
   rw [h3]
   go_enter Tryz.func25,Tryz.ntmps25
   go_wp2_with fail
   go_ret
   exact ⟨rfl,belowTwo _ _ _⟩
end Go.Proofs.YtmmbiknlicnamaaGreatDoor.Sta
namespace Go.Proofs.YtmmbiknlicnamaaGreatDoor.Sta
open Go.RowKit Js Lex Od
def Ent (f : Nat) : Prop := ∀ (args : Array Value) (w : World),(callFunc f args).run Tryz.prog w = .ok (.enter f args) w
structure AtF (ka i : Nat) : Prop where
 ent : Ent ka
 at_ : ∀ (b : Nat) (w : World),Calls Tryz.prog ka #[.pointer (some ⟨b,0,none⟩)] w (fun e w' => e = .returned (.pointer (some ⟨b,i,none⟩)) ∧ w = w')
set_option maxRecDepth 100000 in
theorem at0_any : AtF 131 0 := by
 refine ⟨Tryz.call131,?_⟩
 intro b w
 go_enter Tryz.func131,Tryz.ntmps131
 go_wp2_with fail
 go_ret
 exact ⟨rfl,rfl⟩
set_option maxRecDepth 100000 in
theorem at1_any : AtF 132 1 := by
 refine ⟨Tryz.call132,?_⟩
 intro b w
 go_enter Tryz.func132,Tryz.ntmps132
 go_wp2_with fail
 go_ret
 exact ⟨rfl,rfl⟩
set_option maxRecDepth 100000 in
theorem at2_any : AtF 134 2 := by
 refine ⟨Tryz.call134,?_⟩
 intro b w
 go_enter Tryz.func134,Tryz.ntmps134
 go_wp2_with fail
 go_ret
 exact ⟨rfl,rfl⟩
set_option maxRecDepth 100000 in
theorem at3_any : AtF 135 3 := by
 refine ⟨Tryz.call135,?_⟩
 intro b w
 go_enter Tryz.func135,Tryz.ntmps135
 go_wp2_with fail
 go_ret
 exact ⟨rfl,rfl⟩
set_option maxRecDepth 100000 in
theorem at4_any : AtF 136 4 := by
 refine ⟨Tryz.call136,?_⟩
 intro b w
 go_enter Tryz.func136,Tryz.ntmps136
 go_wp2_with fail
 go_ret
 exact ⟨rfl,rfl⟩
set_option maxRecDepth 100000 in
theorem at5_any : AtF 138 5 := by
 refine ⟨Tryz.call138,?_⟩
 intro b w
 go_enter Tryz.func138,Tryz.ntmps138
 go_wp2_with fail
 go_ret
 exact ⟨rfl,rfl⟩
set_option maxRecDepth 100000 in
theorem at6_any : AtF 139 6 := by
 refine ⟨Tryz.call139,?_⟩
 intro b w
 go_enter Tryz.func139,Tryz.ntmps139
 go_wp2_with fail
 go_ret
 exact ⟨rfl,rfl⟩
set_option maxRecDepth 100000 in
theorem at7_any : AtF 140 7 := by
 refine ⟨Tryz.call140,?_⟩
 intro b w
 go_enter Tryz.func140,Tryz.ntmps140
 go_wp2_with fail
 go_ret
 exact ⟨rfl,rfl⟩
set_option maxRecDepth 100000 in
theorem at8_any : AtF 141 8 := by
 refine ⟨Tryz.call141,?_⟩
 intro b w
 go_enter Tryz.func141,Tryz.ntmps141
 go_wp2_with fail
 go_ret
 exact ⟨rfl,rfl⟩
set_option maxRecDepth 100000 in
theorem at9_any : AtF 142 9 := by
 refine ⟨Tryz.call142,?_⟩
 intro b w
 go_enter Tryz.func142,Tryz.ntmps142
 go_wp2_with fail
 go_ret
 exact ⟨rfl,rfl⟩
structure Bx (nm : List UInt8) (ka kl kq : Nat) (B : Nat) (w : World) : Prop where
 n : w.cell? ⟨B,0,none⟩ = some (.string ⟨nm.toArray⟩)
 a : w.cell? ⟨B + 1,0,none⟩ = some (.func (.func ka) #[] #[])
 l : w.cell? ⟨B + 2,0,none⟩ = some (.func (.func kl) #[] #[])
 q : w.cell? ⟨B + 3,0,none⟩ = some (.func (.func kq) #[] #[])
 lt : B + 3 < w.heap.size
theorem Bx.keep {nm : List UInt8} {ka kl kq B : Nat} {w w' : World} (h : Bx nm ka kl kq B w) (hk : ∀ k,B ≤ k → k < w.heap.size → w'.heap[k]? = w.heap[k]?) (hs : w.heap.size ≤ w'.heap.size) : Bx nm ka kl kq B w' := by
 have hl := h.lt
 exact ⟨(World.cell?_of_block (w := w) (a := ⟨B,0,none⟩) (hk B (Nat.le_refl _) (by omega))).trans h.n,(World.cell?_of_block (w := w) (a := ⟨B + 1,0,none⟩) (hk (B + 1) (by omega) (by omega))).trans h.a,
  (World.cell?_of_block (w := w) (a := ⟨B + 2,0,none⟩) (hk (B + 2) (by omega) (by omega))).trans h.l,(World.cell?_of_block (w := w) (a := ⟨B + 3,0,none⟩) (hk (B + 3) (by omega) (by omega))).trans h.q,by omega⟩
theorem Bx.below {nm : List UInt8} {ka kl kq B : Nat} {w w' : World} (h : Bx nm ka kl kq B w) (hb : Below w.heap.size w w') : Bx nm ka kl kq B w' := h.keep (fun k _ hk => hb.block k hk) hb.size
def partV (nm : List UInt8) (L T B : Nat) : Value := .agg #[.string ⟨nm.toArray⟩,.func (.func L) #[] #[.pointer (some ⟨B + 2,0,none⟩),.pointer (some ⟨B + 1,0,none⟩)],.func (.func T) #[] #[.pointer (some ⟨B + 3,0,none⟩),.pointer (some ⟨B,0,none⟩),.pointer (some ⟨B + 1,0,none⟩)]]
def PRet (nm : List UInt8) (ka kl kq L T : Nat) (w : World) (e : Ending) (w' : World) : Prop := ∃ B,e = .returned (partV nm L T B) ∧ Bx nm ka kl kq B w' ∧ w.heap.size ≤ B ∧ Below w.heap.size w w'
theorem four_boxes (w : World) (nm : ByteArray) (ka kl kq : Nat) (t0 t1 t2 t3 : TypeId) (o : Obj) : let w' := ((((w.alloc (.cells #[.string nm] t0)).alloc (.cells #[.func (.func ka) #[] #[]] t1)).alloc (.cells #[.func (.func kl) #[] #[]] t2)).alloc (.cells #[.func (.func kq) #[] #[]] t3)).alloc o
 w'.heap[w.heap.size]? = some (.cells #[.string nm] t0 (0,0)) ∧ w'.heap[w.heap.size + 1]? = some (.cells #[.func (.func ka) #[] #[]] t1 (0,0)) ∧ w'.heap[w.heap.size + 2]? = some (.cells #[.func (.func kl) #[] #[]] t2 (0,0)) ∧ w'.heap[w.heap.size + 3]? = some (.cells #[.func (.func kq) #[] #[]] t3 (0,0)) ∧ w'.heap[w.heap.size + 4]? = some o ∧ w'.heap.size = w.heap.size + 5 ∧ Below w.heap.size w w' := by
 have b1 := belowOne w (.cells #[.string nm] t0)
 have b2 := b1.alloc b1.size (.cells #[.func (.func ka) #[] #[]] t1)
 have b3 := b2.alloc b2.size (.cells #[.func (.func kl) #[] #[]] t2)
 have b4 := b3.alloc b3.size (.cells #[.func (.func kq) #[] #[]] t3)
 have b5 := b4.alloc b4.size o
 refine ⟨?_,?_,?_,?_,?_,by simp,b5⟩
 ·rw [heap_alloc_old _ _ (by simp <;> omega),heap_alloc_old _ _ (by simp <;> omega),heap_alloc_old _ _ (by simp <;> omega),heap_alloc_old _ _ (by simp <;> omega)]
  exact heap_alloc_new _ _
 ·rw [heap_alloc_old _ _ (by simp <;> omega),heap_alloc_old _ _ (by simp <;> omega),heap_alloc_old _ _ (by simp <;> omega)]
  have := heap_alloc_new (w.alloc (.cells #[.string nm] t0)) (.cells #[.func (.func ka) #[] #[]] t1)
  simpa using this
 ·rw [heap_alloc_old _ _ (by simp <;> omega),heap_alloc_old _ _ (by simp <;> omega)]
  have := heap_alloc_new ((w.alloc (.cells #[.string nm] t0)).alloc (.cells #[.func (.func ka) #[] #[]] t1)) (.cells #[.func (.func kl) #[] #[]] t2)
  simpa using this
 ·rw [heap_alloc_old _ _ (by simp <;> omega)]
  have := heap_alloc_new (((w.alloc (.cells #[.string nm] t0)).alloc (.cells #[.func (.func ka) #[] #[]] t1)).alloc (.cells #[.func (.func kl) #[] #[]] t2)) (.cells #[.func (.func kq) #[] #[]] t3)
  simpa using this
 ·have := heap_alloc_new ((((w.alloc (.cells #[.string nm] t0)).alloc (.cells #[.func (.func ka) #[] #[]] t1)).alloc (.cells #[.func (.func kl) #[] #[]] t2)).alloc (.cells #[.func (.func kq) #[] #[]] t3)) o
  simpa using this
theorem one_cell {w : World} {b : Nat} {v : Value} {T : TypeId} {f : Nat × Nat} (h : w.heap[b]? = some (.cells #[v] T f)) : w.cell? ⟨b,0,none⟩ = some v := by
 rw [cell_of_row _ _ _ _ _ _ h];rfl
theorem three_cells' {w : World} {b : Nat} {T : TypeId} {f : Nat × Nat} {c0 c1 c2 : Value} (h : w.heap[b]? = some (.cells #[c0,c1,c2] T f)) : w.cell? ⟨b,0,none⟩ = some c0 ∧ w.cell? ⟨b,1,none⟩ = some c1 ∧ w.cell? ⟨b,2,none⟩ = some c2 := by
 have k : ∀ i,w.cell? ⟨b,i,none⟩ = (#[c0,c1,c2] : Array Value)[i]? := fun i => cell_of_row _ _ _ _ _ _ h
 exact ⟨k 0,k 1,k 2⟩
theorem cell_set_other {w : World} {a b : Nat} {i j : Nat} {u : Value} (h : a ≠ b) : (w.setCell ⟨b,j,none⟩ u).cell? ⟨a,i,none⟩ = w.cell? ⟨a,i,none⟩ := World.cell?_of_block (w := w) (a := ⟨a,i,none⟩) (heap_setCell_other _ _ _ _ h)
def TkRet (w : World) (bs : Nat) (C : Array Value) (i : Nat) (u : Value) (r : Bool) (e : Ending) (w' : World) : Prop := e = .returned (.bool r) ∧ w'.heap[bs]? = some (.cells (C.setIfInBounds i u) 41 (0,0)) ∧ Moves w.heap.size bs w w'
theorem tk_set {w w1 : World} {bs i : Nat} {C : Array Value} {u : Value} {r : Bool} (hb : Below w.heap.size w w1) (hs : w1.heap[bs]? = some (.cells C 41 (0,0))) : TkRet w bs C i u r (.returned (.bool r)) (w1.setCell ⟨bs,i,none⟩ u) :=
 ⟨rfl,heap_setCell_same w1 bs i C 41 _ hs,(Moves.of_below hb).setCell (p := ⟨bs,i,none⟩) (.inr rfl) u⟩
set_option maxRecDepth 100000 in
theorem newI_any (nm : List UInt8) (ka : Nat) (w : World) : Calls Tryz.prog 179 #[.string ⟨nm.toArray⟩,.func (.func ka) #[] #[],.func (.func 67) #[] #[],.func (.func 87) #[] #[]] w (PRet nm ka 67 87 201 202 w) := by
 go_enter Tryz.func179,Tryz.ntmps179
 go_upto_region 1 with fail
 have hF := four_boxes w ⟨nm.toArray⟩ ka 67 87 9 174 62 79 (.cells #[.string ⟨#[]⟩,.nilFunc,.nilFunc] 140)
 simp only at hF
 generalize (((((w.alloc (.cells #[.string ⟨nm.toArray⟩] 9)).alloc (.cells #[.func (.func ka) #[] #[]] 174)).alloc (.cells #[.func (.func 67) #[] #[]] 62)).alloc (.cells #[.func (.func 87) #[] #[]] 79)).alloc (.cells #[.string ⟨#[]⟩,.nilFunc,.nilFunc] 140)) = w5 at *
 obtain ⟨x0,x1,x2,x3,x4,hsz,hb⟩ := hF
 have n0 := one_cell x0
 obtain ⟨z0,z1,z2⟩ := three_cells' x4
 have g0 := free_of x4 0
 have g1 := free_of x4 1
 have g2 := free_of x4 2
 have HX : Hid (Bx nm ka 67 87 w.heap.size w5) := ⟨one_cell x0,one_cell x1,one_cell x2,one_cell x3,by omega⟩
 have HB := Lib.hid hb
 have HSZ := Lib.hid hsz
 clear x0 x1 x2 x3 x4 hb hsz
 rw [show w.heap.size + 1 + 1 + 1 + 1 = w.heap.size + 4 from rfl,show w.heap.size + 1 + 1 + 1 = w.heap.size + 3 from rfl,show w.heap.size + 1 + 1 = w.heap.size + 2 from rfl]
 go_wp2_with fail
 refine bodyPost_ret (v := partV nm 201 202 w.heap.size) (by simp [results,Tryz.results179,go_sem,partV,z0,z1,z2]) rfl ?_
 refine ⟨w.heap.size,rfl,?_,Nat.le_refl _,((HB.out.setCell (p := ⟨w.heap.size + 4,0,none⟩) (by simp) _).setCell (p := ⟨w.heap.size + 4,1,none⟩) (by simp) _).setCell (p := ⟨w.heap.size + 4,2,none⟩) (by simp) _⟩
 have hX := HX.out
 refine ⟨?_,?_,?_,?_,by simp only [size_set];have := hX.lt;omega⟩
 ·rw [cell_set_other,cell_set_other,cell_set_other] <;> first | exact hX.n | (simp)
 ·rw [cell_set_other,cell_set_other,cell_set_other] <;> first | exact hX.a | (simp)
 ·rw [cell_set_other,cell_set_other,cell_set_other] <;> first | exact hX.l | (simp)
 ·rw [cell_set_other,cell_set_other,cell_set_other] <;> first | exact hX.q | (simp)
set_option maxRecDepth 100000 in
theorem layI_any {ka i : Nat} (hA : AtF ka i) {nm : List UInt8} {C : Array Value} (n : Int) (hn : numB n = true) (hi : C[i]? = some (.int .i64 n)) {B : Nat} (w : World) (hB : Bx nm ka 67 87 B w) : Calls Tryz.prog 201 #[.agg C,.pointer (some ⟨B + 2,0,none⟩),.pointer (some ⟨B + 1,0,none⟩)] w (Ret (bareV 4 (Dec.mk n 0).1 (Dec.mk n 0).2.1 []) w) := by
 have HCALL := Lib.hid (fun (wz : World) => (int_num n hn wz))
 skip
 go_enter Tryz.func201,Tryz.ntmps201
 go_upto_region 1 with fail
 obtain ⟨w2,hw2⟩ : ∃ w2,((w.alloc (.cells C 41)).alloc (.cells #[.int .i64 0,.int .i64 0,.int .i64 0,.string ⟨#[]⟩,.slice none 0 0,.slice none 0 0] 58)) = w2 := ⟨_,rfl⟩
 have HBOX : Hid (w2.heap[w.heap.size]? = some (.cells C 41 (0,0))) := by show _ = _;rw [← hw2];exact two_old _ _ _
 have HRES : Hid (w2.heap[w.heap.size + 1]? = some (.cells #[.int .i64 0,.int .i64 0,.int .i64 0,.string ⟨#[]⟩,.slice none 0 0,.slice none 0 0] 58 (0,0))) := by show _ = _;rw [← hw2];exact two_new _ _ _
 have HB2 : Hid (Below w.heap.size w w2) := by show Below _ _ _;rw [← hw2];exact belowTwo _ _ _
 have HX := Lib.hid (hB.below HB2.out)
 have hlb := Own.block_lt HBOX.out
 have hlr := Own.block_lt HRES.out
 have hs2 := HB2.out.size
 have HI := Lib.hid hi
 rw [hw2]
 clear hw2 hi hB
 refine wp_region_grow mixed8 (fun zs => { tmps := List.toArray (Value.agg C :: Value.pointer (some ⟨B + 2,0,none⟩) :: Value.pointer (some ⟨B + 1,0,none⟩) :: Value.pointer (some ⟨w.heap.size,0,none⟩) :: Value.pointer (some ⟨w.heap.size + 1,0,none⟩) :: zs.getD 0 undef :: zs.getD 1 undef :: zs.getD 2 undef :: zs.getD 3 undef :: zs.getD 4 undef :: zs.getD 5 undef :: []),defers := [] }) [(fun z _ => z = Value.func (.func 67) #[] #[]),(fun z _ => z = Value.func (.func ka) #[] #[]),(fun z _ => z = Value.pointer (some ⟨w.heap.size,i,none⟩)),(fun z _ => z = Value.pointer (some ⟨w.heap.size,i,none⟩)),(fun z _ => z = (.int .i64 n)),(fun z _ => z = (bareV 4 (Dec.mk n 0).1 (Dec.mk n 0).2.1 []))] (List.replicate 6 undef) rfl rfl rfl ?_ (by kernel_rfl) (by kernel_rfl) ?_ ?_
 ·intro p hp
  simp only [List.mem_cons,List.not_mem_nil,or_false] at hp
  rcases hp with rfl | rfl | rfl | rfl | rfl | rfl
  all_goals exact stable_eq _
 ·intro i' hi' zs l wz o hz hF ho hpre
  have hi2 : i' < 6 := hi'
  match zs,(show zs.length = 6 from hz) with
  | [z0,z1,z2,z3,z4,z5],_ =>
    clear hz hi'
    change wpOp _ _ _ _ _ { tmps := List.toArray (Value.agg C :: Value.pointer (some ⟨B + 2,0,none⟩) :: Value.pointer (some ⟨B + 1,0,none⟩) :: Value.pointer (some ⟨w.heap.size,0,none⟩) :: Value.pointer (some ⟨w.heap.size + 1,0,none⟩) :: z0 :: z1 :: z2 :: z3 :: z4 :: z5 :: []),defers := [] } _
    have hc : i' = 0 ∨ i' = 1 ∨ i' = 2 ∨ i' = 3 ∨ i' = 4 ∨ i' = 5 := by omega
    clear hi2
    rcases hc with rfl | rfl | rfl | rfl | rfl | rfl
    ·have y0 := (HX.out.below hF.bel).l
     clear ho hpre
     refine wpOp_here rfl (fun K' hK => ?_)
     go_simp
     exact hK _ _ ⟨_,rfl,Below.refl _ _,fun p hp => by cases (show some (fun z _ => z = Value.func (.func 67) #[] #[]) = some p from hp);exact rfl⟩
    ·have y0 := (HX.out.below hF.bel).a
     clear ho hpre
     refine wpOp_here rfl (fun K' hK => ?_)
     go_simp
     exact hK _ _ ⟨_,rfl,Below.refl _ _,fun p hp => by cases (show some (fun z _ => z = Value.func (.func ka) #[] #[]) = some p from hp);exact rfl⟩
    ·have p1 := hF.fact 1 _ _ rfl rfl (hpre ⟨1,.data⟩ (by cases ho;simp) rfl)
     subst p1
     clear ho hpre
     have hE := hA.ent
     unfold Ent at hE
     refine wpOp_here rfl (fun K' hK => ?_)
     go_simp
     refine (hA.at_ _ _).mono ?_
     rintro e6 w6 ⟨rfl,rfl⟩
     exact hK _ _ ⟨_,rfl,Below.refl _ _,fun p hp => by cases (show some (fun z _ => z = Value.pointer (some ⟨w.heap.size,i,none⟩)) = some p from hp);exact rfl⟩
    ·have p2 := hF.fact 2 _ _ rfl rfl (hpre ⟨2,.data⟩ (by cases ho;simp) rfl)
     subst p2
     clear ho hpre
     refine wpOp_here rfl (fun K' hK => ?_)
     go_simp
     exact hK _ _ ⟨_,rfl,Below.refl _ _,fun p hp => by cases (show some (fun z _ => z = Value.pointer (some ⟨w.heap.size,i,none⟩)) = some p from hp);exact rfl⟩
    ·have p3 := hF.fact 3 _ _ rfl rfl (hpre ⟨3,.data⟩ (by cases ho;simp) rfl)
     have y0 : wz.cell? ⟨w.heap.size,i,none⟩ = some (.int .i64 n) := (cell_of_row _ _ _ _ _ _ ((hF.bel.block _ hlb).trans HBOX.out)).trans HI.out
     subst p3
     clear ho hpre
     refine wpOp_here rfl (fun K' hK => ?_)
     go_simp
     exact hK _ _ ⟨_,rfl,Below.refl _ _,fun p hp => by cases (show some (fun z _ => z = (.int .i64 n)) = some p from hp);exact rfl⟩
    ·have p0 := hF.fact 0 _ _ rfl rfl (hpre ⟨0,.data⟩ (by cases ho;simp) rfl)
     have p4 := hF.fact 4 _ _ rfl rfl (hpre ⟨4,.data⟩ (by cases ho;simp) rfl)
     subst p0 p4
     clear ho hpre
     refine wpOp_here rfl (fun K' hK => ?_)
     go_simp
     refine (HCALL.out wz).mono ?_
     rintro e6 w6 ⟨rfl,hb6⟩
     exact hK _ _ ⟨_,rfl,hb6,fun p hp => by cases (show some (fun z _ => z = (bareV 4 (Dec.mk n 0).1 (Dec.mk n 0).2.1 [])) = some p from hp);exact rfl⟩
 ·intro zs wz hz hB hev
  match zs,(show zs.length = 6 from hz) with
  | [z0,z1,z2,z3,z4,z5],_ =>
    have p5 := hev 5 _ _ rfl rfl
    clear hev hz
    change wpOp _ _ _ _ _ { tmps := List.toArray (Value.agg C :: Value.pointer (some ⟨B + 2,0,none⟩) :: Value.pointer (some ⟨B + 1,0,none⟩) :: Value.pointer (some ⟨w.heap.size,0,none⟩) :: Value.pointer (some ⟨w.heap.size + 1,0,none⟩) :: z0 :: z1 :: z2 :: z3 :: z4 :: z5 :: []),defers := [] } _
    subst p5
    have y0 := (hB.block _ hlr).trans HRES.out
    obtain ⟨⟨c0,c1,c2,c3,c4,c5⟩,g0,g1,g2,g3,g4,g5⟩ := twelve_of y0
    have Y0 := Lib.hid y0
    clear y0
    unfold bareV
    refine wpOp_here rfl (fun K' hK => ?_)
    go_simp
    refine hK _ _ ?_
    go_wp2_with fail
    refine bodyPost_ret (v := bareV 4 (Dec.mk n 0).1 (Dec.mk n 0).2.1 []) (by simp [results,Tryz.results201,go_sem,bareV,c0,c1,c2,c3,c4,c5]) rfl ?_
    exact ⟨rfl,below_put6' (HB2.out.trans (hB.mono hs2)) (by omega) _ _ _ _ _ _⟩
set_option maxRecDepth 100000 in
theorem takeI_any {ka i : Nat} (hA : AtF ka i) {nm : List UInt8} {C : Array Value} {u0 : Value} (hu : C[i]? = some u0) {bs B d : Nat} {S : Nat → Prop} {v : Value} {j : J} (w : World) (hs : w.heap[bs]? = some (.cells C 41 (0,0))) (hJ : JAt S w d v j) (hB : Bx nm ka 67 87 B w) :
 Calls Tryz.prog 202 #[.pointer (some ⟨bs,0,none⟩),v,.pointer (some ⟨B + 3,0,none⟩),.pointer (some ⟨B,0,none⟩),.pointer (some ⟨B + 1,0,none⟩)] w (TkRet w bs C i (.int .i64 (tellG (0 : Int) numS j nm).1) (tellG (0 : Int) numS j nm).2) := by
 have TE := Lib.hid (fun (w' : World) (hb : Below w.heap.size w w') => FNum_any S d v j nm w' (hJ.below hb (Nat.le_refl _)))
 have HA := Lib.hid (show ∀ (b : Nat) (w : World),Calls Tryz.prog ka #[.pointer (some ⟨b,0,none⟩)] w (fun e w' => e = .returned (.pointer (some ⟨b,i,none⟩)) ∧ w = w') from hA.at_)
 have hE := hA.ent
 unfold Ent at hE
 generalize tellG (0 : Int) numS j nm = R at *
 obtain ⟨r1,r2⟩ := R
 obtain ⟨k,m,e,t,an,nn,cn,ai,ni,ci,rfl⟩ := jAt_form hJ
 simp only at TE ⊢
 have X0 := hB.below (belowOne w (.cells #[.int .i64 k,.int .i64 m,.int .i64 e,.string t,.slice an nn cn,.slice ai ni ci] 58))
 have q0 := X0.q
 have n0 := X0.n
 have HX := Lib.hid hB
 have HS := Lib.hid hs
 have HU := Lib.hid hu
 clear X0 hB hJ hs hu hA
 go_enter Tryz.func202,Tryz.ntmps202
 go_wp2_with (first
  | (go_at_call 87;(with_reducible refine (TE.out _ (belowOne _ _)).mono ?_);rintro e1 w1 ⟨rfl,hb1⟩;have HB1 := Lib.hid (Dec.below_call hb1);have a1 := (HX.out.below HB1.out).a;have s1 := (HB1.out.block _ (Own.block_lt HS.out)).trans HS.out;have f1 := free_of s1 i;have c1 := (cell_of_row _ _ _ _ _ _ s1).trans HU.out;have HS1 := Lib.hid s1;clear s1)
  | ((with_reducible refine (HA.out _ _).mono ?_);rintro e2 w2 ⟨rfl,rfl⟩))
 go_ret
 exact tk_set HB1.out HS1.out
set_option maxRecDepth 100000 in
theorem newS_any (nm : List UInt8) (ka : Nat) (w : World) : Calls Tryz.prog 180 #[.string ⟨nm.toArray⟩,.func (.func ka) #[] #[],.func (.func 68) #[] #[],.func (.func 89) #[] #[]] w (PRet nm ka 68 89 203 204 w) := by
 go_enter Tryz.func180,Tryz.ntmps180
 go_upto_region 1 with fail
 have hF := four_boxes w ⟨nm.toArray⟩ ka 68 89 9 177 63 81 (.cells #[.string ⟨#[]⟩,.nilFunc,.nilFunc] 140)
 simp only at hF
 generalize (((((w.alloc (.cells #[.string ⟨nm.toArray⟩] 9)).alloc (.cells #[.func (.func ka) #[] #[]] 177)).alloc (.cells #[.func (.func 68) #[] #[]] 63)).alloc (.cells #[.func (.func 89) #[] #[]] 81)).alloc (.cells #[.string ⟨#[]⟩,.nilFunc,.nilFunc] 140)) = w5 at *
 obtain ⟨x0,x1,x2,x3,x4,hsz,hb⟩ := hF
 have n0 := one_cell x0
 obtain ⟨z0,z1,z2⟩ := three_cells' x4
 have g0 := free_of x4 0
 have g1 := free_of x4 1
 have g2 := free_of x4 2
 have HX : Hid (Bx nm ka 68 89 w.heap.size w5) := ⟨one_cell x0,one_cell x1,one_cell x2,one_cell x3,by omega⟩
 have HB := Lib.hid hb
 have HSZ := Lib.hid hsz
 clear x0 x1 x2 x3 x4 hb hsz
 rw [show w.heap.size + 1 + 1 + 1 + 1 = w.heap.size + 4 from rfl,show w.heap.size + 1 + 1 + 1 = w.heap.size + 3 from rfl,show w.heap.size + 1 + 1 = w.heap.size + 2 from rfl]
 go_wp2_with fail
 refine bodyPost_ret (v := partV nm 203 204 w.heap.size) (by simp [results,Tryz.results180,go_sem,partV,z0,z1,z2]) rfl ?_
 refine ⟨w.heap.size,rfl,?_,Nat.le_refl _,((HB.out.setCell (p := ⟨w.heap.size + 4,0,none⟩) (by simp) _).setCell (p := ⟨w.heap.size + 4,1,none⟩) (by simp) _).setCell (p := ⟨w.heap.size + 4,2,none⟩) (by simp) _⟩
 have hX := HX.out
 refine ⟨?_,?_,?_,?_,by simp only [size_set];have := hX.lt;omega⟩
 ·rw [cell_set_other,cell_set_other,cell_set_other] <;> first | exact hX.n | (simp)
 ·rw [cell_set_other,cell_set_other,cell_set_other] <;> first | exact hX.a | (simp)
 ·rw [cell_set_other,cell_set_other,cell_set_other] <;> first | exact hX.l | (simp)
 ·rw [cell_set_other,cell_set_other,cell_set_other] <;> first | exact hX.q | (simp)
set_option maxRecDepth 100000 in
theorem layS_any {ka i : Nat} (hA : AtF ka i) {nm : List UInt8} {C : Array Value} (n : List UInt8) (hi : C[i]? = some (.string ⟨n.toArray⟩)) {B : Nat} (w : World) (hB : Bx nm ka 68 89 B w) : Calls Tryz.prog 203 #[.agg C,.pointer (some ⟨B + 2,0,none⟩),.pointer (some ⟨B + 1,0,none⟩)] w (Ret (bareV 5 0 0 n) w) := by
 have HCALL := Lib.hid (fun (wz : World) => (str5_any n wz))
 skip
 go_enter Tryz.func203,Tryz.ntmps203
 go_upto_region 1 with fail
 obtain ⟨w2,hw2⟩ : ∃ w2,((w.alloc (.cells C 41)).alloc (.cells #[.int .i64 0,.int .i64 0,.int .i64 0,.string ⟨#[]⟩,.slice none 0 0,.slice none 0 0] 58)) = w2 := ⟨_,rfl⟩
 have HBOX : Hid (w2.heap[w.heap.size]? = some (.cells C 41 (0,0))) := by show _ = _;rw [← hw2];exact two_old _ _ _
 have HRES : Hid (w2.heap[w.heap.size + 1]? = some (.cells #[.int .i64 0,.int .i64 0,.int .i64 0,.string ⟨#[]⟩,.slice none 0 0,.slice none 0 0] 58 (0,0))) := by show _ = _;rw [← hw2];exact two_new _ _ _
 have HB2 : Hid (Below w.heap.size w w2) := by show Below _ _ _;rw [← hw2];exact belowTwo _ _ _
 have HX := Lib.hid (hB.below HB2.out)
 have hlb := Own.block_lt HBOX.out
 have hlr := Own.block_lt HRES.out
 have hs2 := HB2.out.size
 have HI := Lib.hid hi
 rw [hw2]
 clear hw2 hi hB
 refine wp_region_grow mixed8 (fun zs => { tmps := List.toArray (Value.agg C :: Value.pointer (some ⟨B + 2,0,none⟩) :: Value.pointer (some ⟨B + 1,0,none⟩) :: Value.pointer (some ⟨w.heap.size,0,none⟩) :: Value.pointer (some ⟨w.heap.size + 1,0,none⟩) :: zs.getD 0 undef :: zs.getD 1 undef :: zs.getD 2 undef :: zs.getD 3 undef :: zs.getD 4 undef :: zs.getD 5 undef :: []),defers := [] }) [(fun z _ => z = Value.func (.func 68) #[] #[]),(fun z _ => z = Value.func (.func ka) #[] #[]),(fun z _ => z = Value.pointer (some ⟨w.heap.size,i,none⟩)),(fun z _ => z = Value.pointer (some ⟨w.heap.size,i,none⟩)),(fun z _ => z = (.string ⟨n.toArray⟩)),(fun z _ => z = (bareV 5 0 0 n))] (List.replicate 6 undef) rfl rfl rfl ?_ (by kernel_rfl) (by kernel_rfl) ?_ ?_
 ·intro p hp
  simp only [List.mem_cons,List.not_mem_nil,or_false] at hp
  rcases hp with rfl | rfl | rfl | rfl | rfl | rfl
  all_goals exact stable_eq _
 ·intro i' hi' zs l wz o hz hF ho hpre
  have hi2 : i' < 6 := hi'
  match zs,(show zs.length = 6 from hz) with
  | [z0,z1,z2,z3,z4,z5],_ =>
    clear hz hi'
    change wpOp _ _ _ _ _ { tmps := List.toArray (Value.agg C :: Value.pointer (some ⟨B + 2,0,none⟩) :: Value.pointer (some ⟨B + 1,0,none⟩) :: Value.pointer (some ⟨w.heap.size,0,none⟩) :: Value.pointer (some ⟨w.heap.size + 1,0,none⟩) :: z0 :: z1 :: z2 :: z3 :: z4 :: z5 :: []),defers := [] } _
    have hc : i' = 0 ∨ i' = 1 ∨ i' = 2 ∨ i' = 3 ∨ i' = 4 ∨ i' = 5 := by omega
    clear hi2
    rcases hc with rfl | rfl | rfl | rfl | rfl | rfl
    ·have y0 := (HX.out.below hF.bel).l
     clear ho hpre
     refine wpOp_here rfl (fun K' hK => ?_)
     go_simp
     exact hK _ _ ⟨_,rfl,Below.refl _ _,fun p hp => by cases (show some (fun z _ => z = Value.func (.func 68) #[] #[]) = some p from hp);exact rfl⟩
    ·have y0 := (HX.out.below hF.bel).a
     clear ho hpre
     refine wpOp_here rfl (fun K' hK => ?_)
     go_simp
     exact hK _ _ ⟨_,rfl,Below.refl _ _,fun p hp => by cases (show some (fun z _ => z = Value.func (.func ka) #[] #[]) = some p from hp);exact rfl⟩
    ·have p1 := hF.fact 1 _ _ rfl rfl (hpre ⟨1,.data⟩ (by cases ho;simp) rfl)
     subst p1
     clear ho hpre
     have hE := hA.ent
     unfold Ent at hE
     refine wpOp_here rfl (fun K' hK => ?_)
     go_simp
     refine (hA.at_ _ _).mono ?_
     rintro e6 w6 ⟨rfl,rfl⟩
     exact hK _ _ ⟨_,rfl,Below.refl _ _,fun p hp => by cases (show some (fun z _ => z = Value.pointer (some ⟨w.heap.size,i,none⟩)) = some p from hp);exact rfl⟩
    ·have p2 := hF.fact 2 _ _ rfl rfl (hpre ⟨2,.data⟩ (by cases ho;simp) rfl)
     subst p2
     clear ho hpre
     refine wpOp_here rfl (fun K' hK => ?_)
     go_simp
     exact hK _ _ ⟨_,rfl,Below.refl _ _,fun p hp => by cases (show some (fun z _ => z = Value.pointer (some ⟨w.heap.size,i,none⟩)) = some p from hp);exact rfl⟩
    ·have p3 := hF.fact 3 _ _ rfl rfl (hpre ⟨3,.data⟩ (by cases ho;simp) rfl)
     have y0 : wz.cell? ⟨w.heap.size,i,none⟩ = some (.string ⟨n.toArray⟩) := (cell_of_row _ _ _ _ _ _ ((hF.bel.block _ hlb).trans HBOX.out)).trans HI.out
     subst p3
     clear ho hpre
     refine wpOp_here rfl (fun K' hK => ?_)
     go_simp
     exact hK _ _ ⟨_,rfl,Below.refl _ _,fun p hp => by cases (show some (fun z _ => z = (.string ⟨n.toArray⟩)) = some p from hp);exact rfl⟩
    ·have p0 := hF.fact 0 _ _ rfl rfl (hpre ⟨0,.data⟩ (by cases ho;simp) rfl)
     have p4 := hF.fact 4 _ _ rfl rfl (hpre ⟨4,.data⟩ (by cases ho;simp) rfl)
     subst p0 p4
     clear ho hpre
     refine wpOp_here rfl (fun K' hK => ?_)
     go_simp
     refine (HCALL.out wz).mono ?_
     rintro e6 w6 ⟨rfl,hb6⟩
     exact hK _ _ ⟨_,rfl,hb6,fun p hp => by cases (show some (fun z _ => z = (bareV 5 0 0 n)) = some p from hp);exact rfl⟩
 ·intro zs wz hz hB hev
  match zs,(show zs.length = 6 from hz) with
  | [z0,z1,z2,z3,z4,z5],_ =>
    have p5 := hev 5 _ _ rfl rfl
    clear hev hz
    change wpOp _ _ _ _ _ { tmps := List.toArray (Value.agg C :: Value.pointer (some ⟨B + 2,0,none⟩) :: Value.pointer (some ⟨B + 1,0,none⟩) :: Value.pointer (some ⟨w.heap.size,0,none⟩) :: Value.pointer (some ⟨w.heap.size + 1,0,none⟩) :: z0 :: z1 :: z2 :: z3 :: z4 :: z5 :: []),defers := [] } _
    subst p5
    have y0 := (hB.block _ hlr).trans HRES.out
    obtain ⟨⟨c0,c1,c2,c3,c4,c5⟩,g0,g1,g2,g3,g4,g5⟩ := twelve_of y0
    have Y0 := Lib.hid y0
    clear y0
    unfold bareV
    refine wpOp_here rfl (fun K' hK => ?_)
    go_simp
    refine hK _ _ ?_
    go_wp2_with fail
    refine bodyPost_ret (v := bareV 5 0 0 n) (by simp [results,Tryz.results203,go_sem,bareV,c0,c1,c2,c3,c4,c5]) rfl ?_
    exact ⟨rfl,below_put6' (HB2.out.trans (hB.mono hs2)) (by omega) _ _ _ _ _ _⟩
set_option maxRecDepth 100000 in
theorem takeS_any {ka i : Nat} (hA : AtF ka i) {nm : List UInt8} {C : Array Value} {u0 : Value} (hu : C[i]? = some u0) {bs B d : Nat} {S : Nat → Prop} {v : Value} {j : J} (w : World) (hs : w.heap[bs]? = some (.cells C 41 (0,0))) (hJ : JAt S w d v j) (hB : Bx nm ka 68 89 B w) :
 Calls Tryz.prog 204 #[.pointer (some ⟨bs,0,none⟩),v,.pointer (some ⟨B + 3,0,none⟩),.pointer (some ⟨B,0,none⟩),.pointer (some ⟨B + 1,0,none⟩)] w (TkRet w bs C i (.string ⟨(tellG ([] : List UInt8) txtS j nm).1.toArray⟩) (tellG ([] : List UInt8) txtS j nm).2) := by
 have TE := Lib.hid (fun (w' : World) (hb : Below w.heap.size w w') => FText_any S d v j nm w' (hJ.below hb (Nat.le_refl _)))
 have HA := Lib.hid (show ∀ (b : Nat) (w : World),Calls Tryz.prog ka #[.pointer (some ⟨b,0,none⟩)] w (fun e w' => e = .returned (.pointer (some ⟨b,i,none⟩)) ∧ w = w') from hA.at_)
 have hE := hA.ent
 unfold Ent at hE
 generalize tellG ([] : List UInt8) txtS j nm = R at *
 obtain ⟨r1,r2⟩ := R
 obtain ⟨k,m,e,t,an,nn,cn,ai,ni,ci,rfl⟩ := jAt_form hJ
 simp only at TE ⊢
 have X0 := hB.below (belowOne w (.cells #[.int .i64 k,.int .i64 m,.int .i64 e,.string t,.slice an nn cn,.slice ai ni ci] 58))
 have q0 := X0.q
 have n0 := X0.n
 have HX := Lib.hid hB
 have HS := Lib.hid hs
 have HU := Lib.hid hu
 clear X0 hB hJ hs hu hA
 go_enter Tryz.func204,Tryz.ntmps204
 go_wp2_with (first
  | (go_at_call 89;(with_reducible refine (TE.out _ (belowOne _ _)).mono ?_);rintro e1 w1 ⟨rfl,hb1⟩;have HB1 := Lib.hid (Dec.below_call hb1);have a1 := (HX.out.below HB1.out).a;have s1 := (HB1.out.block _ (Own.block_lt HS.out)).trans HS.out;have f1 := free_of s1 i;have c1 := (cell_of_row _ _ _ _ _ _ s1).trans HU.out;have HS1 := Lib.hid s1;clear s1)
  | ((with_reducible refine (HA.out _ _).mono ?_);rintro e2 w2 ⟨rfl,rfl⟩))
 go_ret
 exact tk_set HB1.out HS1.out
set_option maxRecDepth 100000 in
theorem newB_any (nm : List UInt8) (ka : Nat) (w : World) : Calls Tryz.prog 181 #[.string ⟨nm.toArray⟩,.func (.func ka) #[] #[],.func (.func 154) #[] #[],.func (.func 124) #[] #[]] w (PRet nm ka 154 124 205 206 w) := by
 go_enter Tryz.func181,Tryz.ntmps181
 go_upto_region 1 with fail
 have hF := four_boxes w ⟨nm.toArray⟩ ka 154 124 9 180 87 92 (.cells #[.string ⟨#[]⟩,.nilFunc,.nilFunc] 140)
 simp only at hF
 generalize (((((w.alloc (.cells #[.string ⟨nm.toArray⟩] 9)).alloc (.cells #[.func (.func ka) #[] #[]] 180)).alloc (.cells #[.func (.func 154) #[] #[]] 87)).alloc (.cells #[.func (.func 124) #[] #[]] 92)).alloc (.cells #[.string ⟨#[]⟩,.nilFunc,.nilFunc] 140)) = w5 at *
 obtain ⟨x0,x1,x2,x3,x4,hsz,hb⟩ := hF
 have n0 := one_cell x0
 obtain ⟨z0,z1,z2⟩ := three_cells' x4
 have g0 := free_of x4 0
 have g1 := free_of x4 1
 have g2 := free_of x4 2
 have HX : Hid (Bx nm ka 154 124 w.heap.size w5) := ⟨one_cell x0,one_cell x1,one_cell x2,one_cell x3,by omega⟩
 have HB := Lib.hid hb
 have HSZ := Lib.hid hsz
 clear x0 x1 x2 x3 x4 hb hsz
 rw [show w.heap.size + 1 + 1 + 1 + 1 = w.heap.size + 4 from rfl,show w.heap.size + 1 + 1 + 1 = w.heap.size + 3 from rfl,show w.heap.size + 1 + 1 = w.heap.size + 2 from rfl]
 go_wp2_with fail
 refine bodyPost_ret (v := partV nm 205 206 w.heap.size) (by simp [results,Tryz.results181,go_sem,partV,z0,z1,z2]) rfl ?_
 refine ⟨w.heap.size,rfl,?_,Nat.le_refl _,((HB.out.setCell (p := ⟨w.heap.size + 4,0,none⟩) (by simp) _).setCell (p := ⟨w.heap.size + 4,1,none⟩) (by simp) _).setCell (p := ⟨w.heap.size + 4,2,none⟩) (by simp) _⟩
 have hX := HX.out
 refine ⟨?_,?_,?_,?_,by simp only [size_set];have := hX.lt;omega⟩
 ·rw [cell_set_other,cell_set_other,cell_set_other] <;> first | exact hX.n | (simp)
 ·rw [cell_set_other,cell_set_other,cell_set_other] <;> first | exact hX.a | (simp)
 ·rw [cell_set_other,cell_set_other,cell_set_other] <;> first | exact hX.l | (simp)
 ·rw [cell_set_other,cell_set_other,cell_set_other] <;> first | exact hX.q | (simp)
set_option maxRecDepth 100000 in
theorem layB_any {ka i : Nat} (hA : AtF ka i) {nm : List UInt8} {C : Array Value} (n : Bool) (hi : C[i]? = some (.bool n)) {B : Nat} (w : World) (hB : Bx nm ka 154 124 B w) : Calls Tryz.prog 205 #[.agg C,.pointer (some ⟨B + 2,0,none⟩),.pointer (some ⟨B + 1,0,none⟩)] w (Ret (bareV (if n = true then 3 else 2) 0 0 []) w) := by
 have HCALL := Lib.hid (fun (wz : World) => (yes_any n wz))
 generalize (if n = true then (3 : Int) else 2) = kk at *
 go_enter Tryz.func205,Tryz.ntmps205
 go_upto_region 1 with fail
 obtain ⟨w2,hw2⟩ : ∃ w2,((w.alloc (.cells C 41)).alloc (.cells #[.int .i64 0,.int .i64 0,.int .i64 0,.string ⟨#[]⟩,.slice none 0 0,.slice none 0 0] 58)) = w2 := ⟨_,rfl⟩
 have HBOX : Hid (w2.heap[w.heap.size]? = some (.cells C 41 (0,0))) := by show _ = _;rw [← hw2];exact two_old _ _ _
 have HRES : Hid (w2.heap[w.heap.size + 1]? = some (.cells #[.int .i64 0,.int .i64 0,.int .i64 0,.string ⟨#[]⟩,.slice none 0 0,.slice none 0 0] 58 (0,0))) := by show _ = _;rw [← hw2];exact two_new _ _ _
 have HB2 : Hid (Below w.heap.size w w2) := by show Below _ _ _;rw [← hw2];exact belowTwo _ _ _
 have HX := Lib.hid (hB.below HB2.out)
 have hlb := Own.block_lt HBOX.out
 have hlr := Own.block_lt HRES.out
 have hs2 := HB2.out.size
 have HI := Lib.hid hi
 rw [hw2]
 clear hw2 hi hB
 refine wp_region_grow mixed8 (fun zs => { tmps := List.toArray (Value.agg C :: Value.pointer (some ⟨B + 2,0,none⟩) :: Value.pointer (some ⟨B + 1,0,none⟩) :: Value.pointer (some ⟨w.heap.size,0,none⟩) :: Value.pointer (some ⟨w.heap.size + 1,0,none⟩) :: zs.getD 0 undef :: zs.getD 1 undef :: zs.getD 2 undef :: zs.getD 3 undef :: zs.getD 4 undef :: zs.getD 5 undef :: []),defers := [] }) [(fun z _ => z = Value.func (.func 154) #[] #[]),(fun z _ => z = Value.func (.func ka) #[] #[]),(fun z _ => z = Value.pointer (some ⟨w.heap.size,i,none⟩)),(fun z _ => z = Value.pointer (some ⟨w.heap.size,i,none⟩)),(fun z _ => z = (.bool n)),(fun z _ => z = (bareV kk 0 0 []))] (List.replicate 6 undef) rfl rfl rfl ?_ (by kernel_rfl) (by kernel_rfl) ?_ ?_
 ·intro p hp
  simp only [List.mem_cons,List.not_mem_nil,or_false] at hp
  rcases hp with rfl | rfl | rfl | rfl | rfl | rfl
  all_goals exact stable_eq _
 ·intro i' hi' zs l wz o hz hF ho hpre
  have hi2 : i' < 6 := hi'
  match zs,(show zs.length = 6 from hz) with
  | [z0,z1,z2,z3,z4,z5],_ =>
    clear hz hi'
    change wpOp _ _ _ _ _ { tmps := List.toArray (Value.agg C :: Value.pointer (some ⟨B + 2,0,none⟩) :: Value.pointer (some ⟨B + 1,0,none⟩) :: Value.pointer (some ⟨w.heap.size,0,none⟩) :: Value.pointer (some ⟨w.heap.size + 1,0,none⟩) :: z0 :: z1 :: z2 :: z3 :: z4 :: z5 :: []),defers := [] } _
    have hc : i' = 0 ∨ i' = 1 ∨ i' = 2 ∨ i' = 3 ∨ i' = 4 ∨ i' = 5 := by omega
    clear hi2
    rcases hc with rfl | rfl | rfl | rfl | rfl | rfl
    ·have y0 := (HX.out.below hF.bel).l
     clear ho hpre
     refine wpOp_here rfl (fun K' hK => ?_)
     go_simp
     exact hK _ _ ⟨_,rfl,Below.refl _ _,fun p hp => by cases (show some (fun z _ => z = Value.func (.func 154) #[] #[]) = some p from hp);exact rfl⟩
    ·have y0 := (HX.out.below hF.bel).a
     clear ho hpre
     refine wpOp_here rfl (fun K' hK => ?_)
     go_simp
     exact hK _ _ ⟨_,rfl,Below.refl _ _,fun p hp => by cases (show some (fun z _ => z = Value.func (.func ka) #[] #[]) = some p from hp);exact rfl⟩
    ·have p1 := hF.fact 1 _ _ rfl rfl (hpre ⟨1,.data⟩ (by cases ho;simp) rfl)
     subst p1
     clear ho hpre
     have hE := hA.ent
     unfold Ent at hE
     refine wpOp_here rfl (fun K' hK => ?_)
     go_simp
     refine (hA.at_ _ _).mono ?_
     rintro e6 w6 ⟨rfl,rfl⟩
     exact hK _ _ ⟨_,rfl,Below.refl _ _,fun p hp => by cases (show some (fun z _ => z = Value.pointer (some ⟨w.heap.size,i,none⟩)) = some p from hp);exact rfl⟩
    ·have p2 := hF.fact 2 _ _ rfl rfl (hpre ⟨2,.data⟩ (by cases ho;simp) rfl)
     subst p2
     clear ho hpre
     refine wpOp_here rfl (fun K' hK => ?_)
     go_simp
     exact hK _ _ ⟨_,rfl,Below.refl _ _,fun p hp => by cases (show some (fun z _ => z = Value.pointer (some ⟨w.heap.size,i,none⟩)) = some p from hp);exact rfl⟩
    ·have p3 := hF.fact 3 _ _ rfl rfl (hpre ⟨3,.data⟩ (by cases ho;simp) rfl)
     have y0 : wz.cell? ⟨w.heap.size,i,none⟩ = some (.bool n) := (cell_of_row _ _ _ _ _ _ ((hF.bel.block _ hlb).trans HBOX.out)).trans HI.out
     subst p3
     clear ho hpre
     refine wpOp_here rfl (fun K' hK => ?_)
     go_simp
     exact hK _ _ ⟨_,rfl,Below.refl _ _,fun p hp => by cases (show some (fun z _ => z = (.bool n)) = some p from hp);exact rfl⟩
    ·have p0 := hF.fact 0 _ _ rfl rfl (hpre ⟨0,.data⟩ (by cases ho;simp) rfl)
     have p4 := hF.fact 4 _ _ rfl rfl (hpre ⟨4,.data⟩ (by cases ho;simp) rfl)
     subst p0 p4
     clear ho hpre
     refine wpOp_here rfl (fun K' hK => ?_)
     go_simp
     refine (HCALL.out wz).mono ?_
     rintro e6 w6 ⟨rfl,hb6⟩
     exact hK _ _ ⟨_,rfl,hb6,fun p hp => by cases (show some (fun z _ => z = (bareV kk 0 0 [])) = some p from hp);exact rfl⟩
 ·intro zs wz hz hB hev
  match zs,(show zs.length = 6 from hz) with
  | [z0,z1,z2,z3,z4,z5],_ =>
    have p5 := hev 5 _ _ rfl rfl
    clear hev hz
    change wpOp _ _ _ _ _ { tmps := List.toArray (Value.agg C :: Value.pointer (some ⟨B + 2,0,none⟩) :: Value.pointer (some ⟨B + 1,0,none⟩) :: Value.pointer (some ⟨w.heap.size,0,none⟩) :: Value.pointer (some ⟨w.heap.size + 1,0,none⟩) :: z0 :: z1 :: z2 :: z3 :: z4 :: z5 :: []),defers := [] } _
    subst p5
    have y0 := (hB.block _ hlr).trans HRES.out
    obtain ⟨⟨c0,c1,c2,c3,c4,c5⟩,g0,g1,g2,g3,g4,g5⟩ := twelve_of y0
    have Y0 := Lib.hid y0
    clear y0
    unfold bareV
    refine wpOp_here rfl (fun K' hK => ?_)
    go_simp
    refine hK _ _ ?_
    go_wp2_with fail
    refine bodyPost_ret (v := bareV kk 0 0 []) (by simp [results,Tryz.results205,go_sem,bareV,c0,c1,c2,c3,c4,c5]) rfl ?_
    exact ⟨rfl,below_put6' (HB2.out.trans (hB.mono hs2)) (by omega) _ _ _ _ _ _⟩
set_option maxRecDepth 100000 in
theorem takeB_any {ka i : Nat} (hA : AtF ka i) {nm : List UInt8} {C : Array Value} {u0 : Value} (hu : C[i]? = some u0) {bs B d : Nat} {S : Nat → Prop} {v : Value} {j : J} (w : World) (hs : w.heap[bs]? = some (.cells C 41 (0,0))) (hJ : JAt S w d v j) (hB : Bx nm ka 154 124 B w) :
 Calls Tryz.prog 206 #[.pointer (some ⟨bs,0,none⟩),v,.pointer (some ⟨B + 3,0,none⟩),.pointer (some ⟨B,0,none⟩),.pointer (some ⟨B + 1,0,none⟩)] w (TkRet w bs C i (.bool (tellG false flagS j nm).1) (tellG false flagS j nm).2) := by
 have TE := Lib.hid (fun (w' : World) (hb : Below w.heap.size w w') => FFlag_any S d v j nm w' (hJ.below hb (Nat.le_refl _)))
 have HA := Lib.hid (show ∀ (b : Nat) (w : World),Calls Tryz.prog ka #[.pointer (some ⟨b,0,none⟩)] w (fun e w' => e = .returned (.pointer (some ⟨b,i,none⟩)) ∧ w = w') from hA.at_)
 have hE := hA.ent
 unfold Ent at hE
 generalize tellG false flagS j nm = R at *
 obtain ⟨r1,r2⟩ := R
 obtain ⟨k,m,e,t,an,nn,cn,ai,ni,ci,rfl⟩ := jAt_form hJ
 simp only at TE ⊢
 have X0 := hB.below (belowOne w (.cells #[.int .i64 k,.int .i64 m,.int .i64 e,.string t,.slice an nn cn,.slice ai ni ci] 58))
 have q0 := X0.q
 have n0 := X0.n
 have HX := Lib.hid hB
 have HS := Lib.hid hs
 have HU := Lib.hid hu
 clear X0 hB hJ hs hu hA
 go_enter Tryz.func206,Tryz.ntmps206
 go_wp2_with (first
  | (go_at_call 124;(with_reducible refine (TE.out _ (belowOne _ _)).mono ?_);rintro e1 w1 ⟨rfl,hb1⟩;have HB1 := Lib.hid (Dec.below_call hb1);have a1 := (HX.out.below HB1.out).a;have s1 := (HB1.out.block _ (Own.block_lt HS.out)).trans HS.out;have f1 := free_of s1 i;have c1 := (cell_of_row _ _ _ _ _ _ s1).trans HU.out;have HS1 := Lib.hid s1;clear s1)
  | ((with_reducible refine (HA.out _ _).mono ?_);rintro e2 w2 ⟨rfl,rfl⟩))
 go_ret
 exact tk_set HB1.out HS1.out
end Go.Proofs.YtmmbiknlicnamaaGreatDoor.Sta
namespace Go.Proofs.YtmmbiknlicnamaaGreatDoor.Sta
open Go.RowKit Js Lex Od
def kaL : List Nat := [131,132,134,135,136,138,139,140,141,142]
def klL : List Nat := [67,67,68,67,67,154,67,67,154,67]
def kqL : List Nat := [87,87,89,87,87,124,87,87,124,87]
def laL : List Nat := [201,201,203,201,201,205,201,201,205,201]
def taL : List Nat := [202,202,204,202,202,206,202,202,206,202]
def nm9 (k : Nat) : List UInt8 := names9.getD k []
def ka9 (k : Nat) : Nat := kaL.getD k 0
def kl9 (k : Nat) : Nat := klL.getD k 0
def kq9 (k : Nat) : Nat := kqL.getD k 0
def la9 (k : Nat) : Nat := laL.getD k 0
def ta9 (k : Nat) : Nat := taL.getD k 0
theorem at9_of : ∀ k,k < 10 → AtF (ka9 k) k := fun k hk => by
 obtain rfl | rfl | rfl | rfl | rfl | rfl | rfl | rfl | rfl | rfl : k = 0 ∨ k = 1 ∨ k = 2 ∨ k = 3 ∨ k = 4 ∨ k = 5 ∨ k = 6 ∨ k = 7 ∨ k = 8 ∨ k = 9 := by omega
 ·exact at0_any
 ·exact at1_any
 ·exact at2_any
 ·exact at3_any
 ·exact at4_any
 ·exact at5_any
 ·exact at6_any
 ·exact at7_any
 ·exact at8_any
 ·exact at9_any
structure Pt (lo k : Nat) (v : Value) (B : Nat) (w : World) : Prop where
 val : v = partV (nm9 k) (la9 k) (ta9 k) B
 box : Bx (nm9 k) (ka9 k) (kl9 k) (kq9 k) B w
 lo : lo ≤ B
theorem Pt.below {lo k B : Nat} {v : Value} {w w' : World} (h : Pt lo k v B w) (hb : Below w.heap.size w w') : Pt lo k v B w' := ⟨h.val,h.box.below hb,h.lo⟩
theorem flat3_get : ∀ {vs : List Value} (h : ∀ v ∈ vs,(aggC v).length = 3) (j i : Nat),j < vs.length → i < 3 → (vs.flatMap aggC)[j * 3 + i]? = (aggC (vs.getD j undef))[i]?
 | [],_,j,i,hj,_ => by simp at hj
 | x :: r,h,j,i,hj,hi => by
   have e : (x :: r).flatMap aggC = aggC x ++ r.flatMap aggC := rfl
   have h3 := h x (List.mem_cons_self ..)
   rw [e]
   cases j with
   | zero => rw [List.getElem?_append_left (by rw [h3];omega)];simp
   | succ j =>
     rw [List.getElem?_append_right (by rw [h3];omega),h3,show (j + 1) * 3 + i - 3 = j * 3 + i by omega,flat3_get (fun v hv => h v (List.mem_cons_of_mem _ hv)) j i (by simpa using hj) hi]
     simp
theorem parts_lit {w : World} {b : Nat} {T : TypeId} {fr : Nat × Nat} {us : List Value} (h : w.heap[b]? = some (.cells (us.flatMap aggC).toArray T fr)) (h3 : ∀ u ∈ us,(aggC u).length = 3) {k : Nat} (hk : k < us.length) : LiesAt w b (k * 3) (us.getD k undef) := fun q c hq => by
 have hm : us.getD k undef ∈ us := by
  rw [List.getD_eq_getElem?_getD,List.getElem?_eq_getElem hk]
  exact List.getElem_mem _
 have hq3 : q < 3 := by
  have := (List.getElem?_eq_some_iff.1 hq).1
  rw [h3 _ hm] at this
  exact this
 rw [cell_of_row _ _ _ _ _ _ h,← hq,← flat3_get h3 k q hk hq3]
 simp
def PsRet (w : World) (e : Ending) (w' : World) : Prop := ∃ b,e = .returned (.slice (some ⟨b,0,none⟩) 10 10) ∧ w.heap.size ≤ b ∧ b < w'.heap.size ∧ (∀ k,k < 10 → ∃ v B,LiesAt w' b (k * 3) v ∧ Pt w.heap.size k v B w') ∧ Below w.heap.size w w'
set_option maxRecDepth 100000 in
theorem numPart_any (nm : List UInt8) (ka : Nat) (w : World) : Calls Tryz.prog 130 #[.string ⟨nm.toArray⟩,.func (.func ka) #[] #[]] w (PRet nm ka 67 87 201 202 w) := by
 have NW := Lib.hid (fun (w' : World) => newI_any nm ka w')
 unfold PRet partV at NW
 go_enter Tryz.func130,Tryz.ntmps130
 go_wp2_with (go_at_call 179;(with_reducible refine (NW.out _).mono ?_);rintro e1 w1 ⟨B1,rfl,hx1,hl1,hb1⟩;have x1 := (hb1.block _ (by simp)).trans (heap_alloc_new w _);have hl := Own.block_lt x1;obtain ⟨z0,z1,z2⟩ := three_cells' x1;have g0 := free_of x1 0;have g1 := free_of x1 1;have g2 := free_of x1 2)
 refine bodyPost_ret (v := partV nm 201 202 B1) (by simp [results,Tryz.results130,go_sem,partV,z0,z1,z2]) rfl ?_
 have hbw := Dec.below_call hb1
 have hlw : w.heap.size + 1 ≤ B1 := by simpa using hl1
 refine ⟨B1,rfl,?_,by omega,((hbw.setCell (p := ⟨w.heap.size,0,none⟩) (Nat.le_refl _) _).setCell (p := ⟨w.heap.size,1,none⟩) (Nat.le_refl _) _).setCell (p := ⟨w.heap.size,2,none⟩) (Nat.le_refl _) _⟩
 refine hx1.keep (fun k hk hkl => ?_) (by simp [size_set])
 rw [heap_setCell_other _ _ _ _ (by show k ≠ w.heap.size;omega),heap_setCell_other _ _ _ _ (by show k ≠ w.heap.size;omega),heap_setCell_other _ _ _ _ (by show k ≠ w.heap.size;omega)]
set_option maxRecDepth 100000 in
theorem textPart_any (nm : List UInt8) (ka : Nat) (w : World) : Calls Tryz.prog 133 #[.string ⟨nm.toArray⟩,.func (.func ka) #[] #[]] w (PRet nm ka 68 89 203 204 w) := by
 have NW := Lib.hid (fun (w' : World) => newS_any nm ka w')
 unfold PRet partV at NW
 go_enter Tryz.func133,Tryz.ntmps133
 go_wp2_with (go_at_call 180;(with_reducible refine (NW.out _).mono ?_);rintro e1 w1 ⟨B1,rfl,hx1,hl1,hb1⟩;have x1 := (hb1.block _ (by simp)).trans (heap_alloc_new w _);have hl := Own.block_lt x1;obtain ⟨z0,z1,z2⟩ := three_cells' x1;have g0 := free_of x1 0;have g1 := free_of x1 1;have g2 := free_of x1 2)
 refine bodyPost_ret (v := partV nm 203 204 B1) (by simp [results,Tryz.results133,go_sem,partV,z0,z1,z2]) rfl ?_
 have hbw := Dec.below_call hb1
 have hlw : w.heap.size + 1 ≤ B1 := by simpa using hl1
 refine ⟨B1,rfl,?_,by omega,((hbw.setCell (p := ⟨w.heap.size,0,none⟩) (Nat.le_refl _) _).setCell (p := ⟨w.heap.size,1,none⟩) (Nat.le_refl _) _).setCell (p := ⟨w.heap.size,2,none⟩) (Nat.le_refl _) _⟩
 refine hx1.keep (fun k hk hkl => ?_) (by simp [size_set])
 rw [heap_setCell_other _ _ _ _ (by show k ≠ w.heap.size;omega),heap_setCell_other _ _ _ _ (by show k ≠ w.heap.size;omega),heap_setCell_other _ _ _ _ (by show k ≠ w.heap.size;omega)]
set_option maxRecDepth 100000 in
theorem flagPart_any (nm : List UInt8) (ka : Nat) (w : World) : Calls Tryz.prog 137 #[.string ⟨nm.toArray⟩,.func (.func ka) #[] #[]] w (PRet nm ka 154 124 205 206 w) := by
 have NW := Lib.hid (fun (w' : World) => newB_any nm ka w')
 unfold PRet partV at NW
 go_enter Tryz.func137,Tryz.ntmps137
 go_wp2_with (go_at_call 181;(with_reducible refine (NW.out _).mono ?_);rintro e1 w1 ⟨B1,rfl,hx1,hl1,hb1⟩;have x1 := (hb1.block _ (by simp)).trans (heap_alloc_new w _);have hl := Own.block_lt x1;obtain ⟨z0,z1,z2⟩ := three_cells' x1;have g0 := free_of x1 0;have g1 := free_of x1 1;have g2 := free_of x1 2)
 refine bodyPost_ret (v := partV nm 205 206 B1) (by simp [results,Tryz.results137,go_sem,partV,z0,z1,z2]) rfl ?_
 have hbw := Dec.below_call hb1
 have hlw : w.heap.size + 1 ≤ B1 := by simpa using hl1
 refine ⟨B1,rfl,?_,by omega,((hbw.setCell (p := ⟨w.heap.size,0,none⟩) (Nat.le_refl _) _).setCell (p := ⟨w.heap.size,1,none⟩) (Nat.le_refl _) _).setCell (p := ⟨w.heap.size,2,none⟩) (Nat.le_refl _) _⟩
 refine hx1.keep (fun k hk hkl => ?_) (by simp [size_set])
 rw [heap_setCell_other _ _ _ _ (by show k ≠ w.heap.size;omega),heap_setCell_other _ _ _ _ (by show k ≠ w.heap.size;omega),heap_setCell_other _ _ _ _ (by show k ≠ w.heap.size;omega)]
set_option maxRecDepth 100000 in
theorem parts9_any (w : World) : Calls Tryz.prog 97 #[] w (PsRet w) := by
 have N0 := Lib.hid (fun (w' : World) => numPart_any hdrL 131 w')
 unfold PRet partV hdrL at N0
 have N1 := Lib.hid (fun (w' : World) => numPart_any bootL 132 w')
 unfold PRet partV bootL at N1
 have N2 := Lib.hid (fun (w' : World) => textPart_any serL 134 w')
 unfold PRet partV serL at N2
 have N3 := Lib.hid (fun (w' : World) => numPart_any ordL 135 w')
 unfold PRet partV ordL at N3
 have N4 := Lib.hid (fun (w' : World) => numPart_any updL 136 w')
 unfold PRet partV updL at N4
 have N5 := Lib.hid (fun (w' : World) => flagPart_any liveL 138 w')
 unfold PRet partV liveL at N5
 have N6 := Lib.hid (fun (w' : World) => numPart_any lnidL 139 w')
 unfold PRet partV lnidL at N6
 have N7 := Lib.hid (fun (w' : World) => numPart_any lseqL 140 w')
 unfold PRet partV lseqL at N7
 have N8 := Lib.hid (fun (w' : World) => flagPart_any drivL 141 w')
 unfold PRet partV drivL at N8
 have N9 := Lib.hid (fun (w' : World) => numPart_any accL 142 w')
 unfold PRet partV accL at N9
 go_enter Tryz.func97,Tryz.ntmps97
 go_wp2_with (first
  | (go_at_call 130;(with_reducible refine (N0.out _).mono ?_);rintro e0 w0 ⟨B0,rfl,hx0,hl0,hb0⟩;have X0 := Lib.hid hx0;have L0 := Lib.hid hl0;have C0 := Lib.hid hb0;have HB0 := Lib.hid hb0;clear hx0 hl0 hb0)
  | (go_at_call 130;(with_reducible refine (N1.out _).mono ?_);rintro e1 w1 ⟨B1,rfl,hx1,hl1,hb1⟩;have X1 := Lib.hid hx1;have L1 := Lib.hid hl1;have C1 := Lib.hid hb1;have HB1 := Lib.hid (HB0.out.trans (hb1.mono HB0.out.size));clear hx1 hl1 hb1)
  | (go_at_call 133;(with_reducible refine (N2.out _).mono ?_);rintro e2 w2 ⟨B2,rfl,hx2,hl2,hb2⟩;have X2 := Lib.hid hx2;have L2 := Lib.hid hl2;have C2 := Lib.hid hb2;have HB2 := Lib.hid (HB1.out.trans (hb2.mono HB1.out.size));clear hx2 hl2 hb2)
  | (go_at_call 130;(with_reducible refine (N3.out _).mono ?_);rintro e3 w3 ⟨B3,rfl,hx3,hl3,hb3⟩;have X3 := Lib.hid hx3;have L3 := Lib.hid hl3;have C3 := Lib.hid hb3;have HB3 := Lib.hid (HB2.out.trans (hb3.mono HB2.out.size));clear hx3 hl3 hb3)
  | (go_at_call 130;(with_reducible refine (N4.out _).mono ?_);rintro e4 w4 ⟨B4,rfl,hx4,hl4,hb4⟩;have X4 := Lib.hid hx4;have L4 := Lib.hid hl4;have C4 := Lib.hid hb4;have HB4 := Lib.hid (HB3.out.trans (hb4.mono HB3.out.size));clear hx4 hl4 hb4)
  | (go_at_call 137;(with_reducible refine (N5.out _).mono ?_);rintro e5 w5 ⟨B5,rfl,hx5,hl5,hb5⟩;have X5 := Lib.hid hx5;have L5 := Lib.hid hl5;have C5 := Lib.hid hb5;have HB5 := Lib.hid (HB4.out.trans (hb5.mono HB4.out.size));clear hx5 hl5 hb5)
  | (go_at_call 130;(with_reducible refine (N6.out _).mono ?_);rintro e6 w6 ⟨B6,rfl,hx6,hl6,hb6⟩;have X6 := Lib.hid hx6;have L6 := Lib.hid hl6;have C6 := Lib.hid hb6;have HB6 := Lib.hid (HB5.out.trans (hb6.mono HB5.out.size));clear hx6 hl6 hb6)
  | (go_at_call 130;(with_reducible refine (N7.out _).mono ?_);rintro e7 w7 ⟨B7,rfl,hx7,hl7,hb7⟩;have X7 := Lib.hid hx7;have L7 := Lib.hid hl7;have C7 := Lib.hid hb7;have HB7 := Lib.hid (HB6.out.trans (hb7.mono HB6.out.size));clear hx7 hl7 hb7)
  | (go_at_call 137;(with_reducible refine (N8.out _).mono ?_);rintro e8 w8 ⟨B8,rfl,hx8,hl8,hb8⟩;have X8 := Lib.hid hx8;have L8 := Lib.hid hl8;have C8 := Lib.hid hb8;have HB8 := Lib.hid (HB7.out.trans (hb8.mono HB7.out.size));clear hx8 hl8 hb8)
  | (go_at_call 130;(with_reducible refine (N9.out _).mono ?_);rintro e9 w9 ⟨B9,rfl,hx9,hl9,hb9⟩;have X9 := Lib.hid hx9;have L9 := Lib.hid hl9;have C9 := Lib.hid hb9;have HB9 := Lib.hid (HB8.out.trans (hb9.mono HB8.out.size));clear hx9 hl9 hb9))
 go_ret
 have hblk : (w9.alloc (.cells (([partV (nm9 0) (la9 0) (ta9 0) B0,partV (nm9 1) (la9 1) (ta9 1) B1,partV (nm9 2) (la9 2) (ta9 2) B2,partV (nm9 3) (la9 3) (ta9 3) B3,partV (nm9 4) (la9 4) (ta9 4) B4,partV (nm9 5) (la9 5) (ta9 5) B5,partV (nm9 6) (la9 6) (ta9 6) B6,partV (nm9 7) (la9 7) (ta9 7) B7,partV (nm9 8) (la9 8) (ta9 8) B8,partV (nm9 9) (la9 9) (ta9 9) B9] : List Value).flatMap aggC).toArray 140)).heap[w9.heap.size]? = some (.cells (([partV (nm9 0) (la9 0) (ta9 0) B0,partV (nm9 1) (la9 1) (ta9 1) B1,partV (nm9 2) (la9 2) (ta9 2) B2,partV (nm9 3) (la9 3) (ta9 3) B3,partV (nm9 4) (la9 4) (ta9 4) B4,partV (nm9 5) (la9 5) (ta9 5) B5,partV (nm9 6) (la9 6) (ta9 6) B6,partV (nm9 7) (la9 7) (ta9 7) B7,partV (nm9 8) (la9 8) (ta9 8) B8,partV (nm9 9) (la9 9) (ta9 9) B9] : List Value).flatMap aggC).toArray 140 (0,0)) := heap_alloc_new _ _
 have h3 : ∀ u ∈ ([partV (nm9 0) (la9 0) (ta9 0) B0,partV (nm9 1) (la9 1) (ta9 1) B1,partV (nm9 2) (la9 2) (ta9 2) B2,partV (nm9 3) (la9 3) (ta9 3) B3,partV (nm9 4) (la9 4) (ta9 4) B4,partV (nm9 5) (la9 5) (ta9 5) B5,partV (nm9 6) (la9 6) (ta9 6) B6,partV (nm9 7) (la9 7) (ta9 7) B7,partV (nm9 8) (la9 8) (ta9 8) B8,partV (nm9 9) (la9 9) (ta9 9) B9] : List Value),(aggC u).length = 3 := fun u hu => by
  simp only [List.mem_cons,List.not_mem_nil,or_false] at hu
  rcases hu with rfl | rfl | rfl | rfl | rfl | rfl | rfl | rfl | rfl | rfl <;> rfl
 have HA := belowOne w9 (.cells (([partV (nm9 0) (la9 0) (ta9 0) B0,partV (nm9 1) (la9 1) (ta9 1) B1,partV (nm9 2) (la9 2) (ta9 2) B2,partV (nm9 3) (la9 3) (ta9 3) B3,partV (nm9 4) (la9 4) (ta9 4) B4,partV (nm9 5) (la9 5) (ta9 5) B5,partV (nm9 6) (la9 6) (ta9 6) B6,partV (nm9 7) (la9 7) (ta9 7) B7,partV (nm9 8) (la9 8) (ta9 8) B8,partV (nm9 9) (la9 9) (ta9 9) B9] : List Value).flatMap aggC).toArray 140)
 have hsz := HB9.out.size
 have D8 := Lib.hid C9.out
 have D7 := Lib.hid (C8.out.trans (D8.out.mono C8.out.size))
 have D6 := Lib.hid (C7.out.trans (D7.out.mono C7.out.size))
 have D5 := Lib.hid (C6.out.trans (D6.out.mono C6.out.size))
 have D4 := Lib.hid (C5.out.trans (D5.out.mono C5.out.size))
 have D3 := Lib.hid (C4.out.trans (D4.out.mono C4.out.size))
 have D2 := Lib.hid (C3.out.trans (D3.out.mono C3.out.size))
 have D1 := Lib.hid (C2.out.trans (D2.out.mono C2.out.size))
 have D0 := Lib.hid (C1.out.trans (D1.out.mono C1.out.size))
 refine ⟨w9.heap.size,rfl,hsz,by simp,fun k hk => ?_,HB9.out.alloc hsz _⟩
 refine ⟨([partV (nm9 0) (la9 0) (ta9 0) B0,partV (nm9 1) (la9 1) (ta9 1) B1,partV (nm9 2) (la9 2) (ta9 2) B2,partV (nm9 3) (la9 3) (ta9 3) B3,partV (nm9 4) (la9 4) (ta9 4) B4,partV (nm9 5) (la9 5) (ta9 5) B5,partV (nm9 6) (la9 6) (ta9 6) B6,partV (nm9 7) (la9 7) (ta9 7) B7,partV (nm9 8) (la9 8) (ta9 8) B8,partV (nm9 9) (la9 9) (ta9 9) B9] : List Value).getD k undef,?_⟩
 obtain rfl | rfl | rfl | rfl | rfl | rfl | rfl | rfl | rfl | rfl : k = 0 ∨ k = 1 ∨ k = 2 ∨ k = 3 ∨ k = 4 ∨ k = 5 ∨ k = 6 ∨ k = 7 ∨ k = 8 ∨ k = 9 := by omega
 ·exact ⟨B0,parts_lit hblk h3 (k := 0) (show 0 < 10 by omega),rfl,(show Bx (nm9 0) (ka9 0) (kl9 0) (kq9 0) B0 w9 from (X0.out.below D0.out)).below HA,L0.out⟩
 ·exact ⟨B1,parts_lit hblk h3 (k := 1) (show 1 < 10 by omega),rfl,(show Bx (nm9 1) (ka9 1) (kl9 1) (kq9 1) B1 w9 from (X1.out.below D1.out)).below HA,by have := L1.out;have := HB0.out.size;omega⟩
 ·exact ⟨B2,parts_lit hblk h3 (k := 2) (show 2 < 10 by omega),rfl,(show Bx (nm9 2) (ka9 2) (kl9 2) (kq9 2) B2 w9 from (X2.out.below D2.out)).below HA,by have := L2.out;have := HB1.out.size;omega⟩
 ·exact ⟨B3,parts_lit hblk h3 (k := 3) (show 3 < 10 by omega),rfl,(show Bx (nm9 3) (ka9 3) (kl9 3) (kq9 3) B3 w9 from (X3.out.below D3.out)).below HA,by have := L3.out;have := HB2.out.size;omega⟩
 ·exact ⟨B4,parts_lit hblk h3 (k := 4) (show 4 < 10 by omega),rfl,(show Bx (nm9 4) (ka9 4) (kl9 4) (kq9 4) B4 w9 from (X4.out.below D4.out)).below HA,by have := L4.out;have := HB3.out.size;omega⟩
 ·exact ⟨B5,parts_lit hblk h3 (k := 5) (show 5 < 10 by omega),rfl,(show Bx (nm9 5) (ka9 5) (kl9 5) (kq9 5) B5 w9 from (X5.out.below D5.out)).below HA,by have := L5.out;have := HB4.out.size;omega⟩
 ·exact ⟨B6,parts_lit hblk h3 (k := 6) (show 6 < 10 by omega),rfl,(show Bx (nm9 6) (ka9 6) (kl9 6) (kq9 6) B6 w9 from (X6.out.below D6.out)).below HA,by have := L6.out;have := HB5.out.size;omega⟩
 ·exact ⟨B7,parts_lit hblk h3 (k := 7) (show 7 < 10 by omega),rfl,(show Bx (nm9 7) (ka9 7) (kl9 7) (kq9 7) B7 w9 from (X7.out.below D7.out)).below HA,by have := L7.out;have := HB6.out.size;omega⟩
 ·exact ⟨B8,parts_lit hblk h3 (k := 8) (show 8 < 10 by omega),rfl,(show Bx (nm9 8) (ka9 8) (kl9 8) (kq9 8) B8 w9 from (X8.out.below D8.out)).below HA,by have := L8.out;have := HB7.out.size;omega⟩
 ·exact ⟨B9,parts_lit hblk h3 (k := 9) (show 9 < 10 by omega),rfl,(show Bx (nm9 9) (ka9 9) (kl9 9) (kq9 9) B9 w9 from X9.out).below HA,by have := L9.out;have := HB8.out.size;omega⟩
end Go.Proofs.YtmmbiknlicnamaaGreatDoor.Sta
namespace Go.Proofs.YtmmbiknlicnamaaGreatDoor.Sta
open Go.RowKit Js Lex Od
def bare9 (x : S9) (k : Nat) : Value := [bareV 4 (Dec.mk x.h 0).1 (Dec.mk x.h 0).2.1 [],bareV 4 (Dec.mk x.b 0).1 (Dec.mk x.b 0).2.1 [],bareV 5 0 0 x.v,bareV 4 (Dec.mk x.o 0).1 (Dec.mk x.o 0).2.1 [],bareV 4 (Dec.mk x.u 0).1 (Dec.mk x.u 0).2.1 [],
 bareV (if x.lv = true then 3 else 2) 0 0 [],bareV 4 (Dec.mk x.n 0).1 (Dec.mk x.n 0).2.1 [],bareV 4 (Dec.mk x.q 0).1 (Dec.mk x.q 0).2.1 [],bareV (if x.dr = true then 3 else 2) 0 0 [],bareV 4 (Dec.mk x.ac 0).1 (Dec.mk x.ac 0).2.1 []].getD k undef
theorem bare9_form (x : S9) (k : Nat) (hk : k < 10) : ∃ a m e t,bare9 x k = .agg #[.int .i64 a,.int .i64 m,.int .i64 e,.string t,.slice none 0 0,.slice none 0 0] := by
 obtain rfl | rfl | rfl | rfl | rfl | rfl | rfl | rfl | rfl | rfl : k = 0 ∨ k = 1 ∨ k = 2 ∨ k = 3 ∨ k = 4 ∨ k = 5 ∨ k = 6 ∨ k = 7 ∨ k = 8 ∨ k = 9 := by omega
 all_goals exact ⟨_,_,_,_,rfl⟩
theorem lay9_part {x : S9} (hr : rightT Tp.nameB x = true) {k : Nat} (hk : k < 10) {lo B : Nat} {v : Value} {w : World} (hP : Pt lo k v B w) : Calls Tryz.prog (la9 k) #[.agg (sC x),.pointer (some ⟨B + 2,0,none⟩),.pointer (some ⟨B + 1,0,none⟩)] w (Ret (bare9 x k) w) := by
 have hA := at9_of k hk
 have hB := hP.box
 obtain ⟨h1,h2,h3,h4,h5,h6,h7,h8⟩ := rightT_parts hr
 obtain rfl | rfl | rfl | rfl | rfl | rfl | rfl | rfl | rfl | rfl : k = 0 ∨ k = 1 ∨ k = 2 ∨ k = 3 ∨ k = 4 ∨ k = 5 ∨ k = 6 ∨ k = 7 ∨ k = 8 ∨ k = 9 := by omega
 ·exact layI_any hA x.h h1 rfl w hB
 ·exact layI_any hA x.b h2 rfl w hB
 ·exact layS_any hA x.v rfl w hB
 ·exact layI_any hA x.o h3 rfl w hB
 ·exact layI_any hA x.u h4 rfl w hB
 ·exact layB_any hA x.lv rfl w hB
 ·exact layI_any hA x.n h5 rfl w hB
 ·exact layI_any hA x.q h6 rfl w hB
 ·exact layB_any hA x.dr rfl w hB
 ·exact layI_any hA x.ac h7 rfl w hB
theorem bare9_jat {S : Nat → Prop} {x : S9} (hr : rightT Tp.nameB x = true) {k : Nat} (hk : k < 10) {w : World} : JAt S w 15 (bare9 x k) ((items9 x).getD k j0) := by
 obtain ⟨h1,h2,h3,h4,h5,h6,h7,h8⟩ := rightT_parts hr
 have ht : txtB x.v := by have := (Tp.name_len h8).2;unfold txtB;omega
 obtain rfl | rfl | rfl | rfl | rfl | rfl | rfl | rfl | rfl | rfl : k = 0 ∨ k = 1 ∨ k = 2 ∨ k = 3 ∨ k = 4 ∨ k = 5 ∨ k = 6 ∨ k = 7 ∨ k = 8 ∨ k = 9 := by omega
 ·exact (num_jat h1).deep (by omega)
 ·exact (num_jat h2).deep (by omega)
 ·exact (str_jat ht).deep (by omega)
 ·exact (num_jat h3).deep (by omega)
 ·exact (num_jat h4).deep (by omega)
 ·exact (flag_jat x.lv).deep (by omega)
 ·exact (num_jat h5).deep (by omega)
 ·exact (num_jat h6).deep (by omega)
 ·exact (flag_jat x.dr).deep (by omega)
 ·exact (num_jat h7).deep (by omega)
theorem la9_ent : ∀ k,k < 10 → Ent (la9 k) := fun k hk => by
 obtain rfl | rfl | rfl | rfl | rfl | rfl | rfl | rfl | rfl | rfl : k = 0 ∨ k = 1 ∨ k = 2 ∨ k = 3 ∨ k = 4 ∨ k = 5 ∨ k = 6 ∨ k = 7 ∨ k = 8 ∨ k = 9 := by omega
 ·exact Tryz.call201
 ·exact Tryz.call201
 ·exact Tryz.call203
 ·exact Tryz.call201
 ·exact Tryz.call201
 ·exact Tryz.call205
 ·exact Tryz.call201
 ·exact Tryz.call201
 ·exact Tryz.call205
 ·exact Tryz.call201
theorem take_snoc9 {α : Type} {z : α} {l : List α} {q : Nat} (h : q < l.length) : l.take (q + 1) = l.take q ++ [l.getD q z] := by
 rw [List.take_succ_eq_append_getElem h,List.getD_eq_getElem?_getD,List.getElem?_eq_getElem h];rfl
structure LS (w : World) (C : Array Value) (wr : World) : Prop where
 bel : Below w.heap.size w wr
 box : wr.heap[w.heap.size]? = some (.cells C 41 (0,0))
 res : wr.heap[w.heap.size + 1]? = some (.cells #[.int .i64 0,.int .i64 0,.int .i64 0,.string ⟨#[]⟩,.slice none 0 0,.slice none 0 0] 58 (0,0))
theorem LS.below {w wr w' : World} {C : Array Value} (h : LS w C wr) (hb : Below wr.heap.size wr w') : LS w C w' := ⟨h.bel.trans (hb.mono h.bel.size),(hb.block _ (Own.block_lt h.box)).trans h.box,(hb.block _ (Own.block_lt h.res)).trans h.res⟩
theorem three_lies {w : World} {b off : Nat} {c0 c1 c2 : Value} (h : LiesAt w b off (.agg #[c0,c1,c2])) : w.cell? ⟨b,off,none⟩ = some c0 ∧ w.cell? ⟨b,off + 1,none⟩ = some c1 ∧ w.cell? ⟨b,off + 2,none⟩ = some c2 := ⟨h 0 c0 rfl,h 1 c1 rfl,h 2 c2 rfl⟩
set_option maxRecDepth 100000 in
theorem layState_any (x : S9) (w : World) (hr : rightT Tp.nameB x = true) : Calls Tryz.prog 57 #[sV x] w (CRet w 16 (layJ9 x)) := by
 obtain ⟨i0,hi0,hz0,hz1,hz2⟩ := info_parts json_info
 obtain ⟨i1,hi1,hx0,hx1,hx2⟩ := info_parts str_info2
 have PA := Lib.hid (fun (w' : World) => parts9_any w')
 unfold PsRet at PA
 have LP := Lib.hid (show ∀ (q : Nat),q < 10 → ∀ (B : Nat) (w' : World),(∃ lo v,Pt lo q v B w') → Calls Tryz.prog (la9 q) #[.agg (sC x),.pointer (some ⟨B + 2,0,none⟩),.pointer (some ⟨B + 1,0,none⟩)] w' (Ret (bare9 x q) w') from fun q hq B w' ⟨lo,v,hP⟩ => lay9_part hr hq hP)
 have BJ := Lib.hid (fun (q : Nat) (hq : q < 10) (S : Nat → Prop) (w' : World) => bare9_jat (S := S) (w := w') hr hq)
 have BF := Lib.hid (fun (q : Nat) (hq : q < 10) => bare9_form x q hq)
 have HML := Lib.hid (mk_lay x)
 have HLI : Hid ((items9 x).length = 10) := rfl
 have HLN : Hid (names9.length = 10) := rfl
 have HTX : Hid (∀ q,q < 10 → txtB (nm9 q)) := by
  intro q hq
  obtain rfl | rfl | rfl | rfl | rfl | rfl | rfl | rfl | rfl | rfl : q = 0 ∨ q = 1 ∨ q = 2 ∨ q = 3 ∨ q = 4 ∨ q = 5 ∨ q = 6 ∨ q = 7 ∨ q = 8 ∨ q = 9 := by omega
  all_goals (unfold txtB;decide)
 unfold sV
 generalize items9 x = IS at *
 obtain ⟨NS,HNS⟩ : ∃ NS,Hid (names9 = NS) := ⟨_,rfl⟩
 have HNM : Hid (∀ q,nm9 q = NS.getD q []) := fun q => by rw [← HNS.out];rfl
 rw [HNS.out] at HML HLN
 generalize layJ9 x = LJ at *
 have HBF : Hid (∃ f : Nat → Value,∀ q,bare9 x q = f q) := ⟨_,fun _ => rfl⟩
 obtain ⟨bf,HBE⟩ := HBF.out
 simp only [HBE] at LP BJ BF
 clear HBE HBF hr
 have HC10 : Hid (∃ c0 c1 c2 c3 c4 c5 c6 c7 c8 c9,sC x = #[c0,c1,c2,c3,c4,c5,c6,c7,c8,c9]) := ⟨_,_,_,_,_,_,_,_,_,_,rfl⟩
 generalize sC x = C at *
 go_enter Tryz.func57,Tryz.ntmps57
 go_wp2_with (go_at_call 97;(with_reducible refine (PA.out _).mono ?_);rintro e1 w1 ⟨bp,rfl,hp0,hp1,hp2,hb1⟩;have L1 : Hid (LS w C w1) := (⟨belowTwo _ _ _,two_old _ _ _,two_new _ _ _⟩ : LS w C _).below hb1;have P1 := Lib.hid hp2;clear hp2 hb1)
 obtain ⟨wa,hwa⟩ : ∃ wa,w1 = wa := ⟨_,rfl⟩
 have hT0 : TI w1 w1.heap.size [] [] (.slice none 0 0) (.slice none 0 0) w1 := ⟨Below.refl _ _,Nat.le_refl _,⟨[],own3_nil⟩,Nat.le_refl _⟩
 have HT0 := Lib.hid hT0
 have hbl := L1.out.bel.size
 clear hT0 hwa
 go_loopw [3,4,9] (fun s3 s4 i wr => ∃ (q : Nat),q ≤ 10 ∧ i = .int .i64 (q : Int) ∧ Hid (TI w1 w1.heap.size (NS.take q) (IS.take q) s3 s4 wr)) (fun _ _ i _ => 10 - (intOf i).toNat)
 case atStart => exact ⟨0,Nat.zero_le _,rfl,HT0⟩
 case round =>
  clear HT0
  obtain ⟨q,hq,rfl,HT⟩ := hrel
  have HLr := Lib.hid (L1.out.below HT.out.bel)
  by_cases hlt : q < 10
  ·have a1 : (q : Int) < 10 := by omega
   obtain ⟨v,B,hv,hP⟩ := P1.out q hlt
   have HPB : Hid (∀ w',Below w1.heap.size w1 w' → ∃ lo v,Pt lo q v B w') := fun w' hb => ⟨_,_,hP.below hb⟩
   obtain ⟨hval,-,-⟩ := hP
   unfold partV at hval
   subst hval
   have hE := la9_ent q hlt
   unfold Ent at hE
   have LQ := Lib.hid (LP.out q hlt B)
   have BQ := Lib.hid (BJ.out q hlt)
   obtain ⟨fa,fm,fe,ft,hbf⟩ := BF.out q hlt
   rw [hbf] at LQ BQ
   have HTQ := Lib.hid (HTX.out q hlt)
   have HSN := Lib.hid (take_snoc9 (z := []) (l := NS) (q := q) (by rw [HLN.out];exact hlt))
   have HSI := Lib.hid (take_snoc9 (z := j0) (l := IS) (q := q) (by rw [HLI.out];exact hlt))
   rw [← HNM.out] at HSN
   obtain ⟨x0,x1,x2⟩ := three_lies (hv.keep (HT.out.bel.block bp hp1))
   have hnl : (NS.take q).length ≤ 10 := by rw [List.length_take];omega
   have hal : (IS.take q).length ≤ 10 := by rw [List.length_take];omega
   generalize NS.take q = ns at *
   generalize IS.take q = acc at *
   generalize IS.getD q j0 = jq at *
   generalize la9 q = L at *
   generalize ta9 q = T at *
   generalize nm9 q = nm at *
   obtain ⟨c0,c1,c2,c3,c4,c5,c6,c7,c8,c9,hC⟩ : ∃ c0 c1 c2 c3 c4 c5 c6 c7 c8 c9,C = #[c0,c1,c2,c3,c4,c5,c6,c7,c8,c9] := HC10.out
   subst hC
   obtain ⟨b0,b1,b2,b3,b4,b5,b6,b7,b8,b9⟩ := ten_of HLr.out.box
   have hbr := HT.out.bel.size
   obtain ⟨vs,hO⟩ := HT.out.own
   obtain ⟨ao1,cn1,rfl⟩ := own_slice hO.irow
   obtain ⟨an1,cn2,rfl⟩ := own_slice hO.nrow
   have HO := Lib.hid hO
   clear hO hv hbf
   go_wp2_with (first
    | (at_builtin;(refine wpList_append_lies _ rfl _ _ 36 rfl w1.heap.size 9 i1 _ 1 16 Tryz.underlying36 hi1 hx0 hx1 hx2 rfl (by omega) _ ns.length (ns.map strW) rfl ((HO.out.nrow.alloc _).alloc _) ⟨wr.heap.size + 1,0,none⟩ 1 1 [.string ⟨nm.toArray⟩] rfl rfl (World.news_of_block (cs := #[.string ⟨nm.toArray⟩]) (t := 9) (fr := (0,0)) (two_new _ _ _)) (by simp [Value.oneCell']) (by omega) (by unfold maxLen;omega) (by omega) (by simp;omega) (wr.heap.size + 1 + 1) (by simp) ?_);intro g cp w2 hown hgrow hat hlt2;have HT2 := Lib.hid (HT.out.name hgrow (belowTwo _ _ _) (hat.imp id (fun h => by omega)) HTQ.out hown);have HL2 := Lib.hid (L1.out.below HT2.out.bel);obtain ⟨d0,d1,d2,d3,d4,d5,d6,d7,d8,d9⟩ := ten_of HL2.out.box;have p1 := (World.cell?_of_block (w := (wr.alloc _).alloc _) (a := ⟨wr.heap.size,1,none⟩) (hgrow.block wr.heap.size (by simp;omega) (fun h => by have := (HO.out.nrow.lt _ h.symm).2;omega))).trans (three_cells' (two_old wr _ _)).2.1;clear hown hgrow hat x0 x1 x2 b0 b1 b2 b3 b4 b5 b6 b7 b8 b9)
    | ((with_reducible refine (LQ.out _ (HPB.out _ HT2.out.bel)).mono ?_);rintro e3 w3 ⟨rfl,hb3⟩;obtain ⟨vs2,hO2⟩ := HT2.out.own;have HO2 := Lib.hid hO2;have HO3 := Lib.hid (hO2.below hb3 (Nat.le_refl _));have HB3 := Lib.hid hb3;have HJ3 := Lib.hid (BQ.out (fun b => w2.heap.size ≤ b) w3);have hs3 := hb3.size;have hlo3 := HT2.out.hi;clear hO2 hb3)
    | (at_builtin;(refine wpList_append_lies _ rfl _ _ 56 rfl w1.heap.size 58 i0 _ 6 88 Tryz.underlying56 hi0 hz0 hz1 hz2 rfl (by omega) _ acc.length (vs2.flatMap aggC) rfl (HO3.out.irow.alloc _) ⟨w3.heap.size,0,none⟩ 1 1 [.int .i64 fa,.int .i64 fm,.int .i64 fe,.string ft,.slice none 0 0,.slice none 0 0] rfl rfl (World.news_of_block (cs := #[.int .i64 fa,.int .i64 fm,.int .i64 fe,.string ft,.slice none 0 0,.slice none 0 0]) (t := 58) (fr := (0,0)) (heap_alloc_new _ _)) (by simp [Value.oneCell']) (by omega) (by unfold maxLen;omega) (by omega) (by simp;omega) (w3.heap.size + 1) (by simp) ?_);intro g2 cp2 w4 hown2 hgrow2 hat2 hlt3;have HT4 := Lib.hid (HT2.out.item HO2.out HB3.out hgrow2 (belowOne _ _) (hat2.imp id (fun h => by omega)) hown2 HJ3.out);clear hown2 hgrow2 hat2))
   go_roundw
   case rel =>
    refine ⟨q + 1,by omega,by go_num,?_⟩
    show TI _ _ _ _ _ _ _
    rw [HSN.out,HSI.out]
    exact HT4.out
   case measure => simp [intOf];omega
  ·obtain rfl : q = 10 := by omega
   have hT := HT.out
   rw [show NS.take 10 = NS from List.take_of_length_le (by rw [HLN.out];omega),show IS.take 10 = IS from List.take_of_length_le (by rw [HLI.out];omega)] at hT
   obtain ⟨vs,hO⟩ := hT.own
   obtain ⟨ai1,ci1,rfl⟩ := own_slice hO.irow
   obtain ⟨an1,cn1,rfl⟩ := own_slice hO.nrow
   have M1 := Lib.hid (make5_any Any Any 15 wr an1 cn1 ai1 ci1 NS IS (hO.strs (by rw [HLN.out];omega)) (by rw [HLI.out];omega) hO.its.2.1 hO.its.2.2 (by rw [HLN.out,HLI.out];omega))
   rw [HML.out] at M1
   unfold CRet at M1
   have HBc := Lib.hid HLr.out.bel
   have hlr := Own.block_lt HLr.out.res
   clear hT hO HT
   go_wp2_with (go_at_call 66;(with_reducible refine (M1.out).mono ?_);rintro e2 w2 ⟨k2,m2,e2',t2,an2,nn2,cn2,ai2,ni2,ci2,rfl,hJ2,hb2⟩;have HB2 := Lib.hid (HBc.out.trans (hb2.mono HBc.out.size));have x1 := (hb2.block _ hlr).trans HLr.out.res;obtain ⟨⟨z0,z1,z2,z3,z4,z5⟩,g0,g1,g2,g3,g4,g5⟩ := twelve_of x1;have hwr := HBc.out.size;have HJ2 := Lib.hid hJ2)
   refine bodyPost_ret (v := .agg #[.int .i64 k2,.int .i64 m2,.int .i64 e2',.string t2,.slice an2 nn2 cn2,.slice ai2 ni2 ci2]) (by simp [results,Tryz.results57,go_sem,z0,z1,z2,z3,z4,z5]) rfl ?_
   obtain ⟨q1,q2⟩ := cret_fin (bres := w.heap.size + 1) HB2.out (by omega) (HJ2.out.keep (fun b hb _ => by have hb' : wr.heap.size ≤ b := hb;exact ⟨by omega,by omega⟩) (fun _ _ _ => rfl) (Nat.le_refl _)) (.int .i64 k2) (.int .i64 m2) (.int .i64 e2') (.string t2) (.slice an2 nn2 cn2) (.slice ai2 ni2 ci2)
   exact ⟨_,_,_,_,_,_,_,_,_,_,rfl,q1,q2⟩
set_option maxRecDepth 100000 in
theorem Lay9_any (x : S9) (w : World) (hT : Dec.Tab w) (hx : x.ok) : Calls Tryz.prog 21 #[sV x] w (Ret (if rightT Tp.nameB x = true then .tuple #[.string ⟨(layS9 x).toArray⟩,.int .i64 0] else .tuple #[.string ⟨#[]⟩,.int .i64 1]) w) := by
 have R1 := Lib.hid (fun (w' : World) => right9_any x w' hx)
 by_cases hr : rightT Tp.nameB x = true
 ·rw [if_pos hr]
  rw [hr] at R1
  have hrj := lay9_right name_ok hr
  have hlen := lay9_len name_ok hr
  have LO := Lib.hid (fun (w' : World) => layState_any x w' hr)
  unfold CRet at LO
  have PR := Lib.hid (fun (w' : World) (v : Value) (hb : Below w.heap.size w w') (hJ : JAt Any w' 16 v (layJ9 x)) => print_of Any v (layJ9 x) w' (hT.below hb) ⟨16,hJ⟩ (by omega))
  have hps : printS (layJ9 x) = printJ (layJ9 x) := by unfold printS;rw [if_pos hrj]
  rw [hps] at PR
  have SE := Lib.hid (fun (w' : World) => Se.seal_l (printJ (layJ9 x)) w' (by omega))
  unfold layS9
  generalize Se.sealS (printJ (layJ9 x)) = T at *
  generalize printJ (layJ9 x) = U at *
  generalize layJ9 x = L at *
  unfold sV sC at *
  obtain ⟨hd,bo,nm,od,up,lv,nd,sq,dr,ac⟩ := x
  simp only at R1 LO ⊢
  clear hrj hlen hps hr hx
  go_enter Tryz.func21,Tryz.ntmps21
  go_wp2_with (first
   | (go_at_call 23;(with_reducible refine (R1.out _).mono ?_);rintro e1 w1 ⟨rfl,hb1⟩;have HB1 := Lib.hid (show Below w.heap.size w w1 from (belowOne w _).trans (hb1.mono (by simp)));obtain ⟨y0,y1,y2,y3,y4,y5,y6,y7,y8,y9⟩ := ten_of ((hb1.block _ (by simp)).trans (heap_alloc_new w _)))
   | (go_at_call 57;(with_reducible refine (LO.out _).mono ?_);rintro e2 w2 ⟨k6,m6,e6',t6,an6,nn6,cn6,ai6,ni6,ci6,rfl,hJ6,hb6⟩;have HB2 := Lib.hid (HB1.out.trans (hb6.mono HB1.out.size));have HJ6 := Lib.hid hJ6.any)
   | (go_at_call 31;(with_reducible refine (PR.out _ _ HB2.out HJ6.out).mono ?_);rintro e3 w3 ⟨rfl,hb3⟩;have HB3 := Lib.hid (HB2.out.trans (hb3.mono HB2.out.size)))
   | (go_at_call 16;(with_reducible refine (SE.out _).mono ?_);rintro e4 w4 ⟨rfl,hb4⟩;have HB4 := Lib.hid (HB3.out.trans (hb4.mono HB3.out.size))))
  go_ret2
  exact ⟨rfl,HB4.out⟩
 ·rw [if_neg hr]
  rw [Bool.not_eq_true] at hr
  rw [hr] at R1
  unfold sV sC at *
  obtain ⟨hd,bo,nm,od,up,lv,nd,sq,dr,ac⟩ := x
  simp only at R1 ⊢
  clear hr hx
  go_enter Tryz.func21,Tryz.ntmps21
  go_wp2_with (go_at_call 23;(with_reducible refine (R1.out _).mono ?_);rintro e1 w1 ⟨rfl,hb1⟩)
  go_ret2
  exact ⟨rfl,(belowOne w _).trans (hb1.mono (by simp))⟩
end Go.Proofs.YtmmbiknlicnamaaGreatDoor.Sta
namespace Go.Proofs.YtmmbiknlicnamaaGreatDoor.Sta
open Go.RowKit Js Lex Od
def tv9 (j : J) (k : Nat) : Value := (sC (told9 j)).getD k undef
def th9 (j : J) (k : Nat) : Bool := [(tellG 0 numS j hdrL).2,(tellG 0 numS j bootL).2,(tellG ([] : List UInt8) txtS j serL).2,(tellG 0 numS j ordL).2,(tellG 0 numS j updL).2,(tellG false flagS j liveL).2,(tellG 0 numS j lnidL).2,(tellG 0 numS j lseqL).2,(tellG false flagS j drivL).2,(tellG 0 numS j accL).2].getD k false
theorem take9_part {j : J} {k : Nat} (hk : k < 10) {C : Array Value} {u0 : Value} (hu : C[k]? = some u0) {bs lo B d : Nat} {S : Nat → Prop} {v p : Value} (w : World) (hs : w.heap[bs]? = some (.cells C 41 (0,0))) (hJ : JAt S w d v j) (hP : Pt lo k p B w) :
 Calls Tryz.prog (ta9 k) #[.pointer (some ⟨bs,0,none⟩),v,.pointer (some ⟨B + 3,0,none⟩),.pointer (some ⟨B,0,none⟩),.pointer (some ⟨B + 1,0,none⟩)] w (TkRet w bs C k (tv9 j k) (th9 j k)) := by
 have hA := at9_of k hk
 have hB := hP.box
 obtain rfl | rfl | rfl | rfl | rfl | rfl | rfl | rfl | rfl | rfl : k = 0 ∨ k = 1 ∨ k = 2 ∨ k = 3 ∨ k = 4 ∨ k = 5 ∨ k = 6 ∨ k = 7 ∨ k = 8 ∨ k = 9 := by omega
 ·exact takeI_any hA hu w hs hJ hB
 ·exact takeI_any hA hu w hs hJ hB
 ·exact takeS_any hA hu w hs hJ hB
 ·exact takeI_any hA hu w hs hJ hB
 ·exact takeI_any hA hu w hs hJ hB
 ·exact takeB_any hA hu w hs hJ hB
 ·exact takeI_any hA hu w hs hJ hB
 ·exact takeI_any hA hu w hs hJ hB
 ·exact takeB_any hA hu w hs hJ hB
 ·exact takeI_any hA hu w hs hJ hB
def mix9 (j : J) (q : Nat) : Array Value := ((sC (told9 j)).toList.take q ++ (sC s0).toList.drop q).toArray
theorem mix9_get {j : J} {q : Nat} (hq : q < 10) : ∃ u,(mix9 j q)[q]? = some u := by
 have h : q < (mix9 j q).size := by
  unfold mix9
  have e1 : (sC (told9 j)).toList.length = 10 := rfl
  have e2 : (sC s0).toList.length = 10 := rfl
  simp only [List.size_toArray,List.length_append,List.length_take,List.length_drop,e1,e2]
  omega
 exact ⟨_,Array.getElem?_eq_getElem h⟩
theorem mix9_step {j : J} {q : Nat} (hq : q < 10) : (mix9 j q).setIfInBounds q (tv9 j q) = mix9 j (q + 1) := by
 obtain rfl | rfl | rfl | rfl | rfl | rfl | rfl | rfl | rfl | rfl : q = 0 ∨ q = 1 ∨ q = 2 ∨ q = 3 ∨ q = 4 ∨ q = 5 ∨ q = 6 ∨ q = 7 ∨ q = 8 ∨ q = 9 := by omega
 all_goals rfl
theorem has9_all (j : J) : has9 j = true ↔ ∀ q,q < 10 → th9 j q = true := by
 constructor
 ·intro h q hq
  unfold has9 at h
  simp only [Bool.and_eq_true] at h
  obtain ⟨h0,h1,h2,h3,h4,h5,h6,h7,h8,h9⟩ := h
  obtain rfl | rfl | rfl | rfl | rfl | rfl | rfl | rfl | rfl | rfl : q = 0 ∨ q = 1 ∨ q = 2 ∨ q = 3 ∨ q = 4 ∨ q = 5 ∨ q = 6 ∨ q = 7 ∨ q = 8 ∨ q = 9 := by omega
  all_goals assumption
 ·intro h
  unfold has9
  simp only [Bool.and_eq_true]
  exact ⟨h 0 (by omega),h 1 (by omega),h 2 (by omega),h 3 (by omega),h 4 (by omega),h 5 (by omega),h 6 (by omega),h 7 (by omega),h 8 (by omega),h 9 (by omega)⟩
structure TS (w1 : World) (bs : Nat) (C : Array Value) (wr : World) : Prop where
 mov : Moves w1.heap.size bs w1 wr
 blk : wr.heap[bs]? = some (.cells C 41 (0,0))
def TsRet (w : World) (x : S9) (f : Bool) (e : Ending) (w' : World) : Prop := e = .returned (.tuple #[sV x,.bool f]) ∧ Below w.heap.size w w'
theorem moves_low {w w1 wr : World} {bs : Nat} (h : Moves w1.heap.size bs w1 wr) (h1 : w.heap.size ≤ w1.heap.size) (h2 : w.heap.size + 1 < bs) : Below w.heap.size w1 wr := (h.mono h1).below (by omega)
theorem ta9_ent : ∀ k,k < 10 → Ent (ta9 k) := fun k hk => by
 obtain rfl | rfl | rfl | rfl | rfl | rfl | rfl | rfl | rfl | rfl : k = 0 ∨ k = 1 ∨ k = 2 ∨ k = 3 ∨ k = 4 ∨ k = 5 ∨ k = 6 ∨ k = 7 ∨ k = 8 ∨ k = 9 := by omega
 ·exact Tryz.call202
 ·exact Tryz.call202
 ·exact Tryz.call204
 ·exact Tryz.call202
 ·exact Tryz.call202
 ·exact Tryz.call206
 ·exact Tryz.call202
 ·exact Tryz.call202
 ·exact Tryz.call206
 ·exact Tryz.call202
theorem three_allocs (w : World) (a b c : Obj) : (((w.alloc a).alloc b).alloc c).heap[w.heap.size]? = some a ∧ (((w.alloc a).alloc b).alloc c).heap[w.heap.size + 1]? = some b ∧ (((w.alloc a).alloc b).alloc c).heap[w.heap.size + 1 + 1]? = some c ∧ (((w.alloc a).alloc b).alloc c).heap.size = w.heap.size + 1 + 1 + 1 ∧ Below w.heap.size w (((w.alloc a).alloc b).alloc c) := by
 refine ⟨?_,?_,?_,by simp,((belowTwo w a b).alloc (by simp;omega) c)⟩
 ·rw [heap_alloc_old _ _ (by simp <;> omega)]
  exact two_old w a b
 ·rw [heap_alloc_old _ _ (by simp <;> omega)]
  exact two_new w a b
 ·have := heap_alloc_new ((w.alloc a).alloc b) c
  simpa using this
structure TB (w : World) (X : Array Value) (w1 : World) : Prop where
 bel : Below w.heap.size w w1
 box : w1.heap[w.heap.size]? = some (.cells X 58 (0,0))
 res : w1.heap[w.heap.size + 1]? = some (.cells #[.int .i64 0,.int .i64 0,.string ⟨#[]⟩,.int .i64 0,.int .i64 0,.bool false,.int .i64 0,.int .i64 0,.bool false,.int .i64 0] 41 (0,0))
 st : w1.heap[w.heap.size + 1 + 1]? = some (.cells (sC s0) 41 (0,0))
theorem TS.next {w1 wr w2 : World} {bs : Nat} {C C' : Array Value} {o : Obj} (h : TS w1 bs C wr) (hm : Moves (wr.alloc o).heap.size bs (wr.alloc o) w2) (hb : w2.heap[bs]? = some (.cells C' 41 (0,0))) : TS w1 bs C' w2 :=
 ⟨(h.mov.alloc h.mov.size o).trans (hm.mono (by have := h.mov.size;simp;omega)),hb⟩
set_option maxRecDepth 100000 in
theorem takeState_any (S : Nat → Prop) (d : Nat) (v : Value) (j : J) (w : World) (hJ : JAt S w d v j) : Calls Tryz.prog 61 #[v] w (TsRet w (if has9 j = true then told9 j else s0) (has9 j)) := by
 have PA := Lib.hid (fun (w' : World) => parts9_any w')
 unfold PsRet at PA
 obtain ⟨F,HF⟩ : ∃ F,Hid (has9 j = F) := ⟨_,rfl⟩
 obtain ⟨X,HX⟩ : ∃ X,Hid ((if has9 j = true then told9 j else s0) = X) := ⟨_,rfl⟩
 rw [HX.out,HF.out]
 have HJ := Lib.hid hJ
 obtain ⟨k,m,e,t,an,nn,cn,ai,ni,ci,rfl⟩ := jAt_form hJ
 clear hJ
 go_enter Tryz.func61,Tryz.ntmps61
 go_wp2_with (go_at_call 97;(with_reducible refine (PA.out _).mono ?_);rintro e1 w1 ⟨bp,rfl,hp0,hp1,hp2,hb1⟩;have P1 := Lib.hid hp2;have HB1 := Lib.hid hb1;clear hp2 hb1)
 obtain ⟨y0,y1,y2,ysz,yb⟩ := three_allocs w (.cells #[.int .i64 k,.int .i64 m,.int .i64 e,.string t,.slice an nn cn,.slice ai ni ci] 58) (.cells #[.int .i64 0,.int .i64 0,.string ⟨#[]⟩,.int .i64 0,.int .i64 0,.bool false,.int .i64 0,.int .i64 0,.bool false,.int .i64 0] 41) (.cells #[.int .i64 0,.int .i64 0,.string ⟨#[]⟩,.int .i64 0,.int .i64 0,.bool false,.int .i64 0,.int .i64 0,.bool false,.int .i64 0] 41)
 generalize ((w.alloc (.cells #[.int .i64 k,.int .i64 m,.int .i64 e,.string t,.slice an nn cn,.slice ai ni ci] 58)).alloc (.cells #[.int .i64 0,.int .i64 0,.string ⟨#[]⟩,.int .i64 0,.int .i64 0,.bool false,.int .i64 0,.int .i64 0,.bool false,.int .i64 0] 41)).alloc (.cells #[.int .i64 0,.int .i64 0,.string ⟨#[]⟩,.int .i64 0,.int .i64 0,.bool false,.int .i64 0,.int .i64 0,.bool false,.int .i64 0] 41) = w3 at *
 rw [ysz] at hp0
 have hs1 := HB1.out.size
 have HTB : Hid (TB w #[.int .i64 k,.int .i64 m,.int .i64 e,.string t,.slice an nn cn,.slice ai ni ci] w1) := ⟨yb.trans (HB1.out.mono (by omega)),(HB1.out.block _ (by omega)).trans y0,(HB1.out.block _ (by omega)).trans y1,(HB1.out.block _ (by omega)).trans y2⟩
 have HSZ := Lib.hid ysz
 have hsw : w.heap.size + 1 + 1 + 1 ≤ w1.heap.size := by omega
 have HT0 : Hid (TS w1 (w.heap.size + 1 + 1) (mix9 j 0) w1) := ⟨Moves.refl _ _ _,HTB.out.st⟩
 clear y0 y1 y2 ysz yb HB1 hs1
 obtain ⟨bs,HBS⟩ : ∃ bs,Hid (w.heap.size + 1 + 1 = bs) := ⟨_,rfl⟩
 rw [HBS.out] at HT0 hp0 hsw ⊢
 have hbs : w.heap.size + 1 < bs := by have := HBS.out;omega
 go_loopw [9] (fun i wr => ∃ (q : Nat),q ≤ 10 ∧ i = .int .i64 (q : Int) ∧ Hid (TS w1 bs (mix9 j q) wr) ∧ Hid (∀ p,p < q → th9 j p = true)) (fun i _ => 10 - (intOf i).toNat)
 case atStart => exact ⟨0,Nat.zero_le _,rfl,HT0,fun p hp => absurd hp (Nat.not_lt_zero _)⟩
 case round =>
  clear HT0
  obtain ⟨q,hq,rfl,HT,HA⟩ := hrel
  have hsr := HT.out.mov.size
  have HJB : Hid (wr.heap[w.heap.size]? = some (.cells #[.int .i64 k,.int .i64 m,.int .i64 e,.string t,.slice an nn cn,.slice ai ni ci] 58 (0,0))) := (HT.out.mov.block _ (by omega) (by omega)).trans HTB.out.box
  have HRE : Hid (wr.heap[w.heap.size + 1]? = some (.cells #[.int .i64 0,.int .i64 0,.string ⟨#[]⟩,.int .i64 0,.int .i64 0,.bool false,.int .i64 0,.int .i64 0,.bool false,.int .i64 0] 41 (0,0))) := (HT.out.mov.block _ (by omega) (by omega)).trans HTB.out.res
  by_cases hlt : q < 10
  ·have a1 : (q : Int) < 10 := by omega
   obtain ⟨pv,B,hv,hP⟩ := P1.out q hlt
   have hPB := hP.lo
   rw [HSZ.out,HBS.out] at hPB
   obtain ⟨u0,hu0⟩ := mix9_get (j := j) hlt
   have HPW : Hid (∀ o,Pt (bs + 1) q pv B (wr.alloc o)) := fun o => ⟨hP.val,hP.box.keep (fun k hk hl => (heap_alloc_old wr o (by omega)).trans (HT.out.mov.block k hl (by omega))) (by simp;omega),hPB⟩
   have HJW : Hid (∀ o,JAt S (wr.alloc o) d (.agg #[.int .i64 k,.int .i64 m,.int .i64 e,.string t,.slice an nn cn,.slice ai ni ci]) j) := fun o => HJ.out.keep (fun _ h _ => h) (fun b _ hl => (heap_alloc_old wr o (by omega)).trans ((HT.out.mov.block b (by omega) (by omega)).trans (HTB.out.bel.block b hl))) (by have := HTB.out.bel.size;simp;omega)
   have HSW : Hid (∀ o,(wr.alloc o).heap[bs]? = some (.cells (mix9 j q) 41 (0,0))) := fun o => (heap_alloc_old wr o (Own.block_lt HT.out.blk)).trans HT.out.blk
   have TQ := Lib.hid (fun o => take9_part hlt hu0 (wr.alloc o) (HSW.out o) (HJW.out o) (HPW.out o))
   unfold TkRet at TQ
   obtain ⟨hval,-,-⟩ := hP
   unfold partV at hval
   subst hval
   have hE := ta9_ent q hlt
   unfold Ent at hE
   obtain ⟨x0,x1,x2⟩ := three_lies (hv.keep (HT.out.mov.block bp hp1 (by omega)))
   obtain ⟨v0,v1,v2,v3,v4,v5⟩ := six_of HJB.out
   have hql : w.heap.size < wr.heap.size := by omega
   have HMS := Lib.hid (mix9_step (j := j) hlt)
   obtain ⟨r,HR⟩ : ∃ r,Hid (th9 j q = r) := ⟨_,rfl⟩
   rw [HMS.out,HR.out] at TQ
   generalize la9 q = L at *
   generalize ta9 q = T at *
   generalize nm9 q = nm at *
   clear hv hu0 HPW HJW HSW
   cases r with
   | true =>
     go_wp2_with ((with_reducible refine (TQ.out _).mono ?_);rintro e2 w2 ⟨rfl,hs2,hm2⟩;have HN2 := Lib.hid (HT.out.next hm2 hs2);clear hs2 hm2)
     go_roundw
     case rel =>
      refine ⟨q + 1,by omega,by go_num,HN2,fun p hp => ?_⟩
      by_cases hpq : p = q
      ·subst hpq;exact HR.out
      ·exact HA.out p (by omega)
     case measure => simp [intOf];omega
   | false =>
     have HF0 : Hid (F = false) := by
      show _ = _
      rw [← HF.out]
      cases hh : has9 j with
      | false => rfl
      | true => rw [(has9_all j).1 hh q hlt] at HR;exact absurd HR.out (by decide)
     have HX0 : Hid (X = s0) := by
      show _ = _
      rw [← HX.out,HF.out,HF0.out,if_neg (by decide)]
     go_wp2_with ((with_reducible refine (TQ.out _).mono ?_);rintro e2 w2 ⟨rfl,hs2,hm2⟩;have HM2 := Lib.hid (HT.out.next hm2 hs2).mov;have hr2 := (HM2.out.block (w.heap.size + 1) (by omega) (by omega)).trans HTB.out.res;obtain ⟨z0,z1,z2,z3,z4,z5,z6,z7,z8,z9⟩ := ten_of hr2;obtain ⟨g0,g1,g2,g3,g4,g5,g6,g7,g8,g9⟩ := free_ten hr2;clear hs2 hm2 hr2)
     refine bodyPost_ret (v := .tuple #[.agg #[.int .i64 0,.int .i64 0,.string ⟨#[]⟩,.int .i64 0,.int .i64 0,.bool false,.int .i64 0,.int .i64 0,.bool false,.int .i64 0],.bool false]) (by simp [results,Tryz.results61,go_sem,z0,z1,z2,z3,z4,z5,z6,z7,z8,z9]) rfl ?_
     rw [HF0.out,HX0.out]
     exact ⟨rfl,below_ten (HTB.out.bel.trans (moves_low HM2.out HTB.out.bel.size hbs)) (by omega) _ _ _ _ _ _ _ _ _ _⟩
  ·obtain rfl : q = 10 := by omega
   have HF1 : Hid (F = true) := by
    show _ = _
    rw [← HF.out]
    exact (has9_all j).2 HA.out
   have HX1 : Hid (X = told9 j) := by
    show _ = _
    rw [← HX.out,HF.out,HF1.out,if_pos rfl]
   have hst := HT.out.blk
   rw [show mix9 j 10 = sC (told9 j) from rfl,← HX1.out] at hst
   obtain ⟨hd,bo,nv,od,up,lv,nd,sq,dr,ac⟩ := X
   unfold sC at hst
   simp only at hst
   obtain ⟨c0,c1,c2,c3,c4,c5,c6,c7,c8,c9⟩ := ten_of hst
   have hr2 := HRE.out
   obtain ⟨z0,z1,z2,z3,z4,z5,z6,z7,z8,z9⟩ := ten_of hr2
   obtain ⟨g0,g1,g2,g3,g4,g5,g6,g7,g8,g9⟩ := free_ten hr2
   have HM2 := Lib.hid HT.out.mov
   clear hst hr2
   go_wp2_with fail
   refine bodyPost_ret (v := .tuple #[.agg #[.int .i64 hd,.int .i64 bo,.string ⟨nv.toArray⟩,.int .i64 od,.int .i64 up,.bool lv,.int .i64 nd,.int .i64 sq,.bool dr,.int .i64 ac],.bool true]) (by simp [results,Tryz.results61,go_sem,z0,z1,z2,z3,z4,z5,z6,z7,z8,z9]) rfl ?_
   rw [HF1.out]
   exact ⟨rfl,below_ten (HTB.out.bel.trans (moves_low HM2.out HTB.out.bel.size hbs)) (by omega) _ _ _ _ _ _ _ _ _ _⟩
theorem told9_ok {S : Nat → Prop} {w : World} {d : Nat} {v : Value} {j : J} (h : JAt S w d v j) : (told9 j).ok := by
 have ht := tell_txt h serL
 unfold txtB at ht
 exact ⟨tell_i64 j hdrL,tell_i64 j bootL,tell_i64 j ordL,tell_i64 j updL,tell_i64 j lnidL,tell_i64 j lseqL,tell_i64 j accL,by unfold told9;simp only;omega⟩
theorem take9_told (j : J) : (match takeJ9 Tp.nameB j with | some x => ((0 : Int),some x) | none => (90,none)) = if has9 j = true ∧ rightT Tp.nameB (told9 j) = true then (0,some (told9 j)) else (90,none) := by
 unfold takeJ9
 split <;> rename_i h <;> split at h <;> simp_all
set_option maxRecDepth 100000 in
theorem Take9_any (s : List UInt8) (w : World) (hs : s.length ≤ 281474976710656) : Calls Tryz.prog 28 #[.string ⟨s.toArray⟩] w (Ret (.tuple #[sV ((takeS9 Tp.nameB s).2.getD s0),.int .i64 (takeS9 Tp.nameB s).1]) w) := by
 have Z0 : sV s0 = .agg #[.int .i64 0,.int .i64 0,.string ⟨#[]⟩,.int .i64 0,.int .i64 0,.bool false,.int .i64 0,.int .i64 0,.bool false,.int .i64 0] := rfl
 cases hO : Se.openS s with
 | none =>
   have OP := Lib.hid (fun (w' : World) => Se.open_none hO w' hs)
   rw [show takeS9 Tp.nameB s = (60,none) by unfold takeS9;rw [hO]]
   simp only [Option.getD_none]
   rw [Z0]
   clear Z0
   go_enter Tryz.func28,Tryz.ntmps28
   go_wp2_with (go_at_call 48;(with_reducible refine (OP.out _).mono ?_);rintro e1 w1 ⟨rfl,hb1⟩;have HB1 := Lib.hid (show Below w.heap.size w w1 from (belowOne w _).trans (hb1.mono (by simp)));have x1 := (hb1.block _ (by simp)).trans (heap_alloc_new w _);obtain ⟨z0,z1,z2,z3,z4,z5,z6,z7,z8,z9⟩ := ten_of x1;obtain ⟨g0,g1,g2,g3,g4,g5,g6,g7,g8,g9⟩ := free_ten x1;clear x1)
   refine bodyPost_ret (v := .tuple #[.agg #[.int .i64 0,.int .i64 0,.string ⟨#[]⟩,.int .i64 0,.int .i64 0,.bool false,.int .i64 0,.int .i64 0,.bool false,.int .i64 0],.int .i64 60]) (by simp [results,Tryz.results28,go_sem,z0,z1,z2,z3,z4,z5,z6,z7,z8,z9]) rfl ?_
   exact ⟨rfl,below_ten HB1.out (Nat.le_refl _) _ _ _ _ _ _ _ _ _ _⟩
 | some t =>
   have htl : t.length ≤ 281474976710656 := by
    have := Se.seal_open hO
    have := congrArg List.length this
    rw [Se.sealS_len] at this
    omega
   have OP := Lib.hid (fun (w' : World) => Se.open_some hO w' hs)
   have PA := Lib.hid (fun (w' : World) => parse_any t w' (by unfold maxLen;omega))
   have HTS : Hid (takeS9 Tp.nameB s = if (parseS t).1 = 0 then (match takeJ9 Tp.nameB (parseS t).2.1 with | some x => (0,some x) | none => (90,none)) else ((parseS t).1,none)) := by
    show _ = _
    unfold takeS9;rw [hO];first | done | rfl
   rw [HTS.out]
   unfold ParseRet at PA
   generalize parseS t = P at *
   obtain ⟨pe,j,pq⟩ := P
   simp only at PA ⊢
   clear HTS hO hs htl
   by_cases hpe : pe = 0
   ·subst hpe
    rw [if_pos rfl,take9_told]
    have TKO0 := fun (w' : World) (d : Nat) (v : Value) (h : JAt Any w' d v j) => takeState_any Any d v j w' h
    have RI0 := fun (w' : World) (d : Nat) (v : Value) (h : JAt Any w' d v j) (u : World) => right9_any (told9 j) u (told9_ok h)
    unfold TsRet at TKO0
    generalize has9 j = F at *
    cases F with
    | false =>
      have TKO := Lib.hid TKO0
      clear TKO0 RI0
      rw [if_neg (by simp)] at TKO
      rw [if_neg (by simp)]
      simp only [Option.getD_none]
      rw [Z0] at TKO ⊢
      clear Z0
      go_enter Tryz.func28,Tryz.ntmps28
      go_wp2_with (first
       | (go_at_call 48;(with_reducible refine (OP.out _).mono ?_);rintro e1 w1 ⟨rfl,hb1⟩;have HB1 := Lib.hid (show Below w.heap.size w w1 from (belowOne w _).trans (hb1.mono (by simp)));have x1 := (hb1.block _ (by simp)).trans (heap_alloc_new w _);have X1 := Lib.hid x1;have hl1 := Own.block_lt x1;clear x1)
       | (go_at_call 49;(with_reducible refine (PA.out _).mono ?_);rintro e2 w2 ⟨k2,m2,e2',t2,an2,nn2,cn2,ai2,ni2,ci2,rfl,⟨dd,hJ2⟩,hb2⟩;have HB2 := Lib.hid ((HB1.out.trans (hb2.mono HB1.out.size)).alloc (Nat.le_trans HB1.out.size hb2.size) (.cells #[.int .i64 k2,.int .i64 m2,.int .i64 e2',.string t2,.slice an2 nn2 cn2,.slice ai2 ni2 ci2] 58));have hs2 := hb2.size;have HX2 := Lib.hid ((heap_alloc_old w2 (.cells #[.int .i64 k2,.int .i64 m2,.int .i64 e2',.string t2,.slice an2 nn2 cn2,.slice ai2 ni2 ci2] 58) (by omega)).trans ((hb2.block _ hl1).trans X1.out));have HJ2 := Lib.hid (hJ2.any.below (belowOne w2 (.cells #[.int .i64 k2,.int .i64 m2,.int .i64 e2',.string t2,.slice an2 nn2 cn2,.slice ai2 ni2 ci2] 58)) (Nat.le_refl _));clear hJ2;obtain ⟨v0,v1,v2,v3,v4,v5⟩ := six_of (heap_alloc_new w2 (.cells #[.int .i64 k2,.int .i64 m2,.int .i64 e2',.string t2,.slice an2 nn2 cn2,.slice ai2 ni2 ci2] 58)))
       | (go_at_call 61;(with_reducible refine (TKO.out _ _ _ HJ2.out).mono ?_);rintro e3 w3 ⟨rfl,hb3⟩;have HB3 := Lib.hid ((HB2.out.trans (hb3.mono HB2.out.size)).alloc (Nat.le_trans HB2.out.size hb3.size) (.cells #[.int .i64 0,.int .i64 0,.string ⟨#[]⟩,.int .i64 0,.int .i64 0,.bool false,.int .i64 0,.int .i64 0,.bool false,.int .i64 0] 41));have hs3 := hb3.size;have HX3 := Lib.hid ((heap_alloc_old w3 (.cells #[.int .i64 0,.int .i64 0,.string ⟨#[]⟩,.int .i64 0,.int .i64 0,.bool false,.int .i64 0,.int .i64 0,.bool false,.int .i64 0] 41) (by have := Own.block_lt HX2.out;omega)).trans ((hb3.block _ (Own.block_lt HX2.out)).trans HX2.out));have hx3 := HX3.out;obtain ⟨z0,z1,z2,z3,z4,z5,z6,z7,z8,z9⟩ := ten_of hx3;obtain ⟨g0,g1,g2,g3,g4,g5,g6,g7,g8,g9⟩ := free_ten hx3;clear hx3;obtain ⟨u0,u1,u2,u3,u4,u5,u6,u7,u8,u9⟩ := ten_of (heap_alloc_new w3 (.cells #[.int .i64 0,.int .i64 0,.string ⟨#[]⟩,.int .i64 0,.int .i64 0,.bool false,.int .i64 0,.int .i64 0,.bool false,.int .i64 0] 41))))
      refine bodyPost_ret (v := .tuple #[.agg #[.int .i64 0,.int .i64 0,.string ⟨#[]⟩,.int .i64 0,.int .i64 0,.bool false,.int .i64 0,.int .i64 0,.bool false,.int .i64 0],.int .i64 90]) (by simp [results,Tryz.results28,go_sem,z0,z1,z2,z3,z4,z5,z6,z7,z8,z9]) rfl ?_
      exact ⟨rfl,below_ten HB3.out (Nat.le_refl _) _ _ _ _ _ _ _ _ _ _⟩
    | true =>
      have TKO := Lib.hid TKO0
      have RI := Lib.hid RI0
      clear TKO0 RI0
      rw [if_pos rfl] at TKO
      generalize told9 j = x at *
      obtain ⟨RR,hRR⟩ : ∃ r,rightT Tp.nameB x = r := ⟨_,rfl⟩
      rw [hRR] at RI ⊢
      clear hRR
      unfold sV sC at TKO RI
      obtain ⟨hd,bo,nm,od,up,lv,nd,sq,dr,ac⟩ := x
      simp only at TKO RI
      cases RR with
      | false =>
        rw [if_neg (by simp)]
        simp only [Option.getD_none]
        rw [Z0]
        clear Z0
        go_enter Tryz.func28,Tryz.ntmps28
        go_wp2_with (first
         | (go_at_call 48;(with_reducible refine (OP.out _).mono ?_);rintro e1 w1 ⟨rfl,hb1⟩;have HB1 := Lib.hid (show Below w.heap.size w w1 from (belowOne w _).trans (hb1.mono (by simp)));have x1 := (hb1.block _ (by simp)).trans (heap_alloc_new w _);have X1 := Lib.hid x1;have hl1 := Own.block_lt x1;clear x1)
         | (go_at_call 49;(with_reducible refine (PA.out _).mono ?_);rintro e2 w2 ⟨k2,m2,e2',t2,an2,nn2,cn2,ai2,ni2,ci2,rfl,⟨dd,hJ2⟩,hb2⟩;have HB2 := Lib.hid ((HB1.out.trans (hb2.mono HB1.out.size)).alloc (Nat.le_trans HB1.out.size hb2.size) (.cells #[.int .i64 k2,.int .i64 m2,.int .i64 e2',.string t2,.slice an2 nn2 cn2,.slice ai2 ni2 ci2] 58));have hs2 := hb2.size;have HX2 := Lib.hid ((heap_alloc_old w2 (.cells #[.int .i64 k2,.int .i64 m2,.int .i64 e2',.string t2,.slice an2 nn2 cn2,.slice ai2 ni2 ci2] 58) (by omega)).trans ((hb2.block _ hl1).trans X1.out));have HJ2 := Lib.hid (hJ2.any.below (belowOne w2 (.cells #[.int .i64 k2,.int .i64 m2,.int .i64 e2',.string t2,.slice an2 nn2 cn2,.slice ai2 ni2 ci2] 58)) (Nat.le_refl _));clear hJ2;obtain ⟨v0,v1,v2,v3,v4,v5⟩ := six_of (heap_alloc_new w2 (.cells #[.int .i64 k2,.int .i64 m2,.int .i64 e2',.string t2,.slice an2 nn2 cn2,.slice ai2 ni2 ci2] 58)))
         | (go_at_call 61;(with_reducible refine (TKO.out _ _ _ HJ2.out).mono ?_);rintro e3 w3 ⟨rfl,hb3⟩;have HB3 := Lib.hid ((HB2.out.trans (hb3.mono HB2.out.size)).alloc (Nat.le_trans HB2.out.size hb3.size) (.cells #[.int .i64 hd,.int .i64 bo,.string ⟨nm.toArray⟩,.int .i64 od,.int .i64 up,.bool lv,.int .i64 nd,.int .i64 sq,.bool dr,.int .i64 ac] 41));have hs3 := hb3.size;have HX3 := Lib.hid ((heap_alloc_old w3 (.cells #[.int .i64 hd,.int .i64 bo,.string ⟨nm.toArray⟩,.int .i64 od,.int .i64 up,.bool lv,.int .i64 nd,.int .i64 sq,.bool dr,.int .i64 ac] 41) (by have := Own.block_lt HX2.out;omega)).trans ((hb3.block _ (Own.block_lt HX2.out)).trans HX2.out));have hx3 := HX3.out;obtain ⟨z0,z1,z2,z3,z4,z5,z6,z7,z8,z9⟩ := ten_of hx3;obtain ⟨g0,g1,g2,g3,g4,g5,g6,g7,g8,g9⟩ := free_ten hx3;clear hx3;obtain ⟨u0,u1,u2,u3,u4,u5,u6,u7,u8,u9⟩ := ten_of (heap_alloc_new w3 (.cells #[.int .i64 hd,.int .i64 bo,.string ⟨nm.toArray⟩,.int .i64 od,.int .i64 up,.bool lv,.int .i64 nd,.int .i64 sq,.bool dr,.int .i64 ac] 41)))
         | (go_at_call 23;(with_reducible refine (RI.out _ _ _ HJ2.out _).mono ?_);rintro e5 w5 ⟨rfl,hb5⟩;have HB5 := Lib.hid (HB3.out.trans (hb5.mono HB3.out.size));clear z0 z1 z2 z3 z4 z5 z6 z7 z8 z9 g0 g1 g2 g3 g4 g5 g6 g7 g8 g9 u0 u1 u2 u3 u4 u5 u6 u7 u8 u9;obtain ⟨u0,u1,u2,u3,u4,u5,u6,u7,u8,u9⟩ := ten_of ((hb5.block _ (by simp)).trans (heap_alloc_new w3 (.cells #[.int .i64 hd,.int .i64 bo,.string ⟨nm.toArray⟩,.int .i64 od,.int .i64 up,.bool lv,.int .i64 nd,.int .i64 sq,.bool dr,.int .i64 ac] 41)));have hx5 := (hb5.block _ (Own.block_lt HX3.out)).trans HX3.out;obtain ⟨z0,z1,z2,z3,z4,z5,z6,z7,z8,z9⟩ := ten_of hx5;obtain ⟨g0,g1,g2,g3,g4,g5,g6,g7,g8,g9⟩ := free_ten hx5;clear hx5))
        refine bodyPost_ret (v := .tuple #[.agg #[.int .i64 0,.int .i64 0,.string ⟨#[]⟩,.int .i64 0,.int .i64 0,.bool false,.int .i64 0,.int .i64 0,.bool false,.int .i64 0],.int .i64 90]) (by simp [results,Tryz.results28,go_sem,z0,z1,z2,z3,z4,z5,z6,z7,z8,z9]) rfl ?_
        exact ⟨rfl,below_ten HB5.out (Nat.le_refl _) _ _ _ _ _ _ _ _ _ _⟩
      | true =>
        rw [if_pos (by simp)]
        show Calls _ _ _ _ (Ret (.tuple #[.agg #[.int .i64 hd,.int .i64 bo,.string ⟨nm.toArray⟩,.int .i64 od,.int .i64 up,.bool lv,.int .i64 nd,.int .i64 sq,.bool dr,.int .i64 ac],.int .i64 0]) w)
        clear Z0
        go_enter Tryz.func28,Tryz.ntmps28
        go_wp2_with (first
         | (go_at_call 48;(with_reducible refine (OP.out _).mono ?_);rintro e1 w1 ⟨rfl,hb1⟩;have HB1 := Lib.hid (show Below w.heap.size w w1 from (belowOne w _).trans (hb1.mono (by simp)));have x1 := (hb1.block _ (by simp)).trans (heap_alloc_new w _);have X1 := Lib.hid x1;have hl1 := Own.block_lt x1;clear x1)
         | (go_at_call 49;(with_reducible refine (PA.out _).mono ?_);rintro e2 w2 ⟨k2,m2,e2',t2,an2,nn2,cn2,ai2,ni2,ci2,rfl,⟨dd,hJ2⟩,hb2⟩;have HB2 := Lib.hid ((HB1.out.trans (hb2.mono HB1.out.size)).alloc (Nat.le_trans HB1.out.size hb2.size) (.cells #[.int .i64 k2,.int .i64 m2,.int .i64 e2',.string t2,.slice an2 nn2 cn2,.slice ai2 ni2 ci2] 58));have hs2 := hb2.size;have HX2 := Lib.hid ((heap_alloc_old w2 (.cells #[.int .i64 k2,.int .i64 m2,.int .i64 e2',.string t2,.slice an2 nn2 cn2,.slice ai2 ni2 ci2] 58) (by omega)).trans ((hb2.block _ hl1).trans X1.out));have HJ2 := Lib.hid (hJ2.any.below (belowOne w2 (.cells #[.int .i64 k2,.int .i64 m2,.int .i64 e2',.string t2,.slice an2 nn2 cn2,.slice ai2 ni2 ci2] 58)) (Nat.le_refl _));clear hJ2;obtain ⟨v0,v1,v2,v3,v4,v5⟩ := six_of (heap_alloc_new w2 (.cells #[.int .i64 k2,.int .i64 m2,.int .i64 e2',.string t2,.slice an2 nn2 cn2,.slice ai2 ni2 ci2] 58)))
         | (go_at_call 61;(with_reducible refine (TKO.out _ _ _ HJ2.out).mono ?_);rintro e3 w3 ⟨rfl,hb3⟩;have HB3 := Lib.hid ((HB2.out.trans (hb3.mono HB2.out.size)).alloc (Nat.le_trans HB2.out.size hb3.size) (.cells #[.int .i64 hd,.int .i64 bo,.string ⟨nm.toArray⟩,.int .i64 od,.int .i64 up,.bool lv,.int .i64 nd,.int .i64 sq,.bool dr,.int .i64 ac] 41));have hs3 := hb3.size;have HX3 := Lib.hid ((heap_alloc_old w3 (.cells #[.int .i64 hd,.int .i64 bo,.string ⟨nm.toArray⟩,.int .i64 od,.int .i64 up,.bool lv,.int .i64 nd,.int .i64 sq,.bool dr,.int .i64 ac] 41) (by have := Own.block_lt HX2.out;omega)).trans ((hb3.block _ (Own.block_lt HX2.out)).trans HX2.out));have hx3 := HX3.out;obtain ⟨z0,z1,z2,z3,z4,z5,z6,z7,z8,z9⟩ := ten_of hx3;obtain ⟨g0,g1,g2,g3,g4,g5,g6,g7,g8,g9⟩ := free_ten hx3;clear hx3;obtain ⟨u0,u1,u2,u3,u4,u5,u6,u7,u8,u9⟩ := ten_of (heap_alloc_new w3 (.cells #[.int .i64 hd,.int .i64 bo,.string ⟨nm.toArray⟩,.int .i64 od,.int .i64 up,.bool lv,.int .i64 nd,.int .i64 sq,.bool dr,.int .i64 ac] 41)))
         | (go_at_call 23;(with_reducible refine (RI.out _ _ _ HJ2.out _).mono ?_);rintro e5 w5 ⟨rfl,hb5⟩;have HB5 := Lib.hid (HB3.out.trans (hb5.mono HB3.out.size));clear z0 z1 z2 z3 z4 z5 z6 z7 z8 z9 g0 g1 g2 g3 g4 g5 g6 g7 g8 g9 u0 u1 u2 u3 u4 u5 u6 u7 u8 u9;obtain ⟨u0,u1,u2,u3,u4,u5,u6,u7,u8,u9⟩ := ten_of ((hb5.block _ (by simp)).trans (heap_alloc_new w3 (.cells #[.int .i64 hd,.int .i64 bo,.string ⟨nm.toArray⟩,.int .i64 od,.int .i64 up,.bool lv,.int .i64 nd,.int .i64 sq,.bool dr,.int .i64 ac] 41)));have hx5 := (hb5.block _ (Own.block_lt HX3.out)).trans HX3.out;obtain ⟨z0,z1,z2,z3,z4,z5,z6,z7,z8,z9⟩ := ten_of hx5;obtain ⟨g0,g1,g2,g3,g4,g5,g6,g7,g8,g9⟩ := free_ten hx5;clear hx5))
        refine bodyPost_ret (v := .tuple #[.agg #[.int .i64 hd,.int .i64 bo,.string ⟨nm.toArray⟩,.int .i64 od,.int .i64 up,.bool lv,.int .i64 nd,.int .i64 sq,.bool dr,.int .i64 ac],.int .i64 0]) (by simp [results,Tryz.results28,go_sem,z0,z1,z2,z3,z4,z5,z6,z7,z8,z9]) rfl ?_
        exact ⟨rfl,below_ten HB5.out (Nat.le_refl _) _ _ _ _ _ _ _ _ _ _⟩
   ·rw [if_neg hpe]
    have hne : (pe != 0) = true := by simpa using hpe
    simp only [Option.getD_none]
    rw [Z0]
    clear Z0
    go_enter Tryz.func28,Tryz.ntmps28
    go_wp2_with (first
     | (go_at_call 48;(with_reducible refine (OP.out _).mono ?_);rintro e1 w1 ⟨rfl,hb1⟩;have HB1 := Lib.hid (show Below w.heap.size w w1 from (belowOne w _).trans (hb1.mono (by simp)));have x1 := (hb1.block _ (by simp)).trans (heap_alloc_new w _);have X1 := Lib.hid x1;have hl1 := Own.block_lt x1;clear x1)
     | (go_at_call 49;(with_reducible refine (PA.out _).mono ?_);rintro e2 w2 ⟨k2,m2,e2',t2,an2,nn2,cn2,ai2,ni2,ci2,rfl,hJ2,hb2⟩;have HB2 := Lib.hid ((HB1.out.trans (hb2.mono HB1.out.size)).alloc (Nat.le_trans HB1.out.size hb2.size) (.cells #[.int .i64 k2,.int .i64 m2,.int .i64 e2',.string t2,.slice an2 nn2 cn2,.slice ai2 ni2 ci2] 58));have x2 := (heap_alloc_old w2 (.cells #[.int .i64 k2,.int .i64 m2,.int .i64 e2',.string t2,.slice an2 nn2 cn2,.slice ai2 ni2 ci2] 58) (by have := hb2.size;omega)).trans ((hb2.block _ hl1).trans X1.out);obtain ⟨z0,z1,z2,z3,z4,z5,z6,z7,z8,z9⟩ := ten_of x2;obtain ⟨g0,g1,g2,g3,g4,g5,g6,g7,g8,g9⟩ := free_ten x2;clear x2))
    refine bodyPost_ret (v := .tuple #[.agg #[.int .i64 0,.int .i64 0,.string ⟨#[]⟩,.int .i64 0,.int .i64 0,.bool false,.int .i64 0,.int .i64 0,.bool false,.int .i64 0],.int .i64 pe]) (by simp [results,Tryz.results28,go_sem,z0,z1,z2,z3,z4,z5,z6,z7,z8,z9]) rfl ?_
    exact ⟨rfl,below_ten HB2.out (Nat.le_refl _) _ _ _ _ _ _ _ _ _ _⟩
end Go.Proofs.YtmmbiknlicnamaaGreatDoor.Sta
namespace Go.Proofs.YtmmbiknlicnamaaGreatDoor.Sta
open Go.RowKit Js Lex Od
theorem pick9_any (c n : Int) (w : World) (hc0 : -9223372036854775808 ≤ c) (hc1 : c ≤ 9223372036854775807) (hn0 : 0 < n) (hn1 : n ≤ 9223372036854775807) :
 Calls Tryz.prog 27 #[.int .i64 c,.int .i64 n] w (fun e w' => e = .returned (.int .i64 (Quo.pickS c n)) ∧ w = w') := by
 by_cases hc : c < 0
 all_goals
  go_enter Tryz.func27,Tryz.ntmps27
  go_wp2
  go_ret
  refine ⟨Quo.ret_int ?_,rfl⟩
  unfold Quo.pickS
  first
   | (rw [if_pos hc,← Int.neg_tmod,Int.tmod_eq_emod_of_nonneg (by omega)];done)
   | rw [if_neg (by omega)]
set_option maxRecDepth 100000 in
theorem fit9_true (xh xb xo xu xn xq xa : Int) (xv : List UInt8) (xd : Bool) (w : World) (ih : i64B xh) (ib : i64B xb) (io : i64B xo) (iu : i64B xu) (in_ : i64B xn) (iq : i64B xq) (ia : i64B xa) (hv : xv.length ≤ Tp.reachN) :
 Calls Tryz.prog 20 #[Value.agg #[.int .i64 xh,.int .i64 xb,.string ⟨xv.toArray⟩,.int .i64 xo,.int .i64 xu,.bool true,.int .i64 xn,.int .i64 xq,.bool xd,.int .i64 xa]] w (Ret (Value.agg #[.int .i64 (numR xh),.int .i64 (numR xb),.string ⟨(Tp.fitL xv).toArray⟩,.int .i64 (numR xo),.int .i64 (numR xu),.bool (true || xd),.int .i64 (numR xn),.int .i64 (2 * Quo.pickS xq 500000001),.bool xd,.int .i64 (numR xa)]) w) := by
 have HMUL : Hid (IntKind.i64.wrap (2 * Quo.pickS xq 500000001) = 2 * Quo.pickS xq 500000001) := by
  have h1 := Quo.pickS_nonneg (c := xq) (n := 500000001) (by decide)
  have h2 := Quo.pickS_lt (c := xq) (n := 500000001) (by decide)
  exact IntWalk.i64_in _ (by omega)
 go_enter Tryz.func20,Tryz.ntmps20
 go_upto_region 2 with fail
 obtain ⟨w2,hw2⟩ : ∃ w2,((w.alloc (.cells #[.int .i64 xh,.int .i64 xb,.string ⟨xv.toArray⟩,.int .i64 xo,.int .i64 xu,.bool true,.int .i64 xn,.int .i64 xq,.bool xd,.int .i64 xa] 41)).alloc (.cells #[.int .i64 0,.int .i64 0,.string ⟨#[]⟩,.int .i64 0,.int .i64 0,.bool false,.int .i64 0,.int .i64 0,.bool false,.int .i64 0] 41)) = w2 := ⟨_,rfl⟩
 have HBOX : Hid (w2.heap[w.heap.size]? = some (.cells #[.int .i64 xh,.int .i64 xb,.string ⟨xv.toArray⟩,.int .i64 xo,.int .i64 xu,.bool true,.int .i64 xn,.int .i64 xq,.bool xd,.int .i64 xa] 41 (0,0))) := by show _ = _;rw [← hw2];exact two_old _ _ _
 have HRES : Hid (w2.heap[w.heap.size + 1]? = some (.cells #[.int .i64 0,.int .i64 0,.string ⟨#[]⟩,.int .i64 0,.int .i64 0,.bool false,.int .i64 0,.int .i64 0,.bool false,.int .i64 0] 41 (0,0))) := by show _ = _;rw [← hw2];exact two_new _ _ _
 have HB2 : Hid (Below w.heap.size w w2) := by show Below _ _ _;rw [← hw2];exact belowTwo _ _ _
 have hlb := Own.block_lt HBOX.out
 have hlr := Own.block_lt HRES.out
 have hs2 := HB2.out.size
 rw [hw2]
 clear hw2
 refine wp_region_grow mixed8 (fun zs => { tmps := List.toArray (Value.agg #[.int .i64 xh,.int .i64 xb,.string ⟨xv.toArray⟩,.int .i64 xo,.int .i64 xu,.bool true,.int .i64 xn,.int .i64 xq,.bool xd,.int .i64 xa] :: Value.pointer (some ⟨w.heap.size,0,none⟩) :: Value.pointer (some ⟨w.heap.size + 1,0,none⟩) :: Value.int .i64 (1000000001) :: zs.getD 0 undef :: zs.getD 1 undef :: zs.getD 2 undef :: zs.getD 3 undef :: zs.getD 4 undef :: zs.getD 5 undef :: zs.getD 6 undef :: zs.getD 7 undef :: zs.getD 8 undef :: zs.getD 9 undef :: zs.getD 10 undef :: zs.getD 11 undef :: zs.getD 12 undef :: zs.getD 13 undef :: zs.getD 14 undef :: zs.getD 15 undef :: zs.getD 16 undef :: zs.getD 17 undef :: zs.getD 18 undef :: zs.getD 19 undef :: zs.getD 20 undef :: zs.getD 21 undef :: zs.getD 22 undef :: zs.getD 23 undef :: zs.getD 24 undef :: zs.getD 25 undef :: zs.getD 26 undef :: zs.getD 27 undef :: zs.getD 28 undef :: zs.getD 29 undef :: zs.getD 30 undef :: zs.getD 31 undef :: zs.getD 32 undef :: zs.getD 33 undef :: zs.getD 34 undef :: zs.getD 35 undef :: zs.getD 36 undef :: zs.getD 37 undef :: zs.getD 38 undef :: zs.getD 39 undef :: []),defers := [] }) [(fun z _ => z = Value.pointer (some ⟨w.heap.size,0,none⟩)),(fun z _ => z = Value.int .i64 (xh)),(fun z _ => z = Value.int .i64 (1000000001)),(fun z _ => z = Value.int .i64 (numR xh)),(fun z _ => z = Value.pointer (some ⟨w.heap.size,1,none⟩)),(fun z _ => z = Value.int .i64 (xb)),(fun z _ => z = Value.int .i64 (1000000001)),(fun z _ => z = Value.int .i64 (numR xb)),(fun z _ => z = Value.pointer (some ⟨w.heap.size,2,none⟩)),(fun z _ => z = Value.string ⟨xv.toArray⟩),(fun z _ => z = Value.string ⟨(Tp.fitL xv).toArray⟩),(fun z _ => z = Value.pointer (some ⟨w.heap.size,3,none⟩)),(fun z _ => z = Value.int .i64 (xo)),(fun z _ => z = Value.int .i64 (1000000001)),(fun z _ => z = Value.int .i64 (numR xo)),(fun z _ => z = Value.pointer (some ⟨w.heap.size,4,none⟩)),(fun z _ => z = Value.int .i64 (xu)),(fun z _ => z = Value.int .i64 (1000000001)),(fun z _ => z = Value.int .i64 (numR xu)),(fun z _ => z = Value.pointer (some ⟨w.heap.size,5,none⟩)),(fun z _ => z = Value.bool true),(fun z _ => z = Value.bool true),(fun z _ => z = undef),(fun z _ => z = undef),(fun z _ => z = Value.bool (true || xd)),(fun z _ => z = Value.pointer (some ⟨w.heap.size,6,none⟩)),(fun z _ => z = Value.int .i64 (xn)),(fun z _ => z = Value.int .i64 (1000000001)),(fun z _ => z = Value.int .i64 (numR xn)),(fun z _ => z = Value.pointer (some ⟨w.heap.size,7,none⟩)),(fun z _ => z = Value.int .i64 (xq)),(fun z _ => z = Value.int .i64 (Quo.pickS xq 500000001)),(fun z _ => z = Value.int .i64 (2 * Quo.pickS xq 500000001)),(fun z _ => z = Value.pointer (some ⟨w.heap.size,8,none⟩)),(fun z _ => z = Value.bool xd),(fun z _ => z = Value.pointer (some ⟨w.heap.size,9,none⟩)),(fun z _ => z = Value.int .i64 (xa)),(fun z _ => z = Value.int .i64 (1000000001)),(fun z _ => z = Value.int .i64 (numR xa)),(fun z _ => z = Value.agg #[.int .i64 (numR xh),.int .i64 (numR xb),.string ⟨(Tp.fitL xv).toArray⟩,.int .i64 (numR xo),.int .i64 (numR xu),.bool (true || xd),.int .i64 (numR xn),.int .i64 (2 * Quo.pickS xq 500000001),.bool xd,.int .i64 (numR xa)])] (List.replicate 40 undef) rfl rfl rfl ?_ (by kernel_rfl) (by kernel_rfl) ?_ ?_
 ·intro p hp
  simp only [List.mem_cons,List.not_mem_nil,or_false] at hp
  rcases hp with rfl | rfl | rfl | rfl | rfl | rfl | rfl | rfl | rfl | rfl | rfl | rfl | rfl | rfl | rfl | rfl | rfl | rfl | rfl | rfl | rfl | rfl | rfl | rfl | rfl | rfl | rfl | rfl | rfl | rfl | rfl | rfl | rfl | rfl | rfl | rfl | rfl | rfl | rfl | rfl
  all_goals exact stable_eq _
 ·intro i hi zs l wz o hz hF ho hpre
  have hi' : i < 40 := hi
  match zs,(show zs.length = 40 from hz) with
  | z0 :: z1 :: z2 :: z3 :: z4 :: z5 :: z6 :: z7 :: z8 :: z9 :: z10 :: z11 :: z12 :: z13 :: z14 :: z15 :: z16 :: z17 :: z18 :: z19 :: z20 :: z21 :: z22 :: z23 :: z24 :: z25 :: z26 :: z27 :: z28 :: z29 :: z30 :: z31 :: z32 :: z33 :: z34 :: z35 :: z36 :: z37 :: z38 :: z39 :: [],_ =>
    clear hz hi
    change wpOp _ _ _ _ _ { tmps := List.toArray (Value.agg #[.int .i64 xh,.int .i64 xb,.string ⟨xv.toArray⟩,.int .i64 xo,.int .i64 xu,.bool true,.int .i64 xn,.int .i64 xq,.bool xd,.int .i64 xa] :: Value.pointer (some ⟨w.heap.size,0,none⟩) :: Value.pointer (some ⟨w.heap.size + 1,0,none⟩) :: Value.int .i64 (1000000001) :: z0 :: z1 :: z2 :: z3 :: z4 :: z5 :: z6 :: z7 :: z8 :: z9 :: z10 :: z11 :: z12 :: z13 :: z14 :: z15 :: z16 :: z17 :: z18 :: z19 :: z20 :: z21 :: z22 :: z23 :: z24 :: z25 :: z26 :: z27 :: z28 :: z29 :: z30 :: z31 :: z32 :: z33 :: z34 :: z35 :: z36 :: z37 :: z38 :: z39 :: []),defers := [] } _
    have hc : i = 0 ∨ i = 1 ∨ i = 2 ∨ i = 3 ∨ i = 4 ∨ i = 5 ∨ i = 6 ∨ i = 7 ∨ i = 8 ∨ i = 9 ∨ i = 10 ∨ i = 11 ∨ i = 12 ∨ i = 13 ∨ i = 14 ∨ i = 15 ∨ i = 16 ∨ i = 17 ∨ i = 18 ∨ i = 19 ∨ i = 20 ∨ i = 21 ∨ i = 22 ∨ i = 23 ∨ i = 24 ∨ i = 25 ∨ i = 26 ∨ i = 27 ∨ i = 28 ∨ i = 29 ∨ i = 30 ∨ i = 31 ∨ i = 32 ∨ i = 33 ∨ i = 34 ∨ i = 35 ∨ i = 36 ∨ i = 37 ∨ i = 38 ∨ i = 39 := by omega
    clear hi'
    rcases hc with rfl | rfl | rfl | rfl | rfl | rfl | rfl | rfl | rfl | rfl | rfl | rfl | rfl | rfl | rfl | rfl | rfl | rfl | rfl | rfl | rfl | rfl | rfl | rfl | rfl | rfl | rfl | rfl | rfl | rfl | rfl | rfl | rfl | rfl | rfl | rfl | rfl | rfl | rfl | rfl
    ·clear ho hpre
     refine wpOp_here rfl (fun K' hK => ?_)
     go_simp
     exact hK _ _ ⟨_,rfl,Below.refl _ _,fun p hp => by cases (show some (fun z _ => z = Value.pointer (some ⟨w.heap.size,0,none⟩)) = some p from hp);exact rfl⟩
    ·obtain ⟨c0,c1,c2,c3,c4,c5,c6,c7,c8,c9⟩ := ten_of ((hF.bel.block _ hlb).trans HBOX.out)
     have p0 := hF.fact 0 _ _ rfl rfl (hpre ⟨0,.data⟩ (by cases ho;simp) rfl)
     subst p0
     clear ho hpre
     refine wpOp_here rfl (fun K' hK => ?_)
     go_simp
     exact hK _ _ ⟨_,rfl,Below.refl _ _,fun p hp => by cases (show some (fun z _ => z = Value.int .i64 (xh)) = some p from hp);exact rfl⟩
    ·clear ho hpre
     refine wpOp_here rfl (fun K' hK => ?_)
     go_simp
     exact hK _ _ ⟨_,rfl,Below.refl _ _,fun p hp => by cases (show some (fun z _ => z = Value.int .i64 (1000000001)) = some p from hp);exact rfl⟩
    ·have p1 := hF.fact 1 _ _ rfl rfl (hpre ⟨1,.data⟩ (by cases ho;simp) rfl)
     subst p1
     have p2 := hF.fact 2 _ _ rfl rfl (hpre ⟨2,.data⟩ (by cases ho;simp) rfl)
     subst p2
     clear ho hpre
     refine wpOp_here rfl (fun K' hK => ?_)
     go_simp
     refine (pick9_any xh 1000000001 wz ih.1 ih.2 (by decide) (by decide)).mono ?_
     rintro e6 w6 ⟨rfl,rfl⟩
     exact hK _ _ ⟨_,rfl,Below.refl _ _,fun p hp => by cases (show some (fun z _ => z = Value.int .i64 (numR xh)) = some p from hp);exact rfl⟩
    ·clear ho hpre
     refine wpOp_here rfl (fun K' hK => ?_)
     go_simp
     exact hK _ _ ⟨_,rfl,Below.refl _ _,fun p hp => by cases (show some (fun z _ => z = Value.pointer (some ⟨w.heap.size,1,none⟩)) = some p from hp);exact rfl⟩
    ·obtain ⟨c0,c1,c2,c3,c4,c5,c6,c7,c8,c9⟩ := ten_of ((hF.bel.block _ hlb).trans HBOX.out)
     have p4 := hF.fact 4 _ _ rfl rfl (hpre ⟨4,.data⟩ (by cases ho;simp) rfl)
     subst p4
     clear ho hpre
     refine wpOp_here rfl (fun K' hK => ?_)
     go_simp
     exact hK _ _ ⟨_,rfl,Below.refl _ _,fun p hp => by cases (show some (fun z _ => z = Value.int .i64 (xb)) = some p from hp);exact rfl⟩
    ·clear ho hpre
     refine wpOp_here rfl (fun K' hK => ?_)
     go_simp
     exact hK _ _ ⟨_,rfl,Below.refl _ _,fun p hp => by cases (show some (fun z _ => z = Value.int .i64 (1000000001)) = some p from hp);exact rfl⟩
    ·have p5 := hF.fact 5 _ _ rfl rfl (hpre ⟨5,.data⟩ (by cases ho;simp) rfl)
     subst p5
     have p6 := hF.fact 6 _ _ rfl rfl (hpre ⟨6,.data⟩ (by cases ho;simp) rfl)
     subst p6
     clear ho hpre
     refine wpOp_here rfl (fun K' hK => ?_)
     go_simp
     refine (pick9_any xb 1000000001 wz ib.1 ib.2 (by decide) (by decide)).mono ?_
     rintro e6 w6 ⟨rfl,rfl⟩
     exact hK _ _ ⟨_,rfl,Below.refl _ _,fun p hp => by cases (show some (fun z _ => z = Value.int .i64 (numR xb)) = some p from hp);exact rfl⟩
    ·clear ho hpre
     refine wpOp_here rfl (fun K' hK => ?_)
     go_simp
     exact hK _ _ ⟨_,rfl,Below.refl _ _,fun p hp => by cases (show some (fun z _ => z = Value.pointer (some ⟨w.heap.size,2,none⟩)) = some p from hp);exact rfl⟩
    ·obtain ⟨c0,c1,c2,c3,c4,c5,c6,c7,c8,c9⟩ := ten_of ((hF.bel.block _ hlb).trans HBOX.out)
     have p8 := hF.fact 8 _ _ rfl rfl (hpre ⟨8,.data⟩ (by cases ho;simp) rfl)
     subst p8
     clear ho hpre
     refine wpOp_here rfl (fun K' hK => ?_)
     go_simp
     exact hK _ _ ⟨_,rfl,Below.refl _ _,fun p hp => by cases (show some (fun z _ => z = Value.string ⟨xv.toArray⟩) = some p from hp);exact rfl⟩
    ·have p9 := hF.fact 9 _ _ rfl rfl (hpre ⟨9,.data⟩ (by cases ho;simp) rfl)
     subst p9
     clear ho hpre
     refine wpOp_here rfl (fun K' hK => ?_)
     go_simp
     refine (Tp.Fit_any xv wz hv).mono ?_
     rintro e6 w6 ⟨rfl,hb6⟩
     exact hK _ _ ⟨_,rfl,hb6,fun p hp => by cases (show some (fun z _ => z = Value.string ⟨(Tp.fitL xv).toArray⟩) = some p from hp);exact rfl⟩
    ·clear ho hpre
     refine wpOp_here rfl (fun K' hK => ?_)
     go_simp
     exact hK _ _ ⟨_,rfl,Below.refl _ _,fun p hp => by cases (show some (fun z _ => z = Value.pointer (some ⟨w.heap.size,3,none⟩)) = some p from hp);exact rfl⟩
    ·obtain ⟨c0,c1,c2,c3,c4,c5,c6,c7,c8,c9⟩ := ten_of ((hF.bel.block _ hlb).trans HBOX.out)
     have p11 := hF.fact 11 _ _ rfl rfl (hpre ⟨11,.data⟩ (by cases ho;simp) rfl)
     subst p11
     clear ho hpre
     refine wpOp_here rfl (fun K' hK => ?_)
     go_simp
     exact hK _ _ ⟨_,rfl,Below.refl _ _,fun p hp => by cases (show some (fun z _ => z = Value.int .i64 (xo)) = some p from hp);exact rfl⟩
    ·clear ho hpre
     refine wpOp_here rfl (fun K' hK => ?_)
     go_simp
     exact hK _ _ ⟨_,rfl,Below.refl _ _,fun p hp => by cases (show some (fun z _ => z = Value.int .i64 (1000000001)) = some p from hp);exact rfl⟩
    ·have p12 := hF.fact 12 _ _ rfl rfl (hpre ⟨12,.data⟩ (by cases ho;simp) rfl)
     subst p12
     have p13 := hF.fact 13 _ _ rfl rfl (hpre ⟨13,.data⟩ (by cases ho;simp) rfl)
     subst p13
     clear ho hpre
     refine wpOp_here rfl (fun K' hK => ?_)
     go_simp
     refine (pick9_any xo 1000000001 wz io.1 io.2 (by decide) (by decide)).mono ?_
     rintro e6 w6 ⟨rfl,rfl⟩
     exact hK _ _ ⟨_,rfl,Below.refl _ _,fun p hp => by cases (show some (fun z _ => z = Value.int .i64 (numR xo)) = some p from hp);exact rfl⟩
    ·clear ho hpre
     refine wpOp_here rfl (fun K' hK => ?_)
     go_simp
     exact hK _ _ ⟨_,rfl,Below.refl _ _,fun p hp => by cases (show some (fun z _ => z = Value.pointer (some ⟨w.heap.size,4,none⟩)) = some p from hp);exact rfl⟩
    ·obtain ⟨c0,c1,c2,c3,c4,c5,c6,c7,c8,c9⟩ := ten_of ((hF.bel.block _ hlb).trans HBOX.out)
     have p15 := hF.fact 15 _ _ rfl rfl (hpre ⟨15,.data⟩ (by cases ho;simp) rfl)
     subst p15
     clear ho hpre
     refine wpOp_here rfl (fun K' hK => ?_)
     go_simp
     exact hK _ _ ⟨_,rfl,Below.refl _ _,fun p hp => by cases (show some (fun z _ => z = Value.int .i64 (xu)) = some p from hp);exact rfl⟩
    ·clear ho hpre
     refine wpOp_here rfl (fun K' hK => ?_)
     go_simp
     exact hK _ _ ⟨_,rfl,Below.refl _ _,fun p hp => by cases (show some (fun z _ => z = Value.int .i64 (1000000001)) = some p from hp);exact rfl⟩
    ·have p16 := hF.fact 16 _ _ rfl rfl (hpre ⟨16,.data⟩ (by cases ho;simp) rfl)
     subst p16
     have p17 := hF.fact 17 _ _ rfl rfl (hpre ⟨17,.data⟩ (by cases ho;simp) rfl)
     subst p17
     clear ho hpre
     refine wpOp_here rfl (fun K' hK => ?_)
     go_simp
     refine (pick9_any xu 1000000001 wz iu.1 iu.2 (by decide) (by decide)).mono ?_
     rintro e6 w6 ⟨rfl,rfl⟩
     exact hK _ _ ⟨_,rfl,Below.refl _ _,fun p hp => by cases (show some (fun z _ => z = Value.int .i64 (numR xu)) = some p from hp);exact rfl⟩
    ·clear ho hpre
     refine wpOp_here rfl (fun K' hK => ?_)
     go_simp
     exact hK _ _ ⟨_,rfl,Below.refl _ _,fun p hp => by cases (show some (fun z _ => z = Value.pointer (some ⟨w.heap.size,5,none⟩)) = some p from hp);exact rfl⟩
    ·obtain ⟨c0,c1,c2,c3,c4,c5,c6,c7,c8,c9⟩ := ten_of ((hF.bel.block _ hlb).trans HBOX.out)
     have p19 := hF.fact 19 _ _ rfl rfl (hpre ⟨19,.data⟩ (by cases ho;simp) rfl)
     subst p19
     clear ho hpre
     refine wpOp_here rfl (fun K' hK => ?_)
     go_simp
     exact hK _ _ ⟨_,rfl,Below.refl _ _,fun p hp => by cases (show some (fun z _ => z = Value.bool true) = some p from hp);exact rfl⟩
    ·have p20 := hF.fact 20 _ _ rfl rfl (hpre ⟨20,.data⟩ (by cases ho;simp) rfl)
     subst p20
     clear ho hpre
     refine wpOp_here rfl (fun K' hK => ?_)
     go_simp
     exact hK _ _ ⟨_,rfl,Below.refl _ _,fun p hp => by cases (show some (fun z _ => z = Value.bool true) = some p from hp);exact rfl⟩
    ·have p21 := hF.fact 21 _ _ rfl rfl (hpre ⟨21,.guard⟩ (by cases ho;simp) rfl)
     subst p21
     clear ho hpre
     refine wpOp_here rfl (fun K' hK => ?_)
     go_simp
     exact hK _ _ ⟨_,rfl,Below.refl _ _,fun p hp => by cases (show some (fun z _ => z = undef) = some p from hp);exact rfl⟩
    ·have p21 := hF.fact 21 _ _ rfl rfl (hpre ⟨21,.guard⟩ (by cases ho;simp) rfl)
     subst p21
     clear ho hpre
     refine wpOp_here rfl (fun K' hK => ?_)
     go_simp
     exact hK _ _ ⟨_,rfl,Below.refl _ _,fun p hp => by cases (show some (fun z _ => z = undef) = some p from hp);exact rfl⟩
    ·have p21 := hF.fact 21 _ _ rfl rfl (hpre ⟨21,.data⟩ (by cases ho;simp) rfl)
     subst p21
     clear ho hpre
     refine wpOp_here rfl (fun K' hK => ?_)
     go_simp
     exact hK _ _ ⟨_,rfl,Below.refl _ _,fun p hp => by cases (show some (fun z _ => z = Value.bool (true || xd)) = some p from hp);exact rfl⟩
    ·clear ho hpre
     refine wpOp_here rfl (fun K' hK => ?_)
     go_simp
     exact hK _ _ ⟨_,rfl,Below.refl _ _,fun p hp => by cases (show some (fun z _ => z = Value.pointer (some ⟨w.heap.size,6,none⟩)) = some p from hp);exact rfl⟩
    ·obtain ⟨c0,c1,c2,c3,c4,c5,c6,c7,c8,c9⟩ := ten_of ((hF.bel.block _ hlb).trans HBOX.out)
     have p25 := hF.fact 25 _ _ rfl rfl (hpre ⟨25,.data⟩ (by cases ho;simp) rfl)
     subst p25
     clear ho hpre
     refine wpOp_here rfl (fun K' hK => ?_)
     go_simp
     exact hK _ _ ⟨_,rfl,Below.refl _ _,fun p hp => by cases (show some (fun z _ => z = Value.int .i64 (xn)) = some p from hp);exact rfl⟩
    ·clear ho hpre
     refine wpOp_here rfl (fun K' hK => ?_)
     go_simp
     exact hK _ _ ⟨_,rfl,Below.refl _ _,fun p hp => by cases (show some (fun z _ => z = Value.int .i64 (1000000001)) = some p from hp);exact rfl⟩
    ·have p26 := hF.fact 26 _ _ rfl rfl (hpre ⟨26,.data⟩ (by cases ho;simp) rfl)
     subst p26
     have p27 := hF.fact 27 _ _ rfl rfl (hpre ⟨27,.data⟩ (by cases ho;simp) rfl)
     subst p27
     clear ho hpre
     refine wpOp_here rfl (fun K' hK => ?_)
     go_simp
     refine (pick9_any xn 1000000001 wz in_.1 in_.2 (by decide) (by decide)).mono ?_
     rintro e6 w6 ⟨rfl,rfl⟩
     exact hK _ _ ⟨_,rfl,Below.refl _ _,fun p hp => by cases (show some (fun z _ => z = Value.int .i64 (numR xn)) = some p from hp);exact rfl⟩
    ·clear ho hpre
     refine wpOp_here rfl (fun K' hK => ?_)
     go_simp
     exact hK _ _ ⟨_,rfl,Below.refl _ _,fun p hp => by cases (show some (fun z _ => z = Value.pointer (some ⟨w.heap.size,7,none⟩)) = some p from hp);exact rfl⟩
    ·obtain ⟨c0,c1,c2,c3,c4,c5,c6,c7,c8,c9⟩ := ten_of ((hF.bel.block _ hlb).trans HBOX.out)
     have p29 := hF.fact 29 _ _ rfl rfl (hpre ⟨29,.data⟩ (by cases ho;simp) rfl)
     subst p29
     clear ho hpre
     refine wpOp_here rfl (fun K' hK => ?_)
     go_simp
     exact hK _ _ ⟨_,rfl,Below.refl _ _,fun p hp => by cases (show some (fun z _ => z = Value.int .i64 (xq)) = some p from hp);exact rfl⟩
    ·have p30 := hF.fact 30 _ _ rfl rfl (hpre ⟨30,.data⟩ (by cases ho;simp) rfl)
     subst p30
     clear ho hpre
     refine wpOp_here rfl (fun K' hK => ?_)
     go_simp
     refine (pick9_any xq 500000001 wz iq.1 iq.2 (by decide) (by decide)).mono ?_
     rintro e6 w6 ⟨rfl,rfl⟩
     exact hK _ _ ⟨_,rfl,Below.refl _ _,fun p hp => by cases (show some (fun z _ => z = Value.int .i64 (Quo.pickS xq 500000001)) = some p from hp);exact rfl⟩
    ·have p31 := hF.fact 31 _ _ rfl rfl (hpre ⟨31,.data⟩ (by cases ho;simp) rfl)
     subst p31
     clear ho hpre
     refine wpOp_here rfl (fun K' hK => ?_)
     go_simp
     try rw [HMUL.out]
     exact hK _ _ ⟨_,rfl,Below.refl _ _,fun p hp => by cases (show some (fun z _ => z = Value.int .i64 (2 * Quo.pickS xq 500000001)) = some p from hp);exact rfl⟩
    ·clear ho hpre
     refine wpOp_here rfl (fun K' hK => ?_)
     go_simp
     exact hK _ _ ⟨_,rfl,Below.refl _ _,fun p hp => by cases (show some (fun z _ => z = Value.pointer (some ⟨w.heap.size,8,none⟩)) = some p from hp);exact rfl⟩
    ·obtain ⟨c0,c1,c2,c3,c4,c5,c6,c7,c8,c9⟩ := ten_of ((hF.bel.block _ hlb).trans HBOX.out)
     have p33 := hF.fact 33 _ _ rfl rfl (hpre ⟨33,.data⟩ (by cases ho;simp) rfl)
     subst p33
     clear ho hpre
     refine wpOp_here rfl (fun K' hK => ?_)
     go_simp
     exact hK _ _ ⟨_,rfl,Below.refl _ _,fun p hp => by cases (show some (fun z _ => z = Value.bool xd) = some p from hp);exact rfl⟩
    ·clear ho hpre
     refine wpOp_here rfl (fun K' hK => ?_)
     go_simp
     exact hK _ _ ⟨_,rfl,Below.refl _ _,fun p hp => by cases (show some (fun z _ => z = Value.pointer (some ⟨w.heap.size,9,none⟩)) = some p from hp);exact rfl⟩
    ·obtain ⟨c0,c1,c2,c3,c4,c5,c6,c7,c8,c9⟩ := ten_of ((hF.bel.block _ hlb).trans HBOX.out)
     have p35 := hF.fact 35 _ _ rfl rfl (hpre ⟨35,.data⟩ (by cases ho;simp) rfl)
     subst p35
     clear ho hpre
     refine wpOp_here rfl (fun K' hK => ?_)
     go_simp
     exact hK _ _ ⟨_,rfl,Below.refl _ _,fun p hp => by cases (show some (fun z _ => z = Value.int .i64 (xa)) = some p from hp);exact rfl⟩
    ·clear ho hpre
     refine wpOp_here rfl (fun K' hK => ?_)
     go_simp
     exact hK _ _ ⟨_,rfl,Below.refl _ _,fun p hp => by cases (show some (fun z _ => z = Value.int .i64 (1000000001)) = some p from hp);exact rfl⟩
    ·have p36 := hF.fact 36 _ _ rfl rfl (hpre ⟨36,.data⟩ (by cases ho;simp) rfl)
     subst p36
     have p37 := hF.fact 37 _ _ rfl rfl (hpre ⟨37,.data⟩ (by cases ho;simp) rfl)
     subst p37
     clear ho hpre
     refine wpOp_here rfl (fun K' hK => ?_)
     go_simp
     refine (pick9_any xa 1000000001 wz ia.1 ia.2 (by decide) (by decide)).mono ?_
     rintro e6 w6 ⟨rfl,rfl⟩
     exact hK _ _ ⟨_,rfl,Below.refl _ _,fun p hp => by cases (show some (fun z _ => z = Value.int .i64 (numR xa)) = some p from hp);exact rfl⟩
    ·have p3 := hF.fact 3 _ _ rfl rfl (hpre ⟨3,.data⟩ (by cases ho;simp) rfl)
     subst p3
     have p7 := hF.fact 7 _ _ rfl rfl (hpre ⟨7,.data⟩ (by cases ho;simp) rfl)
     subst p7
     have p10 := hF.fact 10 _ _ rfl rfl (hpre ⟨10,.data⟩ (by cases ho;simp) rfl)
     subst p10
     have p14 := hF.fact 14 _ _ rfl rfl (hpre ⟨14,.data⟩ (by cases ho;simp) rfl)
     subst p14
     have p18 := hF.fact 18 _ _ rfl rfl (hpre ⟨18,.data⟩ (by cases ho;simp) rfl)
     subst p18
     have p24 := hF.fact 24 _ _ rfl rfl (hpre ⟨24,.data⟩ (by cases ho;simp) rfl)
     subst p24
     have p28 := hF.fact 28 _ _ rfl rfl (hpre ⟨28,.data⟩ (by cases ho;simp) rfl)
     subst p28
     have p32 := hF.fact 32 _ _ rfl rfl (hpre ⟨32,.data⟩ (by cases ho;simp) rfl)
     subst p32
     have p34 := hF.fact 34 _ _ rfl rfl (hpre ⟨34,.data⟩ (by cases ho;simp) rfl)
     subst p34
     have p38 := hF.fact 38 _ _ rfl rfl (hpre ⟨38,.data⟩ (by cases ho;simp) rfl)
     subst p38
     clear ho hpre
     refine wpOp_here rfl (fun K' hK => ?_)
     go_simp
     exact hK _ _ ⟨_,rfl,Below.refl _ _,fun p hp => by cases (show some (fun z _ => z = Value.agg #[.int .i64 (numR xh),.int .i64 (numR xb),.string ⟨(Tp.fitL xv).toArray⟩,.int .i64 (numR xo),.int .i64 (numR xu),.bool (true || xd),.int .i64 (numR xn),.int .i64 (2 * Quo.pickS xq 500000001),.bool xd,.int .i64 (numR xa)]) = some p from hp);exact rfl⟩
 ·intro zs wz hz hB hev
  match zs,(show zs.length = 40 from hz) with
  | z0 :: z1 :: z2 :: z3 :: z4 :: z5 :: z6 :: z7 :: z8 :: z9 :: z10 :: z11 :: z12 :: z13 :: z14 :: z15 :: z16 :: z17 :: z18 :: z19 :: z20 :: z21 :: z22 :: z23 :: z24 :: z25 :: z26 :: z27 :: z28 :: z29 :: z30 :: z31 :: z32 :: z33 :: z34 :: z35 :: z36 :: z37 :: z38 :: z39 :: [],_ =>
    have p39 := hev 39 _ _ rfl rfl
    clear hev hz
    change wpOp _ _ _ _ _ { tmps := List.toArray (Value.agg #[.int .i64 xh,.int .i64 xb,.string ⟨xv.toArray⟩,.int .i64 xo,.int .i64 xu,.bool true,.int .i64 xn,.int .i64 xq,.bool xd,.int .i64 xa] :: Value.pointer (some ⟨w.heap.size,0,none⟩) :: Value.pointer (some ⟨w.heap.size + 1,0,none⟩) :: Value.int .i64 (1000000001) :: z0 :: z1 :: z2 :: z3 :: z4 :: z5 :: z6 :: z7 :: z8 :: z9 :: z10 :: z11 :: z12 :: z13 :: z14 :: z15 :: z16 :: z17 :: z18 :: z19 :: z20 :: z21 :: z22 :: z23 :: z24 :: z25 :: z26 :: z27 :: z28 :: z29 :: z30 :: z31 :: z32 :: z33 :: z34 :: z35 :: z36 :: z37 :: z38 :: z39 :: []),defers := [] } _
    subst p39
    have y0 := (hB.block _ hlr).trans HRES.out
    obtain ⟨c0,c1,c2,c3,c4,c5,c6,c7,c8,c9⟩ := ten_of y0
    obtain ⟨g0,g1,g2,g3,g4,g5,g6,g7,g8,g9⟩ := free_ten y0
    refine wpOp_here rfl (fun K' hK => ?_)
    go_simp
    refine hK _ _ ?_
    go_wp2_with fail
    refine bodyPost_ret (v := Value.agg #[.int .i64 (numR xh),.int .i64 (numR xb),.string ⟨(Tp.fitL xv).toArray⟩,.int .i64 (numR xo),.int .i64 (numR xu),.bool (true || xd),.int .i64 (numR xn),.int .i64 (2 * Quo.pickS xq 500000001),.bool xd,.int .i64 (numR xa)]) (by simp [results,Tryz.results20,go_sem,c0,c1,c2,c3,c4,c5,c6,c7,c8,c9]) rfl ?_
    exact ⟨rfl,below_ten (HB2.out.trans (hB.mono hs2)) (by omega) _ _ _ _ _ _ _ _ _ _⟩
set_option maxRecDepth 100000 in
theorem fit9_false (xh xb xo xu xn xq xa : Int) (xv : List UInt8) (xd : Bool) (w : World) (ih : i64B xh) (ib : i64B xb) (io : i64B xo) (iu : i64B xu) (in_ : i64B xn) (iq : i64B xq) (ia : i64B xa) (hv : xv.length ≤ Tp.reachN) :
 Calls Tryz.prog 20 #[Value.agg #[.int .i64 xh,.int .i64 xb,.string ⟨xv.toArray⟩,.int .i64 xo,.int .i64 xu,.bool false,.int .i64 xn,.int .i64 xq,.bool xd,.int .i64 xa]] w (Ret (Value.agg #[.int .i64 (numR xh),.int .i64 (numR xb),.string ⟨(Tp.fitL xv).toArray⟩,.int .i64 (numR xo),.int .i64 (numR xu),.bool (false || xd),.int .i64 (numR xn),.int .i64 (2 * Quo.pickS xq 500000001),.bool xd,.int .i64 (numR xa)]) w) := by
 have HMUL : Hid (IntKind.i64.wrap (2 * Quo.pickS xq 500000001) = 2 * Quo.pickS xq 500000001) := by
  have h1 := Quo.pickS_nonneg (c := xq) (n := 500000001) (by decide)
  have h2 := Quo.pickS_lt (c := xq) (n := 500000001) (by decide)
  exact IntWalk.i64_in _ (by omega)
 go_enter Tryz.func20,Tryz.ntmps20
 go_upto_region 2 with fail
 obtain ⟨w2,hw2⟩ : ∃ w2,((w.alloc (.cells #[.int .i64 xh,.int .i64 xb,.string ⟨xv.toArray⟩,.int .i64 xo,.int .i64 xu,.bool false,.int .i64 xn,.int .i64 xq,.bool xd,.int .i64 xa] 41)).alloc (.cells #[.int .i64 0,.int .i64 0,.string ⟨#[]⟩,.int .i64 0,.int .i64 0,.bool false,.int .i64 0,.int .i64 0,.bool false,.int .i64 0] 41)) = w2 := ⟨_,rfl⟩
 have HBOX : Hid (w2.heap[w.heap.size]? = some (.cells #[.int .i64 xh,.int .i64 xb,.string ⟨xv.toArray⟩,.int .i64 xo,.int .i64 xu,.bool false,.int .i64 xn,.int .i64 xq,.bool xd,.int .i64 xa] 41 (0,0))) := by show _ = _;rw [← hw2];exact two_old _ _ _
 have HRES : Hid (w2.heap[w.heap.size + 1]? = some (.cells #[.int .i64 0,.int .i64 0,.string ⟨#[]⟩,.int .i64 0,.int .i64 0,.bool false,.int .i64 0,.int .i64 0,.bool false,.int .i64 0] 41 (0,0))) := by show _ = _;rw [← hw2];exact two_new _ _ _
 have HB2 : Hid (Below w.heap.size w w2) := by show Below _ _ _;rw [← hw2];exact belowTwo _ _ _
 have hlb := Own.block_lt HBOX.out
 have hlr := Own.block_lt HRES.out
 have hs2 := HB2.out.size
 rw [hw2]
 clear hw2
 refine wp_region_grow mixed8 (fun zs => { tmps := List.toArray (Value.agg #[.int .i64 xh,.int .i64 xb,.string ⟨xv.toArray⟩,.int .i64 xo,.int .i64 xu,.bool false,.int .i64 xn,.int .i64 xq,.bool xd,.int .i64 xa] :: Value.pointer (some ⟨w.heap.size,0,none⟩) :: Value.pointer (some ⟨w.heap.size + 1,0,none⟩) :: Value.int .i64 (1000000001) :: zs.getD 0 undef :: zs.getD 1 undef :: zs.getD 2 undef :: zs.getD 3 undef :: zs.getD 4 undef :: zs.getD 5 undef :: zs.getD 6 undef :: zs.getD 7 undef :: zs.getD 8 undef :: zs.getD 9 undef :: zs.getD 10 undef :: zs.getD 11 undef :: zs.getD 12 undef :: zs.getD 13 undef :: zs.getD 14 undef :: zs.getD 15 undef :: zs.getD 16 undef :: zs.getD 17 undef :: zs.getD 18 undef :: zs.getD 19 undef :: zs.getD 20 undef :: zs.getD 21 undef :: zs.getD 22 undef :: zs.getD 23 undef :: zs.getD 24 undef :: zs.getD 25 undef :: zs.getD 26 undef :: zs.getD 27 undef :: zs.getD 28 undef :: zs.getD 29 undef :: zs.getD 30 undef :: zs.getD 31 undef :: zs.getD 32 undef :: zs.getD 33 undef :: zs.getD 34 undef :: zs.getD 35 undef :: zs.getD 36 undef :: zs.getD 37 undef :: zs.getD 38 undef :: zs.getD 39 undef :: []),defers := [] }) [(fun z _ => z = Value.pointer (some ⟨w.heap.size,0,none⟩)),(fun z _ => z = Value.int .i64 (xh)),(fun z _ => z = Value.int .i64 (1000000001)),(fun z _ => z = Value.int .i64 (numR xh)),(fun z _ => z = Value.pointer (some ⟨w.heap.size,1,none⟩)),(fun z _ => z = Value.int .i64 (xb)),(fun z _ => z = Value.int .i64 (1000000001)),(fun z _ => z = Value.int .i64 (numR xb)),(fun z _ => z = Value.pointer (some ⟨w.heap.size,2,none⟩)),(fun z _ => z = Value.string ⟨xv.toArray⟩),(fun z _ => z = Value.string ⟨(Tp.fitL xv).toArray⟩),(fun z _ => z = Value.pointer (some ⟨w.heap.size,3,none⟩)),(fun z _ => z = Value.int .i64 (xo)),(fun z _ => z = Value.int .i64 (1000000001)),(fun z _ => z = Value.int .i64 (numR xo)),(fun z _ => z = Value.pointer (some ⟨w.heap.size,4,none⟩)),(fun z _ => z = Value.int .i64 (xu)),(fun z _ => z = Value.int .i64 (1000000001)),(fun z _ => z = Value.int .i64 (numR xu)),(fun z _ => z = Value.pointer (some ⟨w.heap.size,5,none⟩)),(fun z _ => z = Value.bool false),(fun z _ => z = Value.bool false),(fun z _ => z = Value.pointer (some ⟨w.heap.size,8,none⟩)),(fun z _ => z = Value.bool xd),(fun z _ => z = Value.bool (false || xd)),(fun z _ => z = Value.pointer (some ⟨w.heap.size,6,none⟩)),(fun z _ => z = Value.int .i64 (xn)),(fun z _ => z = Value.int .i64 (1000000001)),(fun z _ => z = Value.int .i64 (numR xn)),(fun z _ => z = Value.pointer (some ⟨w.heap.size,7,none⟩)),(fun z _ => z = Value.int .i64 (xq)),(fun z _ => z = Value.int .i64 (Quo.pickS xq 500000001)),(fun z _ => z = Value.int .i64 (2 * Quo.pickS xq 500000001)),(fun z _ => z = Value.pointer (some ⟨w.heap.size,8,none⟩)),(fun z _ => z = Value.bool xd),(fun z _ => z = Value.pointer (some ⟨w.heap.size,9,none⟩)),(fun z _ => z = Value.int .i64 (xa)),(fun z _ => z = Value.int .i64 (1000000001)),(fun z _ => z = Value.int .i64 (numR xa)),(fun z _ => z = Value.agg #[.int .i64 (numR xh),.int .i64 (numR xb),.string ⟨(Tp.fitL xv).toArray⟩,.int .i64 (numR xo),.int .i64 (numR xu),.bool (false || xd),.int .i64 (numR xn),.int .i64 (2 * Quo.pickS xq 500000001),.bool xd,.int .i64 (numR xa)])] (List.replicate 40 undef) rfl rfl rfl ?_ (by kernel_rfl) (by kernel_rfl) ?_ ?_
 ·intro p hp
  simp only [List.mem_cons,List.not_mem_nil,or_false] at hp
  rcases hp with rfl | rfl | rfl | rfl | rfl | rfl | rfl | rfl | rfl | rfl | rfl | rfl | rfl | rfl | rfl | rfl | rfl | rfl | rfl | rfl | rfl | rfl | rfl | rfl | rfl | rfl | rfl | rfl | rfl | rfl | rfl | rfl | rfl | rfl | rfl | rfl | rfl | rfl | rfl | rfl
  all_goals exact stable_eq _
 ·intro i hi zs l wz o hz hF ho hpre
  have hi' : i < 40 := hi
  match zs,(show zs.length = 40 from hz) with
  | z0 :: z1 :: z2 :: z3 :: z4 :: z5 :: z6 :: z7 :: z8 :: z9 :: z10 :: z11 :: z12 :: z13 :: z14 :: z15 :: z16 :: z17 :: z18 :: z19 :: z20 :: z21 :: z22 :: z23 :: z24 :: z25 :: z26 :: z27 :: z28 :: z29 :: z30 :: z31 :: z32 :: z33 :: z34 :: z35 :: z36 :: z37 :: z38 :: z39 :: [],_ =>
    clear hz hi
    change wpOp _ _ _ _ _ { tmps := List.toArray (Value.agg #[.int .i64 xh,.int .i64 xb,.string ⟨xv.toArray⟩,.int .i64 xo,.int .i64 xu,.bool false,.int .i64 xn,.int .i64 xq,.bool xd,.int .i64 xa] :: Value.pointer (some ⟨w.heap.size,0,none⟩) :: Value.pointer (some ⟨w.heap.size + 1,0,none⟩) :: Value.int .i64 (1000000001) :: z0 :: z1 :: z2 :: z3 :: z4 :: z5 :: z6 :: z7 :: z8 :: z9 :: z10 :: z11 :: z12 :: z13 :: z14 :: z15 :: z16 :: z17 :: z18 :: z19 :: z20 :: z21 :: z22 :: z23 :: z24 :: z25 :: z26 :: z27 :: z28 :: z29 :: z30 :: z31 :: z32 :: z33 :: z34 :: z35 :: z36 :: z37 :: z38 :: z39 :: []),defers := [] } _
    have hc : i = 0 ∨ i = 1 ∨ i = 2 ∨ i = 3 ∨ i = 4 ∨ i = 5 ∨ i = 6 ∨ i = 7 ∨ i = 8 ∨ i = 9 ∨ i = 10 ∨ i = 11 ∨ i = 12 ∨ i = 13 ∨ i = 14 ∨ i = 15 ∨ i = 16 ∨ i = 17 ∨ i = 18 ∨ i = 19 ∨ i = 20 ∨ i = 21 ∨ i = 22 ∨ i = 23 ∨ i = 24 ∨ i = 25 ∨ i = 26 ∨ i = 27 ∨ i = 28 ∨ i = 29 ∨ i = 30 ∨ i = 31 ∨ i = 32 ∨ i = 33 ∨ i = 34 ∨ i = 35 ∨ i = 36 ∨ i = 37 ∨ i = 38 ∨ i = 39 := by omega
    clear hi'
    rcases hc with rfl | rfl | rfl | rfl | rfl | rfl | rfl | rfl | rfl | rfl | rfl | rfl | rfl | rfl | rfl | rfl | rfl | rfl | rfl | rfl | rfl | rfl | rfl | rfl | rfl | rfl | rfl | rfl | rfl | rfl | rfl | rfl | rfl | rfl | rfl | rfl | rfl | rfl | rfl | rfl
    ·clear ho hpre
     refine wpOp_here rfl (fun K' hK => ?_)
     go_simp
     exact hK _ _ ⟨_,rfl,Below.refl _ _,fun p hp => by cases (show some (fun z _ => z = Value.pointer (some ⟨w.heap.size,0,none⟩)) = some p from hp);exact rfl⟩
    ·obtain ⟨c0,c1,c2,c3,c4,c5,c6,c7,c8,c9⟩ := ten_of ((hF.bel.block _ hlb).trans HBOX.out)
     have p0 := hF.fact 0 _ _ rfl rfl (hpre ⟨0,.data⟩ (by cases ho;simp) rfl)
     subst p0
     clear ho hpre
     refine wpOp_here rfl (fun K' hK => ?_)
     go_simp
     exact hK _ _ ⟨_,rfl,Below.refl _ _,fun p hp => by cases (show some (fun z _ => z = Value.int .i64 (xh)) = some p from hp);exact rfl⟩
    ·clear ho hpre
     refine wpOp_here rfl (fun K' hK => ?_)
     go_simp
     exact hK _ _ ⟨_,rfl,Below.refl _ _,fun p hp => by cases (show some (fun z _ => z = Value.int .i64 (1000000001)) = some p from hp);exact rfl⟩
    ·have p1 := hF.fact 1 _ _ rfl rfl (hpre ⟨1,.data⟩ (by cases ho;simp) rfl)
     subst p1
     have p2 := hF.fact 2 _ _ rfl rfl (hpre ⟨2,.data⟩ (by cases ho;simp) rfl)
     subst p2
     clear ho hpre
     refine wpOp_here rfl (fun K' hK => ?_)
     go_simp
     refine (pick9_any xh 1000000001 wz ih.1 ih.2 (by decide) (by decide)).mono ?_
     rintro e6 w6 ⟨rfl,rfl⟩
     exact hK _ _ ⟨_,rfl,Below.refl _ _,fun p hp => by cases (show some (fun z _ => z = Value.int .i64 (numR xh)) = some p from hp);exact rfl⟩
    ·clear ho hpre
     refine wpOp_here rfl (fun K' hK => ?_)
     go_simp
     exact hK _ _ ⟨_,rfl,Below.refl _ _,fun p hp => by cases (show some (fun z _ => z = Value.pointer (some ⟨w.heap.size,1,none⟩)) = some p from hp);exact rfl⟩
    ·obtain ⟨c0,c1,c2,c3,c4,c5,c6,c7,c8,c9⟩ := ten_of ((hF.bel.block _ hlb).trans HBOX.out)
     have p4 := hF.fact 4 _ _ rfl rfl (hpre ⟨4,.data⟩ (by cases ho;simp) rfl)
     subst p4
     clear ho hpre
     refine wpOp_here rfl (fun K' hK => ?_)
     go_simp
     exact hK _ _ ⟨_,rfl,Below.refl _ _,fun p hp => by cases (show some (fun z _ => z = Value.int .i64 (xb)) = some p from hp);exact rfl⟩
    ·clear ho hpre
     refine wpOp_here rfl (fun K' hK => ?_)
     go_simp
     exact hK _ _ ⟨_,rfl,Below.refl _ _,fun p hp => by cases (show some (fun z _ => z = Value.int .i64 (1000000001)) = some p from hp);exact rfl⟩
    ·have p5 := hF.fact 5 _ _ rfl rfl (hpre ⟨5,.data⟩ (by cases ho;simp) rfl)
     subst p5
     have p6 := hF.fact 6 _ _ rfl rfl (hpre ⟨6,.data⟩ (by cases ho;simp) rfl)
     subst p6
     clear ho hpre
     refine wpOp_here rfl (fun K' hK => ?_)
     go_simp
     refine (pick9_any xb 1000000001 wz ib.1 ib.2 (by decide) (by decide)).mono ?_
     rintro e6 w6 ⟨rfl,rfl⟩
     exact hK _ _ ⟨_,rfl,Below.refl _ _,fun p hp => by cases (show some (fun z _ => z = Value.int .i64 (numR xb)) = some p from hp);exact rfl⟩
    ·clear ho hpre
     refine wpOp_here rfl (fun K' hK => ?_)
     go_simp
     exact hK _ _ ⟨_,rfl,Below.refl _ _,fun p hp => by cases (show some (fun z _ => z = Value.pointer (some ⟨w.heap.size,2,none⟩)) = some p from hp);exact rfl⟩
    ·obtain ⟨c0,c1,c2,c3,c4,c5,c6,c7,c8,c9⟩ := ten_of ((hF.bel.block _ hlb).trans HBOX.out)
     have p8 := hF.fact 8 _ _ rfl rfl (hpre ⟨8,.data⟩ (by cases ho;simp) rfl)
     subst p8
     clear ho hpre
     refine wpOp_here rfl (fun K' hK => ?_)
     go_simp
     exact hK _ _ ⟨_,rfl,Below.refl _ _,fun p hp => by cases (show some (fun z _ => z = Value.string ⟨xv.toArray⟩) = some p from hp);exact rfl⟩
    ·have p9 := hF.fact 9 _ _ rfl rfl (hpre ⟨9,.data⟩ (by cases ho;simp) rfl)
     subst p9
     clear ho hpre
     refine wpOp_here rfl (fun K' hK => ?_)
     go_simp
     refine (Tp.Fit_any xv wz hv).mono ?_
     rintro e6 w6 ⟨rfl,hb6⟩
     exact hK _ _ ⟨_,rfl,hb6,fun p hp => by cases (show some (fun z _ => z = Value.string ⟨(Tp.fitL xv).toArray⟩) = some p from hp);exact rfl⟩
    ·clear ho hpre
     refine wpOp_here rfl (fun K' hK => ?_)
     go_simp
     exact hK _ _ ⟨_,rfl,Below.refl _ _,fun p hp => by cases (show some (fun z _ => z = Value.pointer (some ⟨w.heap.size,3,none⟩)) = some p from hp);exact rfl⟩
    ·obtain ⟨c0,c1,c2,c3,c4,c5,c6,c7,c8,c9⟩ := ten_of ((hF.bel.block _ hlb).trans HBOX.out)
     have p11 := hF.fact 11 _ _ rfl rfl (hpre ⟨11,.data⟩ (by cases ho;simp) rfl)
     subst p11
     clear ho hpre
     refine wpOp_here rfl (fun K' hK => ?_)
     go_simp
     exact hK _ _ ⟨_,rfl,Below.refl _ _,fun p hp => by cases (show some (fun z _ => z = Value.int .i64 (xo)) = some p from hp);exact rfl⟩
    ·clear ho hpre
     refine wpOp_here rfl (fun K' hK => ?_)
     go_simp
     exact hK _ _ ⟨_,rfl,Below.refl _ _,fun p hp => by cases (show some (fun z _ => z = Value.int .i64 (1000000001)) = some p from hp);exact rfl⟩
    ·have p12 := hF.fact 12 _ _ rfl rfl (hpre ⟨12,.data⟩ (by cases ho;simp) rfl)
     subst p12
     have p13 := hF.fact 13 _ _ rfl rfl (hpre ⟨13,.data⟩ (by cases ho;simp) rfl)
     subst p13
     clear ho hpre
     refine wpOp_here rfl (fun K' hK => ?_)
     go_simp
     refine (pick9_any xo 1000000001 wz io.1 io.2 (by decide) (by decide)).mono ?_
     rintro e6 w6 ⟨rfl,rfl⟩
     exact hK _ _ ⟨_,rfl,Below.refl _ _,fun p hp => by cases (show some (fun z _ => z = Value.int .i64 (numR xo)) = some p from hp);exact rfl⟩
    ·clear ho hpre
     refine wpOp_here rfl (fun K' hK => ?_)
     go_simp
     exact hK _ _ ⟨_,rfl,Below.refl _ _,fun p hp => by cases (show some (fun z _ => z = Value.pointer (some ⟨w.heap.size,4,none⟩)) = some p from hp);exact rfl⟩
    ·obtain ⟨c0,c1,c2,c3,c4,c5,c6,c7,c8,c9⟩ := ten_of ((hF.bel.block _ hlb).trans HBOX.out)
     have p15 := hF.fact 15 _ _ rfl rfl (hpre ⟨15,.data⟩ (by cases ho;simp) rfl)
     subst p15
     clear ho hpre
     refine wpOp_here rfl (fun K' hK => ?_)
     go_simp
     exact hK _ _ ⟨_,rfl,Below.refl _ _,fun p hp => by cases (show some (fun z _ => z = Value.int .i64 (xu)) = some p from hp);exact rfl⟩
    ·clear ho hpre
     refine wpOp_here rfl (fun K' hK => ?_)
     go_simp
     exact hK _ _ ⟨_,rfl,Below.refl _ _,fun p hp => by cases (show some (fun z _ => z = Value.int .i64 (1000000001)) = some p from hp);exact rfl⟩
    ·have p16 := hF.fact 16 _ _ rfl rfl (hpre ⟨16,.data⟩ (by cases ho;simp) rfl)
     subst p16
     have p17 := hF.fact 17 _ _ rfl rfl (hpre ⟨17,.data⟩ (by cases ho;simp) rfl)
     subst p17
     clear ho hpre
     refine wpOp_here rfl (fun K' hK => ?_)
     go_simp
     refine (pick9_any xu 1000000001 wz iu.1 iu.2 (by decide) (by decide)).mono ?_
     rintro e6 w6 ⟨rfl,rfl⟩
     exact hK _ _ ⟨_,rfl,Below.refl _ _,fun p hp => by cases (show some (fun z _ => z = Value.int .i64 (numR xu)) = some p from hp);exact rfl⟩
    ·clear ho hpre
     refine wpOp_here rfl (fun K' hK => ?_)
     go_simp
     exact hK _ _ ⟨_,rfl,Below.refl _ _,fun p hp => by cases (show some (fun z _ => z = Value.pointer (some ⟨w.heap.size,5,none⟩)) = some p from hp);exact rfl⟩
    ·obtain ⟨c0,c1,c2,c3,c4,c5,c6,c7,c8,c9⟩ := ten_of ((hF.bel.block _ hlb).trans HBOX.out)
     have p19 := hF.fact 19 _ _ rfl rfl (hpre ⟨19,.data⟩ (by cases ho;simp) rfl)
     subst p19
     clear ho hpre
     refine wpOp_here rfl (fun K' hK => ?_)
     go_simp
     exact hK _ _ ⟨_,rfl,Below.refl _ _,fun p hp => by cases (show some (fun z _ => z = Value.bool false) = some p from hp);exact rfl⟩
    ·have p20 := hF.fact 20 _ _ rfl rfl (hpre ⟨20,.data⟩ (by cases ho;simp) rfl)
     subst p20
     clear ho hpre
     refine wpOp_here rfl (fun K' hK => ?_)
     go_simp
     exact hK _ _ ⟨_,rfl,Below.refl _ _,fun p hp => by cases (show some (fun z _ => z = Value.bool false) = some p from hp);exact rfl⟩
    ·have p21 := hF.fact 21 _ _ rfl rfl (hpre ⟨21,.guard⟩ (by cases ho;simp) rfl)
     subst p21
     clear ho hpre
     refine wpOp_here rfl (fun K' hK => ?_)
     go_simp
     exact hK _ _ ⟨_,rfl,Below.refl _ _,fun p hp => by cases (show some (fun z _ => z = Value.pointer (some ⟨w.heap.size,8,none⟩)) = some p from hp);exact rfl⟩
    ·obtain ⟨c0,c1,c2,c3,c4,c5,c6,c7,c8,c9⟩ := ten_of ((hF.bel.block _ hlb).trans HBOX.out)
     have p21 := hF.fact 21 _ _ rfl rfl (hpre ⟨21,.guard⟩ (by cases ho;simp) rfl)
     subst p21
     have p22 := hF.fact 22 _ _ rfl rfl (hpre ⟨22,.data⟩ (by cases ho;simp) rfl)
     subst p22
     clear ho hpre
     refine wpOp_here rfl (fun K' hK => ?_)
     go_simp
     exact hK _ _ ⟨_,rfl,Below.refl _ _,fun p hp => by cases (show some (fun z _ => z = Value.bool xd) = some p from hp);exact rfl⟩
    ·have p21 := hF.fact 21 _ _ rfl rfl (hpre ⟨21,.data⟩ (by cases ho;simp) rfl)
     subst p21
     have p23 := hF.fact 23 _ _ rfl rfl (hpre ⟨23,.data⟩ (by cases ho;simp) rfl)
     subst p23
     clear ho hpre
     refine wpOp_here rfl (fun K' hK => ?_)
     go_simp
     exact hK _ _ ⟨_,rfl,Below.refl _ _,fun p hp => by cases (show some (fun z _ => z = Value.bool (false || xd)) = some p from hp);exact rfl⟩
    ·clear ho hpre
     refine wpOp_here rfl (fun K' hK => ?_)
     go_simp
     exact hK _ _ ⟨_,rfl,Below.refl _ _,fun p hp => by cases (show some (fun z _ => z = Value.pointer (some ⟨w.heap.size,6,none⟩)) = some p from hp);exact rfl⟩
    ·obtain ⟨c0,c1,c2,c3,c4,c5,c6,c7,c8,c9⟩ := ten_of ((hF.bel.block _ hlb).trans HBOX.out)
     have p25 := hF.fact 25 _ _ rfl rfl (hpre ⟨25,.data⟩ (by cases ho;simp) rfl)
     subst p25
     clear ho hpre
     refine wpOp_here rfl (fun K' hK => ?_)
     go_simp
     exact hK _ _ ⟨_,rfl,Below.refl _ _,fun p hp => by cases (show some (fun z _ => z = Value.int .i64 (xn)) = some p from hp);exact rfl⟩
    ·clear ho hpre
     refine wpOp_here rfl (fun K' hK => ?_)
     go_simp
     exact hK _ _ ⟨_,rfl,Below.refl _ _,fun p hp => by cases (show some (fun z _ => z = Value.int .i64 (1000000001)) = some p from hp);exact rfl⟩
    ·have p26 := hF.fact 26 _ _ rfl rfl (hpre ⟨26,.data⟩ (by cases ho;simp) rfl)
     subst p26
     have p27 := hF.fact 27 _ _ rfl rfl (hpre ⟨27,.data⟩ (by cases ho;simp) rfl)
     subst p27
     clear ho hpre
     refine wpOp_here rfl (fun K' hK => ?_)
     go_simp
     refine (pick9_any xn 1000000001 wz in_.1 in_.2 (by decide) (by decide)).mono ?_
     rintro e6 w6 ⟨rfl,rfl⟩
     exact hK _ _ ⟨_,rfl,Below.refl _ _,fun p hp => by cases (show some (fun z _ => z = Value.int .i64 (numR xn)) = some p from hp);exact rfl⟩
    ·clear ho hpre
     refine wpOp_here rfl (fun K' hK => ?_)
     go_simp
     exact hK _ _ ⟨_,rfl,Below.refl _ _,fun p hp => by cases (show some (fun z _ => z = Value.pointer (some ⟨w.heap.size,7,none⟩)) = some p from hp);exact rfl⟩
    ·obtain ⟨c0,c1,c2,c3,c4,c5,c6,c7,c8,c9⟩ := ten_of ((hF.bel.block _ hlb).trans HBOX.out)
     have p29 := hF.fact 29 _ _ rfl rfl (hpre ⟨29,.data⟩ (by cases ho;simp) rfl)
     subst p29
     clear ho hpre
     refine wpOp_here rfl (fun K' hK => ?_)
     go_simp
     exact hK _ _ ⟨_,rfl,Below.refl _ _,fun p hp => by cases (show some (fun z _ => z = Value.int .i64 (xq)) = some p from hp);exact rfl⟩
    ·have p30 := hF.fact 30 _ _ rfl rfl (hpre ⟨30,.data⟩ (by cases ho;simp) rfl)
     subst p30
     clear ho hpre
     refine wpOp_here rfl (fun K' hK => ?_)
     go_simp
     refine (pick9_any xq 500000001 wz iq.1 iq.2 (by decide) (by decide)).mono ?_
     rintro e6 w6 ⟨rfl,rfl⟩
     exact hK _ _ ⟨_,rfl,Below.refl _ _,fun p hp => by cases (show some (fun z _ => z = Value.int .i64 (Quo.pickS xq 500000001)) = some p from hp);exact rfl⟩
    ·have p31 := hF.fact 31 _ _ rfl rfl (hpre ⟨31,.data⟩ (by cases ho;simp) rfl)
     subst p31
     clear ho hpre
     refine wpOp_here rfl (fun K' hK => ?_)
     go_simp
     try rw [HMUL.out]
     exact hK _ _ ⟨_,rfl,Below.refl _ _,fun p hp => by cases (show some (fun z _ => z = Value.int .i64 (2 * Quo.pickS xq 500000001)) = some p from hp);exact rfl⟩
    ·clear ho hpre
     refine wpOp_here rfl (fun K' hK => ?_)
     go_simp
     exact hK _ _ ⟨_,rfl,Below.refl _ _,fun p hp => by cases (show some (fun z _ => z = Value.pointer (some ⟨w.heap.size,8,none⟩)) = some p from hp);exact rfl⟩
    ·obtain ⟨c0,c1,c2,c3,c4,c5,c6,c7,c8,c9⟩ := ten_of ((hF.bel.block _ hlb).trans HBOX.out)
     have p33 := hF.fact 33 _ _ rfl rfl (hpre ⟨33,.data⟩ (by cases ho;simp) rfl)
     subst p33
     clear ho hpre
     refine wpOp_here rfl (fun K' hK => ?_)
     go_simp
     exact hK _ _ ⟨_,rfl,Below.refl _ _,fun p hp => by cases (show some (fun z _ => z = Value.bool xd) = some p from hp);exact rfl⟩
    ·clear ho hpre
     refine wpOp_here rfl (fun K' hK => ?_)
     go_simp
     exact hK _ _ ⟨_,rfl,Below.refl _ _,fun p hp => by cases (show some (fun z _ => z = Value.pointer (some ⟨w.heap.size,9,none⟩)) = some p from hp);exact rfl⟩
    ·obtain ⟨c0,c1,c2,c3,c4,c5,c6,c7,c8,c9⟩ := ten_of ((hF.bel.block _ hlb).trans HBOX.out)
     have p35 := hF.fact 35 _ _ rfl rfl (hpre ⟨35,.data⟩ (by cases ho;simp) rfl)
     subst p35
     clear ho hpre
     refine wpOp_here rfl (fun K' hK => ?_)
     go_simp
     exact hK _ _ ⟨_,rfl,Below.refl _ _,fun p hp => by cases (show some (fun z _ => z = Value.int .i64 (xa)) = some p from hp);exact rfl⟩
    ·clear ho hpre
     refine wpOp_here rfl (fun K' hK => ?_)
     go_simp
     exact hK _ _ ⟨_,rfl,Below.refl _ _,fun p hp => by cases (show some (fun z _ => z = Value.int .i64 (1000000001)) = some p from hp);exact rfl⟩
    ·have p36 := hF.fact 36 _ _ rfl rfl (hpre ⟨36,.data⟩ (by cases ho;simp) rfl)
     subst p36
     have p37 := hF.fact 37 _ _ rfl rfl (hpre ⟨37,.data⟩ (by cases ho;simp) rfl)
     subst p37
     clear ho hpre
     refine wpOp_here rfl (fun K' hK => ?_)
     go_simp
     refine (pick9_any xa 1000000001 wz ia.1 ia.2 (by decide) (by decide)).mono ?_
     rintro e6 w6 ⟨rfl,rfl⟩
     exact hK _ _ ⟨_,rfl,Below.refl _ _,fun p hp => by cases (show some (fun z _ => z = Value.int .i64 (numR xa)) = some p from hp);exact rfl⟩
    ·have p3 := hF.fact 3 _ _ rfl rfl (hpre ⟨3,.data⟩ (by cases ho;simp) rfl)
     subst p3
     have p7 := hF.fact 7 _ _ rfl rfl (hpre ⟨7,.data⟩ (by cases ho;simp) rfl)
     subst p7
     have p10 := hF.fact 10 _ _ rfl rfl (hpre ⟨10,.data⟩ (by cases ho;simp) rfl)
     subst p10
     have p14 := hF.fact 14 _ _ rfl rfl (hpre ⟨14,.data⟩ (by cases ho;simp) rfl)
     subst p14
     have p18 := hF.fact 18 _ _ rfl rfl (hpre ⟨18,.data⟩ (by cases ho;simp) rfl)
     subst p18
     have p24 := hF.fact 24 _ _ rfl rfl (hpre ⟨24,.data⟩ (by cases ho;simp) rfl)
     subst p24
     have p28 := hF.fact 28 _ _ rfl rfl (hpre ⟨28,.data⟩ (by cases ho;simp) rfl)
     subst p28
     have p32 := hF.fact 32 _ _ rfl rfl (hpre ⟨32,.data⟩ (by cases ho;simp) rfl)
     subst p32
     have p34 := hF.fact 34 _ _ rfl rfl (hpre ⟨34,.data⟩ (by cases ho;simp) rfl)
     subst p34
     have p38 := hF.fact 38 _ _ rfl rfl (hpre ⟨38,.data⟩ (by cases ho;simp) rfl)
     subst p38
     clear ho hpre
     refine wpOp_here rfl (fun K' hK => ?_)
     go_simp
     exact hK _ _ ⟨_,rfl,Below.refl _ _,fun p hp => by cases (show some (fun z _ => z = Value.agg #[.int .i64 (numR xh),.int .i64 (numR xb),.string ⟨(Tp.fitL xv).toArray⟩,.int .i64 (numR xo),.int .i64 (numR xu),.bool (false || xd),.int .i64 (numR xn),.int .i64 (2 * Quo.pickS xq 500000001),.bool xd,.int .i64 (numR xa)]) = some p from hp);exact rfl⟩
 ·intro zs wz hz hB hev
  match zs,(show zs.length = 40 from hz) with
  | z0 :: z1 :: z2 :: z3 :: z4 :: z5 :: z6 :: z7 :: z8 :: z9 :: z10 :: z11 :: z12 :: z13 :: z14 :: z15 :: z16 :: z17 :: z18 :: z19 :: z20 :: z21 :: z22 :: z23 :: z24 :: z25 :: z26 :: z27 :: z28 :: z29 :: z30 :: z31 :: z32 :: z33 :: z34 :: z35 :: z36 :: z37 :: z38 :: z39 :: [],_ =>
    have p39 := hev 39 _ _ rfl rfl
    clear hev hz
    change wpOp _ _ _ _ _ { tmps := List.toArray (Value.agg #[.int .i64 xh,.int .i64 xb,.string ⟨xv.toArray⟩,.int .i64 xo,.int .i64 xu,.bool false,.int .i64 xn,.int .i64 xq,.bool xd,.int .i64 xa] :: Value.pointer (some ⟨w.heap.size,0,none⟩) :: Value.pointer (some ⟨w.heap.size + 1,0,none⟩) :: Value.int .i64 (1000000001) :: z0 :: z1 :: z2 :: z3 :: z4 :: z5 :: z6 :: z7 :: z8 :: z9 :: z10 :: z11 :: z12 :: z13 :: z14 :: z15 :: z16 :: z17 :: z18 :: z19 :: z20 :: z21 :: z22 :: z23 :: z24 :: z25 :: z26 :: z27 :: z28 :: z29 :: z30 :: z31 :: z32 :: z33 :: z34 :: z35 :: z36 :: z37 :: z38 :: z39 :: []),defers := [] } _
    subst p39
    have y0 := (hB.block _ hlr).trans HRES.out
    obtain ⟨c0,c1,c2,c3,c4,c5,c6,c7,c8,c9⟩ := ten_of y0
    obtain ⟨g0,g1,g2,g3,g4,g5,g6,g7,g8,g9⟩ := free_ten y0
    refine wpOp_here rfl (fun K' hK => ?_)
    go_simp
    refine hK _ _ ?_
    go_wp2_with fail
    refine bodyPost_ret (v := Value.agg #[.int .i64 (numR xh),.int .i64 (numR xb),.string ⟨(Tp.fitL xv).toArray⟩,.int .i64 (numR xo),.int .i64 (numR xu),.bool (false || xd),.int .i64 (numR xn),.int .i64 (2 * Quo.pickS xq 500000001),.bool xd,.int .i64 (numR xa)]) (by simp [results,Tryz.results20,go_sem,c0,c1,c2,c3,c4,c5,c6,c7,c8,c9]) rfl ?_
    exact ⟨rfl,below_ten (HB2.out.trans (hB.mono hs2)) (by omega) _ _ _ _ _ _ _ _ _ _⟩
theorem fit9_any (x : S9) (w : World) (hx : x.ok) : Calls Tryz.prog 20 #[sV x] w (Ret (sV (fit9 Tp.fitL x)) w) := by
 obtain ⟨xh,xb,xv,xo,xu,lv,xn,xq,xd,xa⟩ := x
 obtain ⟨ih,ib,io,iu,jn,iq,ia,hv⟩ := hx
 have hv' : xv.length ≤ Tp.reachN := by unfold Tp.reachN;exact hv
 cases lv with
 | true => exact fit9_true xh xb xo xu xn xq xa xv xd w ih ib io iu jn iq ia hv'
 | false => exact fit9_false xh xb xo xu xn xq xa xv xd w ih ib io iu jn iq ia hv'
end Go.Proofs.YtmmbiknlicnamaaGreatDoor.Sta
namespace Go.Proofs.YtmmbiknlicnamaaGreatDoor.Sta
open Go.RowKit Js Lex Od
theorem lay9_yes {y : S9} (hr : rightT Tp.nameB y = true) (w : World) (hT : Dec.Tab w) : Calls Tryz.prog 21 #[sV y] w (Ret (.tuple #[.string ⟨(layS9 y).toArray⟩,.int .i64 0]) w) := by
 have := Lay9_any y w hT (ok_right name_ok hr)
 rwa [if_pos hr] at this
theorem lay9_no {y : S9} (hr : rightT Tp.nameB y = false) (hy : y.ok) (w : World) (hT : Dec.Tab w) : Calls Tryz.prog 21 #[sV y] w (Ret (.tuple #[.string ⟨#[]⟩,.int .i64 1]) w) := by
 have := Lay9_any y w hT hy
 rwa [if_neg (by rw [hr];decide)] at this
theorem layS9_len {y : S9} (hr : rightT Tp.nameB y = true) : 9 ≤ (layS9 y).length ∧ (layS9 y).length ≤ 2009 := by
 have := lay9_len name_ok hr
 unfold layS9
 rw [Se.sealS_len]
 omega
theorem take9_lay {y : S9} (hr : rightT Tp.nameB y = true) (w : World) : Calls Tryz.prog 28 #[.string ⟨(layS9 y).toArray⟩] w (Ret (.tuple #[sV y,.int .i64 0]) w) := by
 have := Take9_any (layS9 y) w (by have := (layS9_len hr).2;omega)
 rw [takeS9_layS9 name_ok hr] at this
 exact this
structure BX9 (C : Array Value) (b : Nat) (w : World) : Prop where
 blk : w.heap[b]? = some (.cells C 41 (0,0))
theorem BX9.new (w : World) (C : Array Value) : BX9 C w.heap.size (w.alloc (.cells C 41)) := ⟨heap_alloc_new _ _⟩
theorem BX9.lt {C : Array Value} {b : Nat} {w : World} (h : BX9 C b w) : b < w.heap.size := Own.block_lt h.blk
theorem BX9.below {C : Array Value} {b : Nat} {w w' : World} (h : BX9 C b w) (hb : Below w.heap.size w w') : BX9 C b w' := ⟨(hb.block _ h.lt).trans h.blk⟩
theorem BX9.box {C : Array Value} {b : Nat} {w : World} (h : BX9 C b w) (o : Obj) : BX9 C b (w.alloc o) := h.below (belowOne _ _)
theorem below_next {w a b : World} (h : Below w.heap.size w a) (k : Below a.heap.size a b) : Below w.heap.size w b := h.trans (k.mono h.size)
theorem below_box {w a : World} (h : Below w.heap.size w a) (o : Obj) : Below w.heap.size w (a.alloc o) := h.alloc h.size o
set_option maxRecDepth 100000 in
theorem awake9_any (w : World) (hT : Dec.Tab w) : Calls Tryz.prog 19 #[] w (Ret (.bool true) w) := by
 have L1 := Lib.hid (fun (w' : World) (hb : Below w.heap.size w w') => lay9_yes ex9_right w' (hT.below hb))
 have L0 := Lib.hid (fun (w' : World) (hb : Below w.heap.size w w') => lay9_no s0_wrong s0_ok w' (hT.below hb))
 have T1 := Lib.hid (fun (w' : World) => take9_lay ex9_right w')
 have N1 := Lib.hid (fun (w' : World) => newer9_any ⟨5,1,[],0,0,false,0,0,false,0⟩ ⟨0,2,[],0,0,false,0,0,false,0⟩ w')
 rw [show newerB ⟨5,1,[],0,0,false,0,0,false,0⟩ ⟨0,2,[],0,0,false,0,0,false,0⟩ = false by decide] at N1
 have R1 := Lib.hid (fun (w' : World) => right9_any ex9 w' (ok_right name_ok ex9_right))
 rw [ex9_right] at R1
 have SE := Lib.hid (fun (w' : World) => Se.seal_l ex9T w' (by decide))
 have HL := Lib.hid ex9_len
 have hLS : Se.sealS ex9T = layS9 ex9 := by unfold layS9;rw [ex9_text]
 rw [hLS] at SE
 unfold ex9T at SE
 have HSZ : Hid ((⟨(layS9 ex9).toArray⟩ : ByteArray).size = 159) := by show _ = _;rw [bs_size,HL.out]
 have h159 := HSZ.out
 generalize layS9 ex9 = T at *
 unfold sV sC ex9 s0 at *
 simp only at L1 L0 T1 N1 R1
 clear hLS
 go_enter Tryz.func19,Tryz.ntmps19
 have B0 := Lib.hid (belowOne w (.cells #[.int .i64 1,.int .i64 2,.string ⟨#[118]⟩,.int .i64 3,.int .i64 4,.bool true,.int .i64 5,.int .i64 6,.bool true,.int .i64 7] 41))
 have X0 := Lib.hid (BX9.new w #[.int .i64 1,.int .i64 2,.string ⟨#[118]⟩,.int .i64 3,.int .i64 4,.bool true,.int .i64 5,.int .i64 6,.bool true,.int .i64 7])
 go_wp2_with (first
  | (go_at_call 21;(with_reducible refine (L1.out _ B0.out).mono ?_);rintro e1 w1 ⟨rfl,hb1⟩;have B1 := Lib.hid (below_next B0.out hb1);have X1 := Lib.hid (X0.out.below hb1);clear hb1)
  | (go_at_call 28;(with_reducible refine (T1.out _).mono ?_);rintro e2 w2 ⟨rfl,hb2⟩;have B2 := Lib.hid (below_box (below_next B1.out hb2) (.cells #[.int .i64 1,.int .i64 2,.string ⟨#[118]⟩,.int .i64 3,.int .i64 4,.bool true,.int .i64 5,.int .i64 6,.bool true,.int .i64 7] 41));have X2 := Lib.hid ((X1.out.below hb2).box (.cells #[.int .i64 1,.int .i64 2,.string ⟨#[118]⟩,.int .i64 3,.int .i64 4,.bool true,.int .i64 5,.int .i64 6,.bool true,.int .i64 7] 41));have U2 := Lib.hid (BX9.new w2 #[.int .i64 1,.int .i64 2,.string ⟨#[118]⟩,.int .i64 3,.int .i64 4,.bool true,.int .i64 5,.int .i64 6,.bool true,.int .i64 7]);clear hb2)
  | (go_at_call 21;(with_reducible refine (L0.out _ B2.out).mono ?_);rintro e3 w3 ⟨rfl,hb3⟩;have B3 := Lib.hid (below_next B2.out hb3);have X3 := Lib.hid (X2.out.below hb3);have U3 := Lib.hid (U2.out.below hb3);clear hb3)
  | (go_at_call 16;(with_reducible refine (SE.out _).mono ?_);rintro e4 w4 ⟨rfl,hb4⟩;have B4 := Lib.hid (below_next B3.out hb4);have X4 := Lib.hid (X3.out.below hb4);have U4 := Lib.hid (U3.out.below hb4);obtain ⟨x0,x1,x2,x3,x4,x5,x6,x7,x8,x9⟩ := ten_of X4.out.blk;obtain ⟨u0,u1,u2,u3,u4,u5,u6,u7,u8,u9⟩ := ten_of U4.out.blk;clear hb4)
  | (go_at_call 25;(with_reducible refine (N1.out _).mono ?_);rintro e5 w5 ⟨rfl,hb5⟩;have B5 := Lib.hid (below_next B4.out hb5);have X5 := Lib.hid (X4.out.below hb5);obtain ⟨y0,y1,y2,y3,y4,y5,y6,y7,y8,y9⟩ := ten_of X5.out.blk;clear hb5)
  | (go_at_call 23;(with_reducible refine (R1.out _).mono ?_);rintro e6 w6 ⟨rfl,hb6⟩;have B6 := Lib.hid (below_next B5.out hb6);clear hb6))
 go_ret
 exact ⟨rfl,B6.out⟩
end Go.Proofs.YtmmbiknlicnamaaGreatDoor.Sta
namespace Go.Proofs.YtmmbiknlicnamaaGreatDoor.Sta
open Go.RowKit Js Lex Od
end Go.Proofs.YtmmbiknlicnamaaGreatDoor.Sta
