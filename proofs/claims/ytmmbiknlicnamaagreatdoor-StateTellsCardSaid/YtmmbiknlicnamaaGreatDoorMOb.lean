import Derived.Test.YtmmbiknlicnamaaGreatDoorMOa
import Derived.Test.YtmmbiknlicnamaaGreatDoorRd7
import Derived.Test.YtmmbiknlicnamaaGreatDoorME
set_option maxHeartbeats 8000000
set_option linter.unusedVariables false
set_option linter.unusedSimpArgs false
namespace Go.Proofs.YtmmbiknlicnamaaGreatDoor.Od
open Go.RowKit Js
def stepB (a e b : St) : Bool := (numB e.id && (numB e.seq && (numB b.id && numB b.seq))) && (e.seq == a.seq + 1 && (b.seq == e.seq + 1 && (b.rel == e.rel && (a.rel || !e.rel))))
def stepsB : List St → List St → Bool
 | e :: es,a :: b :: r => stepB a e b && stepsB es (b :: r)
 | [],_ => true
 | _ :: _,[] => false
 | _ :: _,[_] => false
def firstB (a : St) : Bool := numB a.id && (numB a.seq && (decide (a.seq % 2 = 0) && a.rel))
def lineB (ns es : List St) : Bool := decide (1 ≤ ns.length) && (decide (ns.length ≤ 64) && (decide (es.length + 1 = ns.length) && (firstB (ns.headD st0) && stepsB es ns)))
theorem steps_nodes : ∀ {es r : List St} {a : St},es.length = r.length → stepsB es (a :: r) = (nodesB (a.seq + 2) a.rel r && edgesB es (a :: r))
 | [],[],a,_ => by simp [stepsB,nodesB,edgesB]
 | e :: es,b :: r,a,h => by
   rw [stepsB,nodesB,edgesB,steps_nodes (es := es) (r := r) (a := b) (by simpa using h)]
   by_cases hs : b.seq = a.seq + 2
   ·rw [hs]
    have e1 : (a.seq + 2 == a.seq + 2) = true := by simp
    have e2 : (a.seq + 2 == e.seq + 1) = (e.seq == a.seq + 1) := by
     rw [Bool.eq_iff_iff];simp;omega
    unfold stepB
    rw [hs,e1,e2]
    have e3 : (b.rel == e.rel) = (e.rel == b.rel) := by cases b.rel <;> cases e.rel <;> rfl
    rw [e3]
    generalize numB e.id = x1
    generalize numB e.seq = x2
    generalize numB b.id = x3
    generalize numB (a.seq + 2) = x4
    generalize (e.seq == a.seq + 1) = x5
    generalize nodesB (a.seq + 2 + 2) b.rel r = x6
    generalize edgesB es (b :: r) = x7
    generalize a.rel = y1
    generalize b.rel = y2
    generalize e.rel = y3
    revert x1 x2 x3 x4 x5 x6 x7 y1 y2 y3
    decide
   ·have e1 : (b.seq == a.seq + 2) = false := by simpa using hs
    have e2 : (e.seq == a.seq + 1 && b.seq == e.seq + 1) = false := by
     rw [Bool.eq_false_iff];simp;omega
    have e3 : stepB a e b = false := by
     unfold stepB
     rw [← Bool.and_assoc (e.seq == a.seq + 1),e2]
     simp
    rw [e1,e3]
    simp
 | [],_ :: _,_,h => by simp at h
 | _ :: _,[],_,h => by simp at h
theorem line_right (nm : List UInt8 → Bool) (x : O) : rightO nm x = ((numB x.h && (numB x.o && numB x.u)) && (nm x.v && lineB x.ns x.es)) := by
 obtain ⟨h,v,o,u,ns,es⟩ := x
 unfold rightO lineB
 simp only
 by_cases hl : 1 ≤ ns.length ∧ es.length + 1 = ns.length
 ·obtain ⟨h1,h2⟩ := hl
  match ns,h1 with
  | a :: r,_ =>
    have h3 : es.length = r.length := by simpa using h2
    rw [steps_nodes h3,nodesB]
    have hd : (a :: r).headD st0 = a := rfl
    have h2' : decide (es.length + 1 = (a :: r).length) = true := by simpa using h3
    rw [hd,h2']
    have e1 : (a.seq == a.seq) = true := by simp
    have e2 : (!a.rel || true) = true := by simp
    rw [e1,e2]
    unfold firstB
    generalize nm v = x0
    generalize numB h = x1
    generalize numB o = x2
    generalize numB u = x3
    generalize decide (1 ≤ (a :: r).length) = x4
    generalize decide ((a :: r).length ≤ 64) = x5
    generalize numB a.id = x6
    generalize numB a.seq = x7
    generalize decide (a.seq % 2 = 0) = x8
    generalize a.rel = x9
    generalize nodesB (a.seq + 2) x9 r = y1
    generalize edgesB es (a :: r) = y2
    cases x0 <;> cases x1 <;> cases x2 <;> cases x3 <;> cases x4 <;> cases x5 <;> cases x6 <;> cases x7 <;> cases x8 <;> cases x9 <;> simp
 ·have hf : (decide (1 ≤ ns.length) && decide (es.length + 1 = ns.length)) = false := by
   rw [Bool.eq_false_iff];simpa using hl
  generalize decide (1 ≤ ns.length) = x4 at *
  generalize decide (es.length + 1 = ns.length) = x5 at *
  cases x4
  ·simp
  ·cases x5
   ·simp
   ·simp at hf
theorem stepsB_step {es ns : List St} {k : Nat} (h1 : k < es.length) (h2 : k + 1 < ns.length) : stepsB (es.drop k) (ns.drop k) = (stepB (ns.getD k st0) (es.getD k st0) (ns.getD (k + 1) st0) && stepsB (es.drop (k + 1)) (ns.drop (k + 1))) := by
 rw [drop_getD0 st0 h1,drop_getD0 st0 (show k < ns.length by omega),drop_getD0 st0 h2,stepsB]
theorem stepsB_nil (ns : List St) : stepsB [] ns = true := by cases ns <;> rfl
def partT (nm : List UInt8) (j : J) : St × Bool :=
 (⟨(tellG 0 numS j nm).1,(tellG 0 numS j seqL).1,(tellG false flagS j relL).1⟩,(tellG 0 numS j nm).2 && ((tellG 0 numS j seqL).2 && (tellG false flagS j relL).2))
def allT (nm : List UInt8) (l : List J) : List St × Bool := (l.map fun y => (partT nm y).1,l.all fun y => (partT nm y).2)
def toldT (j : J) : O × Bool :=
 (⟨(tellG 0 numS j hdrL).1,(tellG [] txtS j serL).1,(tellG 0 numS j ordL).1,(tellG 0 numS j updL).1,(allT nidL (lsG j nodL).1).1,(allT eidL (lsG j edgL).1).1⟩,
   (tellG 0 numS j hdrL).2 && ((tellG [] txtS j serL).2 && ((tellG 0 numS j ordL).2 && ((tellG 0 numS j updL).2 && (((lsG j nodL).2 && (allT nidL (lsG j nodL).1).2) && ((lsG j edgL).2 && (allT eidL (lsG j edgL).1).2))))))
end Go.Proofs.YtmmbiknlicnamaaGreatDoor.Od
namespace Go.Proofs.YtmmbiknlicnamaaGreatDoor.Od
open Go.RowKit Js Lex
def cellsS (l : List St) : List Value := l.flatMap fun x => [.int .i64 x.id,.int .i64 x.seq,.bool x.rel]
def goodS (x : St) : Prop := i64B x.id ∧ i64B x.seq
theorem three_of {w : World} {b : Nat} {T : TypeId} {c0 c1 c2 : Value} (h : w.heap[b]? = some (.cells #[c0,c1,c2] T (0,0))) :
 (w.cell? ⟨b,0,none⟩ = some c0 ∧ w.cell? ⟨b,1,none⟩ = some c1 ∧ w.cell? ⟨b,2,none⟩ = some c2) ∧ w.frozen? ⟨b,0,none⟩ = false ∧ w.frozen? ⟨b,1,none⟩ = false ∧ w.frozen? ⟨b,2,none⟩ = false := by
 have k : ∀ i,w.cell? ⟨b,i,none⟩ = (#[c0,c1,c2] : Array Value)[i]? := fun i => cell_of_row _ _ _ _ _ _ h
 exact ⟨⟨k 0,k 1,k 2⟩,free_of h 0,free_of h 1,free_of h 2⟩
theorem StsAt.at_ {S : Nat → Prop} {w : World} {a : Option Addr} {n c : Nat} {l : List St} (h : StsAt S w (.slice a n c) l) {k : Nat} (hk : k < l.length) :
 ∃ b off,a = some ⟨b,off,none⟩ ∧ S b ∧ b < w.heap.size ∧ goodS (l.getD k st0) ∧ w.cell? ⟨b,off + k * 3,none⟩ = some (.int .i64 (l.getD k st0).id) ∧ w.cell? ⟨b,off + k * 3 + 1,none⟩ = some (.int .i64 (l.getD k st0).seq) ∧ w.cell? ⟨b,off + k * 3 + 2,none⟩ = some (.bool (l.getD k st0).rel) := by
 obtain ⟨ao,cap,h1,h2,h3,h4,h5⟩ := h
 cases h1
 obtain ⟨b,off,e1,e2,e3,e4⟩ := h5 (by omega)
 obtain ⟨c0,c1,c2⟩ := three_cells (e4 k hk)
 exact ⟨b,off,e1,e2,e3,h4 _ (by rw [List.getD_eq_getElem?_getD,List.getElem?_eq_getElem hk];exact List.getElem_mem _),c0,c1,c2⟩
theorem StsAt.len {S : Nat → Prop} {w : World} {a : Option Addr} {n c : Nat} {l : List St} (h : StsAt S w (.slice a n c) l) : n = l.length ∧ l.length ≤ c ∧ l.length ≤ 5864062014805 := by
 obtain ⟨ao,cap,h1,h2,h3,h4,h5⟩ := h
 cases h1
 exact ⟨rfl,h2,h3⟩
end Go.Proofs.YtmmbiknlicnamaaGreatDoor.Od
namespace Go.Proofs.YtmmbiknlicnamaaGreatDoor.Od
open Go.RowKit Js
open Quo (pickS pickS_nonneg pickS_lt)
def numR (z : Int) : Int := pickS z 1000000001
theorem numR_B (z : Int) : numB (numR z) = true := by
 have h1 := pickS_nonneg (c := z) (n := 1000000001) (by decide)
 have h2 := pickS_lt (c := z) (n := 1000000001) (by decide)
 unfold numB numR
 simp
 omega
def cntF (x : O) : Nat := min (max x.ns.length 1) 64
def firstF (x : O) : Int := 2 * pickS (x.es.length : Int) 500
def baseF (x : O) (base : Int) : Int := 1 + pickS base (cntF x)
def nodeF (x : O) (base : Int) (i : Nat) : St := ⟨if i < x.ns.length then numR (x.ns.getD i st0).id else 0,firstF x + 2 * i,decide ((i : Int) < baseF x base)⟩
def edgeF (x : O) (base : Int) (i : Nat) : St := ⟨if i < x.ns.length then numR (x.ns.getD i st0).seq else 0,firstF x + 2 * i - 1,decide ((i : Int) < baseF x base)⟩
def fitO (fit : List UInt8 → List UInt8) (x : O) (base : Int) : O :=
 ⟨numR x.h,fit x.v,numR x.o,numR x.u,(List.range' 0 (cntF x)).map (nodeF x base),(List.range' 1 (cntF x - 1)).map (edgeF x base)⟩
theorem numB_of {n : Int} (h0 : 0 ≤ n) (h1 : n ≤ 1000000000) : numB n = true := by unfold numB;simp;omega
end Go.Proofs.YtmmbiknlicnamaaGreatDoor.Od
namespace Go.Proofs.YtmmbiknlicnamaaGreatDoor.Od
open Go.RowKit Js
section
variable {nm : List UInt8 → Bool} {x : O}
end
end Go.Proofs.YtmmbiknlicnamaaGreatDoor.Od
namespace Go.Proofs.YtmmbiknlicnamaaGreatDoor.Od
open Go.RowKit Js Lex
def backN (n : List UInt8) : List (List UInt8) := [edgL,nodL,updL,ordL,serL,hdrL,120 :: n]
def backI (x : O) : List J := [.mk 6 0 0 [] [] (x.es.map (partJ eidL)),.mk 6 0 0 [] [] (x.ns.map (partJ nidL)),numJ x.u,numJ x.o,.mk 5 0 0 x.v [] [],numJ x.h,.mk 5 0 0 [121] [] []]
def backJ (x : O) (n : List UInt8) : J := .mk 7 0 0 [] (backN n) (backI x)
def lessJ (x : O) (n : List UInt8) (k : Nat) : J := .mk 7 0 0 [] ((backN n).eraseIdx k) ((backI x).eraseIdx k)
end Go.Proofs.YtmmbiknlicnamaaGreatDoor.Od
namespace Go.Proofs.YtmmbiknlicnamaaGreatDoor.Od
open Go.RowKit Js Lex
def MoreOk (n : List UInt8) : Prop := asciiB (120 :: n) = true ∧ n.length ≤ 100
theorem obj_right {d : Nat} (hd : d ≤ 16) {ns : List (List UInt8)} {is : List J} (h1 : ns.length = is.length) (h2 : namesB [] ns = true) (h3 : rightL (d + 1) is = true) : rightJ d (.mk 7 0 0 [] ns is) = true := by
 rw [rightJ,h3]
 simp [hd,bareB,formB,h1,h2]
theorem rights_of {d : Nat} : ∀ {l : List J},(∀ x ∈ l,rightJ d x = true) → rightL d l = true
 | [],_ => by rw [rightL]
 | x :: r,h => by rw [rightL,h x (List.mem_cons_self ..),rights_of fun y hy => h y (List.mem_cons_of_mem _ hy)];rfl
def sizeL : List (List UInt8) → List J → Nat
 | n :: ns,x :: r => (Quo.quoteL n).length + (printJ x).length + 2 + sizeL ns r
 | _,_ => 0
theorem obj_size : ∀ (ns : List (List UInt8)) (is : List J) (f : Bool),ns.length = is.length → (printL true f ns is).length ≤ sizeL ns is
 | [],[],f,_ => by rw [printL];exact Nat.zero_le _
 | n :: ns,x :: r,f,h => by
   have ih := obj_size ns r false (by simpa using h)
   rw [printL,sizeL]
   simp only [List.headD_cons,List.tail_cons,List.length_append,if_true,List.length_cons,List.length_nil]
   cases f <;> simp <;> omega
 | [],_ :: _,_,h => by simp at h
 | _ :: _,[],_,h => by simp at h
theorem obj_len {ns : List (List UInt8)} {is : List J} (h : ns.length = is.length) : (printJ (.mk 7 0 0 [] ns is)).length ≤ sizeL ns is + 2 := by
 have := obj_size ns is true h
 rw [printJ,if_neg (by decide),if_neg (by decide),if_neg (by decide),if_neg (by decide),if_neg (by decide),if_neg (by decide),if_pos rfl]
 simp only [List.length_cons,List.length_append,List.length_nil]
 omega
section
variable {nm : List UInt8 → Bool} {x : O} {n : List UInt8}
end
end Go.Proofs.YtmmbiknlicnamaaGreatDoor.Od
