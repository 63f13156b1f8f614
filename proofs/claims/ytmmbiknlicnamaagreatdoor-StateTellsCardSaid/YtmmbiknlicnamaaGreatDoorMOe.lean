import Derived.Test.YtmmbiknlicnamaaGreatDoorMOb
import Derived.Test.YtmmbiknlicnamaaGreatDoorMOd
import Derived.Test.YtmmbiknlicnamaaGreatDoorME
import Derived.Test.YtmmbiknlicnamaaGreatDoorMC
set_option maxHeartbeats 8000000
set_option linter.unusedVariables false
set_option linter.unusedSimpArgs false
namespace Go.Proofs.YtmmbiknlicnamaaGreatDoor.Od
open Go.RowKit Js Lex
structure Tk (w : World) (bt : Nat) (d : Nat) (c0 c1 c2 c3 c4 c5 : Value) (j : J) (f : Bool) : Prop where
 blk : w.heap[bt]? = some (.cells #[c0,c1,c2,c3,c4,c5,.bool f] 75 (0,0))
 jat : JAt (fun b => b < bt) w d (.agg #[c0,c1,c2,c3,c4,c5]) j
section
variable {w : World} {bt d : Nat} {c0 c1 c2 c3 c4 c5 : Value} {j : J} {f : Bool}
theorem Tk.cells (h : Tk w bt d c0 c1 c2 c3 c4 c5 j f) : (w.cell? ⟨bt,0,none⟩ = some c0 ∧ w.cell? ⟨bt,1,none⟩ = some c1 ∧ w.cell? ⟨bt,2,none⟩ = some c2 ∧ w.cell? ⟨bt,3,none⟩ = some c3 ∧ w.cell? ⟨bt,4,none⟩ = some c4 ∧ w.cell? ⟨bt,5,none⟩ = some c5 ∧ w.cell? ⟨bt,6,none⟩ = some (.bool f)) ∧ w.frozen? ⟨bt,6,none⟩ = false := by
 have k : ∀ i,w.cell? ⟨bt,i,none⟩ = (#[c0,c1,c2,c3,c4,c5,.bool f] : Array Value)[i]? := fun i => cell_of_row _ _ _ _ _ _ h.blk
 exact ⟨⟨k 0,k 1,k 2,k 3,k 4,k 5,k 6⟩,free_of h.blk 6⟩
theorem Tk.lt (h : Tk w bt d c0 c1 c2 c3 c4 c5 j f) : bt < w.heap.size := Own.block_lt h.blk
theorem Tk.below (h : Tk w bt d c0 c1 c2 c3 c4 c5 j f) {w' : World} (hb : Below w.heap.size w w') : Tk w' bt d c0 c1 c2 c3 c4 c5 j f :=
 ⟨(hb.block _ h.lt).trans h.blk,h.jat.below hb (Nat.le_refl _)⟩
theorem Tk.keep (h : Tk w bt d c0 c1 c2 c3 c4 c5 j f) {w' : World} (hk : ∀ b,b ≤ bt → w'.heap[b]? = w.heap[b]?) (hs : w.heap.size ≤ w'.heap.size) : Tk w' bt d c0 c1 c2 c3 c4 c5 j f :=
 ⟨(hk _ (Nat.le_refl _)).trans h.blk,h.jat.keep (fun _ h _ => h) (fun b hb _ => hk b (Nat.le_of_lt hb)) hs⟩
theorem Tk.set (h : Tk w bt d c0 c1 c2 c3 c4 c5 j f) (g : Bool) : Tk (w.setCell ⟨bt,6,none⟩ (.bool g)) bt d c0 c1 c2 c3 c4 c5 j g :=
 ⟨by
   rw [heap_setCell_same w bt 6 _ 75 _ h.blk]
   rfl,h.jat.keep (fun _ h _ => h) (fun b hb _ => heap_setCell_other _ _ _ _ (by show b ≠ bt;omega)) (by rw [size_set];exact Nat.le_refl _)⟩
end
def NRet (v : Value) (w : World) (bt d : Nat) (c0 c1 c2 c3 c4 c5 : Value) (j : J) (f : Bool) (e : Ending) (w' : World) : Prop :=
 e = .returned v ∧ Tk w' bt d c0 c1 c2 c3 c4 c5 j f ∧ Moves w.heap.size bt w w'
def NLRet (w : World) (bt d : Nat) (c0 c1 c2 c3 c4 c5 : Value) (j : J) (f : Bool) (l : List J) (e : Ending) (w' : World) : Prop :=
 ∃ ai ci,e = .returned (.slice ai l.length ci) ∧ l.length ≤ ci ∧ ItemsAt (fun b => w.heap.size ≤ b) w' d ai l ∧ Tk w' bt d c0 c1 c2 c3 c4 c5 j f ∧ Moves w.heap.size bt w w'
end Go.Proofs.YtmmbiknlicnamaaGreatDoor.Od
namespace Go.Proofs.YtmmbiknlicnamaaGreatDoor.Od
open Go.RowKit Js Lex
end Go.Proofs.YtmmbiknlicnamaaGreatDoor.Od
namespace Go.Proofs.YtmmbiknlicnamaaGreatDoor.Od
open Go.RowKit Js Lex
theorem tell_i64 (j : J) (nm : List UInt8) : i64B (tellG 0 numS j nm).1 := by
 have z : i64B 0 := ⟨by decide,by decide⟩
 unfold tellG
 split
 ·exact z
 ·generalize j.is.getD (plc j nm).toNat j0 = x
  unfold numS
  split
  ·unfold Dec.intS Dec.raiseS
   split
   ·split
    ·rename_i h
     simp only
     exact ⟨by omega,by omega⟩
    ·exact z
   ·exact z
  ·exact z
structure TAStop (w1 : World) (bt d : Nat) (c0 c1 c2 c3 c4 c5 : Value) (j : J) (f : Bool) (items : List J) (q : Nat) (v : Value) (wr : World) : Prop where
 mv : Moves w1.heap.size bt w1 wr
 tk : Tk wr bt d c0 c1 c2 c3 c4 c5 j (f || !(allT nidL (items.take q)).2)
 row : wr.ownsRow w1.heap.size 50 3 v (allT nidL (items.take q)).1.length (cellsS (allT nidL (items.take q)).1)
structure TAWay (w1 : World) (bt d : Nat) (c0 c1 c2 c3 c4 c5 : Value) (j : J) (f : Bool) (items : List J) (q : Nat) (v : Value) (wr : World) : Prop where
 mv : Moves w1.heap.size bt w1 wr
 tk : Tk wr bt d c0 c1 c2 c3 c4 c5 j (f || !(allT eidL (items.take q)).2)
 row : wr.ownsRow w1.heap.size 52 3 v (allT eidL (items.take q)).1.length (cellsS (allT eidL (items.take q)).1)
end Go.Proofs.YtmmbiknlicnamaaGreatDoor.Od
namespace Go.Proofs.YtmmbiknlicnamaaGreatDoor.Od
open Go.RowKit Js Lex
theorem tell_txt {S : Nat → Prop} {w : World} {d : Nat} {v : Value} {j : J} (h : JAt S w d v j) (nm : List UInt8) : txtB (tellG [] txtS j nm).1 := by
 have z : txtB [] := by unfold txtB;simp
 unfold tellG
 by_cases hp : plc j nm < 0
 ·rw [if_pos hp];exact z
 ·rw [if_neg hp]
  have hB := plc_lt j nm
  obtain ⟨k,m,e,t,ns,is⟩ := j
  obtain ⟨d',an,cn,ai,ci,hd',rfl,_,_,_,_,_,hn1,hn,hi1,hi,hit⟩ := h.open_
  obtain ⟨b,off,y0,y1,y2,y3,y4,y5,rfl,hbl,hl,hJ⟩ := item_at hit (by omega) hB.2
  change txtB (txtS (is.getD _ j0)).1
  generalize is.getD (plc (J.mk k m e t ns is) nm).toNat j0 = y at *
  unfold txtS
  split
  ·obtain ⟨k',m',e',t',ns',is'⟩ := y
   obtain ⟨_,_,_,_,_,_,_,_,_,_,ht,_⟩ := hJ.open_
   exact ht
  ·exact z
def TRet (w : World) (r : Int × Option O) (e : Ending) (w' : World) : Prop :=
 ∃ v,e = .returned (.tuple #[v,.int .i64 r.1]) ∧ OAt Any w' v (r.2.getD o0) ∧ Below w.heap.size w w'
theorem put6_is (w : World) (g : Nat) (u0 u1 u2 u3 u4 u5 : Value) : ((((((w.setCell ⟨g,0,none⟩ u0).setCell ⟨g,1,none⟩ u1).setCell ⟨g,2,none⟩ u2).setCell ⟨g,3,none⟩ u3).setCell ⟨g,4,none⟩ u4).setCell ⟨g,5,none⟩ u5) = put6 w g 0 u0 u1 u2 u3 u4 u5 := by
 unfold put6;simp
end Go.Proofs.YtmmbiknlicnamaaGreatDoor.Od
