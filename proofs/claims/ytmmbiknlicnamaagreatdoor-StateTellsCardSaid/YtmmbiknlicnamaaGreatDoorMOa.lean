import Derived.Test.YtmmbiknlicnamaaGreatDoorMD
import Derived.Test.YtmmbiknlicnamaaGreatDoorMB
import Derived.Test.YtmmbiknlicnamaaGreatDoorMS
import Derived.Test.YtmmbiknlicnamaaGreatDoorMA
set_option maxHeartbeats 8000000
set_option linter.unusedVariables false
set_option linter.unusedSimpArgs false
namespace Go.Proofs.YtmmbiknlicnamaaGreatDoor.Od
open Go.RowKit Js
structure St where
 id : Int
 seq : Int
 rel : Bool
def st0 : St := ⟨0,0,false⟩
structure O where
 h : Int
 v : List UInt8
 o : Int
 u : Int
 ns : List St
 es : List St
def numB (n : Int) : Bool := decide (0 ≤ n) && decide (n ≤ 1000000000)
def nodesB : Int → Bool → List St → Bool
 | _,_,[] => true
 | q,prev,x :: r => numB x.id && (numB x.seq && (x.seq == q && ((!x.rel || prev) && nodesB (q + 2) x.rel r)))
def edgesB : List St → List St → Bool
 | e :: es,a :: b :: r => numB e.id && (numB e.seq && (e.seq == a.seq + 1 && (e.rel == b.rel && edgesB es (b :: r))))
 | [],_ => true
 | _ :: _,[] => false
 | _ :: _,[_] => false
def rightO (nm : List UInt8 → Bool) (x : O) : Bool :=
 nm x.v && (numB x.h && (numB x.o && (numB x.u && (decide (1 ≤ x.ns.length) && (decide (x.ns.length ≤ 64) && (decide (x.es.length + 1 = x.ns.length) &&
  (decide ((x.ns.headD st0).seq % 2 = 0) && ((x.ns.headD st0).rel && (nodesB (x.ns.headD st0).seq true x.ns && edgesB x.es x.ns)))))))))
def baseO (x : O) : Nat := (x.ns.filter (·.rel)).length
def stB (a b : St) : Bool := a.id == b.id && (a.seq == b.seq && a.rel == b.rel)
def stsB : List St → List St → Bool
 | [],[] => true
 | a :: r,b :: s => stB a b && stsB r s
 | [],_ :: _ => false
 | _ :: _,[] => false
def sameO (a b : O) : Bool := a.h == b.h && (a.v == b.v && (a.o == b.o && (a.u == b.u && (stsB a.ns b.ns && stsB a.es b.es))))
def hdrL : List UInt8 := [104,101,97,100,101,114,73,100]
def serL : List UInt8 := [115,101,114,105,97,108,78,117,109,98,101,114]
def ordL : List UInt8 := [111,114,100,101,114,73,100]
def updL : List UInt8 := [111,114,100,101,114,85,112,100,97,116,101,73,100]
def nodL : List UInt8 := [110,111,100,101,115]
def edgL : List UInt8 := [101,100,103,101,115]
def nidL : List UInt8 := [110,111,100,101,73,100]
def eidL : List UInt8 := [101,100,103,101,73,100]
def seqL : List UInt8 := [115,101,113,117,101,110,99,101,73,100]
def relL : List UInt8 := [114,101,108,101,97,115,101,100]
def numJ (n : Int) : J := .mk 4 (Dec.mk n 0).1 (Dec.mk n 0).2.1 [] [] []
def boolJ (b : Bool) : J := .mk (if b = true then 3 else 2) 0 0 [] [] []
def partJ (nm : List UInt8) (x : St) : J := .mk 7 0 0 [] [nm,seqL,relL] [numJ x.id,numJ x.seq,boolJ x.rel]
def layJ (x : O) : J := .mk 7 0 0 [] [hdrL,serL,ordL,updL,nodL,edgL] [numJ x.h,.mk 5 0 0 x.v [] [],numJ x.o,numJ x.u,.mk 6 0 0 [] [] (x.ns.map (partJ nidL)),.mk 6 0 0 [] [] (x.es.map (partJ eidL))]
def fieldS {α : Type} (f : J → α × Bool) (j : J) (nm : List UInt8) : Option α := if (getS j nm).2 = true then (if (f (getS j nm).1).2 = true then some (f (getS j nm).1).1 else none) else none
def readJ (nm : List UInt8) (j : J) : Option St :=
 match fieldS numS j nm,fieldS numS j seqL,fieldS flagS j relL with
 | some i,some q,some r => some ⟨i,q,r⟩
 | _,_,_ => none
def readL (nm : List UInt8) : List J → Option (List St)
 | [] => some []
 | x :: r => match readJ nm x,readL nm r with
   | some a,some l => some (a :: l)
   | _,_ => none
def toldJ (j : J) : Option O :=
 match fieldS numS j hdrL,fieldS txtS j serL,fieldS numS j ordL,fieldS numS j updL,fieldS lstS j nodL,fieldS lstS j edgL with
 | some h,some v,some o,some u,some ns,some es => match readL nidL ns,readL eidL es with
   | some a,some b => some ⟨h,v,o,u,a,b⟩
   | _,_ => none
 | _,_,_,_,_,_ => none
def takeJ (nm : List UInt8 → Bool) (j : J) : Option O :=
 match toldJ j with
 | some x => if rightO nm x = true then some x else none
 | none => none
theorem numB_iff {n : Int} (h : numB n = true) : 0 ≤ n ∧ n ≤ 1000000000 := by unfold numB at h;simpa using h
theorem ten_pow {q n : Int} {k : Nat} (hq : q ≠ 0) (h : q * 10 ^ k = n) (h0 : 0 ≤ n) (h1 : n ≤ 1000000000) : k ≤ 9 ∧ 0 ≤ q ∧ q ≤ 1000000000 := by
 have hp : (0 : Int) < 10 ^ k := Int.pow_pos (by decide)
 have hq0 : 0 < q := by
  rcases Int.lt_or_le 0 q with h2 | h2
  ·exact h2
  ·have : q * 10 ^ k < 0 := Int.mul_neg_of_neg_of_pos (by omega) hp
   omega
 have h2 : q * 1 ≤ q * 10 ^ k := Int.mul_le_mul_of_nonneg_left (by omega) (by omega)
 have h3 : 1 * 10 ^ k ≤ q * (10 : Int) ^ k := Int.mul_le_mul_of_nonneg_right (by omega) (by omega)
 refine ⟨?_,by omega,by omega⟩
 rcases Nat.lt_or_ge k 10 with h4 | h4
 ·omega
 ·obtain ⟨c,rfl⟩ : ∃ c,k = 10 + c := ⟨k - 10,by omega⟩
  have h5 : (10 : Int) ^ (10 + c) = 10 ^ 10 * 10 ^ c := Int.pow_add ..
  have h6 : (10 : Int) ^ 10 = 10000000000 := by decide
  have h7 : (0 : Int) < 10 ^ c := Int.pow_pos (by decide)
  rw [h6] at h5
  omega
theorem num_told {n : Int} (h : numB n = true) : numS (numJ n) = (n,true) ∧ Dec.rightB (Dec.mk n 0).1 (Dec.mk n 0).2.1 = true := by
 obtain ⟨h0,h1⟩ := numB_iff h
 have hk : (numJ n).k = 4 := rfl
 unfold numS
 rw [if_pos hk]
 show Dec.intS (Dec.mk n 0).1 (Dec.mk n 0).2.1 = (n,true) ∧ _
 by_cases hn : n = 0
 ·subst hn
  rw [Dec.mk_zero]
  exact ⟨by decide,by decide⟩
 ·have hv := Dec.strip_val n
  have hs := Dec.strip_ne n hn
  generalize hst : Dec.strip n = st at hv hs
  obtain ⟨q,k⟩ := st
  simp only at hv hs
  obtain ⟨g1,g2,g3⟩ := ten_pow hs.2 hv.symm h0 h1
  have hm : Dec.mk n 0 = (q,(k : Int),true) := by
   unfold Dec.mk Dec.p15
   rw [if_neg hn,hst]
   simp only
   rw [if_pos (by omega)]
   simp
  rw [hm]
  have hr : Dec.rightB q (k : Int) = true := by
   have := Dec.mk_is_right n 0 (by rw [hm])
   rwa [hm] at this
  refine ⟨?_,hr⟩
  unfold Dec.intS Dec.raiseS
  simp only
  rw [if_pos ⟨hr,by omega⟩,Int.toNat_natCast,← hv,if_pos (by omega)]
theorem flag_told (b : Bool) : flagS (boolJ b) = (b,true) := by cases b <;> rfl
end Go.Proofs.YtmmbiknlicnamaaGreatDoor.Od
namespace Go.Proofs.YtmmbiknlicnamaaGreatDoor.Od
open Go.RowKit Js
def asciiB (l : List UInt8) : Bool := l.all fun c => decide (32 ≤ c.toNat) && (decide (c.toNat < 128) && (decide (c.toNat ≠ 34) && decide (c.toNat ≠ 92)))
theorem ascii_of {l : List UInt8} (h : asciiB l = true) : ∀ c ∈ l,32 ≤ c.toNat ∧ c.toNat < 128 ∧ c.toNat ≠ 34 ∧ c.toNat ≠ 92 := fun c hc => by
 have := List.all_eq_true.1 h c hc
 simpa using this
theorem ascii_flat : ∀ {l : List UInt8},(∀ c ∈ l,c.toNat < 128) → Quo.flat (l.map (·.toNat)) = l
 | [],_ => rfl
 | c :: r,h => by
   have e := ascii_flat (l := r) (fun x hx => h x (List.mem_cons_of_mem _ hx))
   have hc : Quo.enc c.toNat = [c] := by rw [Quo.enc_one (h c (List.mem_cons_self ..))];simp
   unfold Quo.flat at e ⊢
   rw [List.map_cons,List.flatMap_cons,hc,e]
   rfl
theorem ascii_vr {l : List UInt8} (h : ∀ c ∈ l,c.toNat < 128) : ∀ r ∈ l.map (·.toNat),Quo.vr r := fun r hr => by
 obtain ⟨c,hc,rfl⟩ := List.mem_map.1 hr
 have := h c hc
 unfold Quo.vr
 omega
theorem ascii_whole {l : List UInt8} (h : asciiB l = true) : Quo.wholeB l = true := by
 have h1 : ∀ c ∈ l,c.toNat < 128 := fun c hc => (ascii_of h c hc).2.1
 rw [← ascii_flat h1]
 exact Quo.wholeB_flat' (ascii_vr h1)
theorem ascii_body : ∀ {l : List UInt8},(∀ c ∈ l,32 ≤ c.toNat ∧ c.toNat < 128 ∧ c.toNat ≠ 34 ∧ c.toNat ≠ 92) → Quo.bodyQ (l.map (·.toNat)) = l
 | [],_ => rfl
 | c :: r,h => by
   have e := ascii_body (l := r) (fun x hx => h x (List.mem_cons_of_mem _ hx))
   obtain ⟨g1,g2,g3,g4⟩ := h c (List.mem_cons_self ..)
   have hc : Quo.enc c.toNat = [c] := by rw [Quo.enc_one g2];simp
   have hq : Quo.qr c.toNat = [c] := by unfold Quo.qr;rw [if_neg g3,if_neg g4,if_pos g1,hc]
   unfold Quo.bodyQ at e ⊢
   rw [List.map_cons,List.flatMap_cons,hq,e]
   rfl
theorem ascii_quote {l : List UInt8} (h : asciiB l = true) : Quo.quoteL l = 34 :: (l ++ [34]) := by
 have h1 : ∀ c ∈ l,c.toNat < 128 := fun c hc => (ascii_of h c hc).2.1
 unfold Quo.quoteL
 conv => lhs;rw [← ascii_flat h1]
 rw [Quo.qBody_flat' (ascii_vr h1),ascii_body (ascii_of h)]
theorem quote_size {l : List UInt8} (h : asciiB l = true) : (Quo.quoteL l).length = l.length + 2 := by rw [ascii_quote h];simp
theorem num_right {n : Int} (d : Nat) (hd : d ≤ 16) (h : numB n = true) : rightJ d (numJ n) = true := by
 unfold numJ
 rw [rightJ,rightL]
 have h1 := (num_told h).2
 simp [hd,bareB,formB,h1]
theorem flag_right (b : Bool) (d : Nat) (hd : d ≤ 16) : rightJ d (boolJ b) = true := by
 unfold boolJ
 rw [rightJ,rightL]
 cases b <;> simp [hd,bareB,formB]
theorem num_len {n : Int} (h : numB n = true) : (printJ (numJ n)).length ≤ 40 := by
 unfold numJ
 rw [printJ,if_neg (by decide),if_neg (by decide),if_neg (by decide),if_pos rfl]
 exact (Dec.print_len (num_told h).2).1
theorem flag_len (b : Bool) : (printJ (boolJ b)).length ≤ 5 := by
 cases b
 ·show (printJ (.mk 2 0 0 [] [] [])).length ≤ 5
  rw [printJ,if_neg (by decide),if_pos rfl];decide
 ·show (printJ (.mk 3 0 0 [] [] [])).length ≤ 5
  rw [printJ,if_neg (by decide),if_neg (by decide),if_pos rfl];decide
end Go.Proofs.YtmmbiknlicnamaaGreatDoor.Od
namespace Go.Proofs.YtmmbiknlicnamaaGreatDoor.Od
open Go.RowKit Js
def NameOk (nm : List UInt8 → Bool) : Prop := ∀ l,nm l = true → asciiB l = true ∧ l.length ≤ 16
def layS (x : O) : List UInt8 := Se.sealS (printJ (layJ x))
def takeS (nm : List UInt8 → Bool) (s : List UInt8) : Int × Option O :=
 match Se.openS s with
 | none => (60,none)
 | some t => if (parseS t).1 = 0 then (match takeJ nm (parseS t).2.1 with | some x => (0,some x) | none => (80,none)) else ((parseS t).1,none)
end Go.Proofs.YtmmbiknlicnamaaGreatDoor.Od
namespace Go.Proofs.YtmmbiknlicnamaaGreatDoor.Od
open Go.RowKit Js Lex
def stV (x : St) : Value := .agg #[.int .i64 x.id,.int .i64 x.seq,.bool x.rel]
def StsAt (S : Nat → Prop) (w : World) (v : Value) (l : List St) : Prop :=
 ∃ ao cap,v = .slice ao l.length cap ∧ l.length ≤ cap ∧ l.length ≤ 5864062014805 ∧ (∀ x ∈ l,i64B x.id ∧ i64B x.seq) ∧
   (0 < l.length → ∃ b off,ao = some ⟨b,off,none⟩ ∧ S b ∧ b < w.heap.size ∧ ∀ i,i < l.length → LiesAt w b (off + i * 3) (stV (l.getD i st0)))
def oV (h : Int) (v : List UInt8) (o u : Int) (nv ev : Value) : Value := .agg #[.int .i64 h,.string ⟨v.toArray⟩,.int .i64 o,.int .i64 u,nv,ev]
def OAt (S : Nat → Prop) (w : World) (v : Value) (x : O) : Prop :=
 ∃ nv ev,v = oV x.h x.v x.o x.u nv ev ∧ i64B x.h ∧ x.v.length ≤ 140737488355328 ∧ i64B x.o ∧ i64B x.u ∧ StsAt S w nv x.ns ∧ StsAt S w ev x.es
theorem StsAt.keep {S S' : Nat → Prop} {w w' : World} {v : Value} {l : List St} (h : StsAt S w v l) (hS : ∀ b,S b → b < w.heap.size → S' b) (hk : ∀ b,S b → b < w.heap.size → w'.heap[b]? = w.heap[b]?) (hs : w.heap.size ≤ w'.heap.size) : StsAt S' w' v l := by
 obtain ⟨ao,cap,h1,h2,h3,h4,h5⟩ := h
 refine ⟨ao,cap,h1,h2,h3,h4,fun hp => ?_⟩
 obtain ⟨b,off,e1,e2,e3,e4⟩ := h5 hp
 exact ⟨b,off,e1,hS b e2 e3,Nat.lt_of_lt_of_le e3 hs,fun i hi => (e4 i hi).keep (hk b e2 e3)⟩
theorem StsAt.below {S : Nat → Prop} {w w' : World} {v : Value} {l : List St} (h : StsAt S w v l) {B : Nat} (hb : Below B w w') (hB : w.heap.size ≤ B) : StsAt S w' v l :=
 h.keep (fun _ h _ => h) (fun b _ hl => hb.block b (by omega)) hb.size
theorem StsAt.any {S : Nat → Prop} {w : World} {v : Value} {l : List St} (h : StsAt S w v l) : StsAt Any w v l := h.keep (fun _ _ _ => trivial) (fun _ _ _ => rfl) (Nat.le_refl _)
theorem OAt.keep {S S' : Nat → Prop} {w w' : World} {v : Value} {x : O} (h : OAt S w v x) (hS : ∀ b,S b → b < w.heap.size → S' b) (hk : ∀ b,S b → b < w.heap.size → w'.heap[b]? = w.heap[b]?) (hs : w.heap.size ≤ w'.heap.size) : OAt S' w' v x := by
 obtain ⟨nv,ev,h1,h2,h3,h4,h5,h6,h7⟩ := h
 exact ⟨nv,ev,h1,h2,h3,h4,h5,h6.keep hS hk hs,h7.keep hS hk hs⟩
theorem OAt.below {S : Nat → Prop} {w w' : World} {v : Value} {x : O} (h : OAt S w v x) {B : Nat} (hb : Below B w w') (hB : w.heap.size ≤ B) : OAt S w' v x :=
 h.keep (fun _ h _ => h) (fun b _ hl => hb.block b (by omega)) hb.size
theorem OAt.any {S : Nat → Prop} {w : World} {v : Value} {x : O} (h : OAt S w v x) : OAt Any w v x := h.keep (fun _ _ _ => trivial) (fun _ _ _ => rfl) (Nat.le_refl _)
theorem three_cells {w : World} {b off : Nat} {x : St} (h : LiesAt w b off (stV x)) : w.cell? ⟨b,off,none⟩ = some (.int .i64 x.id) ∧ w.cell? ⟨b,off + 1,none⟩ = some (.int .i64 x.seq) ∧ w.cell? ⟨b,off + 2,none⟩ = some (.bool x.rel) :=
 ⟨h 0 _ rfl,h 1 _ rfl,h 2 _ rfl⟩
theorem OAt.open_ {S : Nat → Prop} {w : World} {v : Value} {x : O} (h : OAt S w v x) :
 ∃ an cn ae ce,v = .agg #[.int .i64 x.h,.string ⟨x.v.toArray⟩,.int .i64 x.o,.int .i64 x.u,.slice an x.ns.length cn,.slice ae x.es.length ce] ∧ i64B x.h ∧ x.v.length ≤ 140737488355328 ∧ i64B x.o ∧ i64B x.u ∧ StsAt S w (.slice an x.ns.length cn) x.ns ∧ StsAt S w (.slice ae x.es.length ce) x.es := by
 obtain ⟨nv,ev,h1,h2,h3,h4,h5,h6,h7⟩ := h
 obtain ⟨an,cn,e1,_⟩ := id h6
 obtain ⟨ae,ce,e2,_⟩ := id h7
 subst e1 e2
 exact ⟨an,cn,ae,ce,h1,h2,h3,h4,h5,h6,h7⟩
def o0 : O := ⟨0,[],0,0,[],[]⟩
end Go.Proofs.YtmmbiknlicnamaaGreatDoor.Od
