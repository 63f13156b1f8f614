import Derived.Test.YtclghelocglnlaaGreatDoorJm
import Derived.Maps.OwnSet
import Derived.Maps.StringElems
import Derived.StringKeys
import Derived.WalkSpells
set_option maxHeartbeats 0
set_option maxRecDepth 100000
set_option linter.all false
namespace Go.Proofs.YtclghelocglnlaaGreatDoor.Js
open Go.RowKit Lex
structure Moves (B x:Nat) (w w':World):Prop where
 os:w'.os=w.os
 tape:w'.tape=w.tape
 output:w'.output=w.output
 size:w.heap.size<=w'.heap.size
 block:∀k,k < B->k≠x->w'.heap[k]?=w.heap[k]?
theorem Moves.refl (B x:Nat) (w:World):Moves B x w w:=⟨rfl,rfl,rfl,Nat.le_refl _,fun _ _ _=>rfl⟩
theorem Moves.trans {B x:Nat} {a b c:World} (h:Moves B x a b) (k:Moves B x b c):Moves B x a c:=
 ⟨k.os.trans h.os,k.tape.trans h.tape,k.output.trans h.output,Nat.le_trans h.size k.size,fun i hi hx=>(k.block i hi hx).trans (h.block i hi hx)⟩
theorem Moves.mono {B B' x:Nat} {w w':World} (h:Moves B x w w') (hB:B'<=B):Moves B' x w w':=⟨h.os,h.tape,h.output,h.size,fun k hk hx=>h.block k (Nat.lt_of_lt_of_le hk hB) hx⟩
theorem Moves.of_below {B x:Nat} {w w':World} (h:Below B w w'):Moves B x w w':=⟨h.os,h.tape,h.output,h.size,fun k hk _=>h.block k hk⟩
theorem Moves.below {B x:Nat} {w w':World} (h:Moves B x w w') (hB:B<=x):Below B w w':=⟨h.os,h.tape,h.output,h.size,fun k hk=>h.block k hk (by omega)⟩
theorem Moves.drew {B x:Nat} {a w:World} (h:Moves B x a w):Moves B x a w.drew:=⟨h.os,h.tape,h.output,h.size,h.block⟩
theorem Moves.alloc {B x:Nat} {a w:World} (h:Moves B x a w) (hB:B<=w.heap.size) (o:Obj):Moves B x a (w.alloc o):=
 h.trans ⟨rfl,rfl,rfl,by simp,fun k hk _=>Below.heap_alloc _ _ _ (by omega)⟩
theorem Moves.setCell {B x:Nat} {a w:World} (h:Moves B x a w) {p:Addr} (hp:B<=p.block∨p.block=x) (u:Value):Moves B x a (w.setCell p u):=
 h.trans ⟨rfl,rfl,rfl,by simp [World.setCell],fun k hk hx=>Below.heap_setCell _ _ _ _ (by omega)⟩
theorem Moves.grown {B x:Nat} {a w w':World} {row:Option Nat} (h:Moves B x a w) (hg:w.grownBy w' row) (hB:B<=w.heap.size) (hr:∀k,row=some k->B<=k∨k=x):Moves B x a w':=
 h.trans ⟨hg.os,hg.tape,hg.output,hg.size,fun k hk hx=>hg.block k (by omega) (fun e=>by rcases hr k e.symm with h | h <;> omega)⟩
theorem Moves.cell {B x:Nat} {w w':World} (h:Moves B x w w') {p:Addr} (hp:p.block < B) (hx:p.block≠x):w'.cell? p=w.cell? p:=World.cell?_of_block (w:=w) (h.block p.block hp hx)
def litS (n:List UInt8):Lit:= .string n
def SetIs (w:World) (b:Nat) (ns:List (List UInt8)):Prop:=w.ownsMap Tryz.prog 9 (unitElem (H:=Unit)) b ns.length (Maps.setOf (.agg []) (ns.map litS))
theorem law_str:Maps.Keyed Tryz.prog 9:=Maps.string_keyed Tryz.underlying9
theorem zero_unit (w:World):(zeroValue 133).run Tryz.prog w= .ok (.agg #[]) w:=by kernel_rfl
theorem set_has (ns:List (List UInt8)) (n:List UInt8):Maps.has (Maps.setOf (H:=Unit) (.agg []) (ns.map litS)) (.string n)=ns.contains n:=by
 rw [Maps.has_setOf _ _ _ (by intro x hx;simp only [List.mem_map] at hx;obtain ⟨y,_,rfl⟩:=hx;exact trivial)]
 induction ns with
 | nil=>rfl
 | cons x r ih=>
   rw [List.map_cons,List.any_cons,ih,List.contains_cons]
   congr 1
   show (x==n)=(n==x);rw [Bool.eq_iff_iff,beq_iff_eq,beq_iff_eq];exact eq_comm
theorem set_new (w:World):SetIs (w.alloc (.map #[] 0)) w.heap.size []:=World.ownsMap_made _ _ _ _
theorem SetIs.keep {w w':World} {b:Nat} {ns:List (List UInt8)} (h:SetIs w b ns) (hb:w'.heap[b]?=w.heap[b]?):SetIs w' b ns:=by
 unfold SetIs World.ownsMap at *;rw [hb];exact h
theorem SetIs.lt {w:World} {b:Nat} {ns:List (List UInt8)} (h:SetIs w b ns):b < w.heap.size:=World.ownsMap.lt h
theorem add_any (b:Nat) (ns:List (List UInt8)) (n:List UInt8) (w:World) (h:SetIs w b ns) (hn:txtB n) (hl:ns.length<=8796093021952):
 Calls Tryz.prog 164 #[.map (some b),.string ⟨n.toArray⟩] w fun e w'=>e= .returned (.bool (!(ns.contains n)))/\SetIs w' b (if ns.contains n=true then ns else ns++ [n])/\Moves w.heap.size b w w':=by
 have hkey:keyOf Tryz.prog 9 (.string ⟨n.toArray⟩)=some (.string n):=Go.WideMaps.keyOf_string_mk Tryz.underlying9 (by unfold txtB at hn;show (⟨n.toArray⟩:ByteArray).size<=maxLen;rw [bs_size];unfold maxLen;omega);have hlt:=h.lt;have hH:=set_has ns n;have HS:Hid (SetIs w b ns):=h
 cases hc:ns.contains n with
 | true=>
   rw [hc] at hH
   go_enter Tryz.func164,Tryz.ntmps164
   go_wp2_with (at_lookup;refine wpList_lookup_own_unit _ rfl _ _ 162 rfl 9 133 law_str Tryz.underlying162 (zero_unit _) b ns.length _ rfl h _ _ rfl hkey ?_)
   go_ret
   exact ⟨rfl,SetIs.keep HS.out (Below.heap_alloc _ _ _ hlt),(Moves.refl _ _ _).alloc (Nat.le_refl _) _⟩
 | false=>
   rw [hc] at hH
   go_enter Tryz.func164,Tryz.ntmps164
   go_wp2_with (first
    | (at_lookup;refine wpList_lookup_own_unit _ rfl _ _ 162 rfl 9 133 law_str Tryz.underlying162 (zero_unit _) b ns.length _ rfl h _ _ rfl hkey ?_)
    | (at_mapUpdate;refine wpList_mapUpdate_own _ rfl _ _ _ 162 rfl 9 133 law_str Tryz.underlying162 (unitElem (H:=Unit)) b ns.length _ rfl (World.ownsMap.alloc h _) (by unfold maxLen;omega) _ _ _ rfl rfl hkey _ [] unitElem_mk ?_;intro w1 hown1 hgrow1))
   go_ret
   refine ⟨rfl,?_,((Moves.refl _ _ _).alloc (Nat.le_refl _) _).grown hgrow1 (by simp) (fun k hk=> .inr (by cases hk;rfl))⟩;show World.ownsMap _ _ _ _ _ _ _;simp only [List.length_append,List.length_cons,List.length_nil,List.map_append,List.map_cons,List.map_nil,Maps.setOf_snoc];exact hown1
end Go.Proofs.YtclghelocglnlaaGreatDoor.Js
