import Derived.Test.YtclghelocglnlaaGreatDoorCards
import Derived.Test.YtclghelocglnlaaGreatDoorTie
import Derived.Test.YtclghelocglnlaaGreatDoorMA
import Derived.OpenShut
import Derived.JoinedCond
import Derived.JoinedOf
import Derived.SizedLaws
import Derived.Carry
import Derived.ChangeSlices
import Derived.ChangeSame
import Derived.Deep.DeepHandedRow
import Derived.Deep.Slices
import Derived.Lib.SmallJoins
import Derived.Lib.LaidTab
set_option maxHeartbeats 0
set_option maxRecDepth 100000
set_option linter.all false
namespace Go.Proofs.YtclghelocglnlaaGreatDoor.Js
open Go.ChangeShapes Go.WideShapes Go.ChangeAt Go.RowKit Lex
theorem own:ownKnob Tryz.prog.godebug=none:=by kernel_rfl
theorem laidOut:laidOutB Tryz.prog=true:=by kernel_rfl
theorem cellsInt:Tryz.prog.cellsOf 3=1:=by kernel_rfl
def CapOk (v:Value):Prop:=∀a n c,v= .slice a n c->n<=c
theorem gpowType:(Tryz.prog.globals[1]?).map (·.type)=some 219:=by kernel_rfl
theorem cellsPow:Tryz.prog.cellsOf 219=20:=by kernel_rfl
theorem cellsU64:Tryz.prog.cellsOf 191=1:=by kernel_rfl
theorem cell_lt {w:World} {b o:Nat} {v:Value} (h:w.cell? ⟨b,o,none⟩=some v):b < w.heap.size:=by
 rcases Nat.lt_or_ge b w.heap.size with h' | h'
 ·exact h'
 ·simp [World.cell?,Array.getElem?_eq_none h'] at h
theorem add_plain (b off j:Nat):(⟨b,off,none⟩:Addr).add j=⟨b,off+j,none⟩:=by
 simp only [Addr.add];split <;> simp_all
theorem i64B_of' {n:Int} (h:(Lit.int .i64 n).wf=true):i64B n:=bounds_i64 h
def laid5:List (String×DataW Unit):= [("math/bits.deBruijn32tab",Rows.laid_math_bits_deBruijn32tab),("math/bits.deBruijn64tab",Rows.laid_math_bits_deBruijn64tab),("internal/strconv.uint64pow10",Rows.laid_internal_strconv_uint64pow10),("unicode/utf8.acceptRanges",Rows.laid_unicode_utf8_acceptRanges),("unicode/utf8.first",Rows.laid_unicode_utf8_first)]
theorem tab_of_laid {W:World} (h:laidMetH Tryz.prog laid5 W):Dec.Tab W:=by
 have h2:=h.filter (fun x=>x.1== "internal/strconv.uint64pow10");have h3:laidMetH Tryz.prog [("internal/strconv.uint64pow10",Lib.tabData .u64 Lib.pow10Tab)] W:=h2;exact Lib.tabIs_of_head (rest:= []) Dec.gpow gpowType Tryz.underlying219 Tryz.underlying191 cellsU64 cellsPow h3
def flat1:List (DataW Unit)->List Value
 | []=> []
 | .lit (.int k z)::r=> .int k z::flat1 r
 | _::r=>flat1 r
def flat2:List (DataW Unit)->List Value
 | []=> []
 | .lit (.int k z)::r=> .int k z::flat2 r
 | .agg l::r=>flat1 l++flat2 r
 | _::r=>flat2 r
def flat:DataW Unit->Array Value
 | .agg l=>(flat2 l).toArray
 | _=>#[]
def put (vs:Array Value):Obj->Obj
 | .cells _ t f=> .cells vs t f
 | o=>o
noncomputable def laidWorld (os:Os):World:=
 { World.holding Tryz.prog os ⟨#[],#[],[]⟩ with heap:=(((((World.holding Tryz.prog os ⟨#[],#[],[]⟩).heap.modify 1 (put (flat Rows.laid_internal_strconv_uint64pow10))).modify 4 (put (flat Rows.laid_unicode_utf8_first))).modify 5 (put (flat Rows.laid_unicode_utf8_acceptRanges))).modify 2 (put (flat Rows.laid_math_bits_deBruijn32tab))).modify 3 (put (flat Rows.laid_math_bits_deBruijn64tab)) }
theorem laid_met (os:Os) (args:Array Value):laidMet Tryz.prog laid5 ((laidWorld os).forCall (fun _ _=>0) ⟨#[],args,[]⟩).memory:=
 laidMet_of_run' 8 (by kernel_rfl) (by kernel_rfl)
end Go.Proofs.YtclghelocglnlaaGreatDoor.Js
