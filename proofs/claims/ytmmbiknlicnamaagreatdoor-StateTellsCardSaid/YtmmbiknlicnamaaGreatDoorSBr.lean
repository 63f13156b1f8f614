import Derived.Test.YtmmbiknlicnamaaGreatDoorMAz
import Derived.Test.YtmmbiknlicnamaaGreatDoorMPf
import Derived.Test.YtmmbiknlicnamaaGreatDoorMPq
import Derived.Test.YtmmbiknlicnamaaGreatDoorMPz
import Derived.Test.YtmmbiknlicnamaaGreatDoorMQ
set_option maxHeartbeats 8000000
set_option linter.unusedVariables false
set_option linter.unusedSimpArgs false
namespace Go.Proofs.YtmmbiknlicnamaaGreatDoor.Od
open Go.RowKit Js
theorem wp_region_grow_all {P : Program} {id : Nat} {ops : Array Oper} {Q : Exit → Act → World → Prop} {a : Act} {w : World} (hm : P.follows .mixedOrders = true) (mk : List Value → Act) (PS : List (Value → World → Prop)) (zs0 : List Value)
 (hN : ops.size = PS.length) (hz0 : zs0.length = PS.length) (ha : a = mk zs0) (hst : ∀ p ∈ PS,Stable p)
 (hac' : acB ops = true)
 (hstep : ∀ i,i < PS.length → StepOk P ops Q mk w PS i)
 (hfin : ∀ zs wz,zs.length = PS.length → Below w.heap.size w wz → (∀ (j : Nat) (p : Value → World → Prop) (z : Value),PS[j]? = some p → zs[j]? = some z → p z wz) → Q .normal (mk zs) wz) :
 (Code.region id ops true).wp P Q a w := by
 have hac := acB_of hac'
 refine wp_region_inv hm (fun l a wz => ∃ zs,zs.length = PS.length ∧ a = mk zs ∧ FF w PS zs l wz) ?_ ?_ ?_
 ·refine ⟨zs0,hz0,ha,(Below.refl _ _).drew,fun j p z _ _ hL => ?_⟩
  rw [Array.getD_eq_getD_getElem?,Array.getElem?_replicate] at hL
  split at hL <;> cases hL
 ·intro l a wz i hl hi hI
  obtain ⟨hli,o,ho,hpre⟩ := ready_mem hi
  have hi' : i < ops.size := (Array.getElem?_eq_some_iff.1 ho).1
  obtain ⟨zs,hzl,rfl,hF⟩ := hI
  refine wpOp_mono (fun a' w' h => ?_) (hstep i (by omega) zs l wz o hzl hF ho hpre)
  obtain ⟨v,rfl,hb,hv⟩ := h
  exact ⟨zs.set i v,by simpa using hzl,rfl,hF.step hst (by omega) hb hv⟩
 ·intro l a wz hl hr hI
  obtain ⟨zs,hzl,rfl,hF⟩ := hI
  have := all_run hac hl hr
  refine hfin zs wz hzl hF.bel (fun j p z hj hz => hF.fact j p z hj hz (this j ?_))
  have := (List.getElem?_eq_some_iff.1 hj).1
  omega
end Go.Proofs.YtmmbiknlicnamaaGreatDoor.Od
namespace Go.Proofs.YtmmbiknlicnamaaGreatDoor.Sta
open Go.RowKit Js Lex Od
theorem tell_with {α : Type} (z : α) (f : J → α × Bool) (j : J) (nm : List UInt8) : withG (z,false) f (getS j nm) = tellG z f j nm := by
 unfold withG
 cases h : (getS j nm).2 with
 | true => rw [if_pos rfl,tell_get (y := (getS j nm).1) (by rw [← h])]
 | false => rw [if_neg (by decide),tell_none h]
set_option maxRecDepth 100000 in
theorem rnum9_any (n : Int) (w : World) : Calls Tryz.prog 60 #[.int .i64 n] w (fun e w' => e = .returned (.bool (numB n)) ∧ w = w') := by
 obtain ⟨B,hB⟩ : ∃ B,numB n = B := ⟨_,rfl⟩
 have HB := Lib.hid hB
 rw [hB]
 clear hB
 by_cases h0 : n < 0
 ·have hb : B = false := by rw [← HB.out];unfold Od.numB;simp;omega
  subst hb
  clear HB
  go_enter Tryz.func60,Tryz.ntmps60
  go_wp2_with fail
  go_ret
  exact ⟨by first | rfl | (simp;omega),rfl⟩
 ·by_cases h1 : 1000000000 < n
  ·have hb : B = false := by rw [← HB.out];unfold Od.numB;simp;omega
   subst hb
   clear HB
   go_enter Tryz.func60,Tryz.ntmps60
   go_wp2_with fail
   go_ret
   exact ⟨by first | rfl | (simp;omega),rfl⟩
  ·have hb : B = true := by rw [← HB.out];unfold Od.numB;simp;omega
   subst hb
   clear HB
   go_enter Tryz.func60,Tryz.ntmps60
   go_wp2_with fail
   go_ret
   exact ⟨by first | rfl | (simp;omega),rfl⟩
theorem right_way (nm : List UInt8 → Bool) (x : S9) : rightT nm x = (nm x.v && (numB x.h && (numB x.b && (numB x.o && (numB x.u && (numB x.n && (numB x.q && (numB x.ac && (decide (x.q % 2 = 0) && (x.lv || !x.dr)))))))))) := by
 unfold rightT numsB
 cases nm x.v <;> cases numB x.h <;> cases numB x.b <;> cases numB x.o <;> cases numB x.u <;> cases numB x.n <;> cases numB x.q <;> cases numB x.ac <;> rfl
theorem rname_of_l (l : List UInt8) (w : World) (h : l.length ≤ 140737488355328) : Calls Tryz.prog 43 #[.string ⟨l.toArray⟩] w (fun e w' => e = .returned (.bool (Tp.nameB l)) ∧ w = w') := Tp.rname_is rfl w (by unfold Tp.reachN;omega)
set_option maxRecDepth 100000 in
theorem rright9_any (x : S9) (w : World) (hx : x.ok) : Calls Tryz.prog 24 #[sV x] w (Ret (.bool (rightT Tp.nameB x)) w) := by
 have hv := hx.v
 rw [right_way]
 unfold sV sC
 obtain ⟨hd,bo,nm,od,up,lv,nd,sq,dr,ac⟩ := x
 simp only at hv ⊢
 have NM := Lib.hid (fun (w' : World) => rname_of_l nm w' hv)
 have N0 := Lib.hid (fun (w' : World) => rnum9_any hd w')
 have N1 := Lib.hid (fun (w' : World) => rnum9_any bo w')
 have N2 := Lib.hid (fun (w' : World) => rnum9_any od w')
 have N3 := Lib.hid (fun (w' : World) => rnum9_any up w')
 have N4 := Lib.hid (fun (w' : World) => rnum9_any nd w')
 have N5 := Lib.hid (fun (w' : World) => rnum9_any sq w')
 have N6 := Lib.hid (fun (w' : World) => rnum9_any ac w')
 have HSQ := Lib.hid (show numB sq = true → 0 ≤ sq from fun h => (numB_iff h).1)
 have HB1 := Lib.hid (fun o => belowOne w o)
 clear hx hv
 generalize Tp.nameB nm = M at *
 generalize (⟨nm.toArray⟩ : ByteArray) = sv at *
 generalize numB hd = q0 at *
 generalize numB bo = q1 at *
 generalize numB od = q2 at *
 generalize numB up = q3 at *
 generalize numB nd = q4 at *
 generalize numB sq = q5 at *
 generalize numB ac = q6 at *
 cases M with
 | false =>
   go_enter Tryz.func24,Tryz.ntmps24
   go_wp2_with (first
    | (go_at_call 43;(with_reducible refine (NM.out _).mono ?_);rintro e1 w1 ⟨rfl,rfl⟩)
    | (go_at_call 60;(with_reducible refine (N0.out _).mono ?_);rintro e1 w1 ⟨rfl,rfl⟩)
    | (go_at_call 60;(with_reducible refine (N1.out _).mono ?_);rintro e1 w1 ⟨rfl,rfl⟩)
    | (go_at_call 60;(with_reducible refine (N2.out _).mono ?_);rintro e1 w1 ⟨rfl,rfl⟩)
    | (go_at_call 60;(with_reducible refine (N3.out _).mono ?_);rintro e1 w1 ⟨rfl,rfl⟩)
    | (go_at_call 60;(with_reducible refine (N4.out _).mono ?_);rintro e1 w1 ⟨rfl,rfl⟩)
    | (go_at_call 60;(with_reducible refine (N5.out _).mono ?_);rintro e1 w1 ⟨rfl,rfl⟩)
    | (go_at_call 60;(with_reducible refine (N6.out _).mono ?_);rintro e1 w1 ⟨rfl,rfl⟩))
   go_ret
   exact ⟨by simp,HB1.out _⟩
 | true =>
   cases q0 with
   | false =>
     go_enter Tryz.func24,Tryz.ntmps24
     go_wp2_with (first
      | (go_at_call 43;(with_reducible refine (NM.out _).mono ?_);rintro e1 w1 ⟨rfl,rfl⟩)
      | (go_at_call 60;(with_reducible refine (N0.out _).mono ?_);rintro e1 w1 ⟨rfl,rfl⟩)
      | (go_at_call 60;(with_reducible refine (N1.out _).mono ?_);rintro e1 w1 ⟨rfl,rfl⟩)
      | (go_at_call 60;(with_reducible refine (N2.out _).mono ?_);rintro e1 w1 ⟨rfl,rfl⟩)
      | (go_at_call 60;(with_reducible refine (N3.out _).mono ?_);rintro e1 w1 ⟨rfl,rfl⟩)
      | (go_at_call 60;(with_reducible refine (N4.out _).mono ?_);rintro e1 w1 ⟨rfl,rfl⟩)
      | (go_at_call 60;(with_reducible refine (N5.out _).mono ?_);rintro e1 w1 ⟨rfl,rfl⟩)
      | (go_at_call 60;(with_reducible refine (N6.out _).mono ?_);rintro e1 w1 ⟨rfl,rfl⟩))
     go_ret
     exact ⟨by simp,HB1.out _⟩
   | true =>
     cases q1 with
     | false =>
       go_enter Tryz.func24,Tryz.ntmps24
       go_wp2_with (first
        | (go_at_call 43;(with_reducible refine (NM.out _).mono ?_);rintro e1 w1 ⟨rfl,rfl⟩)
        | (go_at_call 60;(with_reducible refine (N0.out _).mono ?_);rintro e1 w1 ⟨rfl,rfl⟩)
        | (go_at_call 60;(with_reducible refine (N1.out _).mono ?_);rintro e1 w1 ⟨rfl,rfl⟩)
        | (go_at_call 60;(with_reducible refine (N2.out _).mono ?_);rintro e1 w1 ⟨rfl,rfl⟩)
        | (go_at_call 60;(with_reducible refine (N3.out _).mono ?_);rintro e1 w1 ⟨rfl,rfl⟩)
        | (go_at_call 60;(with_reducible refine (N4.out _).mono ?_);rintro e1 w1 ⟨rfl,rfl⟩)
        | (go_at_call 60;(with_reducible refine (N5.out _).mono ?_);rintro e1 w1 ⟨rfl,rfl⟩)
        | (go_at_call 60;(with_reducible refine (N6.out _).mono ?_);rintro e1 w1 ⟨rfl,rfl⟩))
       go_ret
       exact ⟨by simp,HB1.out _⟩
     | true =>
       cases q2 with
       | false =>
         go_enter Tryz.func24,Tryz.ntmps24
         go_wp2_with (first
          | (go_at_call 43;(with_reducible refine (NM.out _).mono ?_);rintro e1 w1 ⟨rfl,rfl⟩)
          | (go_at_call 60;(with_reducible refine (N0.out _).mono ?_);rintro e1 w1 ⟨rfl,rfl⟩)
          | (go_at_call 60;(with_reducible refine (N1.out _).mono ?_);rintro e1 w1 ⟨rfl,rfl⟩)
          | (go_at_call 60;(with_reducible refine (N2.out _).mono ?_);rintro e1 w1 ⟨rfl,rfl⟩)
          | (go_at_call 60;(with_reducible refine (N3.out _).mono ?_);rintro e1 w1 ⟨rfl,rfl⟩)
          | (go_at_call 60;(with_reducible refine (N4.out _).mono ?_);rintro e1 w1 ⟨rfl,rfl⟩)
          | (go_at_call 60;(with_reducible refine (N5.out _).mono ?_);rintro e1 w1 ⟨rfl,rfl⟩)
          | (go_at_call 60;(with_reducible refine (N6.out _).mono ?_);rintro e1 w1 ⟨rfl,rfl⟩))
         go_ret
         exact ⟨by simp,HB1.out _⟩
       | true =>
         cases q3 with
         | false =>
           go_enter Tryz.func24,Tryz.ntmps24
           go_wp2_with (first
            | (go_at_call 43;(with_reducible refine (NM.out _).mono ?_);rintro e1 w1 ⟨rfl,rfl⟩)
            | (go_at_call 60;(with_reducible refine (N0.out _).mono ?_);rintro e1 w1 ⟨rfl,rfl⟩)
            | (go_at_call 60;(with_reducible refine (N1.out _).mono ?_);rintro e1 w1 ⟨rfl,rfl⟩)
            | (go_at_call 60;(with_reducible refine (N2.out _).mono ?_);rintro e1 w1 ⟨rfl,rfl⟩)
            | (go_at_call 60;(with_reducible refine (N3.out _).mono ?_);rintro e1 w1 ⟨rfl,rfl⟩)
            | (go_at_call 60;(with_reducible refine (N4.out _).mono ?_);rintro e1 w1 ⟨rfl,rfl⟩)
            | (go_at_call 60;(with_reducible refine (N5.out _).mono ?_);rintro e1 w1 ⟨rfl,rfl⟩)
            | (go_at_call 60;(with_reducible refine (N6.out _).mono ?_);rintro e1 w1 ⟨rfl,rfl⟩))
           go_ret
           exact ⟨by simp,HB1.out _⟩
         | true =>
           cases q4 with
           | false =>
             go_enter Tryz.func24,Tryz.ntmps24
             go_wp2_with (first
              | (go_at_call 43;(with_reducible refine (NM.out _).mono ?_);rintro e1 w1 ⟨rfl,rfl⟩)
              | (go_at_call 60;(with_reducible refine (N0.out _).mono ?_);rintro e1 w1 ⟨rfl,rfl⟩)
              | (go_at_call 60;(with_reducible refine (N1.out _).mono ?_);rintro e1 w1 ⟨rfl,rfl⟩)
              | (go_at_call 60;(with_reducible refine (N2.out _).mono ?_);rintro e1 w1 ⟨rfl,rfl⟩)
              | (go_at_call 60;(with_reducible refine (N3.out _).mono ?_);rintro e1 w1 ⟨rfl,rfl⟩)
              | (go_at_call 60;(with_reducible refine (N4.out _).mono ?_);rintro e1 w1 ⟨rfl,rfl⟩)
              | (go_at_call 60;(with_reducible refine (N5.out _).mono ?_);rintro e1 w1 ⟨rfl,rfl⟩)
              | (go_at_call 60;(with_reducible refine (N6.out _).mono ?_);rintro e1 w1 ⟨rfl,rfl⟩))
             go_ret
             exact ⟨by simp,HB1.out _⟩
           | true =>
             cases q5 with
             | false =>
               go_enter Tryz.func24,Tryz.ntmps24
               go_wp2_with (first
                | (go_at_call 43;(with_reducible refine (NM.out _).mono ?_);rintro e1 w1 ⟨rfl,rfl⟩)
                | (go_at_call 60;(with_reducible refine (N0.out _).mono ?_);rintro e1 w1 ⟨rfl,rfl⟩)
                | (go_at_call 60;(with_reducible refine (N1.out _).mono ?_);rintro e1 w1 ⟨rfl,rfl⟩)
                | (go_at_call 60;(with_reducible refine (N2.out _).mono ?_);rintro e1 w1 ⟨rfl,rfl⟩)
                | (go_at_call 60;(with_reducible refine (N3.out _).mono ?_);rintro e1 w1 ⟨rfl,rfl⟩)
                | (go_at_call 60;(with_reducible refine (N4.out _).mono ?_);rintro e1 w1 ⟨rfl,rfl⟩)
                | (go_at_call 60;(with_reducible refine (N5.out _).mono ?_);rintro e1 w1 ⟨rfl,rfl⟩)
                | (go_at_call 60;(with_reducible refine (N6.out _).mono ?_);rintro e1 w1 ⟨rfl,rfl⟩))
               go_ret
               exact ⟨by simp,HB1.out _⟩
             | true =>
               cases q6 with
               | false =>
                 go_enter Tryz.func24,Tryz.ntmps24
                 go_wp2_with (first
                  | (go_at_call 43;(with_reducible refine (NM.out _).mono ?_);rintro e1 w1 ⟨rfl,rfl⟩)
                  | (go_at_call 60;(with_reducible refine (N0.out _).mono ?_);rintro e1 w1 ⟨rfl,rfl⟩)
                  | (go_at_call 60;(with_reducible refine (N1.out _).mono ?_);rintro e1 w1 ⟨rfl,rfl⟩)
                  | (go_at_call 60;(with_reducible refine (N2.out _).mono ?_);rintro e1 w1 ⟨rfl,rfl⟩)
                  | (go_at_call 60;(with_reducible refine (N3.out _).mono ?_);rintro e1 w1 ⟨rfl,rfl⟩)
                  | (go_at_call 60;(with_reducible refine (N4.out _).mono ?_);rintro e1 w1 ⟨rfl,rfl⟩)
                  | (go_at_call 60;(with_reducible refine (N5.out _).mono ?_);rintro e1 w1 ⟨rfl,rfl⟩)
                  | (go_at_call 60;(with_reducible refine (N6.out _).mono ?_);rintro e1 w1 ⟨rfl,rfl⟩))
                 go_ret
                 exact ⟨by simp,HB1.out _⟩
               | true =>
                 have hs0 := HSQ.out rfl
                 by_cases he : sq % 2 = 0
                 ·rw [decide_eq_true he]
                  cases lv <;> cases dr
                  all_goals
                   go_enter Tryz.func24,Tryz.ntmps24
                   go_wp2_with (first
                    | (go_at_call 43;(with_reducible refine (NM.out _).mono ?_);rintro e1 w1 ⟨rfl,rfl⟩)
                    | (go_at_call 60;(with_reducible refine (N0.out _).mono ?_);rintro e1 w1 ⟨rfl,rfl⟩)
                    | (go_at_call 60;(with_reducible refine (N1.out _).mono ?_);rintro e1 w1 ⟨rfl,rfl⟩)
                    | (go_at_call 60;(with_reducible refine (N2.out _).mono ?_);rintro e1 w1 ⟨rfl,rfl⟩)
                    | (go_at_call 60;(with_reducible refine (N3.out _).mono ?_);rintro e1 w1 ⟨rfl,rfl⟩)
                    | (go_at_call 60;(with_reducible refine (N4.out _).mono ?_);rintro e1 w1 ⟨rfl,rfl⟩)
                    | (go_at_call 60;(with_reducible refine (N5.out _).mono ?_);rintro e1 w1 ⟨rfl,rfl⟩)
                    | (go_at_call 60;(with_reducible refine (N6.out _).mono ?_);rintro e1 w1 ⟨rfl,rfl⟩))
                   go_ret
                   exact ⟨by simp,HB1.out _⟩
                 ·rw [decide_eq_false he]
                  go_enter Tryz.func24,Tryz.ntmps24
                  go_wp2_with (first
                   | (go_at_call 43;(with_reducible refine (NM.out _).mono ?_);rintro e1 w1 ⟨rfl,rfl⟩)
                   | (go_at_call 60;(with_reducible refine (N0.out _).mono ?_);rintro e1 w1 ⟨rfl,rfl⟩)
                   | (go_at_call 60;(with_reducible refine (N1.out _).mono ?_);rintro e1 w1 ⟨rfl,rfl⟩)
                   | (go_at_call 60;(with_reducible refine (N2.out _).mono ?_);rintro e1 w1 ⟨rfl,rfl⟩)
                   | (go_at_call 60;(with_reducible refine (N3.out _).mono ?_);rintro e1 w1 ⟨rfl,rfl⟩)
                   | (go_at_call 60;(with_reducible refine (N4.out _).mono ?_);rintro e1 w1 ⟨rfl,rfl⟩)
                   | (go_at_call 60;(with_reducible refine (N5.out _).mono ?_);rintro e1 w1 ⟨rfl,rfl⟩)
                   | (go_at_call 60;(with_reducible refine (N6.out _).mono ?_);rintro e1 w1 ⟨rfl,rfl⟩))
                  go_ret
                  exact ⟨by simp,HB1.out _⟩
set_option maxRecDepth 100000 in
theorem rnewer9_any (x y : S9) (w : World) : Calls Tryz.prog 26 #[sV x,sV y] w (Ret (.bool (newerB x y)) w) := by
 unfold sV sC newerB
 obtain ⟨hd,bo,nm,od,up,lv,nd,sq,dr,ac⟩ := x
 obtain ⟨hd',bo',nm',od',up',lv',nd',sq',dr',ac'⟩ := y
 simp only
 generalize (⟨nm.toArray⟩ : ByteArray) = sv at *
 generalize (⟨nm'.toArray⟩ : ByteArray) = sv' at *
 by_cases h1 : bo' < bo
 ·rw [decide_eq_true h1]
  go_enter Tryz.func26,Tryz.ntmps26
  go_wp2_with fail
  go_ret
  exact ⟨rfl,belowTwo _ _ _⟩
 ·rw [decide_eq_false h1]
  by_cases h2 : bo = bo'
  ·subst h2
   by_cases h3 : hd' < hd
   ·rw [decide_eq_true h3]
    go_enter Tryz.func26,Tryz.ntmps26
    go_wp2_with fail
    go_ret
    exact ⟨by simp,belowTwo _ _ _⟩
   ·rw [decide_eq_false h3]
    go_enter Tryz.func26,Tryz.ntmps26
    go_wp2_with fail
    go_ret
    exact ⟨by simp,belowTwo _ _ _⟩
  ·have h3 : (bo == bo') = false := by simpa using h2
   rw [h3]
   go_enter Tryz.func26,Tryz.ntmps26
   go_wp2_with fail
   go_ret
   exact ⟨rfl,belowTwo _ _ _⟩
end Go.Proofs.YtmmbiknlicnamaaGreatDoor.Sta
namespace Go.Proofs.YtmmbiknlicnamaaGreatDoor.Sta
open Go.RowKit Js Lex Od
theorem rint_num (n : Int) (h : numB n = true) (w : World) : Calls Tryz.prog 35 #[.int .i64 n] w (Ret (bareV 4 (Dec.mk n 0).1 (Dec.mk n 0).2.1 []) w) := by
 have := rint5_any n w (numB_64 h).1 (numB_64 h).2
 rwa [intJ_num h] at this
def NamesV9 (z : Value) (w : World) : Prop := ∃ b,z = .slice (some ⟨b,0,none⟩) 10 10 ∧ StrsAt Any w z names9
theorem NamesV9.stable : Stable NamesV9 := fun z w w' ⟨b,e,h⟩ hb => ⟨b,e,h.keep (fun _ _ _ => trivial) (fun k _ hk => hb.block k hk) hb.size⟩
def ItemsV9 (is : List J) (z : Value) (w : World) : Prop := ∃ b,z = .slice (some ⟨b,0,none⟩) 10 10 ∧ ItemsAt Any w 3 (some ⟨b,0,none⟩) is
theorem ItemsV9.stable (is : List J) : Stable (ItemsV9 is) := fun z w w' ⟨b,e,h⟩ hb => ⟨b,e,h.below hb⟩
def JVA (d : Nat) (j : J) (z : Value) (w : World) : Prop := (∃ k m e t an nn cn ai ni ci,z = .agg #[.int .i64 k,.int .i64 m,.int .i64 e,.string t,.slice an nn cn,.slice ai ni ci]) ∧ JAt Any w d z j
theorem JVA.stable (d : Nat) (j : J) : Stable (JVA d j) := fun z w w' h hb => ⟨h.1,h.2.below hb (Nat.le_refl _)⟩
def BoxV (lo : Nat) (z : Value) (w : World) : Prop := ∃ g,z = .pointer (some ⟨g,0,none⟩) ∧ lo ≤ g ∧ w.heap[g]? = some (.cells #[.int .i64 0,.int .i64 0,.int .i64 0,.string ⟨#[]⟩,.slice none 0 0,.slice none 0 0] 58 (0,0))
theorem BoxV.stable (lo : Nat) : Stable (BoxV lo) := fun z w w' ⟨g,e,h1,h2⟩ hb => ⟨g,e,h1,(hb.block g (Own.block_lt h2)).trans h2⟩
theorem names9_new (w : World) : NamesV9 (.slice (some ⟨w.heap.size,0,none⟩) 10 10) (w.alloc (.cells #[.string ⟨#[104,101,97,100,101,114,73,100]⟩,.string ⟨#[98,111,111,116]⟩,.string ⟨#[115,101,114,105,97,108,78,117,109,98,101,114]⟩,.string ⟨#[111,114,100,101,114,73,100]⟩,.string ⟨#[111,114,100,101,114,85,112,100,97,116,101,73,100]⟩,.string ⟨#[108,105,118,101]⟩,.string ⟨#[108,97,115,116,78,111,100,101,73,100]⟩,.string ⟨#[108,97,115,116,78,111,100,101,83,101,113,117,101,110,99,101,73,100]⟩,.string ⟨#[100,114,105,118,105,110,103]⟩,.string ⟨#[97,99,99,101,112,116,101,100]⟩] 9)) :=
 ⟨_,rfl,strs_lit (l := names9) (heap_alloc_new _ _) (by simp [names9]) (by simp [names9]) (fun n hm => by have := (names9_ascii n hm).2;unfold txtB;omega)⟩
theorem rmake9_any (x : S9) (w : World) {n i : Value} (hn : NamesV9 n w) (hi : ItemsV9 (items9 x) i w) : Calls Tryz.prog 34 #[n,i] w (fun e w' => ∃ nn cn' ni ci' a a',e = .returned (.agg #[.int .i64 7,.int .i64 0,.int .i64 0,.string ⟨#[]⟩,.slice a nn cn',.slice a' ni ci']) ∧ JAt Any w' 4 (.agg #[.int .i64 7,.int .i64 0,.int .i64 0,.string ⟨#[]⟩,.slice a nn cn',.slice a' ni ci']) (layJ9 x) ∧ Below w.heap.size w w') := by
 obtain ⟨b1,rfl,h1⟩ := hn
 obtain ⟨b2,rfl,h2⟩ := hi
 have := rmake5_any 3 w (some ⟨b1,0,none⟩) 10 (some ⟨b2,0,none⟩) 10 names9 (items9 x) h1 (by simp [items9]) (by simp [items9]) h2 (by simp [items9,names9])
 rwa [mk_lay] at this
theorem ten_items {w : World} {b : Nat} {T : TypeId} {hd bo od up nd sq ac : Int} {nm : List UInt8} {lv dr : Bool} (r1 : numB hd = true) (r2 : numB bo = true) (r3 : numB od = true) (r4 : numB up = true) (r5 : numB nd = true) (r6 : numB sq = true) (r7 : numB ac = true) (ht : txtB nm)
 (h : w.heap[b]? = some (.cells ([bareV 4 (Dec.mk hd 0).1 (Dec.mk hd 0).2.1 [],bareV 4 (Dec.mk bo 0).1 (Dec.mk bo 0).2.1 [],bareV 5 0 0 nm,bareV 4 (Dec.mk od 0).1 (Dec.mk od 0).2.1 [],bareV 4 (Dec.mk up 0).1 (Dec.mk up 0).2.1 [],bareV (if lv = true then 3 else 2) 0 0 [],bareV 4 (Dec.mk nd 0).1 (Dec.mk nd 0).2.1 [],bareV 4 (Dec.mk sq 0).1 (Dec.mk sq 0).2.1 [],bareV (if dr = true then 3 else 2) 0 0 [],bareV 4 (Dec.mk ac 0).1 (Dec.mk ac 0).2.1 []].flatMap aggC).toArray T (0,0))) : ItemsAt Any w 3 (some ⟨b,0,none⟩) (items9 ⟨hd,bo,nm,od,up,lv,nd,sq,dr,ac⟩) := by
 refine its_lit h trivial rfl (fun u hu => ?_) (fun i hi => ?_)
 ·simp at hu
  rcases hu with rfl | rfl | rfl | rfl | rfl | rfl | rfl | rfl | rfl | rfl <;> rfl
 ·have hi6 : i = 0 ∨ i = 1 ∨ i = 2 ∨ i = 3 ∨ i = 4 ∨ i = 5 ∨ i = 6 ∨ i = 7 ∨ i = 8 ∨ i = 9 := by simp [items9] at hi;omega
  rcases hi6 with rfl | rfl | rfl | rfl | rfl | rfl | rfl | rfl | rfl | rfl
  ·exact (num_jat r1).deep (by omega)
  ·exact (num_jat r2).deep (by omega)
  ·exact (str_jat ht).deep (by omega)
  ·exact (num_jat r3).deep (by omega)
  ·exact (num_jat r4).deep (by omega)
  ·exact (flag_jat lv).deep (by omega)
  ·exact (num_jat r5).deep (by omega)
  ·exact (num_jat r6).deep (by omega)
  ·exact (flag_jat dr).deep (by omega)
  ·exact (num_jat r7).deep (by omega)
theorem leaf_free {S S' : Nat → Prop} {w : World} {d : Nat} {v : Value} {k m e : Int} {t : List UInt8} (h : JAt S w d v (.mk k m e t [] [])) : JAt S' w d v (.mk k m e t [] []) := by
 obtain ⟨d',an,cn,ai,ci,rfl,hv,h1,h2,h3,h4,h5,h6,h7,h8,h9,h10⟩ := h.open_
 obtain ⟨a,c,q1,q2,q3,q4,q5⟩ := h5
 exact ⟨_,ai,ci,hv,h1,h2,h3,h4,⟨a,c,q1,q2,q3,q4,fun hp => by simp at hp⟩,h8,h9,fun hp => by simp at hp⟩
theorem jat_free {w : World} {d g : Nat} {v : Value} {ns : List (List UInt8)} {is : List J} {cs : Array Value} (h : JAt Any w d v (.mk 7 0 0 [] ns is)) (hg : w.heap[g]? = some (.cells cs 58 (0,0))) (hc : cs.size = 6) (hn : 6 < ns.length) (hi : 1 < is.length) (hl : ∀ i,i < is.length → ∃ k m e t,is.getD i j0 = .mk k m e t [] []) :
 JAt (fun b => b ≠ g) w d v (.mk 7 0 0 [] ns is) := by
 have hout : ∀ i,6 ≤ i → w.cell? ⟨g,i,none⟩ = none := fun i hi => by
  rw [cell_of_row _ _ _ _ _ _ hg,Array.getElem?_eq_none (by omega)]
 obtain ⟨d',an,cn,ai,ci,rfl,hv,h1,h2,h3,h4,h5,h6,h7,h8,h9,h10⟩ := h.open_
 obtain ⟨a,c,q1,q2,q3,q4,q5⟩ := h5
 refine ⟨_,ai,ci,hv,h1,h2,h3,h4,⟨a,c,q1,q2,q3,q4,fun hp => ?_⟩,h8,h9,fun hp => ?_⟩
 ·obtain ⟨b,off,e1,e2,e3,e4⟩ := q5 hp
  refine ⟨b,off,e1,fun e => ?_,e3,e4⟩
  subst e
  have := e4 6 hn
  rw [hout _ (by omega)] at this
  cases this
 ·obtain ⟨b,off,e1,e2,e3,e4⟩ := h10 hp
  refine ⟨b,off,e1,fun e => ?_,e3,fun i hlt => ?_⟩
  ·subst e
   obtain ⟨u,r1,r2⟩ := e4 1 hi
   obtain ⟨_,_,_,_,_,_,_,_,_,_,rfl⟩ := jAt_form r2
   have := r1 0 _ rfl
   rw [hout _ (by omega)] at this
   cases this
  ·obtain ⟨u,r1,r2⟩ := e4 i hlt
   obtain ⟨k,m,e,t,hk⟩ := hl i hlt
   rw [hk] at r2 ⊢
   exact ⟨u,r1,leaf_free r2⟩
theorem layJ9_tb {x : S9} (h : x.v.length ≤ 10000000) : tbJ (layJ9 x) := by
 unfold layJ9
 rw [tbJ]
 refine ⟨by simp,fun n hn => by have := (names9_ascii n hn).2;omega,?_⟩
 unfold items9 numJ textJ boolJ
 simp only [tbL,tbJ]
 refine ⟨?_,?_,?_,?_,?_,?_,?_,?_,?_,?_,trivial⟩
 all_goals exact ⟨by first | exact h | simp,fun n hn => by simp at hn,trivial⟩
set_option maxRecDepth 100000 in
theorem rlay9_any (x : S9) (w : World) (hx : x.ok) : Calls Tryz.prog 22 #[sV x] w (Ret (if rightT Tp.nameB x = true then .tuple #[.string ⟨(layS9 x).toArray⟩,.int .i64 0] else .tuple #[.string ⟨#[]⟩,.int .i64 1]) w) := by
 have R1 := Lib.hid (fun (w' : World) => rright9_any x w' hx)
 by_cases hr : rightT Tp.nameB x = true
 ·rw [if_pos hr]
  rw [hr] at R1
  have hrj := lay9_right name_ok hr
  have hlen := lay9_len name_ok hr
  obtain ⟨r1,r2,r3,r4,r5,r6,r7,r8⟩ := rightT_parts hr
  have ht : txtB x.v := by have := (Tp.name_len r8).2;unfold txtB;omega
  have htb : tbJ (layJ9 x) := layJ9_tb (by have := (Tp.name_len r8).2;omega)
  have MK := Lib.hid (fun (w' : World) (n i : Value) (hn : NamesV9 n w') (hi : ItemsV9 (items9 x) i w') => rmake9_any x w' hn hi)
  have PR := Lib.hid (fun (w' : World) (v : Value) (hJ : JA Any w' v (layJ9 x)) => rprint_of Any v (layJ9 x) w' hJ htb (fun _ => by omega))
  have hps : printS (layJ9 x) = printJ (layJ9 x) := by unfold printS;rw [if_pos hrj]
  rw [hps] at PR
  have SE := Lib.hid (fun (w' : World) => Se.rseal_l (printJ (layJ9 x)) w' (by omega))
  unfold layS9
  have HLV : Hid (∀ i,i < (items9 x).length → ∃ k m e t,(items9 x).getD i j0 = .mk k m e t [] []) := fun i hi => by
   have hi6 : i = 0 ∨ i = 1 ∨ i = 2 ∨ i = 3 ∨ i = 4 ∨ i = 5 ∨ i = 6 ∨ i = 7 ∨ i = 8 ∨ i = 9 := by simp [items9] at hi;omega
   rcases hi6 with rfl | rfl | rfl | rfl | rfl | rfl | rfl | rfl | rfl | rfl <;> exact ⟨_,_,_,_,rfl⟩
  have FREE := Lib.hid (fun (w' : World) (d g : Nat) (v : Value) (cs : Array Value) (h : JAt Any w' d v (layJ9 x)) (hg : w'.heap[g]? = some (.cells cs 58 (0,0))) (hc : cs.size = 6) => (show JAt (fun b => b ≠ g) w' d v (layJ9 x) from jat_free h hg hc (by show 6 < 10;omega) (by show 1 < 10;omega) HLV.out))
  clear HLV
  generalize Se.sealS (printJ (layJ9 x)) = T at *
  generalize printJ (layJ9 x) = U at *
  generalize hL : layJ9 x = L at *
  unfold sV sC at *
  obtain ⟨hd,bo,nm,od,up,lv,nd,sq,dr,ac⟩ := x
  simp only at R1 r1 r2 r3 r4 r5 r6 r7 r8 ht ⊢
  clear hrj hlen hps hr hx htb hL
  go_enter Tryz.func22,Tryz.ntmps22
  go_upto_region 4 with (go_at_call 24;(with_reducible refine (R1.out _).mono ?_);rintro e1 w1 ⟨rfl,hb1⟩;have HB1 := Lib.hid (show Below w.heap.size w w1 from (belowOne w _).trans (hb1.mono (by simp)));have HBOX := Lib.hid ((hb1.block _ (by simp)).trans (heap_alloc_new w _));clear hb1)
  have hlb := Own.block_lt HBOX.out
  have hs2 := HB1.out.size
  refine wp_region_grow mixed8 (fun zs : List Value => ({ tmps := List.toArray (Value.agg #[.int .i64 hd,.int .i64 bo,.string ⟨nm.toArray⟩,.int .i64 od,.int .i64 up,.bool lv,.int .i64 nd,.int .i64 sq,.bool dr,.int .i64 ac] :: Value.pointer (some ⟨w.heap.size,0,none⟩) :: Value.string ⟨#[]⟩ :: Value.int .i64 0 :: Value.bool true :: zs.getD 33 undef :: Value.agg #[.int .i64 hd,.int .i64 bo,.string ⟨nm.toArray⟩,.int .i64 od,.int .i64 up,.bool lv,.int .i64 nd,.int .i64 sq,.bool dr,.int .i64 ac] :: Value.bool true :: Value.bool true :: Value.bool false :: zs.getD 0 undef :: zs.getD 1 undef :: zs.getD 2 undef :: zs.getD 3 undef :: zs.getD 4 undef :: zs.getD 5 undef :: zs.getD 6 undef :: zs.getD 7 undef :: zs.getD 8 undef :: zs.getD 9 undef :: zs.getD 10 undef :: zs.getD 11 undef :: zs.getD 12 undef :: zs.getD 13 undef :: zs.getD 14 undef :: zs.getD 15 undef :: zs.getD 16 undef :: zs.getD 17 undef :: zs.getD 18 undef :: zs.getD 19 undef :: zs.getD 20 undef :: zs.getD 21 undef :: zs.getD 22 undef :: zs.getD 23 undef :: zs.getD 24 undef :: zs.getD 25 undef :: zs.getD 26 undef :: zs.getD 27 undef :: zs.getD 28 undef :: zs.getD 29 undef :: zs.getD 30 undef :: zs.getD 31 undef :: zs.getD 32 undef :: undef :: undef :: undef :: []),defers := [] } : Act)) [NamesV9,(fun z _ => z = Value.pointer (some ⟨w.heap.size,0,none⟩)),(fun z _ => z = Value.int .i64 hd),(fun z _ => z = bareV 4 (Dec.mk hd 0).1 (Dec.mk hd 0).2.1 []),(fun z _ => z = Value.pointer (some ⟨w.heap.size,1,none⟩)),(fun z _ => z = Value.int .i64 bo),(fun z _ => z = bareV 4 (Dec.mk bo 0).1 (Dec.mk bo 0).2.1 []),(fun z _ => z = Value.pointer (some ⟨w.heap.size,2,none⟩)),(fun z _ => z = Value.string ⟨nm.toArray⟩),(fun z _ => z = bareV 5 0 0 nm),(fun z _ => z = Value.pointer (some ⟨w.heap.size,3,none⟩)),(fun z _ => z = Value.int .i64 od),(fun z _ => z = bareV 4 (Dec.mk od 0).1 (Dec.mk od 0).2.1 []),(fun z _ => z = Value.pointer (some ⟨w.heap.size,4,none⟩)),(fun z _ => z = Value.int .i64 up),(fun z _ => z = bareV 4 (Dec.mk up 0).1 (Dec.mk up 0).2.1 []),(fun z _ => z = Value.pointer (some ⟨w.heap.size,5,none⟩)),(fun z _ => z = Value.bool lv),(fun z _ => z = bareV (if lv = true then 3 else 2) 0 0 []),(fun z _ => z = Value.pointer (some ⟨w.heap.size,6,none⟩)),(fun z _ => z = Value.int .i64 nd),(fun z _ => z = bareV 4 (Dec.mk nd 0).1 (Dec.mk nd 0).2.1 []),(fun z _ => z = Value.pointer (some ⟨w.heap.size,7,none⟩)),(fun z _ => z = Value.int .i64 sq),(fun z _ => z = bareV 4 (Dec.mk sq 0).1 (Dec.mk sq 0).2.1 []),(fun z _ => z = Value.pointer (some ⟨w.heap.size,8,none⟩)),(fun z _ => z = Value.bool dr),(fun z _ => z = bareV (if dr = true then 3 else 2) 0 0 []),(fun z _ => z = Value.pointer (some ⟨w.heap.size,9,none⟩)),(fun z _ => z = Value.int .i64 ac),(fun z _ => z = bareV 4 (Dec.mk ac 0).1 (Dec.mk ac 0).2.1 []),(ItemsV9 (items9 ⟨hd,bo,nm,od,up,lv,nd,sq,dr,ac⟩)),(JVA 4 L),(BoxV w1.heap.size)] (List.replicate 34 undef) rfl rfl rfl ?_ (by kernel_rfl) (by kernel_rfl) ?_ ?_
  ·intro p hp
   simp only [List.mem_cons,List.not_mem_nil,or_false] at hp
   rcases hp with rfl | rfl | rfl | rfl | rfl | rfl | rfl | rfl | rfl | rfl | rfl | rfl | rfl | rfl | rfl | rfl | rfl | rfl | rfl | rfl | rfl | rfl | rfl | rfl | rfl | rfl | rfl | rfl | rfl | rfl | rfl | rfl | rfl | rfl
   all_goals first | exact stable_eq _ | exact JVA.stable _ _ | exact NamesV9.stable | exact ItemsV9.stable _ | exact BoxV.stable _
  ·intro i hi zs l wz o hz hF ho hpre
   have hi' : i < 34 := hi
   match zs,(show zs.length = 34 from hz) with
   | z0 :: z1 :: z2 :: z3 :: z4 :: z5 :: z6 :: z7 :: z8 :: z9 :: z10 :: z11 :: z12 :: z13 :: z14 :: z15 :: z16 :: z17 :: z18 :: z19 :: z20 :: z21 :: z22 :: z23 :: z24 :: z25 :: z26 :: z27 :: z28 :: z29 :: z30 :: z31 :: z32 :: z33 :: [],_ =>
   clear hz hi
   change wpOp _ _ _ _ _ { tmps := List.toArray (Value.agg #[.int .i64 hd,.int .i64 bo,.string ⟨nm.toArray⟩,.int .i64 od,.int .i64 up,.bool lv,.int .i64 nd,.int .i64 sq,.bool dr,.int .i64 ac] :: Value.pointer (some ⟨w.heap.size,0,none⟩) :: Value.string ⟨#[]⟩ :: Value.int .i64 0 :: Value.bool true :: z33 :: Value.agg #[.int .i64 hd,.int .i64 bo,.string ⟨nm.toArray⟩,.int .i64 od,.int .i64 up,.bool lv,.int .i64 nd,.int .i64 sq,.bool dr,.int .i64 ac] :: Value.bool true :: Value.bool true :: Value.bool false :: z0 :: z1 :: z2 :: z3 :: z4 :: z5 :: z6 :: z7 :: z8 :: z9 :: z10 :: z11 :: z12 :: z13 :: z14 :: z15 :: z16 :: z17 :: z18 :: z19 :: z20 :: z21 :: z22 :: z23 :: z24 :: z25 :: z26 :: z27 :: z28 :: z29 :: z30 :: z31 :: z32 :: undef :: undef :: undef :: []),defers := [] } _
   have hc : i = 0 ∨ i = 1 ∨ i = 2 ∨ i = 3 ∨ i = 4 ∨ i = 5 ∨ i = 6 ∨ i = 7 ∨ i = 8 ∨ i = 9 ∨ i = 10 ∨ i = 11 ∨ i = 12 ∨ i = 13 ∨ i = 14 ∨ i = 15 ∨ i = 16 ∨ i = 17 ∨ i = 18 ∨ i = 19 ∨ i = 20 ∨ i = 21 ∨ i = 22 ∨ i = 23 ∨ i = 24 ∨ i = 25 ∨ i = 26 ∨ i = 27 ∨ i = 28 ∨ i = 29 ∨ i = 30 ∨ i = 31 ∨ i = 32 ∨ i = 33 := by omega
   clear hi'
   rcases hc with rfl | rfl | rfl | rfl | rfl | rfl | rfl | rfl | rfl | rfl | rfl | rfl | rfl | rfl | rfl | rfl | rfl | rfl | rfl | rfl | rfl | rfl | rfl | rfl | rfl | rfl | rfl | rfl | rfl | rfl | rfl | rfl | rfl | rfl
   ·clear ho hpre
    refine wpOp_here rfl (fun K' hK => ?_)
    go_simp
    exact hK _ _ ⟨_,rfl,belowOne _ _,fun p hp => by cases (show some NamesV9 = some p from hp);exact names9_new _⟩
   ·clear ho hpre
    refine wpOp_here rfl (fun K' hK => ?_)
    go_simp
    exact hK _ _ ⟨_,rfl,Below.refl _ _,fun p hp => by cases (show some (fun z _ => z = Value.pointer (some ⟨w.heap.size,0,none⟩)) = some p from hp);exact rfl⟩
   ·obtain ⟨c0,c1,c2,c3,c4,c5,c6,c7,c8,c9⟩ := ten_of ((hF.bel.block _ hlb).trans HBOX.out)
    have p1 := hF.fact 1 _ _ rfl rfl (hpre ⟨1,.data⟩ (by cases ho;simp) rfl)
    subst p1
    clear ho hpre
    refine wpOp_here rfl (fun K' hK => ?_)
    go_simp
    exact hK _ _ ⟨_,rfl,Below.refl _ _,fun p hp => by cases (show some (fun z _ => z = Value.int .i64 hd) = some p from hp);exact rfl⟩
   ·have p2 := hF.fact 2 _ _ rfl rfl (hpre ⟨2,.data⟩ (by cases ho;simp) rfl)
    subst p2
    clear ho hpre
    refine wpOp_here rfl (fun K' hK => ?_)
    go_simp
    refine (rint_num hd r1 wz).mono ?_
    rintro e6 w6 ⟨rfl,hb6⟩
    exact hK _ _ ⟨_,rfl,hb6,fun p hp => by cases (show some (fun z _ => z = bareV 4 (Dec.mk hd 0).1 (Dec.mk hd 0).2.1 []) = some p from hp);exact rfl⟩
   ·clear ho hpre
    refine wpOp_here rfl (fun K' hK => ?_)
    go_simp
    exact hK _ _ ⟨_,rfl,Below.refl _ _,fun p hp => by cases (show some (fun z _ => z = Value.pointer (some ⟨w.heap.size,1,none⟩)) = some p from hp);exact rfl⟩
   ·obtain ⟨c0,c1,c2,c3,c4,c5,c6,c7,c8,c9⟩ := ten_of ((hF.bel.block _ hlb).trans HBOX.out)
    have p4 := hF.fact 4 _ _ rfl rfl (hpre ⟨4,.data⟩ (by cases ho;simp) rfl)
    subst p4
    clear ho hpre
    refine wpOp_here rfl (fun K' hK => ?_)
    go_simp
    exact hK _ _ ⟨_,rfl,Below.refl _ _,fun p hp => by cases (show some (fun z _ => z = Value.int .i64 bo) = some p from hp);exact rfl⟩
   ·have p5 := hF.fact 5 _ _ rfl rfl (hpre ⟨5,.data⟩ (by cases ho;simp) rfl)
    subst p5
    clear ho hpre
    refine wpOp_here rfl (fun K' hK => ?_)
    go_simp
    refine (rint_num bo r2 wz).mono ?_
    rintro e6 w6 ⟨rfl,hb6⟩
    exact hK _ _ ⟨_,rfl,hb6,fun p hp => by cases (show some (fun z _ => z = bareV 4 (Dec.mk bo 0).1 (Dec.mk bo 0).2.1 []) = some p from hp);exact rfl⟩
   ·clear ho hpre
    refine wpOp_here rfl (fun K' hK => ?_)
    go_simp
    exact hK _ _ ⟨_,rfl,Below.refl _ _,fun p hp => by cases (show some (fun z _ => z = Value.pointer (some ⟨w.heap.size,2,none⟩)) = some p from hp);exact rfl⟩
   ·obtain ⟨c0,c1,c2,c3,c4,c5,c6,c7,c8,c9⟩ := ten_of ((hF.bel.block _ hlb).trans HBOX.out)
    have p7 := hF.fact 7 _ _ rfl rfl (hpre ⟨7,.data⟩ (by cases ho;simp) rfl)
    subst p7
    clear ho hpre
    refine wpOp_here rfl (fun K' hK => ?_)
    go_simp
    exact hK _ _ ⟨_,rfl,Below.refl _ _,fun p hp => by cases (show some (fun z _ => z = Value.string ⟨nm.toArray⟩) = some p from hp);exact rfl⟩
   ·have p8 := hF.fact 8 _ _ rfl rfl (hpre ⟨8,.data⟩ (by cases ho;simp) rfl)
    subst p8
    clear ho hpre
    refine wpOp_here rfl (fun K' hK => ?_)
    go_simp
    refine (rstr5_any nm wz).mono ?_
    rintro e6 w6 ⟨rfl,hb6⟩
    exact hK _ _ ⟨_,rfl,hb6,fun p hp => by cases (show some (fun z _ => z = bareV 5 0 0 nm) = some p from hp);exact rfl⟩
   ·clear ho hpre
    refine wpOp_here rfl (fun K' hK => ?_)
    go_simp
    exact hK _ _ ⟨_,rfl,Below.refl _ _,fun p hp => by cases (show some (fun z _ => z = Value.pointer (some ⟨w.heap.size,3,none⟩)) = some p from hp);exact rfl⟩
   ·obtain ⟨c0,c1,c2,c3,c4,c5,c6,c7,c8,c9⟩ := ten_of ((hF.bel.block _ hlb).trans HBOX.out)
    have p10 := hF.fact 10 _ _ rfl rfl (hpre ⟨10,.data⟩ (by cases ho;simp) rfl)
    subst p10
    clear ho hpre
    refine wpOp_here rfl (fun K' hK => ?_)
    go_simp
    exact hK _ _ ⟨_,rfl,Below.refl _ _,fun p hp => by cases (show some (fun z _ => z = Value.int .i64 od) = some p from hp);exact rfl⟩
   ·have p11 := hF.fact 11 _ _ rfl rfl (hpre ⟨11,.data⟩ (by cases ho;simp) rfl)
    subst p11
    clear ho hpre
    refine wpOp_here rfl (fun K' hK => ?_)
    go_simp
    refine (rint_num od r3 wz).mono ?_
    rintro e6 w6 ⟨rfl,hb6⟩
    exact hK _ _ ⟨_,rfl,hb6,fun p hp => by cases (show some (fun z _ => z = bareV 4 (Dec.mk od 0).1 (Dec.mk od 0).2.1 []) = some p from hp);exact rfl⟩
   ·clear ho hpre
    refine wpOp_here rfl (fun K' hK => ?_)
    go_simp
    exact hK _ _ ⟨_,rfl,Below.refl _ _,fun p hp => by cases (show some (fun z _ => z = Value.pointer (some ⟨w.heap.size,4,none⟩)) = some p from hp);exact rfl⟩
   ·obtain ⟨c0,c1,c2,c3,c4,c5,c6,c7,c8,c9⟩ := ten_of ((hF.bel.block _ hlb).trans HBOX.out)
    have p13 := hF.fact 13 _ _ rfl rfl (hpre ⟨13,.data⟩ (by cases ho;simp) rfl)
    subst p13
    clear ho hpre
    refine wpOp_here rfl (fun K' hK => ?_)
    go_simp
    exact hK _ _ ⟨_,rfl,Below.refl _ _,fun p hp => by cases (show some (fun z _ => z = Value.int .i64 up) = some p from hp);exact rfl⟩
   ·have p14 := hF.fact 14 _ _ rfl rfl (hpre ⟨14,.data⟩ (by cases ho;simp) rfl)
    subst p14
    clear ho hpre
    refine wpOp_here rfl (fun K' hK => ?_)
    go_simp
    refine (rint_num up r4 wz).mono ?_
    rintro e6 w6 ⟨rfl,hb6⟩
    exact hK _ _ ⟨_,rfl,hb6,fun p hp => by cases (show some (fun z _ => z = bareV 4 (Dec.mk up 0).1 (Dec.mk up 0).2.1 []) = some p from hp);exact rfl⟩
   ·clear ho hpre
    refine wpOp_here rfl (fun K' hK => ?_)
    go_simp
    exact hK _ _ ⟨_,rfl,Below.refl _ _,fun p hp => by cases (show some (fun z _ => z = Value.pointer (some ⟨w.heap.size,5,none⟩)) = some p from hp);exact rfl⟩
   ·obtain ⟨c0,c1,c2,c3,c4,c5,c6,c7,c8,c9⟩ := ten_of ((hF.bel.block _ hlb).trans HBOX.out)
    have p16 := hF.fact 16 _ _ rfl rfl (hpre ⟨16,.data⟩ (by cases ho;simp) rfl)
    subst p16
    clear ho hpre
    refine wpOp_here rfl (fun K' hK => ?_)
    go_simp
    exact hK _ _ ⟨_,rfl,Below.refl _ _,fun p hp => by cases (show some (fun z _ => z = Value.bool lv) = some p from hp);exact rfl⟩
   ·have p17 := hF.fact 17 _ _ rfl rfl (hpre ⟨17,.data⟩ (by cases ho;simp) rfl)
    subst p17
    clear ho hpre
    refine wpOp_here rfl (fun K' hK => ?_)
    go_simp
    refine (ryes_any lv wz).mono ?_
    rintro e6 w6 ⟨rfl,hb6⟩
    exact hK _ _ ⟨_,rfl,hb6,fun p hp => by cases (show some (fun z _ => z = bareV (if lv = true then 3 else 2) 0 0 []) = some p from hp);exact rfl⟩
   ·clear ho hpre
    refine wpOp_here rfl (fun K' hK => ?_)
    go_simp
    exact hK _ _ ⟨_,rfl,Below.refl _ _,fun p hp => by cases (show some (fun z _ => z = Value.pointer (some ⟨w.heap.size,6,none⟩)) = some p from hp);exact rfl⟩
   ·obtain ⟨c0,c1,c2,c3,c4,c5,c6,c7,c8,c9⟩ := ten_of ((hF.bel.block _ hlb).trans HBOX.out)
    have p19 := hF.fact 19 _ _ rfl rfl (hpre ⟨19,.data⟩ (by cases ho;simp) rfl)
    subst p19
    clear ho hpre
    refine wpOp_here rfl (fun K' hK => ?_)
    go_simp
    exact hK _ _ ⟨_,rfl,Below.refl _ _,fun p hp => by cases (show some (fun z _ => z = Value.int .i64 nd) = some p from hp);exact rfl⟩
   ·have p20 := hF.fact 20 _ _ rfl rfl (hpre ⟨20,.data⟩ (by cases ho;simp) rfl)
    subst p20
    clear ho hpre
    refine wpOp_here rfl (fun K' hK => ?_)
    go_simp
    refine (rint_num nd r5 wz).mono ?_
    rintro e6 w6 ⟨rfl,hb6⟩
    exact hK _ _ ⟨_,rfl,hb6,fun p hp => by cases (show some (fun z _ => z = bareV 4 (Dec.mk nd 0).1 (Dec.mk nd 0).2.1 []) = some p from hp);exact rfl⟩
   ·clear ho hpre
    refine wpOp_here rfl (fun K' hK => ?_)
    go_simp
    exact hK _ _ ⟨_,rfl,Below.refl _ _,fun p hp => by cases (show some (fun z _ => z = Value.pointer (some ⟨w.heap.size,7,none⟩)) = some p from hp);exact rfl⟩
   ·obtain ⟨c0,c1,c2,c3,c4,c5,c6,c7,c8,c9⟩ := ten_of ((hF.bel.block _ hlb).trans HBOX.out)
    have p22 := hF.fact 22 _ _ rfl rfl (hpre ⟨22,.data⟩ (by cases ho;simp) rfl)
    subst p22
    clear ho hpre
    refine wpOp_here rfl (fun K' hK => ?_)
    go_simp
    exact hK _ _ ⟨_,rfl,Below.refl _ _,fun p hp => by cases (show some (fun z _ => z = Value.int .i64 sq) = some p from hp);exact rfl⟩
   ·have p23 := hF.fact 23 _ _ rfl rfl (hpre ⟨23,.data⟩ (by cases ho;simp) rfl)
    subst p23
    clear ho hpre
    refine wpOp_here rfl (fun K' hK => ?_)
    go_simp
    refine (rint_num sq r6 wz).mono ?_
    rintro e6 w6 ⟨rfl,hb6⟩
    exact hK _ _ ⟨_,rfl,hb6,fun p hp => by cases (show some (fun z _ => z = bareV 4 (Dec.mk sq 0).1 (Dec.mk sq 0).2.1 []) = some p from hp);exact rfl⟩
   ·clear ho hpre
    refine wpOp_here rfl (fun K' hK => ?_)
    go_simp
    exact hK _ _ ⟨_,rfl,Below.refl _ _,fun p hp => by cases (show some (fun z _ => z = Value.pointer (some ⟨w.heap.size,8,none⟩)) = some p from hp);exact rfl⟩
   ·obtain ⟨c0,c1,c2,c3,c4,c5,c6,c7,c8,c9⟩ := ten_of ((hF.bel.block _ hlb).trans HBOX.out)
    have p25 := hF.fact 25 _ _ rfl rfl (hpre ⟨25,.data⟩ (by cases ho;simp) rfl)
    subst p25
    clear ho hpre
    refine wpOp_here rfl (fun K' hK => ?_)
    go_simp
    exact hK _ _ ⟨_,rfl,Below.refl _ _,fun p hp => by cases (show some (fun z _ => z = Value.bool dr) = some p from hp);exact rfl⟩
   ·have p26 := hF.fact 26 _ _ rfl rfl (hpre ⟨26,.data⟩ (by cases ho;simp) rfl)
    subst p26
    clear ho hpre
    refine wpOp_here rfl (fun K' hK => ?_)
    go_simp
    refine (ryes_any dr wz).mono ?_
    rintro e6 w6 ⟨rfl,hb6⟩
    exact hK _ _ ⟨_,rfl,hb6,fun p hp => by cases (show some (fun z _ => z = bareV (if dr = true then 3 else 2) 0 0 []) = some p from hp);exact rfl⟩
   ·clear ho hpre
    refine wpOp_here rfl (fun K' hK => ?_)
    go_simp
    exact hK _ _ ⟨_,rfl,Below.refl _ _,fun p hp => by cases (show some (fun z _ => z = Value.pointer (some ⟨w.heap.size,9,none⟩)) = some p from hp);exact rfl⟩
   ·obtain ⟨c0,c1,c2,c3,c4,c5,c6,c7,c8,c9⟩ := ten_of ((hF.bel.block _ hlb).trans HBOX.out)
    have p28 := hF.fact 28 _ _ rfl rfl (hpre ⟨28,.data⟩ (by cases ho;simp) rfl)
    subst p28
    clear ho hpre
    refine wpOp_here rfl (fun K' hK => ?_)
    go_simp
    exact hK _ _ ⟨_,rfl,Below.refl _ _,fun p hp => by cases (show some (fun z _ => z = Value.int .i64 ac) = some p from hp);exact rfl⟩
   ·have p29 := hF.fact 29 _ _ rfl rfl (hpre ⟨29,.data⟩ (by cases ho;simp) rfl)
    subst p29
    clear ho hpre
    refine wpOp_here rfl (fun K' hK => ?_)
    go_simp
    refine (rint_num ac r7 wz).mono ?_
    rintro e6 w6 ⟨rfl,hb6⟩
    exact hK _ _ ⟨_,rfl,hb6,fun p hp => by cases (show some (fun z _ => z = bareV 4 (Dec.mk ac 0).1 (Dec.mk ac 0).2.1 []) = some p from hp);exact rfl⟩
   ·have p3 := hF.fact 3 _ _ rfl rfl (hpre ⟨3,.data⟩ (by cases ho;simp) rfl)
    have p6 := hF.fact 6 _ _ rfl rfl (hpre ⟨6,.data⟩ (by cases ho;simp) rfl)
    have p9 := hF.fact 9 _ _ rfl rfl (hpre ⟨9,.data⟩ (by cases ho;simp) rfl)
    have p12 := hF.fact 12 _ _ rfl rfl (hpre ⟨12,.data⟩ (by cases ho;simp) rfl)
    have p15 := hF.fact 15 _ _ rfl rfl (hpre ⟨15,.data⟩ (by cases ho;simp) rfl)
    have p18 := hF.fact 18 _ _ rfl rfl (hpre ⟨18,.data⟩ (by cases ho;simp) rfl)
    have p21 := hF.fact 21 _ _ rfl rfl (hpre ⟨21,.data⟩ (by cases ho;simp) rfl)
    have p24 := hF.fact 24 _ _ rfl rfl (hpre ⟨24,.data⟩ (by cases ho;simp) rfl)
    have p27 := hF.fact 27 _ _ rfl rfl (hpre ⟨27,.data⟩ (by cases ho;simp) rfl)
    have p30 := hF.fact 30 _ _ rfl rfl (hpre ⟨30,.data⟩ (by cases ho;simp) rfl)
    subst p3 p6 p9 p12 p15 p18 p21 p24 p27 p30
    unfold bareV
    clear ho hpre
    refine wpOp_here rfl (fun K' hK => ?_)
    go_simp
    exact hK _ _ ⟨_,rfl,belowOne _ _,fun p hp => by cases (show some (ItemsV9 (items9 ⟨hd,bo,nm,od,up,lv,nd,sq,dr,ac⟩)) = some p from hp);exact ⟨_,rfl,ten_items r1 r2 r3 r4 r5 r6 r7 ht (heap_alloc_new _ _)⟩⟩
   ·have p0 := hF.fact 0 _ _ rfl rfl (hpre ⟨0,.data⟩ (by cases ho;simp) rfl)
    have p31 := hF.fact 31 _ _ rfl rfl (hpre ⟨31,.data⟩ (by cases ho;simp) rfl)
    have q0 := id p0
    have q31 := id p31
    obtain ⟨b0,rfl,-⟩ := p0
    obtain ⟨b31,rfl,-⟩ := p31
    clear ho hpre
    refine wpOp_here rfl (fun K' hK => ?_)
    go_simp
    refine (MK.out wz _ _ q0 q31).mono ?_
    rintro e6 w6 ⟨nn6,cn6,ni6,ci6,a6,a6',rfl,hJ6,hb6⟩
    exact hK _ _ ⟨_,rfl,hb6,fun p hp => by cases (show some (JVA 4 L) = some p from hp);exact ⟨⟨_,_,_,_,_,_,_,_,_,_,rfl⟩,hJ6⟩⟩
   ·clear ho hpre
    refine wpOp_here rfl (fun K' hK => ?_)
    go_simp
    exact hK _ _ ⟨_,rfl,belowOne _ _,fun p hp => by cases (show some (BoxV w1.heap.size) = some p from hp);exact ⟨_,rfl,hF.bel.size,heap_alloc_new _ _⟩⟩
  ·intro zs wz hz hB hev
   match zs,(show zs.length = 34 from hz) with
   | z0 :: z1 :: z2 :: z3 :: z4 :: z5 :: z6 :: z7 :: z8 :: z9 :: z10 :: z11 :: z12 :: z13 :: z14 :: z15 :: z16 :: z17 :: z18 :: z19 :: z20 :: z21 :: z22 :: z23 :: z24 :: z25 :: z26 :: z27 :: z28 :: z29 :: z30 :: z31 :: z32 :: z33 :: [],_ =>
   have p32 := hev 32 _ _ rfl rfl
   have p33 := hev 33 _ _ rfl rfl
   clear hev hz
   change wpOp _ _ _ _ _ { tmps := List.toArray (Value.agg #[.int .i64 hd,.int .i64 bo,.string ⟨nm.toArray⟩,.int .i64 od,.int .i64 up,.bool lv,.int .i64 nd,.int .i64 sq,.bool dr,.int .i64 ac] :: Value.pointer (some ⟨w.heap.size,0,none⟩) :: Value.string ⟨#[]⟩ :: Value.int .i64 0 :: Value.bool true :: z33 :: Value.agg #[.int .i64 hd,.int .i64 bo,.string ⟨nm.toArray⟩,.int .i64 od,.int .i64 up,.bool lv,.int .i64 nd,.int .i64 sq,.bool dr,.int .i64 ac] :: Value.bool true :: Value.bool true :: Value.bool false :: z0 :: z1 :: z2 :: z3 :: z4 :: z5 :: z6 :: z7 :: z8 :: z9 :: z10 :: z11 :: z12 :: z13 :: z14 :: z15 :: z16 :: z17 :: z18 :: z19 :: z20 :: z21 :: z22 :: z23 :: z24 :: z25 :: z26 :: z27 :: z28 :: z29 :: z30 :: z31 :: z32 :: undef :: undef :: undef :: []),defers := [] } _
   obtain ⟨g,rfl,hg,hblk⟩ := p33
   obtain ⟨⟨k6,m6,e6,t6,an6,nn6,cn6,ai6,ni6,ci6,rfl⟩,hJ⟩ := p32
   obtain ⟨⟨c0,c1,c2,c3,c4,c5⟩,g0,g1,g2,g3,g4,g5⟩ := twelve_of hblk
   refine wpOp_here rfl (fun K' hK => ?_)
   go_simp
   refine hK _ _ ?_
   rw [put6_is]
   have hJf := FREE.out _ _ _ _ _ hJ hblk rfl
   have hself := put6_self hblk (.int .i64 k6) (.int .i64 m6) (.int .i64 e6) (.string t6) (.slice an6 nn6 cn6) (.slice ai6 ni6 ci6)
   have hsz := put6_size wz g 0 (.int .i64 k6) (.int .i64 m6) (.int .i64 e6) (.string t6) (.slice an6 nn6 cn6) (.slice ai6 ni6 ci6)
   have hJ3 := hJf.keep (S' := Any) (w' := put6 wz g 0 (.int .i64 k6) (.int .i64 m6) (.int .i64 e6) (.string t6) (.slice an6 nn6 cn6) (.slice ai6 ni6 ci6)) (fun _ _ _ => trivial) (fun b hb _ => put6_block _ _ 0 _ _ _ _ _ _ b hb) (by omega)
   have hB3 := below_put6' (HB1.out.trans (hB.mono hs2)) (by omega : w.heap.size ≤ g) (.int .i64 k6) (.int .i64 m6) (.int .i64 e6) (.string t6) (.slice an6 nn6 cn6) (.slice ai6 ni6 ci6)
   generalize put6 wz g 0 (.int .i64 k6) (.int .i64 m6) (.int .i64 e6) (.string t6) (.slice an6 nn6 cn6) (.slice ai6 ni6 ci6) = w3 at *
   clear c0 c1 c2 c3 c4 c5 g0 g1 g2 g3 g4 g5 hblk hK hB hJ hJf hsz
   have HB3 := Lib.hid hB3
   have HJ3 := Lib.hid (show JA Any w3 _ L from ⟨4,hJ3⟩)
   clear hB3 hJ3
   obtain ⟨s0,s1,s2,s3,s4,s5⟩ := six_of hself
   go_wp2_with (first
    | (go_at_call 39;(with_reducible refine (PR.out _ _ HJ3.out).mono ?_);rintro e3 w4 ⟨rfl,hb3⟩;have HB4 := Lib.hid (HB3.out.trans (hb3.mono HB3.out.size)))
    | (go_at_call 38;(with_reducible refine (SE.out _).mono ?_);rintro e4 w5 ⟨rfl,hb4⟩;have HB5 := Lib.hid (HB4.out.trans (hb4.mono HB4.out.size))))
   go_ret2
   exact ⟨rfl,HB5.out⟩
 ·rw [if_neg hr]
  rw [Bool.not_eq_true] at hr
  rw [hr] at R1
  unfold sV sC at *
  obtain ⟨hd,bo,nm,od,up,lv,nd,sq,dr,ac⟩ := x
  simp only at R1 ⊢
  clear hr hx
  go_enter Tryz.func22,Tryz.ntmps22
  go_wp2_with (go_at_call 24;(with_reducible refine (R1.out _).mono ?_);rintro e1 w1 ⟨rfl,hb1⟩)
  go_ret2
  exact ⟨rfl,(belowOne w _).trans (hb1.mono (by simp))⟩
end Go.Proofs.YtmmbiknlicnamaaGreatDoor.Sta
namespace Go.Proofs.YtmmbiknlicnamaaGreatDoor.Sta
open Go.RowKit Js Lex Od
theorem ropen_yes {L U : List UInt8} (h : Se.openS L = some U) (w : World) (hs : L.length ≤ 281474976710656) : Calls Tryz.prog 51 #[.string ⟨L.toArray⟩] w (Ret (.tuple #[.string ⟨U.toArray⟩,.int .i64 0]) w) := by
 have := Se.ropen_l L w hs
 rw [h] at this
 exact this
theorem ropen_no {L : List UInt8} (h : Se.openS L = none) (w : World) (hs : L.length ≤ 281474976710656) : Calls Tryz.prog 51 #[.string ⟨L.toArray⟩] w (Ret (.tuple #[.string ⟨#[]⟩,.int .i64 60]) w) := by
 have := Se.ropen_l L w hs
 rw [h] at this
 exact this
def ZS9 : Array Value := #[.int .i64 0,.int .i64 0,.string ⟨#[]⟩,.int .i64 0,.int .i64 0,.bool false,.int .i64 0,.int .i64 0,.bool false,.int .i64 0]
structure TKB (w : World) (S : Nat → Prop) (dd : Nat) (jc : Array Value) (j : J) (bn bj bs bk : Nat) (cs ks : Array Value) (wr : World) : Prop where
 bel : Below w.heap.size w wr
 ls : w.heap.size < bs
 lk : w.heap.size < bk
 ns : bn ≠ bs
 nk : bn ≠ bk
 js' : bj ≠ bs
 jk' : bj ≠ bk
 sk : bs ≠ bk
 ss : ¬ S bs
 ks' : ¬ S bk
 res : wr.heap[w.heap.size]? = some (.cells ZS9 41 (0,0))
 non : wr.heap[bn]? = some (.cells ZS9 41 (0,0))
 js : wr.heap[bj]? = some (.cells jc 58 (0,0))
 st : wr.heap[bs]? = some (.cells cs 41 (0,0))
 ks : wr.heap[bk]? = some (.cells ks 90 (0,0))
 jat : JAt S wr dd (.agg jc) j
section
variable {w : World} {S : Nat → Prop} {dd : Nat} {jc : Array Value} {j : J} {bn bj bs bk : Nat} {cs ks : Array Value} {wr w' : World}
theorem TKB.below (h : TKB w S dd jc j bn bj bs bk cs ks wr) (hb : Below wr.heap.size wr w') : TKB w S dd jc j bn bj bs bk cs ks w' :=
 ⟨h.bel.trans (hb.mono h.bel.size),h.ls,h.lk,h.ns,h.nk,h.js',h.jk',h.sk,h.ss,h.ks',(hb.block _ (Own.block_lt h.res)).trans h.res,(hb.block _ (Own.block_lt h.non)).trans h.non,(hb.block _ (Own.block_lt h.js)).trans h.js,(hb.block _ (Own.block_lt h.st)).trans h.st,(hb.block _ (Own.block_lt h.ks)).trans h.ks,h.jat.below hb (Nat.le_refl _)⟩
theorem TKB.setS (h : TKB w S dd jc j bn bj bs bk cs ks wr) (i : Nat) (u : Value) : TKB w S dd jc j bn bj bs bk (cs.setIfInBounds i u) ks (wr.setCell ⟨bs,i,none⟩ u) := by
 have l1 := h.ls
 have n1 := h.ns
 have n2 := h.js'
 have n3 := h.sk
 exact ⟨below_set1 h.bel (by omega) u,h.ls,h.lk,h.ns,h.nk,h.js',h.jk',h.sk,h.ss,h.ks',(heap_setCell_other _ _ _ _ (by show w.heap.size ≠ bs;omega)).trans h.res,(heap_setCell_other _ _ _ _ n1).trans h.non,(heap_setCell_other _ _ _ _ n2).trans h.js,set_row h.st,(heap_setCell_other _ _ _ _ (fun e => n3 e.symm)).trans h.ks,h.jat.keep (fun b hb _ => hb) (fun b hb _ => heap_setCell_other _ _ _ _ (fun e => h.ss (by rw [← (show b = bs from e)];exact hb))) (by rw [size_set];exact Nat.le_refl _)⟩
theorem TKB.setK (h : TKB w S dd jc j bn bj bs bk cs ks wr) (i : Nat) (u : Value) : TKB w S dd jc j bn bj bs bk cs (ks.setIfInBounds i u) (wr.setCell ⟨bk,i,none⟩ u) := by
 have l1 := h.lk
 have n1 := h.nk
 have n2 := h.jk'
 have n3 := h.sk
 exact ⟨below_set1 h.bel (by omega) u,h.ls,h.lk,h.ns,h.nk,h.js',h.jk',h.sk,h.ss,h.ks',(heap_setCell_other _ _ _ _ (by show w.heap.size ≠ bk;omega)).trans h.res,(heap_setCell_other _ _ _ _ n1).trans h.non,(heap_setCell_other _ _ _ _ n2).trans h.js,(heap_setCell_other _ _ _ _ n3).trans h.st,set_row h.ks,h.jat.keep (fun b hb _ => hb) (fun b hb _ => heap_setCell_other _ _ _ _ (fun e => h.ks' (by rw [← (show b = bk from e)];exact hb))) (by rw [size_set];exact Nat.le_refl _)⟩
theorem TKB.start {w2 : World} (hb : Below w.heap.size w w2) (hl : w.heap.size + 1 < w2.heap.size) (r0 : w2.heap[w.heap.size]? = some (.cells ZS9 41 (0,0))) (r1 : w2.heap[w.heap.size + 1]? = some (.cells ZS9 41 (0,0))) (hJ : JAt Any w2 dd (.agg jc) j) :
 TKB w (fun b => b < w2.heap.size) dd jc j (w.heap.size + 1) w2.heap.size (w2.heap.size + 1) (w2.heap.size + 1 + 1) cs ks (((w2.alloc (.cells jc 58)).alloc (.cells cs 41)).alloc (.cells ks 90)) := by
 have s1 : (w2.alloc (.cells jc 58)).heap.size = w2.heap.size + 1 := by simp
 have s2 : ((w2.alloc (.cells jc 58)).alloc (.cells cs 41)).heap.size = w2.heap.size + 1 + 1 := by simp
 have hb3 : Below w2.heap.size w2 (((w2.alloc (.cells jc 58)).alloc (.cells cs 41)).alloc (.cells ks 90)) := (belowTwo w2 (.cells jc 58) (.cells cs 41)).alloc (by rw [s2];omega) _
 refine ⟨hb.trans (hb3.mono hb.size),by omega,by omega,by omega,by omega,by omega,by omega,by omega,by omega,by omega,(hb3.block _ (by omega)).trans r0,(hb3.block _ (by omega)).trans r1,?_,?_,?_,(hJ.keep (fun b _ h => h) (fun _ _ _ => rfl) (Nat.le_refl _)).below hb3 (Nat.le_refl _)⟩
 ·rw [heap_alloc_old _ _ (by rw [s2];omega),heap_alloc_old _ _ (by rw [s1];omega),heap_alloc_new]
 ·rw [heap_alloc_old _ _ (by rw [s2];omega),← s1,heap_alloc_new]
 ·rw [← s2,heap_alloc_new]
end
set_option maxRecDepth 100000 in
theorem eq10_run (f0 f1 f2 f3 f4 f5 f6 f7 f8 f9 : Bool) (w : World) : (Op.equalIn 10000 90 (.agg #[.bool f0,.bool f1,.bool f2,.bool f3,.bool f4,.bool f5,.bool f6,.bool f7,.bool f8,.bool f9]) (.agg #[.bool true,.bool true,.bool true,.bool true,.bool true,.bool true,.bool true,.bool true,.bool true,.bool true])).run Tryz.prog w = .ok (f0 && (f1 && (f2 && (f3 && (f4 && (f5 && (f6 && (f7 && (f8 && (f9)))))))))) w := by
 have u3 := Tryz.underlying4
 have a3 := Tryz.isAgg4
 have z3 := Tryz.sizeOf4
 rw [show (10000 : Nat) = 9999 + 1 from rfl,Op.equalIn]
 simp only [Sem.run_bind,run_underlying Tryz.underlying90,Result.andThen_ok]
 simp only [Std.Legacy.Range.forIn_eq_forIn_range',Std.Legacy.Range.size,Nat.sub_zero,Nat.add_sub_cancel,Nat.div_one,List.range'_succ,List.range'_zero,List.forIn_cons,List.forIn_nil]
 go_simp
 cases f0 with
 | false => simp
 | true =>
   cases f1 with
   | false => simp
   | true =>
     cases f2 with
     | false => simp
     | true =>
       cases f3 with
       | false => simp
       | true =>
         cases f4 with
         | false => simp
         | true =>
           cases f5 with
           | false => simp
           | true =>
             cases f6 with
             | false => simp
             | true =>
               cases f7 with
               | false => simp
               | true =>
                 cases f8 with
                 | false => simp
                 | true =>
                   cases f9 with
                   | false => simp
                   | true =>
                     simp
@[go_sem] theorem build10_run (w : World) : (Instr.build 90 #[(0,.bool true),(1,.bool true),(2,.bool true),(3,.bool true),(4,.bool true),(5,.bool true),(6,.bool true),(7,.bool true),(8,.bool true),(9,.bool true)]).run Tryz.prog w = .ok (.agg #[.bool true,.bool true,.bool true,.bool true,.bool true,.bool true,.bool true,.bool true,.bool true,.bool true]) w := run_build w 90 _ _ (by kernel_rfl)
theorem rtake9_told (j : J) : (match takeJ9 Tp.nameB j with | some x => ((0 : Int),some x) | none => (90,none)) = if has9 j = true ∧ rightT Tp.nameB (told9 j) = true then (0,some (told9 j)) else (90,none) := by
 unfold takeJ9
 split <;> rename_i h <;> split at h <;> simp_all
set_option maxRecDepth 100000 in
theorem rtake9_any (s : List UInt8) (w : World) (hs : s.length ≤ 281474976710656) : Calls Tryz.prog 29 #[.string ⟨s.toArray⟩] w (Ret (.tuple #[sV ((takeS9 Tp.nameB s).2.getD s0),.int .i64 (takeS9 Tp.nameB s).1]) w) := by
 have Z0 : sV s0 = .agg #[.int .i64 0,.int .i64 0,.string ⟨#[]⟩,.int .i64 0,.int .i64 0,.bool false,.int .i64 0,.int .i64 0,.bool false,.int .i64 0] := rfl
 cases hO : Se.openS s with
 | none =>
   have OP := Lib.hid (fun (w' : World) => ropen_no hO w' hs)
   rw [show takeS9 Tp.nameB s = (60,none) by unfold takeS9;rw [hO]]
   simp only [Option.getD_none]
   rw [Z0]
   clear Z0
   go_enter Tryz.func29,Tryz.ntmps29
   go_wp2_with (go_at_call 51;(with_reducible refine (OP.out _).mono ?_);rintro e1 w1 ⟨rfl,hb1⟩;obtain ⟨X1,Y1,hl1,hB1⟩ := two_boxes hb1;have HB1 := Lib.hid hB1;obtain ⟨z0,z1,z2,z3,z4,z5,z6,z7,z8,z9⟩ := ten_of X1;obtain ⟨g0,g1,g2,g3,g4,g5,g6,g7,g8,g9⟩ := free_ten X1;obtain ⟨u0,u1,u2,u3,u4,u5,u6,u7,u8,u9⟩ := ten_of Y1;clear X1 Y1)
   refine bodyPost_ret (v := .tuple #[.agg #[.int .i64 0,.int .i64 0,.string ⟨#[]⟩,.int .i64 0,.int .i64 0,.bool false,.int .i64 0,.int .i64 0,.bool false,.int .i64 0],.int .i64 60]) (by simp [results,Tryz.results29,go_sem,z0,z1,z2,z3,z4,z5,z6,z7,z8,z9]) rfl ?_
   exact ⟨rfl,below_ten HB1.out (Nat.le_refl _) _ _ _ _ _ _ _ _ _ _⟩
 | some t =>
   have htl : t.length ≤ 281474976710656 := by
    have := Se.seal_open hO
    have := congrArg List.length this
    rw [Se.sealS_len] at this
    omega
   have OP := Lib.hid (fun (w' : World) => ropen_yes hO w' hs)
   have PA := Lib.hid (fun (w' : World) => rparse_any t w' (by unfold maxLen;omega))
   have HTS : Hid (takeS9 Tp.nameB s = if (parseS t).1 = 0 then (match takeJ9 Tp.nameB (parseS t).2.1 with | some x => (0,some x) | none => (90,none)) else ((parseS t).1,none)) := by
    show _ = _
    unfold takeS9;rw [hO];rfl
   rw [HTS.out]
   unfold ParseRet at PA
   generalize parseS t = P at *
   obtain ⟨pe,j,pq⟩ := P
   simp only at PA ⊢
   clear HTS hO hs htl
   by_cases hpe : pe = 0
   ·subst hpe
    rw [if_pos rfl,rtake9_told]
    obtain ⟨n0,f0,hq0⟩ : ∃ n f,tellG 0 numS j hdrL = (n,f) := ⟨_,_,rfl⟩
    have N0 := Lib.hid (fun (S : Nat → Prop) (wr : World) (d : Nat) (v : Value) (h : JAt S wr d v j) => (show Calls Tryz.prog 53 #[v,.string ⟨#[104,101,97,100,101,114,73,100]⟩] wr (Ret (.tuple #[.int .i64 n0,.bool f0]) wr) from by have := rnum_any S d v j hdrL wr h;rw [tell_with,hq0] at this;exact this))
    obtain ⟨n1,f1,hq1⟩ : ∃ n f,tellG 0 numS j bootL = (n,f) := ⟨_,_,rfl⟩
    have N1 := Lib.hid (fun (S : Nat → Prop) (wr : World) (d : Nat) (v : Value) (h : JAt S wr d v j) => (show Calls Tryz.prog 53 #[v,.string ⟨#[98,111,111,116]⟩] wr (Ret (.tuple #[.int .i64 n1,.bool f1]) wr) from by have := rnum_any S d v j bootL wr h;rw [tell_with,hq1] at this;exact this))
    obtain ⟨n2,f2,hq2⟩ : ∃ n f,tellG [] txtS j serL = (n,f) := ⟨_,_,rfl⟩
    have N2 := Lib.hid (fun (S : Nat → Prop) (wr : World) (d : Nat) (v : Value) (h : JAt S wr d v j) => (show Calls Tryz.prog 54 #[v,.string ⟨#[115,101,114,105,97,108,78,117,109,98,101,114]⟩] wr (Ret (.tuple #[.string ⟨n2.toArray⟩,.bool f2]) wr) from by have := rtext_any S d v j serL wr h;rw [tell_with,hq2] at this;exact this))
    obtain ⟨n3,f3,hq3⟩ : ∃ n f,tellG 0 numS j ordL = (n,f) := ⟨_,_,rfl⟩
    have N3 := Lib.hid (fun (S : Nat → Prop) (wr : World) (d : Nat) (v : Value) (h : JAt S wr d v j) => (show Calls Tryz.prog 53 #[v,.string ⟨#[111,114,100,101,114,73,100]⟩] wr (Ret (.tuple #[.int .i64 n3,.bool f3]) wr) from by have := rnum_any S d v j ordL wr h;rw [tell_with,hq3] at this;exact this))
    obtain ⟨n4,f4,hq4⟩ : ∃ n f,tellG 0 numS j updL = (n,f) := ⟨_,_,rfl⟩
    have N4 := Lib.hid (fun (S : Nat → Prop) (wr : World) (d : Nat) (v : Value) (h : JAt S wr d v j) => (show Calls Tryz.prog 53 #[v,.string ⟨#[111,114,100,101,114,85,112,100,97,116,101,73,100]⟩] wr (Ret (.tuple #[.int .i64 n4,.bool f4]) wr) from by have := rnum_any S d v j updL wr h;rw [tell_with,hq4] at this;exact this))
    obtain ⟨n5,f5,hq5⟩ : ∃ n f,tellG false flagS j liveL = (n,f) := ⟨_,_,rfl⟩
    have N5 := Lib.hid (fun (S : Nat → Prop) (wr : World) (d : Nat) (v : Value) (h : JAt S wr d v j) => (show Calls Tryz.prog 62 #[v,.string ⟨#[108,105,118,101]⟩] wr (Ret (.tuple #[.bool n5,.bool f5]) wr) from by have := rflag_any S d v j liveL wr h;rw [tell_with,hq5] at this;exact this))
    obtain ⟨n6,f6,hq6⟩ : ∃ n f,tellG 0 numS j lnidL = (n,f) := ⟨_,_,rfl⟩
    have N6 := Lib.hid (fun (S : Nat → Prop) (wr : World) (d : Nat) (v : Value) (h : JAt S wr d v j) => (show Calls Tryz.prog 53 #[v,.string ⟨#[108,97,115,116,78,111,100,101,73,100]⟩] wr (Ret (.tuple #[.int .i64 n6,.bool f6]) wr) from by have := rnum_any S d v j lnidL wr h;rw [tell_with,hq6] at this;exact this))
    obtain ⟨n7,f7,hq7⟩ : ∃ n f,tellG 0 numS j lseqL = (n,f) := ⟨_,_,rfl⟩
    have N7 := Lib.hid (fun (S : Nat → Prop) (wr : World) (d : Nat) (v : Value) (h : JAt S wr d v j) => (show Calls Tryz.prog 53 #[v,.string ⟨#[108,97,115,116,78,111,100,101,83,101,113,117,101,110,99,101,73,100]⟩] wr (Ret (.tuple #[.int .i64 n7,.bool f7]) wr) from by have := rnum_any S d v j lseqL wr h;rw [tell_with,hq7] at this;exact this))
    obtain ⟨n8,f8,hq8⟩ : ∃ n f,tellG false flagS j drivL = (n,f) := ⟨_,_,rfl⟩
    have N8 := Lib.hid (fun (S : Nat → Prop) (wr : World) (d : Nat) (v : Value) (h : JAt S wr d v j) => (show Calls Tryz.prog 62 #[v,.string ⟨#[100,114,105,118,105,110,103]⟩] wr (Ret (.tuple #[.bool n8,.bool f8]) wr) from by have := rflag_any S d v j drivL wr h;rw [tell_with,hq8] at this;exact this))
    obtain ⟨n9,f9,hq9⟩ : ∃ n f,tellG 0 numS j accL = (n,f) := ⟨_,_,rfl⟩
    have N9 := Lib.hid (fun (S : Nat → Prop) (wr : World) (d : Nat) (v : Value) (h : JAt S wr d v j) => (show Calls Tryz.prog 53 #[v,.string ⟨#[97,99,99,101,112,116,101,100]⟩] wr (Ret (.tuple #[.int .i64 n9,.bool f9]) wr) from by have := rnum_any S d v j accL wr h;rw [tell_with,hq9] at this;exact this))
    have ht9 : told9 j = ⟨n0,n1,n2,n3,n4,n5,n6,n7,n8,n9⟩ := by unfold told9;rw [hq0,hq1,hq2,hq3,hq4,hq5,hq6,hq7,hq8,hq9]
    have hh9 : has9 j = (f0 && (f1 && (f2 && (f3 && (f4 && (f5 && (f6 && (f7 && (f8 && (f9)))))))))) := by unfold has9;rw [hq0,hq1,hq2,hq3,hq4,hq5,hq6,hq7,hq8,hq9]
    have RI0 := fun (w' : World) (d : Nat) (v : Value) (h : JAt Any w' d v j) (u : World) => rright9_any ⟨n0,n1,n2,n3,n4,n5,n6,n7,n8,n9⟩ u (ht9 ▸ told9_ok h)
    have NQ0 := eq10_run f0 f1 f2 f3 f4 f5 f6 f7 f8 f9
    rw [ht9,hh9]
    clear ht9 hh9 hq0 hq1 hq2 hq3 hq4 hq5 hq6 hq7 hq8 hq9
    obtain ⟨RR,hRR⟩ : ∃ r,rightT Tp.nameB ⟨n0,n1,n2,n3,n4,n5,n6,n7,n8,n9⟩ = r := ⟨_,rfl⟩
    obtain ⟨FF,hFF⟩ : ∃ r,(f0 && (f1 && (f2 && (f3 && (f4 && (f5 && (f6 && (f7 && (f8 && (f9)))))))))) = r := ⟨_,rfl⟩
    rw [hRR] at RI0 ⊢
    rw [hFF] at NQ0 ⊢
    clear hRR hFF
    have RI := Lib.hid RI0
    have HNQ := Lib.hid NQ0
    clear RI0 NQ0
    unfold sV sC at RI
    simp only at RI
    obtain ⟨Q,HQ⟩ : ∃ Q,Hid (Ret (.tuple #[sV ((if FF = true ∧ RR = true then ((0 : Int),some (⟨n0,n1,n2,n3,n4,n5,n6,n7,n8,n9⟩ : S9)) else (90,none)).2.getD s0),.int .i64 (if FF = true ∧ RR = true then ((0 : Int),some (⟨n0,n1,n2,n3,n4,n5,n6,n7,n8,n9⟩ : S9)) else (90,none)).1]) w = Q) := ⟨_,rfl⟩
    rw [HQ.out]
    go_enter Tryz.func29,Tryz.ntmps29
    go_upto_region 10 with (first
     | (go_at_call 51;(with_reducible refine (OP.out _).mono ?_);rintro e1 w1 ⟨rfl,hb1⟩;obtain ⟨X1,Y1,hl1,hB1⟩ := two_boxes hb1;have HX1 := Lib.hid X1;have HY1 := Lib.hid Y1;have HB1 := Lib.hid hB1;clear X1 Y1 hb1)
     | (go_at_call 52;(with_reducible refine (PA.out _).mono ?_);rintro e2 w2 ⟨k2,m2,e2',t2,an2,nn2,cn2,ai2,ni2,ci2,rfl,⟨dd,hJ2⟩,hb2⟩;have HB2 := Lib.hid (HB1.out.trans (hb2.mono HB1.out.size));have hs2 := hb2.size;have HX2 := Lib.hid ((hb2.block _ (by omega)).trans HX1.out);have HY2 := Lib.hid ((hb2.block _ (by omega)).trans HY1.out);have HJ2 := Lib.hid hJ2.any;clear hJ2 hb2))
    have T0 := Lib.hid (TKB.start (cs := #[.int .i64 0,.int .i64 0,.string ⟨#[]⟩,.int .i64 0,.int .i64 0,.bool false,.int .i64 0,.int .i64 0,.bool false,.int .i64 0]) (ks := #[.bool false,.bool false,.bool false,.bool false,.bool false,.bool false,.bool false,.bool false,.bool false,.bool false]) HB2.out (by omega) HX2.out HY2.out HJ2.out)
    generalize ((w2.alloc (.cells #[.int .i64 k2,.int .i64 m2,.int .i64 e2',.string t2,.slice an2 nn2 cn2,.slice ai2 ni2 ci2] 58)).alloc (.cells #[.int .i64 0,.int .i64 0,.string ⟨#[]⟩,.int .i64 0,.int .i64 0,.bool false,.int .i64 0,.int .i64 0,.bool false,.int .i64 0] 41)).alloc (.cells #[.bool false,.bool false,.bool false,.bool false,.bool false,.bool false,.bool false,.bool false,.bool false,.bool false] 90) = wr0 at *
    clear HX1 HY1 HX2 HY2 HB1 HB2 HJ2 hs2 hl1 PA OP
    generalize w2.heap.size + 1 + 1 = bk at *
    generalize w2.heap.size + 1 = bs at *
    generalize w2.heap.size = bj at *
    generalize w.heap.size + 1 = bn at *
    obtain ⟨j0,j1,j2,j3,j4,j5⟩ := six_of T0.out.js
    go_upto_region 11 with (go_at_call 53;(with_reducible refine (N0.out _ _ _ _ T0.out.jat).mono ?_);rintro eq0 wq0 ⟨rfl,hbq⟩;have U0 := Lib.hid (T0.out.below hbq);obtain ⟨z0,z1,z2,z3,z4,z5,z6,z7,z8,z9⟩ := ten_of U0.out.st;obtain ⟨g0,g1,g2,g3,g4,g5,g6,g7,g8,g9⟩ := free_ten U0.out.st;have V0 : Hid (TKB w (fun b => b < bj) dd #[.int .i64 k2,.int .i64 m2,.int .i64 e2',.string t2,.slice an2 nn2 cn2,.slice ai2 ni2 ci2] j bn bj bs bk #[.int .i64 n0,.int .i64 0,.string ⟨#[]⟩,.int .i64 0,.int .i64 0,.bool false,.int .i64 0,.int .i64 0,.bool false,.int .i64 0] #[.bool false,.bool false,.bool false,.bool false,.bool false,.bool false,.bool false,.bool false,.bool false,.bool false] (wq0.setCell ⟨bs,0,none⟩ (.int .i64 n0))) := (by exact U0.out.setS 0 _);obtain ⟨y0,y1,y2,y3,y4,y5,y6,y7,y8,y9⟩ := ten_of V0.out.ks;obtain ⟨l0,l1,l2,l3,l4,l5,l6,l7,l8,l9⟩ := free_ten V0.out.ks;clear hbq)
    have T1 : Hid (TKB w (fun b => b < bj) dd #[.int .i64 k2,.int .i64 m2,.int .i64 e2',.string t2,.slice an2 nn2 cn2,.slice ai2 ni2 ci2] j bn bj bs bk #[.int .i64 n0,.int .i64 0,.string ⟨#[]⟩,.int .i64 0,.int .i64 0,.bool false,.int .i64 0,.int .i64 0,.bool false,.int .i64 0] #[.bool f0,.bool false,.bool false,.bool false,.bool false,.bool false,.bool false,.bool false,.bool false,.bool false] ((wq0.setCell ⟨bs,0,none⟩ (.int .i64 n0)).setCell ⟨bk,0,none⟩ (.bool f0))) := (by exact V0.out.setK 0 _)
    generalize ((wq0.setCell ⟨bs,0,none⟩ (.int .i64 n0)).setCell ⟨bk,0,none⟩ (.bool f0)) = wr1 at *
    clear j0 j1 j2 j3 j4 j5 z0 z1 z2 z3 z4 z5 z6 z7 z8 z9 g0 g1 g2 g3 g4 g5 g6 g7 g8 g9 y0 y1 y2 y3 y4 y5 y6 y7 y8 y9 l0 l1 l2 l3 l4 l5 l6 l7 l8 l9 T0 U0 V0 N0
    obtain ⟨j0,j1,j2,j3,j4,j5⟩ := six_of T1.out.js
    go_upto_region 12 with (go_at_call 53;(with_reducible refine (N1.out _ _ _ _ T1.out.jat).mono ?_);rintro eq1 wq1 ⟨rfl,hbq⟩;have U1 := Lib.hid (T1.out.below hbq);obtain ⟨z0,z1,z2,z3,z4,z5,z6,z7,z8,z9⟩ := ten_of U1.out.st;obtain ⟨g0,g1,g2,g3,g4,g5,g6,g7,g8,g9⟩ := free_ten U1.out.st;have V1 : Hid (TKB w (fun b => b < bj) dd #[.int .i64 k2,.int .i64 m2,.int .i64 e2',.string t2,.slice an2 nn2 cn2,.slice ai2 ni2 ci2] j bn bj bs bk #[.int .i64 n0,.int .i64 n1,.string ⟨#[]⟩,.int .i64 0,.int .i64 0,.bool false,.int .i64 0,.int .i64 0,.bool false,.int .i64 0] #[.bool f0,.bool false,.bool false,.bool false,.bool false,.bool false,.bool false,.bool false,.bool false,.bool false] (wq1.setCell ⟨bs,1,none⟩ (.int .i64 n1))) := (by exact U1.out.setS 1 _);obtain ⟨y0,y1,y2,y3,y4,y5,y6,y7,y8,y9⟩ := ten_of V1.out.ks;obtain ⟨l0,l1,l2,l3,l4,l5,l6,l7,l8,l9⟩ := free_ten V1.out.ks;clear hbq)
    have T2 : Hid (TKB w (fun b => b < bj) dd #[.int .i64 k2,.int .i64 m2,.int .i64 e2',.string t2,.slice an2 nn2 cn2,.slice ai2 ni2 ci2] j bn bj bs bk #[.int .i64 n0,.int .i64 n1,.string ⟨#[]⟩,.int .i64 0,.int .i64 0,.bool false,.int .i64 0,.int .i64 0,.bool false,.int .i64 0] #[.bool f0,.bool f1,.bool false,.bool false,.bool false,.bool false,.bool false,.bool false,.bool false,.bool false] ((wq1.setCell ⟨bs,1,none⟩ (.int .i64 n1)).setCell ⟨bk,1,none⟩ (.bool f1))) := (by exact V1.out.setK 1 _)
    generalize ((wq1.setCell ⟨bs,1,none⟩ (.int .i64 n1)).setCell ⟨bk,1,none⟩ (.bool f1)) = wr2 at *
    clear j0 j1 j2 j3 j4 j5 z0 z1 z2 z3 z4 z5 z6 z7 z8 z9 g0 g1 g2 g3 g4 g5 g6 g7 g8 g9 y0 y1 y2 y3 y4 y5 y6 y7 y8 y9 l0 l1 l2 l3 l4 l5 l6 l7 l8 l9 T1 U1 V1 N1
    obtain ⟨j0,j1,j2,j3,j4,j5⟩ := six_of T2.out.js
    go_upto_region 13 with (go_at_call 54;(with_reducible refine (N2.out _ _ _ _ T2.out.jat).mono ?_);rintro eq2 wq2 ⟨rfl,hbq⟩;have U2 := Lib.hid (T2.out.below hbq);obtain ⟨z0,z1,z2,z3,z4,z5,z6,z7,z8,z9⟩ := ten_of U2.out.st;obtain ⟨g0,g1,g2,g3,g4,g5,g6,g7,g8,g9⟩ := free_ten U2.out.st;have V2 : Hid (TKB w (fun b => b < bj) dd #[.int .i64 k2,.int .i64 m2,.int .i64 e2',.string t2,.slice an2 nn2 cn2,.slice ai2 ni2 ci2] j bn bj bs bk #[.int .i64 n0,.int .i64 n1,.string ⟨n2.toArray⟩,.int .i64 0,.int .i64 0,.bool false,.int .i64 0,.int .i64 0,.bool false,.int .i64 0] #[.bool f0,.bool f1,.bool false,.bool false,.bool false,.bool false,.bool false,.bool false,.bool false,.bool false] (wq2.setCell ⟨bs,2,none⟩ (.string ⟨n2.toArray⟩))) := (by exact U2.out.setS 2 _);obtain ⟨y0,y1,y2,y3,y4,y5,y6,y7,y8,y9⟩ := ten_of V2.out.ks;obtain ⟨l0,l1,l2,l3,l4,l5,l6,l7,l8,l9⟩ := free_ten V2.out.ks;clear hbq)
    have T3 : Hid (TKB w (fun b => b < bj) dd #[.int .i64 k2,.int .i64 m2,.int .i64 e2',.string t2,.slice an2 nn2 cn2,.slice ai2 ni2 ci2] j bn bj bs bk #[.int .i64 n0,.int .i64 n1,.string ⟨n2.toArray⟩,.int .i64 0,.int .i64 0,.bool false,.int .i64 0,.int .i64 0,.bool false,.int .i64 0] #[.bool f0,.bool f1,.bool f2,.bool false,.bool false,.bool false,.bool false,.bool false,.bool false,.bool false] ((wq2.setCell ⟨bs,2,none⟩ (.string ⟨n2.toArray⟩)).setCell ⟨bk,2,none⟩ (.bool f2))) := (by exact V2.out.setK 2 _)
    generalize ((wq2.setCell ⟨bs,2,none⟩ (.string ⟨n2.toArray⟩)).setCell ⟨bk,2,none⟩ (.bool f2)) = wr3 at *
    clear j0 j1 j2 j3 j4 j5 z0 z1 z2 z3 z4 z5 z6 z7 z8 z9 g0 g1 g2 g3 g4 g5 g6 g7 g8 g9 y0 y1 y2 y3 y4 y5 y6 y7 y8 y9 l0 l1 l2 l3 l4 l5 l6 l7 l8 l9 T2 U2 V2 N2
    obtain ⟨j0,j1,j2,j3,j4,j5⟩ := six_of T3.out.js
    go_upto_region 14 with (go_at_call 53;(with_reducible refine (N3.out _ _ _ _ T3.out.jat).mono ?_);rintro eq3 wq3 ⟨rfl,hbq⟩;have U3 := Lib.hid (T3.out.below hbq);obtain ⟨z0,z1,z2,z3,z4,z5,z6,z7,z8,z9⟩ := ten_of U3.out.st;obtain ⟨g0,g1,g2,g3,g4,g5,g6,g7,g8,g9⟩ := free_ten U3.out.st;have V3 : Hid (TKB w (fun b => b < bj) dd #[.int .i64 k2,.int .i64 m2,.int .i64 e2',.string t2,.slice an2 nn2 cn2,.slice ai2 ni2 ci2] j bn bj bs bk #[.int .i64 n0,.int .i64 n1,.string ⟨n2.toArray⟩,.int .i64 n3,.int .i64 0,.bool false,.int .i64 0,.int .i64 0,.bool false,.int .i64 0] #[.bool f0,.bool f1,.bool f2,.bool false,.bool false,.bool false,.bool false,.bool false,.bool false,.bool false] (wq3.setCell ⟨bs,3,none⟩ (.int .i64 n3))) := (by exact U3.out.setS 3 _);obtain ⟨y0,y1,y2,y3,y4,y5,y6,y7,y8,y9⟩ := ten_of V3.out.ks;obtain ⟨l0,l1,l2,l3,l4,l5,l6,l7,l8,l9⟩ := free_ten V3.out.ks;clear hbq)
    have T4 : Hid (TKB w (fun b => b < bj) dd #[.int .i64 k2,.int .i64 m2,.int .i64 e2',.string t2,.slice an2 nn2 cn2,.slice ai2 ni2 ci2] j bn bj bs bk #[.int .i64 n0,.int .i64 n1,.string ⟨n2.toArray⟩,.int .i64 n3,.int .i64 0,.bool false,.int .i64 0,.int .i64 0,.bool false,.int .i64 0] #[.bool f0,.bool f1,.bool f2,.bool f3,.bool false,.bool false,.bool false,.bool false,.bool false,.bool false] ((wq3.setCell ⟨bs,3,none⟩ (.int .i64 n3)).setCell ⟨bk,3,none⟩ (.bool f3))) := (by exact V3.out.setK 3 _)
    generalize ((wq3.setCell ⟨bs,3,none⟩ (.int .i64 n3)).setCell ⟨bk,3,none⟩ (.bool f3)) = wr4 at *
    clear j0 j1 j2 j3 j4 j5 z0 z1 z2 z3 z4 z5 z6 z7 z8 z9 g0 g1 g2 g3 g4 g5 g6 g7 g8 g9 y0 y1 y2 y3 y4 y5 y6 y7 y8 y9 l0 l1 l2 l3 l4 l5 l6 l7 l8 l9 T3 U3 V3 N3
    obtain ⟨j0,j1,j2,j3,j4,j5⟩ := six_of T4.out.js
    go_upto_region 15 with (go_at_call 53;(with_reducible refine (N4.out _ _ _ _ T4.out.jat).mono ?_);rintro eq4 wq4 ⟨rfl,hbq⟩;have U4 := Lib.hid (T4.out.below hbq);obtain ⟨z0,z1,z2,z3,z4,z5,z6,z7,z8,z9⟩ := ten_of U4.out.st;obtain ⟨g0,g1,g2,g3,g4,g5,g6,g7,g8,g9⟩ := free_ten U4.out.st;have V4 : Hid (TKB w (fun b => b < bj) dd #[.int .i64 k2,.int .i64 m2,.int .i64 e2',.string t2,.slice an2 nn2 cn2,.slice ai2 ni2 ci2] j bn bj bs bk #[.int .i64 n0,.int .i64 n1,.string ⟨n2.toArray⟩,.int .i64 n3,.int .i64 n4,.bool false,.int .i64 0,.int .i64 0,.bool false,.int .i64 0] #[.bool f0,.bool f1,.bool f2,.bool f3,.bool false,.bool false,.bool false,.bool false,.bool false,.bool false] (wq4.setCell ⟨bs,4,none⟩ (.int .i64 n4))) := (by exact U4.out.setS 4 _);obtain ⟨y0,y1,y2,y3,y4,y5,y6,y7,y8,y9⟩ := ten_of V4.out.ks;obtain ⟨l0,l1,l2,l3,l4,l5,l6,l7,l8,l9⟩ := free_ten V4.out.ks;clear hbq)
    have T5 : Hid (TKB w (fun b => b < bj) dd #[.int .i64 k2,.int .i64 m2,.int .i64 e2',.string t2,.slice an2 nn2 cn2,.slice ai2 ni2 ci2] j bn bj bs bk #[.int .i64 n0,.int .i64 n1,.string ⟨n2.toArray⟩,.int .i64 n3,.int .i64 n4,.bool false,.int .i64 0,.int .i64 0,.bool false,.int .i64 0] #[.bool f0,.bool f1,.bool f2,.bool f3,.bool f4,.bool false,.bool false,.bool false,.bool false,.bool false] ((wq4.setCell ⟨bs,4,none⟩ (.int .i64 n4)).setCell ⟨bk,4,none⟩ (.bool f4))) := (by exact V4.out.setK 4 _)
    generalize ((wq4.setCell ⟨bs,4,none⟩ (.int .i64 n4)).setCell ⟨bk,4,none⟩ (.bool f4)) = wr5 at *
    clear j0 j1 j2 j3 j4 j5 z0 z1 z2 z3 z4 z5 z6 z7 z8 z9 g0 g1 g2 g3 g4 g5 g6 g7 g8 g9 y0 y1 y2 y3 y4 y5 y6 y7 y8 y9 l0 l1 l2 l3 l4 l5 l6 l7 l8 l9 T4 U4 V4 N4
    obtain ⟨j0,j1,j2,j3,j4,j5⟩ := six_of T5.out.js
    go_upto_region 16 with (go_at_call 62;(with_reducible refine (N5.out _ _ _ _ T5.out.jat).mono ?_);rintro eq5 wq5 ⟨rfl,hbq⟩;have U5 := Lib.hid (T5.out.below hbq);obtain ⟨z0,z1,z2,z3,z4,z5,z6,z7,z8,z9⟩ := ten_of U5.out.st;obtain ⟨g0,g1,g2,g3,g4,g5,g6,g7,g8,g9⟩ := free_ten U5.out.st;have V5 : Hid (TKB w (fun b => b < bj) dd #[.int .i64 k2,.int .i64 m2,.int .i64 e2',.string t2,.slice an2 nn2 cn2,.slice ai2 ni2 ci2] j bn bj bs bk #[.int .i64 n0,.int .i64 n1,.string ⟨n2.toArray⟩,.int .i64 n3,.int .i64 n4,.bool n5,.int .i64 0,.int .i64 0,.bool false,.int .i64 0] #[.bool f0,.bool f1,.bool f2,.bool f3,.bool f4,.bool false,.bool false,.bool false,.bool false,.bool false] (wq5.setCell ⟨bs,5,none⟩ (.bool n5))) := (by exact U5.out.setS 5 _);obtain ⟨y0,y1,y2,y3,y4,y5,y6,y7,y8,y9⟩ := ten_of V5.out.ks;obtain ⟨l0,l1,l2,l3,l4,l5,l6,l7,l8,l9⟩ := free_ten V5.out.ks;clear hbq)
    have T6 : Hid (TKB w (fun b => b < bj) dd #[.int .i64 k2,.int .i64 m2,.int .i64 e2',.string t2,.slice an2 nn2 cn2,.slice ai2 ni2 ci2] j bn bj bs bk #[.int .i64 n0,.int .i64 n1,.string ⟨n2.toArray⟩,.int .i64 n3,.int .i64 n4,.bool n5,.int .i64 0,.int .i64 0,.bool false,.int .i64 0] #[.bool f0,.bool f1,.bool f2,.bool f3,.bool f4,.bool f5,.bool false,.bool false,.bool false,.bool false] ((wq5.setCell ⟨bs,5,none⟩ (.bool n5)).setCell ⟨bk,5,none⟩ (.bool f5))) := (by exact V5.out.setK 5 _)
    generalize ((wq5.setCell ⟨bs,5,none⟩ (.bool n5)).setCell ⟨bk,5,none⟩ (.bool f5)) = wr6 at *
    clear j0 j1 j2 j3 j4 j5 z0 z1 z2 z3 z4 z5 z6 z7 z8 z9 g0 g1 g2 g3 g4 g5 g6 g7 g8 g9 y0 y1 y2 y3 y4 y5 y6 y7 y8 y9 l0 l1 l2 l3 l4 l5 l6 l7 l8 l9 T5 U5 V5 N5
    obtain ⟨j0,j1,j2,j3,j4,j5⟩ := six_of T6.out.js
    go_upto_region 17 with (go_at_call 53;(with_reducible refine (N6.out _ _ _ _ T6.out.jat).mono ?_);rintro eq6 wq6 ⟨rfl,hbq⟩;have U6 := Lib.hid (T6.out.below hbq);obtain ⟨z0,z1,z2,z3,z4,z5,z6,z7,z8,z9⟩ := ten_of U6.out.st;obtain ⟨g0,g1,g2,g3,g4,g5,g6,g7,g8,g9⟩ := free_ten U6.out.st;have V6 : Hid (TKB w (fun b => b < bj) dd #[.int .i64 k2,.int .i64 m2,.int .i64 e2',.string t2,.slice an2 nn2 cn2,.slice ai2 ni2 ci2] j bn bj bs bk #[.int .i64 n0,.int .i64 n1,.string ⟨n2.toArray⟩,.int .i64 n3,.int .i64 n4,.bool n5,.int .i64 n6,.int .i64 0,.bool false,.int .i64 0] #[.bool f0,.bool f1,.bool f2,.bool f3,.bool f4,.bool f5,.bool false,.bool false,.bool false,.bool false] (wq6.setCell ⟨bs,6,none⟩ (.int .i64 n6))) := (by exact U6.out.setS 6 _);obtain ⟨y0,y1,y2,y3,y4,y5,y6,y7,y8,y9⟩ := ten_of V6.out.ks;obtain ⟨l0,l1,l2,l3,l4,l5,l6,l7,l8,l9⟩ := free_ten V6.out.ks;clear hbq)
    have T7 : Hid (TKB w (fun b => b < bj) dd #[.int .i64 k2,.int .i64 m2,.int .i64 e2',.string t2,.slice an2 nn2 cn2,.slice ai2 ni2 ci2] j bn bj bs bk #[.int .i64 n0,.int .i64 n1,.string ⟨n2.toArray⟩,.int .i64 n3,.int .i64 n4,.bool n5,.int .i64 n6,.int .i64 0,.bool false,.int .i64 0] #[.bool f0,.bool f1,.bool f2,.bool f3,.bool f4,.bool f5,.bool f6,.bool false,.bool false,.bool false] ((wq6.setCell ⟨bs,6,none⟩ (.int .i64 n6)).setCell ⟨bk,6,none⟩ (.bool f6))) := (by exact V6.out.setK 6 _)
    generalize ((wq6.setCell ⟨bs,6,none⟩ (.int .i64 n6)).setCell ⟨bk,6,none⟩ (.bool f6)) = wr7 at *
    clear j0 j1 j2 j3 j4 j5 z0 z1 z2 z3 z4 z5 z6 z7 z8 z9 g0 g1 g2 g3 g4 g5 g6 g7 g8 g9 y0 y1 y2 y3 y4 y5 y6 y7 y8 y9 l0 l1 l2 l3 l4 l5 l6 l7 l8 l9 T6 U6 V6 N6
    obtain ⟨j0,j1,j2,j3,j4,j5⟩ := six_of T7.out.js
    go_upto_region 18 with (go_at_call 53;(with_reducible refine (N7.out _ _ _ _ T7.out.jat).mono ?_);rintro eq7 wq7 ⟨rfl,hbq⟩;have U7 := Lib.hid (T7.out.below hbq);obtain ⟨z0,z1,z2,z3,z4,z5,z6,z7,z8,z9⟩ := ten_of U7.out.st;obtain ⟨g0,g1,g2,g3,g4,g5,g6,g7,g8,g9⟩ := free_ten U7.out.st;have V7 : Hid (TKB w (fun b => b < bj) dd #[.int .i64 k2,.int .i64 m2,.int .i64 e2',.string t2,.slice an2 nn2 cn2,.slice ai2 ni2 ci2] j bn bj bs bk #[.int .i64 n0,.int .i64 n1,.string ⟨n2.toArray⟩,.int .i64 n3,.int .i64 n4,.bool n5,.int .i64 n6,.int .i64 n7,.bool false,.int .i64 0] #[.bool f0,.bool f1,.bool f2,.bool f3,.bool f4,.bool f5,.bool f6,.bool false,.bool false,.bool false] (wq7.setCell ⟨bs,7,none⟩ (.int .i64 n7))) := (by exact U7.out.setS 7 _);obtain ⟨y0,y1,y2,y3,y4,y5,y6,y7,y8,y9⟩ := ten_of V7.out.ks;obtain ⟨l0,l1,l2,l3,l4,l5,l6,l7,l8,l9⟩ := free_ten V7.out.ks;clear hbq)
    have T8 : Hid (TKB w (fun b => b < bj) dd #[.int .i64 k2,.int .i64 m2,.int .i64 e2',.string t2,.slice an2 nn2 cn2,.slice ai2 ni2 ci2] j bn bj bs bk #[.int .i64 n0,.int .i64 n1,.string ⟨n2.toArray⟩,.int .i64 n3,.int .i64 n4,.bool n5,.int .i64 n6,.int .i64 n7,.bool false,.int .i64 0] #[.bool f0,.bool f1,.bool f2,.bool f3,.bool f4,.bool f5,.bool f6,.bool f7,.bool false,.bool false] ((wq7.setCell ⟨bs,7,none⟩ (.int .i64 n7)).setCell ⟨bk,7,none⟩ (.bool f7))) := (by exact V7.out.setK 7 _)
    generalize ((wq7.setCell ⟨bs,7,none⟩ (.int .i64 n7)).setCell ⟨bk,7,none⟩ (.bool f7)) = wr8 at *
    clear j0 j1 j2 j3 j4 j5 z0 z1 z2 z3 z4 z5 z6 z7 z8 z9 g0 g1 g2 g3 g4 g5 g6 g7 g8 g9 y0 y1 y2 y3 y4 y5 y6 y7 y8 y9 l0 l1 l2 l3 l4 l5 l6 l7 l8 l9 T7 U7 V7 N7
    obtain ⟨j0,j1,j2,j3,j4,j5⟩ := six_of T8.out.js
    go_upto_region 19 with (go_at_call 62;(with_reducible refine (N8.out _ _ _ _ T8.out.jat).mono ?_);rintro eq8 wq8 ⟨rfl,hbq⟩;have U8 := Lib.hid (T8.out.below hbq);obtain ⟨z0,z1,z2,z3,z4,z5,z6,z7,z8,z9⟩ := ten_of U8.out.st;obtain ⟨g0,g1,g2,g3,g4,g5,g6,g7,g8,g9⟩ := free_ten U8.out.st;have V8 : Hid (TKB w (fun b => b < bj) dd #[.int .i64 k2,.int .i64 m2,.int .i64 e2',.string t2,.slice an2 nn2 cn2,.slice ai2 ni2 ci2] j bn bj bs bk #[.int .i64 n0,.int .i64 n1,.string ⟨n2.toArray⟩,.int .i64 n3,.int .i64 n4,.bool n5,.int .i64 n6,.int .i64 n7,.bool n8,.int .i64 0] #[.bool f0,.bool f1,.bool f2,.bool f3,.bool f4,.bool f5,.bool f6,.bool f7,.bool false,.bool false] (wq8.setCell ⟨bs,8,none⟩ (.bool n8))) := (by exact U8.out.setS 8 _);obtain ⟨y0,y1,y2,y3,y4,y5,y6,y7,y8,y9⟩ := ten_of V8.out.ks;obtain ⟨l0,l1,l2,l3,l4,l5,l6,l7,l8,l9⟩ := free_ten V8.out.ks;clear hbq)
    have T9 : Hid (TKB w (fun b => b < bj) dd #[.int .i64 k2,.int .i64 m2,.int .i64 e2',.string t2,.slice an2 nn2 cn2,.slice ai2 ni2 ci2] j bn bj bs bk #[.int .i64 n0,.int .i64 n1,.string ⟨n2.toArray⟩,.int .i64 n3,.int .i64 n4,.bool n5,.int .i64 n6,.int .i64 n7,.bool n8,.int .i64 0] #[.bool f0,.bool f1,.bool f2,.bool f3,.bool f4,.bool f5,.bool f6,.bool f7,.bool f8,.bool false] ((wq8.setCell ⟨bs,8,none⟩ (.bool n8)).setCell ⟨bk,8,none⟩ (.bool f8))) := (by exact V8.out.setK 8 _)
    generalize ((wq8.setCell ⟨bs,8,none⟩ (.bool n8)).setCell ⟨bk,8,none⟩ (.bool f8)) = wr9 at *
    clear j0 j1 j2 j3 j4 j5 z0 z1 z2 z3 z4 z5 z6 z7 z8 z9 g0 g1 g2 g3 g4 g5 g6 g7 g8 g9 y0 y1 y2 y3 y4 y5 y6 y7 y8 y9 l0 l1 l2 l3 l4 l5 l6 l7 l8 l9 T8 U8 V8 N8
    obtain ⟨j0,j1,j2,j3,j4,j5⟩ := six_of T9.out.js
    go_upto_region 20 with (go_at_call 53;(with_reducible refine (N9.out _ _ _ _ T9.out.jat).mono ?_);rintro eq9 wq9 ⟨rfl,hbq⟩;have U9 := Lib.hid (T9.out.below hbq);obtain ⟨z0,z1,z2,z3,z4,z5,z6,z7,z8,z9⟩ := ten_of U9.out.st;obtain ⟨g0,g1,g2,g3,g4,g5,g6,g7,g8,g9⟩ := free_ten U9.out.st;have V9 : Hid (TKB w (fun b => b < bj) dd #[.int .i64 k2,.int .i64 m2,.int .i64 e2',.string t2,.slice an2 nn2 cn2,.slice ai2 ni2 ci2] j bn bj bs bk #[.int .i64 n0,.int .i64 n1,.string ⟨n2.toArray⟩,.int .i64 n3,.int .i64 n4,.bool n5,.int .i64 n6,.int .i64 n7,.bool n8,.int .i64 n9] #[.bool f0,.bool f1,.bool f2,.bool f3,.bool f4,.bool f5,.bool f6,.bool f7,.bool f8,.bool false] (wq9.setCell ⟨bs,9,none⟩ (.int .i64 n9))) := (by exact U9.out.setS 9 _);obtain ⟨y0,y1,y2,y3,y4,y5,y6,y7,y8,y9⟩ := ten_of V9.out.ks;obtain ⟨l0,l1,l2,l3,l4,l5,l6,l7,l8,l9⟩ := free_ten V9.out.ks;clear hbq)
    have T10 : Hid (TKB w (fun b => b < bj) dd #[.int .i64 k2,.int .i64 m2,.int .i64 e2',.string t2,.slice an2 nn2 cn2,.slice ai2 ni2 ci2] j bn bj bs bk #[.int .i64 n0,.int .i64 n1,.string ⟨n2.toArray⟩,.int .i64 n3,.int .i64 n4,.bool n5,.int .i64 n6,.int .i64 n7,.bool n8,.int .i64 n9] #[.bool f0,.bool f1,.bool f2,.bool f3,.bool f4,.bool f5,.bool f6,.bool f7,.bool f8,.bool f9] ((wq9.setCell ⟨bs,9,none⟩ (.int .i64 n9)).setCell ⟨bk,9,none⟩ (.bool f9))) := (by exact V9.out.setK 9 _)
    generalize ((wq9.setCell ⟨bs,9,none⟩ (.int .i64 n9)).setCell ⟨bk,9,none⟩ (.bool f9)) = wr10 at *
    clear j0 j1 j2 j3 j4 j5 z0 z1 z2 z3 z4 z5 z6 z7 z8 z9 g0 g1 g2 g3 g4 g5 g6 g7 g8 g9 y0 y1 y2 y3 y4 y5 y6 y7 y8 y9 l0 l1 l2 l3 l4 l5 l6 l7 l8 l9 T9 U9 V9 N9
    obtain ⟨z0,z1,z2,z3,z4,z5,z6,z7,z8,z9⟩ := ten_of T10.out.st
    go_upto_region 21 with (go_at_call 24;(with_reducible refine (RI.out _ _ _ T10.out.jat.any _).mono ?_);rintro eqr wr11 ⟨rfl,hbq⟩;have T11 := Lib.hid (T10.out.below hbq);clear hbq)
    clear z0 z1 z2 z3 z4 z5 z6 z7 z8 z9 T10
    obtain ⟨z0,z1,z2,z3,z4,z5,z6,z7,z8,z9⟩ := ten_of T11.out.res
    obtain ⟨g0,g1,g2,g3,g4,g5,g6,g7,g8,g9⟩ := free_ten T11.out.res
    obtain ⟨u0,u1,u2,u3,u4,u5,u6,u7,u8,u9⟩ := ten_of T11.out.non
    obtain ⟨r0,r1,r2,r3,r4,r5,r6,r7,r8,r9⟩ := ten_of T11.out.st
    obtain ⟨y0,y1,y2,y3,y4,y5,y6,y7,y8,y9⟩ := ten_of T11.out.ks
    cases RR with
    | false =>
      go_wp2_with fail
      refine bodyPost_ret (v := .tuple #[.agg #[.int .i64 0,.int .i64 0,.string ⟨#[]⟩,.int .i64 0,.int .i64 0,.bool false,.int .i64 0,.int .i64 0,.bool false,.int .i64 0],.int .i64 90]) (by simp [results,Tryz.results29,go_sem,z0,z1,z2,z3,z4,z5,z6,z7,z8,z9]) rfl ?_
      rw [← HQ.out,if_neg (by simp)]
      exact ⟨rfl,below_ten T11.out.bel (Nat.le_refl _) _ _ _ _ _ _ _ _ _ _⟩
    | true =>
      cases FF with
      | false =>
        have HE := HNQ.out
        go_wp2_with fail
        refine bodyPost_ret (v := .tuple #[.agg #[.int .i64 0,.int .i64 0,.string ⟨#[]⟩,.int .i64 0,.int .i64 0,.bool false,.int .i64 0,.int .i64 0,.bool false,.int .i64 0],.int .i64 90]) (by simp [results,Tryz.results29,go_sem,z0,z1,z2,z3,z4,z5,z6,z7,z8,z9]) rfl ?_
        rw [← HQ.out,if_neg (by simp)]
        exact ⟨rfl,below_ten T11.out.bel (Nat.le_refl _) _ _ _ _ _ _ _ _ _ _⟩
      | true =>
        have HE := HNQ.out
        go_wp2_with fail
        refine bodyPost_ret (v := .tuple #[.agg #[.int .i64 n0,.int .i64 n1,.string ⟨n2.toArray⟩,.int .i64 n3,.int .i64 n4,.bool n5,.int .i64 n6,.int .i64 n7,.bool n8,.int .i64 n9],.int .i64 0]) (by simp [results,Tryz.results29,go_sem,z0,z1,z2,z3,z4,z5,z6,z7,z8,z9]) rfl ?_
        rw [← HQ.out,if_pos (by simp)]
        exact ⟨rfl,below_ten T11.out.bel (Nat.le_refl _) _ _ _ _ _ _ _ _ _ _⟩
   ·rw [if_neg hpe]
    have hne : (pe != 0) = true := by simpa using hpe
    simp only [Option.getD_none]
    rw [Z0]
    clear Z0
    go_enter Tryz.func29,Tryz.ntmps29
    go_wp2_with (first
     | (go_at_call 51;(with_reducible refine (OP.out _).mono ?_);rintro e1 w1 ⟨rfl,hb1⟩;obtain ⟨X1,Y1,hl1,hB1⟩ := two_boxes hb1;have HX1 := Lib.hid X1;have HY1 := Lib.hid Y1;have HB1 := Lib.hid hB1;clear X1 Y1 hb1)
     | (go_at_call 52;(with_reducible refine (PA.out _).mono ?_);rintro e2 w2 ⟨k2,m2,e2',t2,an2,nn2,cn2,ai2,ni2,ci2,rfl,hJ2,hb2⟩;have HB2 := Lib.hid ((HB1.out.trans (hb2.mono HB1.out.size)).alloc (Nat.le_trans HB1.out.size hb2.size) (.cells #[.int .i64 k2,.int .i64 m2,.int .i64 e2',.string t2,.slice an2 nn2 cn2,.slice ai2 ni2 ci2] 58));have hs2 := hb2.size;have x2 := (heap_alloc_old w2 (.cells #[.int .i64 k2,.int .i64 m2,.int .i64 e2',.string t2,.slice an2 nn2 cn2,.slice ai2 ni2 ci2] 58) (by omega)).trans ((hb2.block _ (by omega)).trans HX1.out);have y2 := (heap_alloc_old w2 (.cells #[.int .i64 k2,.int .i64 m2,.int .i64 e2',.string t2,.slice an2 nn2 cn2,.slice ai2 ni2 ci2] 58) (by omega)).trans ((hb2.block _ (by omega)).trans HY1.out);obtain ⟨z0,z1,z2,z3,z4,z5,z6,z7,z8,z9⟩ := ten_of x2;obtain ⟨g0,g1,g2,g3,g4,g5,g6,g7,g8,g9⟩ := free_ten x2;obtain ⟨u0,u1,u2,u3,u4,u5,u6,u7,u8,u9⟩ := ten_of y2;clear x2 y2))
    refine bodyPost_ret (v := .tuple #[.agg #[.int .i64 0,.int .i64 0,.string ⟨#[]⟩,.int .i64 0,.int .i64 0,.bool false,.int .i64 0,.int .i64 0,.bool false,.int .i64 0],.int .i64 pe]) (by simp [results,Tryz.results29,go_sem,z0,z1,z2,z3,z4,z5,z6,z7,z8,z9]) rfl ?_
    exact ⟨rfl,below_ten HB2.out (Nat.le_refl _) _ _ _ _ _ _ _ _ _ _⟩
end Go.Proofs.YtmmbiknlicnamaaGreatDoor.Sta
namespace Go.Proofs.YtmmbiknlicnamaaGreatDoor.Sta
open Go.RowKit Js Lex Od
theorem wrap_in9 {z : Int} (h0 : -9223372036854775808 ≤ z) (h1 : z ≤ 9223372036854775807) : IntKind.i64.wrap z = z := by
 simp [IntKind.wrap,IntKind.bits,IntKind.signed] <;> omega
set_option maxRecDepth 100000 in
theorem neq9_self (x : S9) (w : World) : (binOp .neq 41 (sV x) (sV x)).run Tryz.prog w = .ok (.bool false) w := by
 obtain ⟨hd,bo,nm,od,up,lv,nd,sq,dr,ac⟩ := x
 unfold sV sC
 go_simp
 try simp
def SevV (A B C D E F G : ByteArray) (z : Value) (w : World) : Prop := ∃ b,z = .slice (some ⟨b,0,none⟩) 7 7 ∧ w.heap[b]? = some (.cells #[.string A,.string B,.string C,.string D,.string E,.string F,.string G] 9 (0,0))
theorem SevV.stable (A B C D E F G : ByteArray) : Stable (SevV A B C D E F G) := fun z w w' ⟨b,hz,hb⟩ hB => ⟨b,hz,(hB.block _ (Own.block_lt hb)).trans hb⟩
theorem lay_form (x : S9) : ∃ (T : ByteArray) (e : Int),(if rightT Tp.nameB x = true then Value.tuple #[.string ⟨(layS9 x).toArray⟩,.int .i64 0] else .tuple #[.string ⟨#[]⟩,.int .i64 1]) = .tuple #[.string T,.int .i64 e] := by
 split
 ·exact ⟨_,_,rfl⟩
 ·exact ⟨_,_,rfl⟩
set_option maxRecDepth 100000 in
theorem tells9_walk (x x' : S9) (s : List UInt8) (at0 : Int) (more : List UInt8) (w : World) (hT : Dec.Tab w) (hx : x.ok) (hx' : x'.ok) (hs : s.length ≤ 140737488351232) (a0 : -9223372036854775808 ≤ at0) (a1 : at0 ≤ 9223372036854775807) (hm : more.length ≤ 140737488351232) :
 Calls Tryz.prog 4 #[sV x,sV x',.string ⟨s.toArray⟩,.int .i64 at0,.string ⟨more.toArray⟩] w (Ret (.bool true) w) := by
 have A1 := Lib.hid (fun (w' : World) (hb : Below w.heap.size w w') => awake9_any w' (hT.below hb))
 have F1 := Lib.hid (fun (w' : World) => fit9_any x w' hx)
 have hr := fit9_right Tp.fit_name x
 generalize fit9 Tp.fitL x = y at *
 have LA := Lib.hid (fun (w' : World) (hb : Below w.heap.size w w') => Lay9_any x w' (hT.below hb) hx)
 have RA := Lib.hid (fun (w' : World) => rlay9_any x w' hx)
 obtain ⟨TA,ea,hTA⟩ := lay_form x
 rw [hTA] at LA RA
 clear hTA
 have L1 := Lib.hid (fun (w' : World) (hb : Below w.heap.size w w') => lay9_yes hr w' (hT.below hb))
 have RL := Lib.hid (fun (w' : World) => rlay9_any y w' (ok_right name_ok hr))
 rw [if_pos hr] at RL
 have R1 := Lib.hid (fun (w' : World) => right9_any x w' hx)
 have R2 := Lib.hid (fun (w' : World) => rright9_any x w' hx)
 have N1 := Lib.hid (fun (w' : World) => newer9_any x x' w')
 have N2 := Lib.hid (fun (w' : World) => rnewer9_any x x' w')
 generalize rightT Tp.nameB x = RX at *
 generalize newerB x x' = NX at *
 have hlen := lay9_len name_ok hr
 obtain ⟨U,hU⟩ : ∃ U,printJ (layJ9 y) = U := ⟨_,rfl⟩
 have hTU : layS9 y = U ++ Se.tailS U := by unfold layS9 Se.sealS;rw [hU]
 have htl : (layS9 y).length = U.length + 9 := by rw [hTU,List.length_append,Se.tailS_len]
 rw [hU] at hlen
 have hsz : (⟨(layS9 y).toArray⟩ : ByteArray).size = U.length + 9 := by rw [bs_size,htl]
 have hex : (⟨(layS9 y).toArray⟩ : ByteArray).extract 0 U.length = ⟨U.toArray⟩ := by rw [Se.bs_take,hTU,List.take_left]
 have husz : (⟨U.toArray⟩ : ByteArray).size = U.length := bs_size U
 have pk0 := Quo.pickS_nonneg (c := at0) (n := (U.length : Int) + 1) (by omega)
 have pk1 := Quo.pickS_lt (c := at0) (n := (U.length : Int) + 1) (by omega)
 have PK := Lib.hid (fun (u : World) => pick9_any at0 ((U.length : Int) + 1) u a0 a1 (by omega) (by omega))
 generalize Quo.pickS at0 ((U.length : Int) + 1) = m at *
 obtain ⟨k,rfl⟩ := Int.eq_ofNat_of_zero_le pk0
 have hk : k ≤ U.length := by omega
 obtain ⟨n,hn⟩ : ∃ n,U.length = n := ⟨_,rfl⟩
 rw [hn] at hsz hex husz PK hk hlen
 have HEX := Lib.hid hex
 have HN := Lib.hid hn
 clear hex hr hTU hU htl pk0 pk1 hn hx hx'
 generalize (⟨(layS9 y).toArray⟩ : ByteArray) = TS at *
 generalize hus : (⟨U.toArray⟩ : ByteArray) = US at *
 have HUS := Lib.hid hus
 clear hus
 obtain ⟨lm,HLM⟩ : ∃ lm,Hid (more.length = lm) := ⟨_,rfl⟩
 have hM := bs_size more
 rw [HLM.out] at hM hm
 generalize (⟨more.toArray⟩ : ByteArray) = M at *
 have SE1 := Lib.hid (fun (u : World) => Se.seal_l s u (by omega))
 have hT0 : (⟨(Se.sealS s).toArray⟩ : ByteArray).size ≤ 281474976710656 := by rw [bs_size,Se.sealS_len];omega
 generalize (⟨(Se.sealS s).toArray⟩ : ByteArray) = T0 at *
 have hS0 : (⟨s.toArray⟩ : ByteArray).size ≤ 281474976710656 := by rw [bs_size];omega
 generalize (⟨s.toArray⟩ : ByteArray) = SS at *
 obtain ⟨mn,HMN⟩ : ∃ mn : Nat,Hid ((if (n : Int) < (k : Int) + (lm : Int) then (n : Int) else (k : Int) + (lm : Int)) = (mn : Int)) := by
  split
  ·exact ⟨n,rfl⟩
  ·exact ⟨k + lm,by show _ = _;omega⟩
 have hmn : mn ≤ n := by have := HMN.out;split at this <;> omega
 obtain ⟨TM,HTM⟩ : ∃ E,Hid (TS ++ M = E) := ⟨_,rfl⟩
 have hTM : TM.size = n + 9 + lm := by rw [← HTM.out,ByteArray.size_append];omega
 obtain ⟨E1,HE1⟩ : ∃ E1,Hid (US.extract 0 k = E1) := ⟨_,rfl⟩
 have hE1 : E1.size = k := by rw [← HE1.out,ByteArray.size_extract];omega
 obtain ⟨E2,HE2⟩ : ∃ E2,Hid (US.extract mn n = E2) := ⟨_,rfl⟩
 have hE2 : E2.size = n - mn := by rw [← HE2.out,ByteArray.size_extract];omega
 obtain ⟨E3,HE3⟩ : ∃ E3,Hid (E1 ++ M = E3) := ⟨_,rfl⟩
 have hE3 : E3.size = k + lm := by rw [← HE3.out,ByteArray.size_append];omega
 obtain ⟨ZX4,HX4⟩ : ∃ ZX4,Hid (E3 ++ E2 = ZX4) := ⟨_,rfl⟩
 have hX4 : ZX4.size = k + lm + (n - mn) := by rw [← HX4.out,ByteArray.size_append];omega
 obtain ⟨E4,HE4⟩ : ∃ E4,Hid (US.extract k n = E4) := ⟨_,rfl⟩
 have hE4 : E4.size = n - k := by rw [← HE4.out,ByteArray.size_extract];omega
 obtain ⟨ZX5,HX5⟩ : ∃ ZX5,Hid (E3 ++ E4 = ZX5) := ⟨_,rfl⟩
 have hX5 : ZX5.size = k + lm + (n - k) := by rw [← HX5.out,ByteArray.size_append];omega
 obtain ⟨E5,HE5⟩ : ∃ E5,Hid (TS.extract 0 k = E5) := ⟨_,rfl⟩
 have hE5 : E5.size = k := by rw [← HE5.out,ByteArray.size_extract];omega
 have SE2 := Lib.hid (fun (u : World) => Se.seal_any ZX4 u (by omega))
 have SE3 := Lib.hid (fun (u : World) => Se.seal_any ZX5 u (by omega))
 have hT1 : (⟨(Se.sealS ZX4.data.toList).toArray⟩ : ByteArray).size ≤ 281474976710656 := by
  rw [bs_size,Se.sealS_len,Array.length_toList]
  show ZX4.size + 9 ≤ _
  omega
 have hT2 : (⟨(Se.sealS ZX5.data.toList).toArray⟩ : ByteArray).size ≤ 281474976710656 := by
  rw [bs_size,Se.sealS_len,Array.length_toList]
  show ZX5.size + 9 ≤ _
  omega
 generalize (⟨(Se.sealS ZX4.data.toList).toArray⟩ : ByteArray) = T1 at *
 generalize (⟨(Se.sealS ZX5.data.toList).toArray⟩ : ByteArray) = T2 at *
 have G0 : Hid (¬ 9223372036854775807 < n + 9 + lm) := by show ¬ _;omega
 have G1 : Hid (¬ 9223372036854775807 < k + lm) := by show ¬ _;omega
 have G2 : Hid (¬ 9223372036854775807 < k + lm + (n - mn)) := by show ¬ _;omega
 have G5 : Hid (¬ 9223372036854775807 < k + lm + (n - k)) := by show ¬ _;omega
 have W1 : Hid (IntKind.i64.wrap ((k : Int) + (lm : Int)) = (k : Int) + (lm : Int)) := wrap_in9 (by omega) (by omega)
 have HT0 := Lib.hid hT0
 have HT1 := Lib.hid hT1
 have HT2 := Lib.hid hT2
 have HS0 := Lib.hid hS0
 have HSB : Hid (TS.size ≤ 281474976710656 ∧ TM.size ≤ 281474976710656 ∧ E5.size ≤ 281474976710656) := ⟨by omega,by omega,by omega⟩
 clear hT0 hT1 hT2 hS0
 obtain ⟨hd,bo,nm,od,up,lv,nd,sq,dr,ac⟩ := x
 obtain ⟨hd',bo',nm',od',up',lv',nd',sq',dr',ac'⟩ := x'
 obtain ⟨hd1,bo1,nm1,od1,up1,lv1,nd1,sq1,dr1,ac1⟩ := y
 unfold sV sC at *
 simp only at F1 L1 LA RA RL R1 R2 N1 N2
 have B0 := Lib.hid (belowTwo w (.cells #[.int .i64 hd,.int .i64 bo,.string ⟨nm.toArray⟩,.int .i64 od,.int .i64 up,.bool lv,.int .i64 nd,.int .i64 sq,.bool dr,.int .i64 ac] 41) (.cells #[.int .i64 hd',.int .i64 bo',.string ⟨nm'.toArray⟩,.int .i64 od',.int .i64 up',.bool lv',.int .i64 nd',.int .i64 sq',.bool dr',.int .i64 ac'] 41))
 have X0 : Hid (BX9 #[.int .i64 hd,.int .i64 bo,.string ⟨nm.toArray⟩,.int .i64 od,.int .i64 up,.bool lv,.int .i64 nd,.int .i64 sq,.bool dr,.int .i64 ac] w.heap.size ((w.alloc (.cells #[.int .i64 hd,.int .i64 bo,.string ⟨nm.toArray⟩,.int .i64 od,.int .i64 up,.bool lv,.int .i64 nd,.int .i64 sq,.bool dr,.int .i64 ac] 41)).alloc (.cells #[.int .i64 hd',.int .i64 bo',.string ⟨nm'.toArray⟩,.int .i64 od',.int .i64 up',.bool lv',.int .i64 nd',.int .i64 sq',.bool dr',.int .i64 ac'] 41))) := (BX9.new w _).box _
 have Y0 : Hid (BX9 #[.int .i64 hd',.int .i64 bo',.string ⟨nm'.toArray⟩,.int .i64 od',.int .i64 up',.bool lv',.int .i64 nd',.int .i64 sq',.bool dr',.int .i64 ac'] (w.heap.size + 1) ((w.alloc (.cells #[.int .i64 hd,.int .i64 bo,.string ⟨nm.toArray⟩,.int .i64 od,.int .i64 up,.bool lv,.int .i64 nd,.int .i64 sq,.bool dr,.int .i64 ac] 41)).alloc (.cells #[.int .i64 hd',.int .i64 bo',.string ⟨nm'.toArray⟩,.int .i64 od',.int .i64 up',.bool lv',.int .i64 nd',.int .i64 sq',.bool dr',.int .i64 ac'] 41))) := ⟨two_new _ _ _⟩
 go_enter Tryz.func4,Tryz.ntmps4
 go_upto_region 7 with (first
  | (go_at_call 19;(with_reducible refine (A1.out _ B0.out).mono ?_);rintro e1 w1 ⟨rfl,hb1⟩;have B1 := Lib.hid (below_next B0.out hb1);have X1 := Lib.hid (X0.out.below hb1);have Y1 := Lib.hid (Y0.out.below hb1);obtain ⟨x0,x1,x2,x3,x4,x5,x6,x7,x8,x9⟩ := ten_of X1.out.blk;clear hb1)
  | (go_at_call 20;(with_reducible refine (F1.out _).mono ?_);rintro e2 w2 ⟨rfl,hb2⟩;have U2 := Lib.hid (BX9.new w2 #[.int .i64 hd1,.int .i64 bo1,.string ⟨nm1.toArray⟩,.int .i64 od1,.int .i64 up1,.bool lv1,.int .i64 nd1,.int .i64 sq1,.bool dr1,.int .i64 ac1]);have B2 := Lib.hid (below_box (below_next B1.out hb2) (.cells #[.int .i64 hd1,.int .i64 bo1,.string ⟨nm1.toArray⟩,.int .i64 od1,.int .i64 up1,.bool lv1,.int .i64 nd1,.int .i64 sq1,.bool dr1,.int .i64 ac1] 41));have X2 := Lib.hid ((X1.out.below hb2).box (.cells #[.int .i64 hd1,.int .i64 bo1,.string ⟨nm1.toArray⟩,.int .i64 od1,.int .i64 up1,.bool lv1,.int .i64 nd1,.int .i64 sq1,.bool dr1,.int .i64 ac1] 41));have Y2 := Lib.hid ((Y1.out.below hb2).box (.cells #[.int .i64 hd1,.int .i64 bo1,.string ⟨nm1.toArray⟩,.int .i64 od1,.int .i64 up1,.bool lv1,.int .i64 nd1,.int .i64 sq1,.bool dr1,.int .i64 ac1] 41));clear hb2 x0 x1 x2 x3 x4 x5 x6 x7 x8 x9;obtain ⟨x0,x1,x2,x3,x4,x5,x6,x7,x8,x9⟩ := ten_of X2.out.blk)
  | (go_at_call 21;(with_reducible refine (LA.out _ B2.out).mono ?_);rintro e3 w3 ⟨rfl,hb3⟩;have B3 := Lib.hid (below_next B2.out hb3);have X3 := Lib.hid (X2.out.below hb3);have Y3 := Lib.hid (Y2.out.below hb3);have U3 := Lib.hid (U2.out.below hb3);clear hb3 x0 x1 x2 x3 x4 x5 x6 x7 x8 x9;obtain ⟨x0,x1,x2,x3,x4,x5,x6,x7,x8,x9⟩ := ten_of X3.out.blk)
  | (go_at_call 22;(with_reducible refine (RA.out _).mono ?_);rintro e4 w4 ⟨rfl,hb4⟩;have B4 := Lib.hid (below_next B3.out hb4);have X4 := Lib.hid (X3.out.below hb4);have Y4 := Lib.hid (Y3.out.below hb4);have U4 := Lib.hid (U3.out.below hb4);clear hb4 x0 x1 x2 x3 x4 x5 x6 x7 x8 x9;obtain ⟨x0,x1,x2,x3,x4,x5,x6,x7,x8,x9⟩ := ten_of U4.out.blk)
  | (go_at_call 21;(with_reducible refine (L1.out _ B4.out).mono ?_);rintro e5 w5 ⟨rfl,hb5⟩;have B5 := Lib.hid (below_next B4.out hb5);have X5 := Lib.hid (X4.out.below hb5);have Y5 := Lib.hid (Y4.out.below hb5);have U5 := Lib.hid (U4.out.below hb5);clear hb5 x0 x1 x2 x3 x4 x5 x6 x7 x8 x9;obtain ⟨x0,x1,x2,x3,x4,x5,x6,x7,x8,x9⟩ := ten_of U5.out.blk)
  | (go_at_call 22;(with_reducible refine (RL.out _).mono ?_);rintro e6 w6 ⟨rfl,hb6⟩;have B6 := Lib.hid (below_next B5.out hb6);have X6 := Lib.hid (X5.out.below hb6);have Y6 := Lib.hid (Y5.out.below hb6);have U6 := Lib.hid (U5.out.below hb6);clear hb6 x0 x1 x2 x3 x4 x5 x6 x7 x8 x9))
 obtain ⟨x0,x1,x2,x3,x4,x5,x6,x7,x8,x9⟩ := ten_of X6.out.blk
 obtain ⟨g0,g1,g2,g3,g4,g5,g6,g7,g8,g9⟩ := ten_of Y6.out.blk
 have x0' := cell_regrown x0
 have x1' := cell_regrown x1
 have x2' := cell_regrown x2
 have x3' := cell_regrown x3
 have x4' := cell_regrown x4
 have x5' := cell_regrown x5
 have x6' := cell_regrown x6
 have x7' := cell_regrown x7
 have x8' := cell_regrown x8
 have x9' := cell_regrown x9
 have g0' := cell_regrown g0
 have g1' := cell_regrown g1
 have g2' := cell_regrown g2
 have g3' := cell_regrown g3
 have g4' := cell_regrown g4
 have g5' := cell_regrown g5
 have g6' := cell_regrown g6
 have g7' := cell_regrown g7
 have g8' := cell_regrown g8
 have g9' := cell_regrown g9
 clear x0 x1 x2 x3 x4 x5 x6 x7 x8 x9 g0 g1 g2 g3 g4 g5 g6 g7 g8 g9
 have C1 := Lib.hid (fun (dd : Nat) (os : Array Obj) => Calls.regrown_of (w := w6) (d := dd) (os := os) (R1.out _))
 have C2 := Lib.hid (fun (dd : Nat) (os : Array Obj) => Calls.regrown_of (w := w6) (d := dd) (os := os) (R2.out _))
 have C3 := Lib.hid (fun (dd : Nat) (os : Array Obj) => Calls.regrown_of (w := w6) (d := dd) (os := os) (N1.out _))
 have C4 := Lib.hid (fun (dd : Nat) (os : Array Obj) => Calls.regrown_of (w := w6) (d := dd) (os := os) (N2.out _))
 have z1 : (TA.toList != TA.toList) = false := by simp
 have z2 : (ea != ea) = false := by simp
 have z3 : (TS.toList != TS.toList) = false := by simp
 have z4 : (RX != RX) = false := by simp
 have z5 : (NX != NX) = false := by simp
 rename_i K1 A1' K2 A2'
 refine wp_region_quiet_below mixed8 (by kernel_rfl) ?_
 repeat (quiet_step (first | (with_reducible exact C1.out _ _) | (with_reducible exact C2.out _ _) | (with_reducible exact C3.out _ _) | (with_reducible exact C4.out _ _)))
 refine wpQuiet_nil ?_
 intro _ hw'
 obtain ⟨⟨dq,osq⟩,hw''⟩ := hw'
 subst hw''
 have B7 := Lib.hid (B6.out.trans ((below_regrown w6 dq osq).mono B6.out.size))
 clear z1 z2 z3 z4 z5 C1 C2 C3 C4
 have hex := HEX.out
 go_upto_region 11 with (go_at_call 27;(with_reducible refine (PK.out _).mono ?_);rintro e8 w8 ⟨rfl,rfl⟩)
 rename_i K3 A3
 generalize «Sort».grow (redrawn w6 dq) osq = wS at *
 have hk9 : k ≤ n + 9 := by omega
 have hk9' : ((k : Nat) : Int) ≤ ((n : Nat) : Int) + 9 := by omega
 refine wp_region_grow_all mixed8 (fun zs => { tmps := List.toArray (Value.agg #[Value.int IntKind.i64 hd,Value.int IntKind.i64 bo,Value.string ⟨nm.toArray⟩,Value.int IntKind.i64 od,Value.int IntKind.i64 up,Value.bool lv,Value.int IntKind.i64 nd,Value.int IntKind.i64 sq,Value.bool dr,Value.int IntKind.i64 ac] :: Value.agg #[Value.int IntKind.i64 hd',Value.int IntKind.i64 bo',Value.string ⟨nm'.toArray⟩,Value.int IntKind.i64 od',Value.int IntKind.i64 up',Value.bool lv',Value.int IntKind.i64 nd',Value.int IntKind.i64 sq',Value.bool dr',Value.int IntKind.i64 ac'] :: Value.string SS :: Value.int IntKind.i64 at0 :: Value.string M :: Value.pointer (some ⟨w.heap.size,0,none⟩) :: Value.pointer (some ⟨w.heap.size + 1,0,none⟩) :: undef :: undef :: undef :: Value.bool false :: Value.bool true :: Value.pointer (some ⟨w2.heap.size,0,none⟩) :: Value.string TA :: Value.int IntKind.i64 ea :: Value.string TA :: Value.int IntKind.i64 ea :: Value.string TS :: Value.int IntKind.i64 0 :: Value.string TS :: Value.int IntKind.i64 0 :: Value.string US :: Value.int IntKind.i64 ((k : Nat) : Int) :: undef :: undef :: undef :: undef :: undef :: undef :: Value.bool true :: Value.agg #[Value.int IntKind.i64 hd,Value.int IntKind.i64 bo,Value.string ⟨nm.toArray⟩,Value.int IntKind.i64 od,Value.int IntKind.i64 up,Value.bool lv,Value.int IntKind.i64 nd,Value.int IntKind.i64 sq,Value.bool dr,Value.int IntKind.i64 ac] :: Value.agg #[Value.int IntKind.i64 hd1,Value.int IntKind.i64 bo1,Value.string ⟨nm1.toArray⟩,Value.int IntKind.i64 od1,Value.int IntKind.i64 up1,Value.bool lv1,Value.int IntKind.i64 nd1,Value.int IntKind.i64 sq1,Value.bool dr1,Value.int IntKind.i64 ac1] :: Value.tuple #[Value.string TA,Value.int IntKind.i64 ea] :: Value.agg #[Value.int IntKind.i64 hd,Value.int IntKind.i64 bo,Value.string ⟨nm.toArray⟩,Value.int IntKind.i64 od,Value.int IntKind.i64 up,Value.bool lv,Value.int IntKind.i64 nd,Value.int IntKind.i64 sq,Value.bool dr,Value.int IntKind.i64 ac] :: Value.tuple #[Value.string TA,Value.int IntKind.i64 ea] :: Value.string TA :: Value.int IntKind.i64 ea :: Value.tuple #[Value.string TA,Value.int IntKind.i64 ea] :: Value.agg #[Value.int IntKind.i64 hd,Value.int IntKind.i64 bo,Value.string ⟨nm.toArray⟩,Value.int IntKind.i64 od,Value.int IntKind.i64 up,Value.bool lv,Value.int IntKind.i64 nd,Value.int IntKind.i64 sq,Value.bool dr,Value.int IntKind.i64 ac] :: Value.tuple #[Value.string TA,Value.int IntKind.i64 ea] :: Value.string TA :: Value.int IntKind.i64 ea :: Value.tuple #[Value.string TS,Value.int IntKind.i64 0] :: Value.agg #[Value.int IntKind.i64 hd1,Value.int IntKind.i64 bo1,Value.string ⟨nm1.toArray⟩,Value.int IntKind.i64 od1,Value.int IntKind.i64 up1,Value.bool lv1,Value.int IntKind.i64 nd1,Value.int IntKind.i64 sq1,Value.bool dr1,Value.int IntKind.i64 ac1] :: Value.tuple #[Value.string TS,Value.int IntKind.i64 0] :: Value.string TS :: Value.int IntKind.i64 0 :: Value.tuple #[Value.string TS,Value.int IntKind.i64 0] :: Value.agg #[Value.int IntKind.i64 hd1,Value.int IntKind.i64 bo1,Value.string ⟨nm1.toArray⟩,Value.int IntKind.i64 od1,Value.int IntKind.i64 up1,Value.bool lv1,Value.int IntKind.i64 nd1,Value.int IntKind.i64 sq1,Value.bool dr1,Value.int IntKind.i64 ac1] :: Value.tuple #[Value.string TS,Value.int IntKind.i64 0] :: Value.string TS :: Value.int IntKind.i64 0 :: Value.bool true :: Value.bool false :: Value.bool false :: Value.string TA :: Value.string TA :: Value.bool false :: Value.bool false :: Value.bool false :: Value.int IntKind.i64 ea :: Value.int IntKind.i64 ea :: Value.bool false :: Value.bool false :: Value.bool false :: Value.string TS :: Value.string TS :: Value.bool false :: Value.bool false :: Value.bool false :: Value.int IntKind.i64 0 :: Value.int IntKind.i64 0 :: Value.bool false :: Value.bool false :: Value.bool false :: Value.int IntKind.i64 0 :: Value.bool false :: Value.bool false :: Value.bool false :: Value.agg #[Value.int IntKind.i64 hd,Value.int IntKind.i64 bo,Value.string ⟨nm.toArray⟩,Value.int IntKind.i64 od,Value.int IntKind.i64 up,Value.bool lv,Value.int IntKind.i64 nd,Value.int IntKind.i64 sq,Value.bool dr,Value.int IntKind.i64 ac] :: Value.bool RX :: Value.agg #[Value.int IntKind.i64 hd,Value.int IntKind.i64 bo,Value.string ⟨nm.toArray⟩,Value.int IntKind.i64 od,Value.int IntKind.i64 up,Value.bool lv,Value.int IntKind.i64 nd,Value.int IntKind.i64 sq,Value.bool dr,Value.int IntKind.i64 ac] :: Value.bool RX :: Value.bool false :: Value.bool false :: Value.bool false :: Value.agg #[Value.int IntKind.i64 hd,Value.int IntKind.i64 bo,Value.string ⟨nm.toArray⟩,Value.int IntKind.i64 od,Value.int IntKind.i64 up,Value.bool lv,Value.int IntKind.i64 nd,Value.int IntKind.i64 sq,Value.bool dr,Value.int IntKind.i64 ac] :: Value.agg #[Value.int IntKind.i64 hd',Value.int IntKind.i64 bo',Value.string ⟨nm'.toArray⟩,Value.int IntKind.i64 od',Value.int IntKind.i64 up',Value.bool lv',Value.int IntKind.i64 nd',Value.int IntKind.i64 sq',Value.bool dr',Value.int IntKind.i64 ac'] :: Value.bool NX :: Value.agg #[Value.int IntKind.i64 hd,Value.int IntKind.i64 bo,Value.string ⟨nm.toArray⟩,Value.int IntKind.i64 od,Value.int IntKind.i64 up,Value.bool lv,Value.int IntKind.i64 nd,Value.int IntKind.i64 sq,Value.bool dr,Value.int IntKind.i64 ac] :: Value.agg #[Value.int IntKind.i64 hd',Value.int IntKind.i64 bo',Value.string ⟨nm'.toArray⟩,Value.int IntKind.i64 od',Value.int IntKind.i64 up',Value.bool lv',Value.int IntKind.i64 nd',Value.int IntKind.i64 sq',Value.bool dr',Value.int IntKind.i64 ac'] :: Value.bool NX :: Value.bool false :: Value.bool false :: Value.string TS :: Value.string TS :: Value.int IntKind.i64 (((n : Nat) : Int) + 9) :: Value.int IntKind.i64 ((n : Nat) : Int) :: Value.string US :: Value.int IntKind.i64 at0 :: Value.string US :: Value.int IntKind.i64 ((n : Nat) : Int) :: Value.int IntKind.i64 (((n : Nat) : Int) + 1) :: Value.int IntKind.i64 ((k : Nat) : Int) :: zs.getD 0 undef :: zs.getD 1 undef :: zs.getD 2 undef :: zs.getD 3 undef :: zs.getD 4 undef :: zs.getD 5 undef :: zs.getD 6 undef :: zs.getD 7 undef :: zs.getD 8 undef :: zs.getD 9 undef :: zs.getD 10 undef :: zs.getD 11 undef :: zs.getD 12 undef :: zs.getD 13 undef :: zs.getD 14 undef :: zs.getD 15 undef :: zs.getD 16 undef :: zs.getD 17 undef :: zs.getD 18 undef :: zs.getD 19 undef :: zs.getD 20 undef :: zs.getD 21 undef :: zs.getD 22 undef :: zs.getD 23 undef :: zs.getD 24 undef :: zs.getD 25 undef :: zs.getD 26 undef :: zs.getD 27 undef :: zs.getD 28 undef :: zs.getD 29 undef :: zs.getD 30 undef :: zs.getD 31 undef :: zs.getD 32 undef :: zs.getD 33 undef :: zs.getD 34 undef :: zs.getD 35 undef :: zs.getD 36 undef :: zs.getD 37 undef :: zs.getD 38 undef :: undef :: undef :: undef :: undef :: undef :: undef :: undef :: undef :: undef :: undef :: undef :: undef :: undef :: undef :: undef :: undef :: undef :: undef :: undef :: undef :: undef :: undef :: []),defers := [] }) [(fun z _ => z = Value.string SS),(fun z _ => z = Value.string SS),(fun z _ => z = Value.string T0),(fun z _ => z = Value.string TS),(fun z _ => z = Value.string TS),(fun z _ => z = Value.string M),(fun z _ => z = Value.string TM),(fun z _ => z = Value.string US),(fun z _ => z = Value.int .i64 (((k : Nat) : Int))),(fun z _ => z = Value.string E1),(fun z _ => z = Value.string M),(fun z _ => z = Value.string E3),(fun z _ => z = Value.string US),(fun z _ => z = Value.int .i64 (((k : Nat) : Int))),(fun z _ => z = Value.string M),(fun z _ => z = Value.int .i64 (((lm : Nat) : Int))),(fun z _ => z = Value.int .i64 (((k : Nat) : Int) + ((lm : Nat) : Int))),(fun z _ => z = Value.string US),(fun z _ => z = Value.int .i64 (((n : Nat) : Int))),(fun z _ => z = Value.int .i64 (((mn : Nat) : Int))),(fun z _ => z = Value.string E2),(fun z _ => z = Value.string ZX4),(fun z _ => z = Value.string T1),(fun z _ => z = Value.string US),(fun z _ => z = Value.int .i64 (((k : Nat) : Int))),(fun z _ => z = Value.string E1),(fun z _ => z = Value.string M),(fun z _ => z = Value.string E3),(fun z _ => z = Value.string US),(fun z _ => z = Value.int .i64 (((k : Nat) : Int))),(fun z _ => z = Value.string E4),(fun z _ => z = Value.string ZX5),(fun z _ => z = Value.string T2),(fun z _ => z = Value.string TS),(fun z _ => z = Value.int .i64 (((k : Nat) : Int))),(fun z _ => z = Value.string E5),(SevV SS T0 TS TM T1 T2 E5),(fun z _ => z = Value.int .i64 (7)),(fun z _ => z = Value.int .i64 (0))] (List.replicate 39 undef) rfl rfl rfl ?_ (by kernel_rfl) ?_ ?_
 ·intro p hp
  simp only [List.mem_cons,List.not_mem_nil,or_false] at hp
  rcases hp with rfl | rfl | rfl | rfl | rfl | rfl | rfl | rfl | rfl | rfl | rfl | rfl | rfl | rfl | rfl | rfl | rfl | rfl | rfl | rfl | rfl | rfl | rfl | rfl | rfl | rfl | rfl | rfl | rfl | rfl | rfl | rfl | rfl | rfl | rfl | rfl | rfl | rfl | rfl
  all_goals first | exact stable_eq _ | exact SevV.stable _ _ _ _ _ _ _
 ·clear A3 F1 A1 L1 PK hex HEX LA RA RL R1 R2 N1 N2
  intro i hi zs l wz o hz hF ho hpre
  have hi' : i < 39 := hi
  match zs,(show zs.length = 39 from hz) with
  | z0 :: z1 :: z2 :: z3 :: z4 :: z5 :: z6 :: z7 :: z8 :: z9 :: z10 :: z11 :: z12 :: z13 :: z14 :: z15 :: z16 :: z17 :: z18 :: z19 :: z20 :: z21 :: z22 :: z23 :: z24 :: z25 :: z26 :: z27 :: z28 :: z29 :: z30 :: z31 :: z32 :: z33 :: z34 :: z35 :: z36 :: z37 :: z38 :: [],_ =>
    clear hz hi
    change wpOp _ _ _ _ _ { tmps := List.toArray (Value.agg #[Value.int IntKind.i64 hd,Value.int IntKind.i64 bo,Value.string ⟨nm.toArray⟩,Value.int IntKind.i64 od,Value.int IntKind.i64 up,Value.bool lv,Value.int IntKind.i64 nd,Value.int IntKind.i64 sq,Value.bool dr,Value.int IntKind.i64 ac] :: Value.agg #[Value.int IntKind.i64 hd',Value.int IntKind.i64 bo',Value.string ⟨nm'.toArray⟩,Value.int IntKind.i64 od',Value.int IntKind.i64 up',Value.bool lv',Value.int IntKind.i64 nd',Value.int IntKind.i64 sq',Value.bool dr',Value.int IntKind.i64 ac'] :: Value.string SS :: Value.int IntKind.i64 at0 :: Value.string M :: Value.pointer (some ⟨w.heap.size,0,none⟩) :: Value.pointer (some ⟨w.heap.size + 1,0,none⟩) :: undef :: undef :: undef :: Value.bool false :: Value.bool true :: Value.pointer (some ⟨w2.heap.size,0,none⟩) :: Value.string TA :: Value.int IntKind.i64 ea :: Value.string TA :: Value.int IntKind.i64 ea :: Value.string TS :: Value.int IntKind.i64 0 :: Value.string TS :: Value.int IntKind.i64 0 :: Value.string US :: Value.int IntKind.i64 ((k : Nat) : Int) :: undef :: undef :: undef :: undef :: undef :: undef :: Value.bool true :: Value.agg #[Value.int IntKind.i64 hd,Value.int IntKind.i64 bo,Value.string ⟨nm.toArray⟩,Value.int IntKind.i64 od,Value.int IntKind.i64 up,Value.bool lv,Value.int IntKind.i64 nd,Value.int IntKind.i64 sq,Value.bool dr,Value.int IntKind.i64 ac] :: Value.agg #[Value.int IntKind.i64 hd1,Value.int IntKind.i64 bo1,Value.string ⟨nm1.toArray⟩,Value.int IntKind.i64 od1,Value.int IntKind.i64 up1,Value.bool lv1,Value.int IntKind.i64 nd1,Value.int IntKind.i64 sq1,Value.bool dr1,Value.int IntKind.i64 ac1] :: Value.tuple #[Value.string TA,Value.int IntKind.i64 ea] :: Value.agg #[Value.int IntKind.i64 hd,Value.int IntKind.i64 bo,Value.string ⟨nm.toArray⟩,Value.int IntKind.i64 od,Value.int IntKind.i64 up,Value.bool lv,Value.int IntKind.i64 nd,Value.int IntKind.i64 sq,Value.bool dr,Value.int IntKind.i64 ac] :: Value.tuple #[Value.string TA,Value.int IntKind.i64 ea] :: Value.string TA :: Value.int IntKind.i64 ea :: Value.tuple #[Value.string TA,Value.int IntKind.i64 ea] :: Value.agg #[Value.int IntKind.i64 hd,Value.int IntKind.i64 bo,Value.string ⟨nm.toArray⟩,Value.int IntKind.i64 od,Value.int IntKind.i64 up,Value.bool lv,Value.int IntKind.i64 nd,Value.int IntKind.i64 sq,Value.bool dr,Value.int IntKind.i64 ac] :: Value.tuple #[Value.string TA,Value.int IntKind.i64 ea] :: Value.string TA :: Value.int IntKind.i64 ea :: Value.tuple #[Value.string TS,Value.int IntKind.i64 0] :: Value.agg #[Value.int IntKind.i64 hd1,Value.int IntKind.i64 bo1,Value.string ⟨nm1.toArray⟩,Value.int IntKind.i64 od1,Value.int IntKind.i64 up1,Value.bool lv1,Value.int IntKind.i64 nd1,Value.int IntKind.i64 sq1,Value.bool dr1,Value.int IntKind.i64 ac1] :: Value.tuple #[Value.string TS,Value.int IntKind.i64 0] :: Value.string TS :: Value.int IntKind.i64 0 :: Value.tuple #[Value.string TS,Value.int IntKind.i64 0] :: Value.agg #[Value.int IntKind.i64 hd1,Value.int IntKind.i64 bo1,Value.string ⟨nm1.toArray⟩,Value.int IntKind.i64 od1,Value.int IntKind.i64 up1,Value.bool lv1,Value.int IntKind.i64 nd1,Value.int IntKind.i64 sq1,Value.bool dr1,Value.int IntKind.i64 ac1] :: Value.tuple #[Value.string TS,Value.int IntKind.i64 0] :: Value.string TS :: Value.int IntKind.i64 0 :: Value.bool true :: Value.bool false :: Value.bool false :: Value.string TA :: Value.string TA :: Value.bool false :: Value.bool false :: Value.bool false :: Value.int IntKind.i64 ea :: Value.int IntKind.i64 ea :: Value.bool false :: Value.bool false :: Value.bool false :: Value.string TS :: Value.string TS :: Value.bool false :: Value.bool false :: Value.bool false :: Value.int IntKind.i64 0 :: Value.int IntKind.i64 0 :: Value.bool false :: Value.bool false :: Value.bool false :: Value.int IntKind.i64 0 :: Value.bool false :: Value.bool false :: Value.bool false :: Value.agg #[Value.int IntKind.i64 hd,Value.int IntKind.i64 bo,Value.string ⟨nm.toArray⟩,Value.int IntKind.i64 od,Value.int IntKind.i64 up,Value.bool lv,Value.int IntKind.i64 nd,Value.int IntKind.i64 sq,Value.bool dr,Value.int IntKind.i64 ac] :: Value.bool RX :: Value.agg #[Value.int IntKind.i64 hd,Value.int IntKind.i64 bo,Value.string ⟨nm.toArray⟩,Value.int IntKind.i64 od,Value.int IntKind.i64 up,Value.bool lv,Value.int IntKind.i64 nd,Value.int IntKind.i64 sq,Value.bool dr,Value.int IntKind.i64 ac] :: Value.bool RX :: Value.bool false :: Value.bool false :: Value.bool false :: Value.agg #[Value.int IntKind.i64 hd,Value.int IntKind.i64 bo,Value.string ⟨nm.toArray⟩,Value.int IntKind.i64 od,Value.int IntKind.i64 up,Value.bool lv,Value.int IntKind.i64 nd,Value.int IntKind.i64 sq,Value.bool dr,Value.int IntKind.i64 ac] :: Value.agg #[Value.int IntKind.i64 hd',Value.int IntKind.i64 bo',Value.string ⟨nm'.toArray⟩,Value.int IntKind.i64 od',Value.int IntKind.i64 up',Value.bool lv',Value.int IntKind.i64 nd',Value.int IntKind.i64 sq',Value.bool dr',Value.int IntKind.i64 ac'] :: Value.bool NX :: Value.agg #[Value.int IntKind.i64 hd,Value.int IntKind.i64 bo,Value.string ⟨nm.toArray⟩,Value.int IntKind.i64 od,Value.int IntKind.i64 up,Value.bool lv,Value.int IntKind.i64 nd,Value.int IntKind.i64 sq,Value.bool dr,Value.int IntKind.i64 ac] :: Value.agg #[Value.int IntKind.i64 hd',Value.int IntKind.i64 bo',Value.string ⟨nm'.toArray⟩,Value.int IntKind.i64 od',Value.int IntKind.i64 up',Value.bool lv',Value.int IntKind.i64 nd',Value.int IntKind.i64 sq',Value.bool dr',Value.int IntKind.i64 ac'] :: Value.bool NX :: Value.bool false :: Value.bool false :: Value.string TS :: Value.string TS :: Value.int IntKind.i64 (((n : Nat) : Int) + 9) :: Value.int IntKind.i64 ((n : Nat) : Int) :: Value.string US :: Value.int IntKind.i64 at0 :: Value.string US :: Value.int IntKind.i64 ((n : Nat) : Int) :: Value.int IntKind.i64 (((n : Nat) : Int) + 1) :: Value.int IntKind.i64 ((k : Nat) : Int) :: z0 :: z1 :: z2 :: z3 :: z4 :: z5 :: z6 :: z7 :: z8 :: z9 :: z10 :: z11 :: z12 :: z13 :: z14 :: z15 :: z16 :: z17 :: z18 :: z19 :: z20 :: z21 :: z22 :: z23 :: z24 :: z25 :: z26 :: z27 :: z28 :: z29 :: z30 :: z31 :: z32 :: z33 :: z34 :: z35 :: z36 :: z37 :: z38 :: undef :: undef :: undef :: undef :: undef :: undef :: undef :: undef :: undef :: undef :: undef :: undef :: undef :: undef :: undef :: undef :: undef :: undef :: undef :: undef :: undef :: undef :: []),defers := [] } _
    have hc : i = 0 ∨ i = 1 ∨ i = 2 ∨ i = 3 ∨ i = 4 ∨ i = 5 ∨ i = 6 ∨ i = 7 ∨ i = 8 ∨ i = 9 ∨ i = 10 ∨ i = 11 ∨ i = 12 ∨ i = 13 ∨ i = 14 ∨ i = 15 ∨ i = 16 ∨ i = 17 ∨ i = 18 ∨ i = 19 ∨ i = 20 ∨ i = 21 ∨ i = 22 ∨ i = 23 ∨ i = 24 ∨ i = 25 ∨ i = 26 ∨ i = 27 ∨ i = 28 ∨ i = 29 ∨ i = 30 ∨ i = 31 ∨ i = 32 ∨ i = 33 ∨ i = 34 ∨ i = 35 ∨ i = 36 ∨ i = 37 ∨ i = 38 := by omega
    clear hi'
    rcases hc with rfl | rfl | rfl | rfl | rfl | rfl | rfl | rfl | rfl | rfl | rfl | rfl | rfl | rfl | rfl | rfl | rfl | rfl | rfl | rfl | rfl | rfl | rfl | rfl | rfl | rfl | rfl | rfl | rfl | rfl | rfl | rfl | rfl | rfl | rfl | rfl | rfl | rfl | rfl
    ·clear ho hpre
     refine wpOp_here rfl (fun K' hK => ?_)
     go_simp
     exact hK _ _ ⟨_,rfl,Below.refl _ _,fun p hp => by cases (show some (fun z _ => z = Value.string SS) = some p from hp);exact rfl⟩
    ·clear ho hpre
     refine wpOp_here rfl (fun K' hK => ?_)
     go_simp
     exact hK _ _ ⟨_,rfl,Below.refl _ _,fun p hp => by cases (show some (fun z _ => z = Value.string SS) = some p from hp);exact rfl⟩
    ·have p1 := hF.fact 1 _ _ rfl rfl (hpre ⟨1,.data⟩ (by cases ho;simp) rfl)
     subst p1
     clear ho hpre
     refine wpOp_here rfl (fun K' hK => ?_)
     go_simp
     refine (SE1.out _).mono ?_
     rintro e6 w6' ⟨rfl,hb6⟩
     exact hK _ _ ⟨_,rfl,hb6,fun p hp => by cases (show some (fun z _ => z = Value.string T0) = some p from hp);exact rfl⟩
    ·clear ho hpre
     refine wpOp_here rfl (fun K' hK => ?_)
     go_simp
     exact hK _ _ ⟨_,rfl,Below.refl _ _,fun p hp => by cases (show some (fun z _ => z = Value.string TS) = some p from hp);exact rfl⟩
    ·clear ho hpre
     refine wpOp_here rfl (fun K' hK => ?_)
     go_simp
     exact hK _ _ ⟨_,rfl,Below.refl _ _,fun p hp => by cases (show some (fun z _ => z = Value.string TS) = some p from hp);exact rfl⟩
    ·clear ho hpre
     refine wpOp_here rfl (fun K' hK => ?_)
     go_simp
     exact hK _ _ ⟨_,rfl,Below.refl _ _,fun p hp => by cases (show some (fun z _ => z = Value.string M) = some p from hp);exact rfl⟩
    ·have p4 := hF.fact 4 _ _ rfl rfl (hpre ⟨4,.data⟩ (by cases ho;simp) rfl)
     subst p4
     have p5 := hF.fact 5 _ _ rfl rfl (hpre ⟨5,.data⟩ (by cases ho;simp) rfl)
     subst p5
     clear ho hpre
     refine wpOp_here rfl (fun K' hK => ?_)
     go_simp
     rw [HTM.out,if_neg G0.out]
     go_simp
     exact hK _ _ ⟨_,rfl,Below.refl _ _,fun p hp => by cases (show some (fun z _ => z = Value.string TM) = some p from hp);exact rfl⟩
    ·clear ho hpre
     refine wpOp_here rfl (fun K' hK => ?_)
     go_simp
     exact hK _ _ ⟨_,rfl,Below.refl _ _,fun p hp => by cases (show some (fun z _ => z = Value.string US) = some p from hp);exact rfl⟩
    ·clear ho hpre
     refine wpOp_here rfl (fun K' hK => ?_)
     go_simp
     exact hK _ _ ⟨_,rfl,Below.refl _ _,fun p hp => by cases (show some (fun z _ => z = Value.int .i64 (((k : Nat) : Int))) = some p from hp);exact rfl⟩
    ·have p7 := hF.fact 7 _ _ rfl rfl (hpre ⟨7,.data⟩ (by cases ho;simp) rfl)
     subst p7
     have p8 := hF.fact 8 _ _ rfl rfl (hpre ⟨8,.data⟩ (by cases ho;simp) rfl)
     subst p8
     clear ho hpre
     refine wpOp_here rfl (fun K' hK => ?_)
     go_simp
     rw [HE1.out]
     exact hK _ _ ⟨_,rfl,Below.refl _ _,fun p hp => by cases (show some (fun z _ => z = Value.string E1) = some p from hp);exact rfl⟩
    ·clear ho hpre
     refine wpOp_here rfl (fun K' hK => ?_)
     go_simp
     exact hK _ _ ⟨_,rfl,Below.refl _ _,fun p hp => by cases (show some (fun z _ => z = Value.string M) = some p from hp);exact rfl⟩
    ·have p9 := hF.fact 9 _ _ rfl rfl (hpre ⟨9,.data⟩ (by cases ho;simp) rfl)
     subst p9
     have p10 := hF.fact 10 _ _ rfl rfl (hpre ⟨10,.data⟩ (by cases ho;simp) rfl)
     subst p10
     clear ho hpre
     refine wpOp_here rfl (fun K' hK => ?_)
     go_simp
     rw [HE3.out,if_neg G1.out]
     go_simp
     exact hK _ _ ⟨_,rfl,Below.refl _ _,fun p hp => by cases (show some (fun z _ => z = Value.string E3) = some p from hp);exact rfl⟩
    ·clear ho hpre
     refine wpOp_here rfl (fun K' hK => ?_)
     go_simp
     exact hK _ _ ⟨_,rfl,Below.refl _ _,fun p hp => by cases (show some (fun z _ => z = Value.string US) = some p from hp);exact rfl⟩
    ·clear ho hpre
     refine wpOp_here rfl (fun K' hK => ?_)
     go_simp
     exact hK _ _ ⟨_,rfl,Below.refl _ _,fun p hp => by cases (show some (fun z _ => z = Value.int .i64 (((k : Nat) : Int))) = some p from hp);exact rfl⟩
    ·clear ho hpre
     refine wpOp_here rfl (fun K' hK => ?_)
     go_simp
     exact hK _ _ ⟨_,rfl,Below.refl _ _,fun p hp => by cases (show some (fun z _ => z = Value.string M) = some p from hp);exact rfl⟩
    ·have p14 := hF.fact 14 _ _ rfl rfl (hpre ⟨14,.data⟩ (by cases ho;simp) rfl)
     subst p14
     clear ho hpre
     refine wpOp_here rfl (fun K' hK => ?_)
     go_simp
     exact hK _ _ ⟨_,rfl,Below.refl _ _,fun p hp => by cases (show some (fun z _ => z = Value.int .i64 (((lm : Nat) : Int))) = some p from hp);exact rfl⟩
    ·have p13 := hF.fact 13 _ _ rfl rfl (hpre ⟨13,.data⟩ (by cases ho;simp) rfl)
     subst p13
     have p15 := hF.fact 15 _ _ rfl rfl (hpre ⟨15,.data⟩ (by cases ho;simp) rfl)
     subst p15
     clear ho hpre
     refine wpOp_here rfl (fun K' hK => ?_)
     go_simp
     rw [W1.out]
     exact hK _ _ ⟨_,rfl,Below.refl _ _,fun p hp => by cases (show some (fun z _ => z = Value.int .i64 (((k : Nat) : Int) + ((lm : Nat) : Int))) = some p from hp);exact rfl⟩
    ·clear ho hpre
     refine wpOp_here rfl (fun K' hK => ?_)
     go_simp
     exact hK _ _ ⟨_,rfl,Below.refl _ _,fun p hp => by cases (show some (fun z _ => z = Value.string US) = some p from hp);exact rfl⟩
    ·have p17 := hF.fact 17 _ _ rfl rfl (hpre ⟨17,.data⟩ (by cases ho;simp) rfl)
     subst p17
     clear ho hpre
     refine wpOp_here rfl (fun K' hK => ?_)
     go_simp
     exact hK _ _ ⟨_,rfl,Below.refl _ _,fun p hp => by cases (show some (fun z _ => z = Value.int .i64 (((n : Nat) : Int))) = some p from hp);exact rfl⟩
    ·have p16 := hF.fact 16 _ _ rfl rfl (hpre ⟨16,.data⟩ (by cases ho;simp) rfl)
     subst p16
     have p18 := hF.fact 18 _ _ rfl rfl (hpre ⟨18,.data⟩ (by cases ho;simp) rfl)
     subst p18
     clear ho hpre
     refine wpOp_here rfl (fun K' hK => ?_)
     go_simp
     exact hK _ _ ⟨_,rfl,Below.refl _ _,fun p hp => by cases (show some (fun z _ => z = Value.int .i64 (((mn : Nat) : Int))) = some p from hp);exact congrArg (Value.int .i64) (by have := HMN.out;split at this <;> omega)⟩
    ·have p12 := hF.fact 12 _ _ rfl rfl (hpre ⟨12,.data⟩ (by cases ho;simp) rfl)
     subst p12
     have p19 := hF.fact 19 _ _ rfl rfl (hpre ⟨19,.data⟩ (by cases ho;simp) rfl)
     subst p19
     clear ho hpre
     refine wpOp_here rfl (fun K' hK => ?_)
     go_simp
     rw [HE2.out]
     exact hK _ _ ⟨_,rfl,Below.refl _ _,fun p hp => by cases (show some (fun z _ => z = Value.string E2) = some p from hp);exact rfl⟩
    ·have p11 := hF.fact 11 _ _ rfl rfl (hpre ⟨11,.data⟩ (by cases ho;simp) rfl)
     subst p11
     have p20 := hF.fact 20 _ _ rfl rfl (hpre ⟨20,.data⟩ (by cases ho;simp) rfl)
     subst p20
     clear ho hpre
     refine wpOp_here rfl (fun K' hK => ?_)
     go_simp
     rw [HX4.out,if_neg G2.out]
     go_simp
     exact hK _ _ ⟨_,rfl,Below.refl _ _,fun p hp => by cases (show some (fun z _ => z = Value.string ZX4) = some p from hp);exact rfl⟩
    ·have p21 := hF.fact 21 _ _ rfl rfl (hpre ⟨21,.data⟩ (by cases ho;simp) rfl)
     subst p21
     clear ho hpre
     refine wpOp_here rfl (fun K' hK => ?_)
     go_simp
     refine (SE2.out _).mono ?_
     rintro e6 w6' ⟨rfl,hb6⟩
     exact hK _ _ ⟨_,rfl,hb6,fun p hp => by cases (show some (fun z _ => z = Value.string T1) = some p from hp);exact rfl⟩
    ·clear ho hpre
     refine wpOp_here rfl (fun K' hK => ?_)
     go_simp
     exact hK _ _ ⟨_,rfl,Below.refl _ _,fun p hp => by cases (show some (fun z _ => z = Value.string US) = some p from hp);exact rfl⟩
    ·clear ho hpre
     refine wpOp_here rfl (fun K' hK => ?_)
     go_simp
     exact hK _ _ ⟨_,rfl,Below.refl _ _,fun p hp => by cases (show some (fun z _ => z = Value.int .i64 (((k : Nat) : Int))) = some p from hp);exact rfl⟩
    ·have p23 := hF.fact 23 _ _ rfl rfl (hpre ⟨23,.data⟩ (by cases ho;simp) rfl)
     subst p23
     have p24 := hF.fact 24 _ _ rfl rfl (hpre ⟨24,.data⟩ (by cases ho;simp) rfl)
     subst p24
     clear ho hpre
     refine wpOp_here rfl (fun K' hK => ?_)
     go_simp
     rw [HE1.out]
     exact hK _ _ ⟨_,rfl,Below.refl _ _,fun p hp => by cases (show some (fun z _ => z = Value.string E1) = some p from hp);exact rfl⟩
    ·clear ho hpre
     refine wpOp_here rfl (fun K' hK => ?_)
     go_simp
     exact hK _ _ ⟨_,rfl,Below.refl _ _,fun p hp => by cases (show some (fun z _ => z = Value.string M) = some p from hp);exact rfl⟩
    ·have p25 := hF.fact 25 _ _ rfl rfl (hpre ⟨25,.data⟩ (by cases ho;simp) rfl)
     subst p25
     have p26 := hF.fact 26 _ _ rfl rfl (hpre ⟨26,.data⟩ (by cases ho;simp) rfl)
     subst p26
     clear ho hpre
     refine wpOp_here rfl (fun K' hK => ?_)
     go_simp
     rw [HE3.out,if_neg G1.out]
     go_simp
     exact hK _ _ ⟨_,rfl,Below.refl _ _,fun p hp => by cases (show some (fun z _ => z = Value.string E3) = some p from hp);exact rfl⟩
    ·clear ho hpre
     refine wpOp_here rfl (fun K' hK => ?_)
     go_simp
     exact hK _ _ ⟨_,rfl,Below.refl _ _,fun p hp => by cases (show some (fun z _ => z = Value.string US) = some p from hp);exact rfl⟩
    ·clear ho hpre
     refine wpOp_here rfl (fun K' hK => ?_)
     go_simp
     exact hK _ _ ⟨_,rfl,Below.refl _ _,fun p hp => by cases (show some (fun z _ => z = Value.int .i64 (((k : Nat) : Int))) = some p from hp);exact rfl⟩
    ·have p28 := hF.fact 28 _ _ rfl rfl (hpre ⟨28,.data⟩ (by cases ho;simp) rfl)
     subst p28
     have p29 := hF.fact 29 _ _ rfl rfl (hpre ⟨29,.data⟩ (by cases ho;simp) rfl)
     subst p29
     clear ho hpre
     refine wpOp_here rfl (fun K' hK => ?_)
     go_simp
     rw [HE4.out]
     exact hK _ _ ⟨_,rfl,Below.refl _ _,fun p hp => by cases (show some (fun z _ => z = Value.string E4) = some p from hp);exact rfl⟩
    ·have p27 := hF.fact 27 _ _ rfl rfl (hpre ⟨27,.data⟩ (by cases ho;simp) rfl)
     subst p27
     have p30 := hF.fact 30 _ _ rfl rfl (hpre ⟨30,.data⟩ (by cases ho;simp) rfl)
     subst p30
     clear ho hpre
     refine wpOp_here rfl (fun K' hK => ?_)
     go_simp
     rw [HX5.out,if_neg G5.out]
     go_simp
     exact hK _ _ ⟨_,rfl,Below.refl _ _,fun p hp => by cases (show some (fun z _ => z = Value.string ZX5) = some p from hp);exact rfl⟩
    ·have p31 := hF.fact 31 _ _ rfl rfl (hpre ⟨31,.data⟩ (by cases ho;simp) rfl)
     subst p31
     clear ho hpre
     refine wpOp_here rfl (fun K' hK => ?_)
     go_simp
     refine (SE3.out _).mono ?_
     rintro e6 w6' ⟨rfl,hb6⟩
     exact hK _ _ ⟨_,rfl,hb6,fun p hp => by cases (show some (fun z _ => z = Value.string T2) = some p from hp);exact rfl⟩
    ·clear ho hpre
     refine wpOp_here rfl (fun K' hK => ?_)
     go_simp
     exact hK _ _ ⟨_,rfl,Below.refl _ _,fun p hp => by cases (show some (fun z _ => z = Value.string TS) = some p from hp);exact rfl⟩
    ·clear ho hpre
     refine wpOp_here rfl (fun K' hK => ?_)
     go_simp
     exact hK _ _ ⟨_,rfl,Below.refl _ _,fun p hp => by cases (show some (fun z _ => z = Value.int .i64 (((k : Nat) : Int))) = some p from hp);exact rfl⟩
    ·have p33 := hF.fact 33 _ _ rfl rfl (hpre ⟨33,.data⟩ (by cases ho;simp) rfl)
     subst p33
     have p34 := hF.fact 34 _ _ rfl rfl (hpre ⟨34,.data⟩ (by cases ho;simp) rfl)
     subst p34
     clear ho hpre
     refine wpOp_here rfl (fun K' hK => ?_)
     go_simp
     rw [HE5.out]
     exact hK _ _ ⟨_,rfl,Below.refl _ _,fun p hp => by cases (show some (fun z _ => z = Value.string E5) = some p from hp);exact rfl⟩
    ·have p0 := hF.fact 0 _ _ rfl rfl (hpre ⟨0,.data⟩ (by cases ho;simp) rfl)
     subst p0
     have p2 := hF.fact 2 _ _ rfl rfl (hpre ⟨2,.data⟩ (by cases ho;simp) rfl)
     subst p2
     have p3 := hF.fact 3 _ _ rfl rfl (hpre ⟨3,.data⟩ (by cases ho;simp) rfl)
     subst p3
     have p6 := hF.fact 6 _ _ rfl rfl (hpre ⟨6,.data⟩ (by cases ho;simp) rfl)
     subst p6
     have p22 := hF.fact 22 _ _ rfl rfl (hpre ⟨22,.data⟩ (by cases ho;simp) rfl)
     subst p22
     have p32 := hF.fact 32 _ _ rfl rfl (hpre ⟨32,.data⟩ (by cases ho;simp) rfl)
     subst p32
     have p35 := hF.fact 35 _ _ rfl rfl (hpre ⟨35,.data⟩ (by cases ho;simp) rfl)
     subst p35
     clear ho hpre
     refine wpOp_here rfl (fun K' hK => ?_)
     go_simp
     exact hK _ _ ⟨_,rfl,belowOne _ _,fun p hp => by cases (show some (SevV SS T0 TS TM T1 T2 E5) = some p from hp);exact ⟨_,rfl,heap_alloc_new _ _⟩⟩
    ·obtain ⟨b6,rfl,hb6⟩ := hF.fact 36 _ _ rfl rfl (hpre ⟨36,.data⟩ (by cases ho;simp) rfl)
     clear ho hpre
     refine wpOp_here rfl (fun K' hK => ?_)
     go_simp
     exact hK _ _ ⟨_,rfl,Below.refl _ _,fun p hp => by cases (show some (fun z _ => z = Value.int .i64 (7)) = some p from hp);exact rfl⟩
    ·clear ho hpre
     refine wpOp_here rfl (fun K' hK => ?_)
     go_simp
     exact hK _ _ ⟨_,rfl,Below.refl _ _,fun p hp => by cases (show some (fun z _ => z = Value.int .i64 (0)) = some p from hp);exact rfl⟩
 ·intro zs wz hz hB hev
  match zs,(show zs.length = 39 from hz) with
  | z0 :: z1 :: z2 :: z3 :: z4 :: z5 :: z6 :: z7 :: z8 :: z9 :: z10 :: z11 :: z12 :: z13 :: z14 :: z15 :: z16 :: z17 :: z18 :: z19 :: z20 :: z21 :: z22 :: z23 :: z24 :: z25 :: z26 :: z27 :: z28 :: z29 :: z30 :: z31 :: z32 :: z33 :: z34 :: z35 :: z36 :: z37 :: z38 :: [],_ =>
    obtain ⟨b6,e36,hb6⟩ := hev 36 _ _ rfl rfl
    have e37 := hev 37 _ _ rfl rfl
    have e38 := hev 38 _ _ rfl rfl
    clear hev hz
    refine A3 _ _ ?_
    change Code.wp _ _ _ { tmps := List.toArray (Value.agg #[Value.int IntKind.i64 hd,Value.int IntKind.i64 bo,Value.string ⟨nm.toArray⟩,Value.int IntKind.i64 od,Value.int IntKind.i64 up,Value.bool lv,Value.int IntKind.i64 nd,Value.int IntKind.i64 sq,Value.bool dr,Value.int IntKind.i64 ac] :: Value.agg #[Value.int IntKind.i64 hd',Value.int IntKind.i64 bo',Value.string ⟨nm'.toArray⟩,Value.int IntKind.i64 od',Value.int IntKind.i64 up',Value.bool lv',Value.int IntKind.i64 nd',Value.int IntKind.i64 sq',Value.bool dr',Value.int IntKind.i64 ac'] :: Value.string SS :: Value.int IntKind.i64 at0 :: Value.string M :: Value.pointer (some ⟨w.heap.size,0,none⟩) :: Value.pointer (some ⟨w.heap.size + 1,0,none⟩) :: undef :: undef :: undef :: Value.bool false :: Value.bool true :: Value.pointer (some ⟨w2.heap.size,0,none⟩) :: Value.string TA :: Value.int IntKind.i64 ea :: Value.string TA :: Value.int IntKind.i64 ea :: Value.string TS :: Value.int IntKind.i64 0 :: Value.string TS :: Value.int IntKind.i64 0 :: Value.string US :: Value.int IntKind.i64 ((k : Nat) : Int) :: undef :: undef :: undef :: undef :: undef :: undef :: Value.bool true :: Value.agg #[Value.int IntKind.i64 hd,Value.int IntKind.i64 bo,Value.string ⟨nm.toArray⟩,Value.int IntKind.i64 od,Value.int IntKind.i64 up,Value.bool lv,Value.int IntKind.i64 nd,Value.int IntKind.i64 sq,Value.bool dr,Value.int IntKind.i64 ac] :: Value.agg #[Value.int IntKind.i64 hd1,Value.int IntKind.i64 bo1,Value.string ⟨nm1.toArray⟩,Value.int IntKind.i64 od1,Value.int IntKind.i64 up1,Value.bool lv1,Value.int IntKind.i64 nd1,Value.int IntKind.i64 sq1,Value.bool dr1,Value.int IntKind.i64 ac1] :: Value.tuple #[Value.string TA,Value.int IntKind.i64 ea] :: Value.agg #[Value.int IntKind.i64 hd,Value.int IntKind.i64 bo,Value.string ⟨nm.toArray⟩,Value.int IntKind.i64 od,Value.int IntKind.i64 up,Value.bool lv,Value.int IntKind.i64 nd,Value.int IntKind.i64 sq,Value.bool dr,Value.int IntKind.i64 ac] :: Value.tuple #[Value.string TA,Value.int IntKind.i64 ea] :: Value.string TA :: Value.int IntKind.i64 ea :: Value.tuple #[Value.string TA,Value.int IntKind.i64 ea] :: Value.agg #[Value.int IntKind.i64 hd,Value.int IntKind.i64 bo,Value.string ⟨nm.toArray⟩,Value.int IntKind.i64 od,Value.int IntKind.i64 up,Value.bool lv,Value.int IntKind.i64 nd,Value.int IntKind.i64 sq,Value.bool dr,Value.int IntKind.i64 ac] :: Value.tuple #[Value.string TA,Value.int IntKind.i64 ea] :: Value.string TA :: Value.int IntKind.i64 ea :: Value.tuple #[Value.string TS,Value.int IntKind.i64 0] :: Value.agg #[Value.int IntKind.i64 hd1,Value.int IntKind.i64 bo1,Value.string ⟨nm1.toArray⟩,Value.int IntKind.i64 od1,Value.int IntKind.i64 up1,Value.bool lv1,Value.int IntKind.i64 nd1,Value.int IntKind.i64 sq1,Value.bool dr1,Value.int IntKind.i64 ac1] :: Value.tuple #[Value.string TS,Value.int IntKind.i64 0] :: Value.string TS :: Value.int IntKind.i64 0 :: Value.tuple #[Value.string TS,Value.int IntKind.i64 0] :: Value.agg #[Value.int IntKind.i64 hd1,Value.int IntKind.i64 bo1,Value.string ⟨nm1.toArray⟩,Value.int IntKind.i64 od1,Value.int IntKind.i64 up1,Value.bool lv1,Value.int IntKind.i64 nd1,Value.int IntKind.i64 sq1,Value.bool dr1,Value.int IntKind.i64 ac1] :: Value.tuple #[Value.string TS,Value.int IntKind.i64 0] :: Value.string TS :: Value.int IntKind.i64 0 :: Value.bool true :: Value.bool false :: Value.bool false :: Value.string TA :: Value.string TA :: Value.bool false :: Value.bool false :: Value.bool false :: Value.int IntKind.i64 ea :: Value.int IntKind.i64 ea :: Value.bool false :: Value.bool false :: Value.bool false :: Value.string TS :: Value.string TS :: Value.bool false :: Value.bool false :: Value.bool false :: Value.int IntKind.i64 0 :: Value.int IntKind.i64 0 :: Value.bool false :: Value.bool false :: Value.bool false :: Value.int IntKind.i64 0 :: Value.bool false :: Value.bool false :: Value.bool false :: Value.agg #[Value.int IntKind.i64 hd,Value.int IntKind.i64 bo,Value.string ⟨nm.toArray⟩,Value.int IntKind.i64 od,Value.int IntKind.i64 up,Value.bool lv,Value.int IntKind.i64 nd,Value.int IntKind.i64 sq,Value.bool dr,Value.int IntKind.i64 ac] :: Value.bool RX :: Value.agg #[Value.int IntKind.i64 hd,Value.int IntKind.i64 bo,Value.string ⟨nm.toArray⟩,Value.int IntKind.i64 od,Value.int IntKind.i64 up,Value.bool lv,Value.int IntKind.i64 nd,Value.int IntKind.i64 sq,Value.bool dr,Value.int IntKind.i64 ac] :: Value.bool RX :: Value.bool false :: Value.bool false :: Value.bool false :: Value.agg #[Value.int IntKind.i64 hd,Value.int IntKind.i64 bo,Value.string ⟨nm.toArray⟩,Value.int IntKind.i64 od,Value.int IntKind.i64 up,Value.bool lv,Value.int IntKind.i64 nd,Value.int IntKind.i64 sq,Value.bool dr,Value.int IntKind.i64 ac] :: Value.agg #[Value.int IntKind.i64 hd',Value.int IntKind.i64 bo',Value.string ⟨nm'.toArray⟩,Value.int IntKind.i64 od',Value.int IntKind.i64 up',Value.bool lv',Value.int IntKind.i64 nd',Value.int IntKind.i64 sq',Value.bool dr',Value.int IntKind.i64 ac'] :: Value.bool NX :: Value.agg #[Value.int IntKind.i64 hd,Value.int IntKind.i64 bo,Value.string ⟨nm.toArray⟩,Value.int IntKind.i64 od,Value.int IntKind.i64 up,Value.bool lv,Value.int IntKind.i64 nd,Value.int IntKind.i64 sq,Value.bool dr,Value.int IntKind.i64 ac] :: Value.agg #[Value.int IntKind.i64 hd',Value.int IntKind.i64 bo',Value.string ⟨nm'.toArray⟩,Value.int IntKind.i64 od',Value.int IntKind.i64 up',Value.bool lv',Value.int IntKind.i64 nd',Value.int IntKind.i64 sq',Value.bool dr',Value.int IntKind.i64 ac'] :: Value.bool NX :: Value.bool false :: Value.bool false :: Value.string TS :: Value.string TS :: Value.int IntKind.i64 (((n : Nat) : Int) + 9) :: Value.int IntKind.i64 ((n : Nat) : Int) :: Value.string US :: Value.int IntKind.i64 at0 :: Value.string US :: Value.int IntKind.i64 ((n : Nat) : Int) :: Value.int IntKind.i64 (((n : Nat) : Int) + 1) :: Value.int IntKind.i64 ((k : Nat) : Int) :: z0 :: z1 :: z2 :: z3 :: z4 :: z5 :: z6 :: z7 :: z8 :: z9 :: z10 :: z11 :: z12 :: z13 :: z14 :: z15 :: z16 :: z17 :: z18 :: z19 :: z20 :: z21 :: z22 :: z23 :: z24 :: z25 :: z26 :: z27 :: z28 :: z29 :: z30 :: z31 :: z32 :: z33 :: z34 :: z35 :: z36 :: z37 :: z38 :: undef :: undef :: undef :: undef :: undef :: undef :: undef :: undef :: undef :: undef :: undef :: undef :: undef :: undef :: undef :: undef :: undef :: undef :: undef :: undef :: undef :: undef :: []),defers := [] } _
    subst e37 e38
    rw [e36]
    clear e36
    have hW : Below w.heap.size w wz := B7.out.trans (hB.mono B7.out.size)
    have HC : Hid (∀ j,j < 7 → ∃ T : ByteArray,wz.cell? ⟨b6,j,none⟩ = some (.string T) ∧ T.size ≤ 281474976710656) := fun j hj => by
     obtain ⟨q1,q2,q3⟩ := HSB.out
     have : j = 0 ∨ j = 1 ∨ j = 2 ∨ j = 3 ∨ j = 4 ∨ j = 5 ∨ j = 6 := by omega
     rcases this with rfl | rfl | rfl | rfl | rfl | rfl | rfl
     ·exact ⟨SS,by simp [World.cell?,hb6],HS0.out⟩
     ·exact ⟨T0,by simp [World.cell?,hb6],HT0.out⟩
     ·exact ⟨TS,by simp [World.cell?,hb6],q1⟩
     ·exact ⟨TM,by simp [World.cell?,hb6],q2⟩
     ·exact ⟨T1,by simp [World.cell?,hb6],HT1.out⟩
     ·exact ⟨T2,by simp [World.cell?,hb6],HT2.out⟩
     ·exact ⟨E5,by simp [World.cell?,hb6],q3⟩
    have HW := Lib.hid hW
    have hlt6 := Own.block_lt hb6
    have HLT := Lib.hid hlt6
    clear hb6 hB hlt6 HT0 HT1 HT2 HS0 HSB SE1 SE2 SE3 F1 A1 L1 PK hex HEX HE1 HE2 HE3 HE4 HE5 HX4 HX5 hE1 hE2 hE3 hE4 hE5 hX4 hX5 HTM hTM HMN hmn G0 G1 G2 G5 W1 hM hm hs A3 hW LA RA RL R1 R2 N1 N2 hk9 hk9' HLM HN HUS
    go_wp2_with fail
    go_loopw [142] (fun iv wr => ∃ j : Nat,j ≤ 7 ∧ iv = .int .i64 j ∧ Hid (Below wz.heap.size wz wr)) (fun iv _ => 7 - (intOf iv).toNat)
    case atStart => exact ⟨0,by omega,rfl,Below.refl _ _⟩
    case round =>
     obtain ⟨j,hj,rfl,HBR⟩ := hrel
     by_cases hlt : j < 7
     ·obtain ⟨T,hcell,hT⟩ := HC.out j hlt
      rw [← HBR.out.cell (p := ⟨b6,_,none⟩) HLT.out] at hcell
      have i1 : (j : Int) < 7 := by omega
      have i2 : IntKind.i64.wrap ((j : Int) + 1) = (j : Int) + 1 := wrap_in9 (by omega) (by omega)
      obtain ⟨L,rfl⟩ : ∃ L : List UInt8,T = ⟨L.toArray⟩ := ⟨_,Se.bs_self T⟩
      rw [bs_size] at hT
      have T1' := Lib.hid (fun (u : World) => Take9_any L u hT)
      have T2' := Lib.hid (fun (u : World) => rtake9_any L u hT)
      have NE0 := fun (u : World) => neq9_self ((takeS9 Tp.nameB L).2.getD s0) u
      generalize (takeS9 Tp.nameB L).2.getD s0 = q at *
      generalize (takeS9 Tp.nameB L).1 = eq at *
      generalize (⟨L.toArray⟩ : ByteArray) = LT at *
      clear hT HC
      obtain ⟨hd5,bo5,nm5,od5,up5,lv5,nd5,sq5,dr5,ac5⟩ := q
      unfold sV sC at T1' T2' NE0
      simp only at T1' T2' NE0
      have zz : (eq != eq) = false := by simp
      go_wp2_with (first
       | (go_at_call 28;(with_reducible refine (T1'.out _).mono ?_);rintro e5 w5' ⟨rfl,hb5⟩;have P5 := Lib.hid (below_box (below_next HBR.out hb5) (.cells #[.int .i64 hd5,.int .i64 bo5,.string ⟨nm5.toArray⟩,.int .i64 od5,.int .i64 up5,.bool lv5,.int .i64 nd5,.int .i64 sq5,.bool dr5,.int .i64 ac5] 41));have Q5 := Lib.hid (BX9.new w5' #[.int .i64 hd5,.int .i64 bo5,.string ⟨nm5.toArray⟩,.int .i64 od5,.int .i64 up5,.bool lv5,.int .i64 nd5,.int .i64 sq5,.bool dr5,.int .i64 ac5]);clear hb5)
       | (go_at_call 29;(with_reducible refine (T2'.out _).mono ?_);rintro e7 w7' ⟨rfl,hb7⟩;have P7 := Lib.hid (below_box (below_next P5.out hb7) (.cells #[.int .i64 hd5,.int .i64 bo5,.string ⟨nm5.toArray⟩,.int .i64 od5,.int .i64 up5,.bool lv5,.int .i64 nd5,.int .i64 sq5,.bool dr5,.int .i64 ac5] 41));have Q7 := Lib.hid ((Q5.out.below hb7).box (.cells #[.int .i64 hd5,.int .i64 bo5,.string ⟨nm5.toArray⟩,.int .i64 od5,.int .i64 up5,.bool lv5,.int .i64 nd5,.int .i64 sq5,.bool dr5,.int .i64 ac5] 41));have V7 := Lib.hid (BX9.new w7' #[.int .i64 hd5,.int .i64 bo5,.string ⟨nm5.toArray⟩,.int .i64 od5,.int .i64 up5,.bool lv5,.int .i64 nd5,.int .i64 sq5,.bool dr5,.int .i64 ac5]);obtain ⟨x0,x1,x2,x3,x4,x5,x6,x7,x8,x9⟩ := ten_of Q7.out.blk;obtain ⟨g0,g1,g2,g3,g4,g5,g6,g7,g8,g9⟩ := ten_of V7.out.blk;clear hb7))
      go_roundw
      case rel => exact ⟨j + 1,by omega,by go_num,P7⟩
      case measure => simp [intOf];omega
     ·have hj7 : j = 7 := by omega
      subst hj7
      go_wp2_with fail
      go_ret
      exact ⟨rfl,HW.out.trans (HBR.out.mono HW.out.size)⟩
end Go.Proofs.YtmmbiknlicnamaaGreatDoor.Sta
