import Derived.Test.YtnjcfnmdelpecaaTg
/- Layer 7: the walks of the laws TopicBack and TopicApart. -/
set_option linter.unusedVariables false
set_option linter.unusedSimpArgs false
namespace Go.Proofs.Ytnjcfnmdelpecaa.Tp
open Go.RowKit

theorem fit_len (s : List UInt8) : (fitL s).length ≤ reachN := by
  have := (name_len (fit_name s)).2
  exact reach_small (by omega)
theorem kindL_len (k : Nat) : (kindL k).length ≤ reachN := by
  by_cases h : k < 5
  · have := kind_len (kindL_ok h)
    exact reach_small (by omega)
  · unfold kindL
    rw [List.getD_eq_getElem?_getD, List.getElem?_eq_none (by simp; omega)]
    exact reach_small (by decide)
theorem print_reach {m s k z : List UInt8} (h : printS m s k = some z) : z.length ≤ 60 := by
  obtain ⟨ho, rfl⟩ := printS_some.1 h
  have h1 := (name_len (okT_m ho)).2
  have h2 := (name_len (okT_s ho)).2
  have h3 := kind_len (okT_k ho)
  rw [print_len]
  omega

set_option maxHeartbeats 2000000 in
set_option maxRecDepth 100000 in
theorem lback_walk (tm ts tk m s : List UInt8) (c : Int) (w : World) (h1 : tm.length ≤ reachN) (h2 : ts.length ≤ reachN) (h3 : tk.length ≤ reachN) (hm : m.length ≤ reachN) (hs : s.length ≤ reachN)
    (c0 : -9223372036854775808 ≤ c) (c1 : c ≤ 9223372036854775807) :
    Calls Try.prog 4 #[topicV tm ts tk, .string ⟨m.toArray⟩, .string ⟨s.toArray⟩, .int .i64 c] w (Ret (.bool true) w) := by
  have C0 := Lib.hid (fun u => awake_any u)
  have C1 := Lib.hid (fun u => Topic_any m s c u hm hs c0 c1)
  have hok := fit_ok m s (kindN_lt c)
  have hp : printS (fitL m) (fitL s) (kindL (kindN c)) = some (printL (fitL m) (fitL s) (kindL (kindN c))) := printS_some.2 ⟨hok, rfl⟩
  have C2 := Lib.hid (fun u => print_some hp u (fit_len m) (fit_len s) (kindL_len _))
  have C3 := Lib.hid (fun u => parse_some (parse_print hok) u (reach_small (Nat.le_trans (print_reach hp) (by omega))))
  have C4 := Lib.hid (fun u => name_is (okT_m hok) u (fit_len m))
  unfold topicV at *
  clear hok
  generalize (⟨(printL (fitL m) (fitL s) (kindL (kindN c))).toArray⟩ : ByteArray) = Z at *
  clear hp
  generalize (⟨(kindL (kindN c)).toArray⟩ : ByteArray) = FK at *
  generalize (⟨(fitL m).toArray⟩ : ByteArray) = FM at *
  generalize (⟨(fitL s).toArray⟩ : ByteArray) = FS at *
  generalize (⟨m.toArray⟩ : ByteArray) = M at *
  generalize (⟨s.toArray⟩ : ByteArray) = S at *
  clear hm hs
  cases ht : printS tm ts tk with
  | some z =>
    have C5 := Lib.hid (fun u => print_some ht u h1 h2 h3)
    have C6 := Lib.hid (fun u => parse_some (parse_iff.2 ht) u (reach_small (Nat.le_trans (print_reach ht) (by omega))))
    clear h1 h2 h3 ht
    generalize (⟨z.toArray⟩ : ByteArray) = ZT at *
    generalize (⟨tm.toArray⟩ : ByteArray) = TM at *
    generalize (⟨ts.toArray⟩ : ByteArray) = TS at *
    generalize (⟨tk.toArray⟩ : ByteArray) = TK at *
    go_enter Try.func4, Try.ntmps4
    go_wp2_with (go_at_call 10; (with_reducible refine (C0.out _).mono ?_); rintro e w1 ⟨rfl, hb1⟩; have A1 := Lib.hid ((TAt.new w _ _ _ _).below hb1); have B1 := Lib.hid (below_a (Below.refl _ w) hb1); clear hb1)
    go_wp2_with (go_at_call 11; (with_reducible refine (C1.out _).mono ?_); rintro e w2 ⟨rfl, hb2⟩; have A2 := Lib.hid (A1.out.below hb2); have B2 := Lib.hid (below2 B1.out hb2); clear hb2)
    go_wp2_with (go_at_call 14; (with_reducible refine (C2.out _).mono ?_); rintro e w3 ⟨rfl, hb3⟩; have A3 := Lib.hid ((A2.out.alloc _).below hb3); have D3 := Lib.hid ((TAt.new w2 _ _ _ _).below hb3); have B3 := Lib.hid (below_a B2.out hb3); clear hb3)
    go_wp2_with (first | (go_at_call 17; (with_reducible refine (C3.out _).mono ?_); rintro e w4 ⟨rfl, hb4⟩; have A4 := Lib.hid (A3.out.below hb4); obtain ⟨⟨g0, _⟩, ⟨g1, _⟩, ⟨g2, _⟩, hlt0⟩ := A3.out.below hb4; obtain ⟨⟨g3, _⟩, ⟨g4, _⟩, ⟨g5, _⟩, hlt1⟩ := D3.out.below hb4; have B4 := Lib.hid (below2 B3.out hb4); clear hb4) | (go_at_call 15; (with_reducible refine (C4.out _).mono ?_); rintro e w6 ⟨rfl, rfl⟩))
    go_wp2_with (go_at_call 14; (with_reducible refine (C5.out _).mono ?_); rintro e w5 ⟨rfl, hb5⟩; have A5 := Lib.hid ((A4.out.alloc _).below hb5); have B5 := Lib.hid (below_a B4.out hb5); clear hb5)
    go_wp2_with (go_at_call 17; (with_reducible refine (C6.out _).mono ?_); rintro e w6 ⟨rfl, hb6⟩; obtain ⟨⟨g6, _⟩, ⟨g7, _⟩, ⟨g8, _⟩, hlt2⟩ := A5.out.below hb6; have B6 := Lib.hid (below2 B5.out hb6); clear hb6)
    go_ret
    exact ⟨rfl, B6.out.alloc B6.out.size _⟩
  | none =>
    have C5 := Lib.hid (fun u => print_none ht u h1 h2 h3)
    have C6 := Lib.hid (fun u => parse_none (z := []) (by decide +kernel) u (by decide))
    clear h1 h2 h3 ht
    generalize (⟨tm.toArray⟩ : ByteArray) = TM at *
    generalize (⟨ts.toArray⟩ : ByteArray) = TS at *
    generalize (⟨tk.toArray⟩ : ByteArray) = TK at *
    go_enter Try.func4, Try.ntmps4
    go_wp2_with (go_at_call 10; (with_reducible refine (C0.out _).mono ?_); rintro e w1 ⟨rfl, hb1⟩; have A1 := Lib.hid ((TAt.new w _ _ _ _).below hb1); have B1 := Lib.hid (below_a (Below.refl _ w) hb1); clear hb1)
    go_wp2_with (go_at_call 11; (with_reducible refine (C1.out _).mono ?_); rintro e w2 ⟨rfl, hb2⟩; have A2 := Lib.hid (A1.out.below hb2); have B2 := Lib.hid (below2 B1.out hb2); clear hb2)
    go_wp2_with (go_at_call 14; (with_reducible refine (C2.out _).mono ?_); rintro e w3 ⟨rfl, hb3⟩; have A3 := Lib.hid ((A2.out.alloc _).below hb3); have D3 := Lib.hid ((TAt.new w2 _ _ _ _).below hb3); have B3 := Lib.hid (below_a B2.out hb3); clear hb3)
    go_wp2_with (first | (go_at_call 17; (with_reducible refine (C3.out _).mono ?_); rintro e w4 ⟨rfl, hb4⟩; have A4 := Lib.hid (A3.out.below hb4); obtain ⟨⟨g0, _⟩, ⟨g1, _⟩, ⟨g2, _⟩, hlt0⟩ := A3.out.below hb4; obtain ⟨⟨g3, _⟩, ⟨g4, _⟩, ⟨g5, _⟩, hlt1⟩ := D3.out.below hb4; have B4 := Lib.hid (below2 B3.out hb4); clear hb4) | (go_at_call 15; (with_reducible refine (C4.out _).mono ?_); rintro e w6 ⟨rfl, rfl⟩))
    go_wp2_with (go_at_call 14; (with_reducible refine (C5.out _).mono ?_); rintro e w5 ⟨rfl, hb5⟩; have A5 := Lib.hid ((A4.out.alloc _).below hb5); have B5 := Lib.hid (below_a B4.out hb5); clear hb5)
    go_wp2_with (go_at_call 17; (with_reducible refine (C6.out _).mono ?_); rintro e w6 ⟨rfl, hb6⟩; obtain ⟨⟨g6, _⟩, ⟨g7, _⟩, ⟨g8, _⟩, hlt2⟩ := A5.out.below hb6; have B6 := Lib.hid (below2 B5.out hb6); clear hb6)
    go_ret
    exact ⟨rfl, B6.out.alloc B6.out.size _⟩
end Go.Proofs.Ytnjcfnmdelpecaa.Tp
