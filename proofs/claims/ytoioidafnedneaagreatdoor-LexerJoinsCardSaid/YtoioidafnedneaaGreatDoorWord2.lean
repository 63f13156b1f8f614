import Derived.Test.YtoioidafnedneaaGreatDoorWord
/- The contract of Word: a raw token's text (a string's; all). -/
set_option linter.unusedVariables false
set_option linter.unusedSimpArgs false
namespace Go.Proofs.YtoioidafnedneaaGreatDoor.Lex
open Go.RowKit
open Quo (pickS pickS_nonneg pickS_lt IntsAt textR)

theorem txt_any (v : Value) (zs : List Int) (w : World) (h : IntsAt w v zs) : Calls Tryz.prog 11 #[v] w (Ret (.string ⟨(Quo.flat (textR zs)).toArray⟩) w) := Quo.text_any v zs w h
theorem quo_any (rs : List Nat) (w : World) (h : ∀ r ∈ rs, Quo.vr r) (hl : rs.length ≤ 1000) : Calls Tryz.prog 10 #[.string ⟨(Quo.flat rs).toArray⟩] w (Ret (.tuple #[.string ⟨(Quo.quoteL (Quo.flat rs)).toArray⟩, .bool true]) w) := by
  have h1 := Quo.flat_len rs
  have h2 := bodyQ_len h
  have := Quo.quote_any ⟨(Quo.flat rs).toArray⟩ w (by rw [bs_size]; omega) (by
    rw [show (⟨(Quo.flat rs).toArray⟩ : ByteArray).data.toList = Quo.flat rs from rfl, Quo.qBody_flat' h]; omega)
  rw [show (⟨(Quo.flat rs).toArray⟩ : ByteArray).data.toList = Quo.flat rs from rfl] at this
  unfold Quo.quoV at this
  rw [Quo.wholeB_flat' h, if_pos rfl] at this
  exact this

theorem ints_take {w : World} {b off cap : Nat} {zs : List Int} (h : IntsAt w (.slice (some ⟨b, off, none⟩) zs.length cap) zs) (n : Nat) : IntsAt w (.slice (some ⟨b, off, none⟩) (min zs.length n) cap) (zs.take n) := by
  by_cases h0 : min zs.length n = 0
  · refine .inl ⟨some ⟨b, off, none⟩, cap, by rw [h0], ?_⟩
    rw [List.take_eq_nil_iff]
    rcases Nat.eq_zero_or_pos n with h | h'
    · exact .inl h
    · right; apply List.length_eq_zero_iff.1; omega
  · rcases h with ⟨ao, c, e, rfl⟩ | ⟨b', off', cap', e, h1, h2, h3, h4, h5⟩
    · simp at h0
    · simp only [Value.slice.injEq, Option.some.injEq, Addr.mk.injEq, and_true, true_and] at e
      obtain ⟨⟨rfl, rfl⟩, rfl⟩ := e
      have hl : (zs.take n).length = min zs.length n := by simp; omega
      have hg : ∀ j, j < min zs.length n → (zs.take n).getD j 0 = zs.getD j 0 := fun j hj => by
        simp only [List.getD_eq_getElem?_getD]
        rw [List.getElem?_take, if_pos (by omega)]
      refine .inr ⟨b, off, cap, by rw [hl], by omega, by omega, h3, fun j hj => ?_, fun j hj => ?_⟩
      · rw [hl] at hj; rw [hg j hj]; exact h4 j (by omega)
      · rw [hl] at hj; rw [hg j hj]; exact h5 j (by omega)

set_option maxHeartbeats 1000000 in
theorem word_text (k m e : Int) (v : Value) (t : List Int) (w : World) (ht : IntsAt w v t) (hcp : CapOk v) (hk : i64B k) (h : pickS k 4 = 1) :
    Calls Tryz.prog 7 #[.agg #[.int .i64 k, .int .i64 m, .int .i64 e, v]] w (Ret (.string ⟨(Quo.quoteL (Quo.flat (textR (t.take 30)))).toArray⟩) w) := by
  have P1 := Lib.hid (fun w => pick_any k 4 w hk (by decide) (by decide))
  rw [h] at P1
  have Q := Lib.hid (fun w => quo_any (textR (t.take 30)) w (Quo.textR_vr _) (by have := textR_len30 t; omega))
  clear h
  have HI := Lib.hid ht
  have TX := Lib.hid (fun v w h => txt_any v (t.take 30) w h)
  generalize Quo.quoteL (Quo.flat (textR (t.take 30))) = L at *
  generalize Quo.flat (textR (t.take 30)) = F at *
  rcases ht with ⟨ao, cap, rfl, rfl⟩ | ⟨b, off, cap, rfl, h0, h1, h2, h3, h4⟩
  · have hI : ∀ W, IntsAt W (.slice ao (min 0 30 : Int).toNat cap) (([] : List Int).take 30) := fun W => .inl ⟨ao, cap, rfl, rfl⟩
    have HI2 := Lib.hid hI
    clear HI hI hcp
    go_enter Tryz.func7, Tryz.ntmps7
    go_wp2_with (go_at_call 6; (with_reducible refine (P1.out _).mono ?_); rintro e1 w1 ⟨rfl, rfl⟩)
    (with_reducible refine (TX.out _ _ (HI2.out _)).mono ?_)
    rintro e1 w1 ⟨rfl, hb1⟩
    have hbb := below_call hb1
    clear hb1
    go_wp2_with fail
    (with_reducible refine (Q.out _).mono ?_)
    rintro e1 w2 ⟨rfl, hb2⟩
    go_wp2_with fail
    go_ret
    exact ⟨rfl, hbb.trans (hb2.mono hbb.size)⟩
  · have hnc := hcp _ _ _ rfl
    have HI2 : Hid (IntsAt w (.slice (some ⟨b, off, none⟩) (min ((t.length : Nat) : Int) 30).toNat cap) (t.take 30)) := by
      have := ints_take HI.out 30
      rwa [show min t.length 30 = (min ((t.length : Nat) : Int) 30).toNat by omega] at this
    clear h3 h4 HI hcp
    generalize t.length = n at *
    generalize t.take 30 = t30 at *
    go_enter Tryz.func7, Tryz.ntmps7
    go_wp2_with (go_at_call 6; (with_reducible refine (P1.out _).mono ?_); rintro e1 w1 ⟨rfl, rfl⟩)
    (with_reducible refine (TX.out _ _ (HI2.out.below ((Below.refl _ _).alloc (Nat.le_refl _) _))).mono ?_)
    rintro e1 w1 ⟨rfl, hb1⟩
    have hbb := below_call hb1
    clear hb1
    go_wp2_with fail
    (with_reducible refine (Q.out _).mono ?_)
    rintro e1 w2 ⟨rfl, hb2⟩
    go_wp2_with fail
    go_ret
    exact ⟨rfl, hbb.trans (hb2.mono hbb.size)⟩

theorem word_of (x : Raw) (w : World) (hT : Dec.Tab w) (hk : i64B x.k) (hm : i64B x.m) (he : i64B x.e) (ht : IntsAt w x.v x.t) (hc : CapOk x.v) :
    Calls Tryz.prog 7 #[rawV x] w (Ret (.string ⟨(wordT x).1.toArray⟩) w) := by
  have h0 := pickS_nonneg (c := x.k) (n := 4) (by decide)
  have h1 := pickS_lt (c := x.k) (n := 4) (by decide)
  unfold wordT rawV
  by_cases c0 : pickS x.k 4 = 0
  · rw [if_pos c0]; exact word_sign _ _ _ _ w hk hm c0
  · rw [if_neg c0]
    by_cases c1 : pickS x.k 4 = 1
    · rw [if_pos c1]; exact word_text _ _ _ _ _ w ht hc hk c1
    · rw [if_neg c1]
      by_cases c2 : pickS x.k 4 = 2
      · rw [if_pos c2]; exact word_num _ _ _ _ w hT hk hm he c2
      · rw [if_neg c2]; exact word_three _ _ _ _ w hk hm (by omega)
end Go.Proofs.YtoioidafnedneaaGreatDoor.Lex
