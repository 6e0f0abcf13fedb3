/- Contracts of both Arity and both Range. -/
import Derived.Test.YtaegekmfndcflaaSpans
import Derived.Test.YtaegekmfndcflaaBounds
import Derived.BigQuiet
import Derived.Deep.QuietTactic
namespace Go.Proofs.Ytaegekmfndcflaa
open Go.ChangeShapes Go.WideShapes Go.ChangeAt Go.RowKit
set_option linter.unusedVariables false
set_option linter.unusedSimpArgs false

theorem add_off (a : Addr) (k : Nat) : a.add (k + 1) = ⟨(a.add k).block, (a.add k).off + 1, none⟩ := by
  by_cases h : k = 0
  · subst h; simp [Addr.add]
  · simp [Addr.add, h, Nat.add_assoc]
theorem arity_code (op : Int) (w : World) : Calls Try.prog 10 #[.int .i64 op] w fun e w' => e = .returned (.tuple #[.int .i64 (((P.tab op).getD []).length : Nat), .bool (P.tab op).isSome]) ∧ Below w.heap.size w w' := by
  have T := spans_any op w
  generalize P.tab op = o at *
  go_enter Try.func10, Try.ntmps10
  go_wp2_with fail
  refine T.mono ?_
  rintro e w1 ⟨A, c, rfl, hr, hb⟩
  clear T
  go_wp2_with fail
  go_ret2
  exact ⟨rfl, hb⟩
theorem arity_doc (op : Int) (w : World) : Calls Try.prog 11 #[.int .i64 op] w fun e w' => e = .returned (.tuple #[.int .i64 (((P.tab op).getD []).length : Nat), .bool (P.tab op).isSome]) ∧ Below w.heap.size w w' := by
  have T := bounds_any op w
  generalize P.tab op = o at *
  go_enter Try.func11, Try.ntmps11
  go_wp2_with fail
  refine T.mono ?_
  rintro e w1 ⟨A, c, rfl, hr, hb⟩
  clear T
  go_wp2_with fail
  go_ret2
  exact ⟨rfl, hb⟩
/-- What Range tells. -/
def rng (l : List (Int × Int)) (i : Int) : Int × Int × Bool := if h : 0 ≤ i ∧ i < l.length then ((l[i.toNat]'(by omega)).1, (l[i.toNat]'(by omega)).2, true) else (0, 0, false)
theorem rng_out {l : List (Int × Int)} {i : Int} (h : i < 0 ∨ l.length ≤ i) : rng l i = (0, 0, false) := by
  unfold rng
  rw [dif_neg (by omega)]
theorem rng_in {l : List (Int × Int)} {k : Nat} (h : k < l.length) : rng l (k : Int) = (l[k].1, l[k].2, true) := by
  unfold rng
  rw [dif_pos (by omega)]
  simp
def RetRng (w : World) (r : Int × Int × Bool) (e : Ending) (w' : World) : Prop := e = .returned (.tuple #[.int .i64 r.1, .int .i64 r.2.1, .bool r.2.2]) ∧ Below w.heap.size w w'
theorem tab_getD_len (op : Int) : ((P.tab op).getD []).length ≤ 16 := by
  rcases h : P.tab op with _ | b
  · simp
  · exact P.tab_len h
theorem bdrewN {B : Nat} {a w : World} (h : Below B a w) (n : Nat) : Below B a (w.drewN n) := ⟨h.os, h.tape, h.output, h.size, h.block⟩
set_option maxHeartbeats 1000000 in
theorem range_code (op i : Int) (h0 : -9223372036854775808 ≤ i) (h1 : i < 9223372036854775808) (w : World) : Calls Try.prog 12 #[.int .i64 op, .int .i64 i] w (RetRng w (rng ((P.tab op).getD []) i)) := by
  have T := spans_any op w
  have hl := tab_getD_len op
  unfold RetTab at T
  generalize (P.tab op).isSome = is at *
  generalize (P.tab op).getD [] = l at *
  have ql : (l.length : Int) ≤ 16 := by omega
  by_cases hi : i < 0
  · have R := Lib.hid (rng_out (l := l) (.inl hi))
    go_enter Try.func12, Try.ntmps12
    go_wp2_with fail
    refine T.mono ?_
    rintro e w1 ⟨A, c, rfl, hr, hb⟩
    clear T hr
    go_wp2_with fail
    go_ret3
    exact ⟨by rw [R.out]; rfl, hb⟩
  obtain ⟨k, rfl⟩ := Int.eq_ofNat_of_zero_le (by omega : 0 ≤ i)
  by_cases hk : l.length ≤ k
  · have R := Lib.hid (rng_out (l := l) (i := (k : Int)) (.inr (by omega)))
    have q : ¬ (k : Int) < (l.length : Int) := by omega
    have q2 : (l.length : Int) ≤ (k : Int) := by omega
    go_enter Try.func12, Try.ntmps12
    go_wp2_with fail
    refine T.mono ?_
    rintro e w1 ⟨A, c, rfl, hr, hb⟩
    clear T hr
    go_wp2_with fail
    go_ret3
    exact ⟨by rw [R.out]; rfl, hb⟩
  have hlt : k < l.length := by omega
  clear h0 h1 hi hk
  have R := Lib.hid (rng_in hlt)
  have q : (k : Int) < (l.length : Int) := by omega
  have q2 : ¬ (l.length : Int) ≤ (k : Int) := by omega
  have q3 : (0 : Int) ≤ (k : Int) := by omega
  have pa := pairs_at hlt
  generalize l[k].1 = x at *
  generalize l[k].2 = y at *
  have PA := Lib.hid pa
  clear pa
  go_enter Try.func12, Try.ntmps12
  go_wp2_with fail
  refine T.mono ?_
  rintro e w1 ⟨A, c, rfl, hr, hb⟩
  obtain ⟨ad, rfl, hlt2, hat⟩ := hr.lies (by omega)
  have c1 := hat _ _ PA.out.1
  have c2 := hat _ _ PA.out.2
  rw [add_off] at c2
  clear T hr hat
  go_wp2_with fail
  go_quiet (fail)
  go_wp2_with fail
  go_ret3
  exact ⟨by rw [R.out]; rfl, bdrewN hb _⟩
set_option maxHeartbeats 1000000 in
theorem range_doc (op i : Int) (h0 : -9223372036854775808 ≤ i) (h1 : i < 9223372036854775808) (w : World) : Calls Try.prog 13 #[.int .i64 op, .int .i64 i] w (RetRng w (rng ((P.tab op).getD []) i)) := by
  have T := bounds_any op w
  have hl := tab_getD_len op
  unfold RetTab at T
  generalize (P.tab op).isSome = is at *
  generalize (P.tab op).getD [] = l at *
  have ql : (l.length : Int) ≤ 16 := by omega
  by_cases hi : i < 0
  · have R := Lib.hid (rng_out (l := l) (.inl hi))
    go_enter Try.func13, Try.ntmps13
    go_wp2_with fail
    refine T.mono ?_
    rintro e w1 ⟨A, c, rfl, hr, hb⟩
    clear T hr
    go_wp2_with fail
    go_ret3
    exact ⟨by rw [R.out]; rfl, hb⟩
  obtain ⟨k, rfl⟩ := Int.eq_ofNat_of_zero_le (by omega : 0 ≤ i)
  by_cases hk : l.length ≤ k
  · have R := Lib.hid (rng_out (l := l) (i := (k : Int)) (.inr (by omega)))
    have q : ¬ (k : Int) < (l.length : Int) := by omega
    have q2 : (l.length : Int) ≤ (k : Int) := by omega
    go_enter Try.func13, Try.ntmps13
    go_wp2_with fail
    refine T.mono ?_
    rintro e w1 ⟨A, c, rfl, hr, hb⟩
    clear T hr
    go_wp2_with fail
    go_ret3
    exact ⟨by rw [R.out]; rfl, hb⟩
  have hlt : k < l.length := by omega
  clear h0 h1 hi hk
  have R := Lib.hid (rng_in hlt)
  have q : (k : Int) < (l.length : Int) := by omega
  have q2 : ¬ (l.length : Int) ≤ (k : Int) := by omega
  have q3 : (0 : Int) ≤ (k : Int) := by omega
  have pa := pairs_at hlt
  generalize l[k].1 = x at *
  generalize l[k].2 = y at *
  have PA := Lib.hid pa
  clear pa
  go_enter Try.func13, Try.ntmps13
  go_wp2_with fail
  refine T.mono ?_
  rintro e w1 ⟨A, c, rfl, hr, hb⟩
  obtain ⟨ad, rfl, hlt2, hat⟩ := hr.lies (by omega)
  have c1 := hat _ _ PA.out.1
  have c2 := hat _ _ PA.out.2
  rw [add_off] at c2
  clear T hr hat
  go_wp2_with fail
  go_quiet (fail)
  go_wp2_with fail
  go_ret3
  exact ⟨by rw [R.out]; rfl, bdrewN hb _⟩
end Go.Proofs.Ytaegekmfndcflaa
