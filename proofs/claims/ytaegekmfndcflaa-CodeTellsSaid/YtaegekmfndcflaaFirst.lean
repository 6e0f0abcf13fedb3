/- Contracts of slices.Clone over numbers, and of first. -/
import Derived.Test.YtaegekmfndcflaaRight
import Derived.WalkSpells
namespace Go.Proofs.Ytaegekmfndcflaa
open Go.ChangeShapes Go.WideShapes Go.ChangeAt Go.RowKit
set_option linter.unusedVariables false
set_option linter.unusedSimpArgs false

theorem int_info : (Try.prog.info? 3).map (fun i => (i.zero, i.size, i.bytes)) = some (some (.int .i64 0), 1, 8) := by kernel_rfl
/-- How a list of numbers is handed back. -/
def RetInts (w : World) (a : List Int) (e : Ending) (w' : World) : Prop :=
  ∃ A c, e = .returned (.slice A a.length c) ∧ a.length ≤ c ∧ c ≤ 9223372036854775807 ∧ Reads w' w'.heap.size 1 A a.length (ints a) ∧ Below w.heap.size w w'
theorem own_cap {w : World} {base n sz : Nat} {e : TypeId} {v : Value} {xs : List Value} (h : w.ownsRow base e sz v n xs) : ∃ A c, v = .slice A n c ∧ n ≤ c ∧ c ≤ 9223372036854775807 ∧ Reads w w.heap.size sz A n xs := by
  rcases h.2 with ⟨rfl, hz⟩ | ⟨g, cap, cur, rfl, _, _, hc, hm, _⟩
  · subst hz
    have := List.eq_nil_of_length_eq_zero (by simpa using h.1)
    subst this
    exact ⟨none, 0, rfl, Nat.le_refl _, by omega, Reads.none_⟩
  · exact ⟨some ⟨g, 0, none⟩, cap, rfl, hc, by simpa [maxLen] using hm, Reads.of_own h⟩
set_option maxHeartbeats 1000000 in
theorem clone_any (A : Option Addr) (a : List Int) (c : Nat) (w : World) (hA : Reads w w.heap.size 1 A a.length (ints a)) (hl : a.length ≤ 5000) :
    Calls Try.prog 24 #[.slice A a.length c] w (RetInts w a) := by
  obtain ⟨i0, hi0, hz0, hz1, hz2⟩ := info_parts int_info
  have E : ∀ w, (binOp .eql 28 (.slice A a.length c) (.slice none 0 0)).run Try.prog w = .ok (.bool A.isNone) w := fun w => Lib.run_eql_slice_nil w 28 3 A a.length c 0 0 Try.underlying28
  cases A with
  | none =>
    have hn : a = [] := by
      rcases a with _ | ⟨x, l⟩
      · rfl
      · obtain ⟨ad, h, _⟩ := hA.lies (by simp)
        cases h
    subst hn
    simp only [Option.isNone_none, List.length_nil] at E ⊢
    go_enter Try.func24, Try.ntmps24
    go_wp2_with fail
    go_ret
    exact ⟨none, 0, rfl, Nat.le_refl _, by omega, Reads.none_, Below.refl _ _⟩
  | some ad =>
    simp only [Option.isNone_some] at E
    have K0 : Below w.heap.size w (w.alloc (.cells #[] 3)) := (Below.refl _ w).alloc (Nat.le_refl _) _
    have own0 : (w.alloc (.cells #[] 3)).ownsRow w.heap.size 3 1 (.slice (some ⟨w.heap.size, 0, none⟩) 0 0) 0 [] := ⟨rfl, .inr ⟨w.heap.size, 0, #[], rfl, Nat.le_refl _, alloc_at rfl _, Nat.le_refl _, by simp [maxLen], by simp, by simp⟩⟩
    have hA0 := hA.below K0
    have h63 : 0 + a.length ≤ maxLen := by simp only [maxLen]; omega
    have hby : (0 + a.length) * 8 ≤ 140737488355328 := by omega
    go_enter Try.func24, Try.ntmps24
    go_wp2_with (at_builtin; refine wpList_append_any _ rfl _ _ 28 (by rfl) w.heap.size 3 i0 (.int .i64 0) 1 8 Try.underlying28 hi0 hz0 hz1 hz2 rfl (by omega) (.slice (some ⟨w.heap.size, 0, none⟩) 0 0) 0 [] (by rfl) own0 w.heap.size (some ad) a.length c (ints a) (by rfl) hA0 (ints_one a) h63 hby K0.size ?_; intro v1 w1 hown1 hg1 hat1)
    rw [Nat.zero_add, List.nil_append] at hown1
    have K1 : Below w.heap.size w w1 := K0.grown hg1 K0.size (fun j hj => (own_lt2 own0 j hj).1)
    obtain ⟨A1, c1, rfl, h1, h2, hr⟩ := own_cap hown1
    have E1 : Hid (RetInts w a (.returned (.slice A1 a.length c1)) w1) := Lib.hid ⟨A1, c1, rfl, h1, h2, hr, K1⟩
    clear hown1 hat1 hg1 hr
    go_ret
    exact E1.out
set_option maxHeartbeats 1000000 in
theorem first_any (x : Int) (ad : Addr) (m c n : Nat) (w : World) (hm : 0 < m) (hm2 : m ≤ 5000) (hn : n ≤ 5000) (hb : ad.block < w.heap.size) (hx : w.cell? ad = some (.int .i64 x)) :
    Calls Try.prog 25 #[.slice (some ad) m c, .int .i64 n] w fun e w' => e = .returned (.tuple #[.int .i64 ((P.first x m n).1 : Nat), .int .i64 (P.first x m n).2]) ∧ Below w.heap.size w w' := by
  have T := arity_code x w
  have q0 : (0 : Int) < (m : Int) := by omega
  have q1 : (m : Int) ≤ 5000 := by omega
  have q2 : (0 : Int) ≤ (n : Int) := by omega
  have q3 : (n : Int) ≤ 5000 := by omega
  by_cases h1 : 4096 ≤ n
  · have E := Lib.hid (P.first_long x m n h1)
    have q4 : (4096 : Int) ≤ (n : Int) := by omega
    go_enter Try.func25, Try.ntmps25
    go_wp2_with fail
    refine T.mono ?_
    rintro e w1 ⟨rfl, hb⟩
    clear T
    go_wp2_with fail
    go_ret2
    exact ⟨by rw [E.out]; rfl, hb⟩
  have q4 : ¬ (4096 : Int) ≤ (n : Int) := by omega
  have q5 : decide ((4096 : Int) ≤ (n : Int)) = false := decide_eq_false q4
  rcases ht : P.tab x with _ | b
  · have E := Lib.hid (P.first_none (x := x) m (by omega : n < 4096) ht)
    rw [ht] at T
    clear ht
    go_enter Try.func25, Try.ntmps25
    go_wp2_with fail
    refine T.mono ?_
    rintro e w1 ⟨rfl, hb⟩
    clear T
    go_wp2_with fail
    go_ret2
    exact ⟨by rw [E.out]; rfl, hb⟩
  rw [ht] at T
  simp only [Option.getD_some, Option.isSome_some] at T
  by_cases h2 : m ≤ b.length
  · have E := Lib.hid (P.first_arg (x := x) (by omega : n < 4096) ht h2)
    have q6 : decide ((m : Int) ≤ (b.length : Int)) = true := decide_eq_true (by omega)
    have q7 : (m : Int) ≤ (b.length : Int) := by omega
    clear ht
    go_enter Try.func25, Try.ntmps25
    go_wp2_with fail
    refine T.mono ?_
    rintro e w1 ⟨rfl, hb⟩
    clear T
    go_wp2_with fail
    go_ret2
    exact ⟨by rw [E.out]; rfl, hb⟩
  · have E := Lib.hid (P.first_some (x := x) (by omega : n < 4096) ht (by omega : b.length < m))
    have q6 : decide ((m : Int) ≤ (b.length : Int)) = false := decide_eq_false (by omega)
    have q7 : ¬ (m : Int) ≤ (b.length : Int) := by omega
    clear ht
    go_enter Try.func25, Try.ntmps25
    go_wp2_with fail
    refine T.mono ?_
    rintro e w1 ⟨rfl, hb⟩
    clear T
    go_wp2_with fail
    go_ret2
    exact ⟨by rw [E.out]; rfl, hb⟩
end Go.Proofs.Ytaegekmfndcflaa
