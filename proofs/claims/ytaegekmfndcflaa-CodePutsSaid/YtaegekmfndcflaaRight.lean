/- Contracts of both Right. -/
import Derived.Test.YtaegekmfndcflaaArity
namespace Go.Proofs.Ytaegekmfndcflaa
open Go.ChangeShapes Go.WideShapes Go.ChangeAt Go.RowKit
set_option linter.unusedVariables false
set_option linter.unusedSimpArgs false

theorem right_none {op : Int} {a : List Int} (h : P.tab op = none) : P.right op a = 5 := by unfold P.right; rw [h]
theorem right_arg {op : Int} {a : List Int} {l : List (Int × Int)} (h : P.tab op = some l) (hn : ¬ l.length = a.length) : P.right op a = 1 := by unfold P.right; rw [h]; simp [hn]
theorem right_fits {op : Int} {a : List Int} {l : List (Int × Int)} (h : P.tab op = some l) (hn : l.length = a.length) : P.right op a = if P.fits l a then 0 else 4 := by unfold P.right; rw [h]; simp [hn]
/-- How Right ends. -/
def RetErr (w : World) (n : Int) (e : Ending) (w' : World) : Prop := e = .returned (.int .i64 n) ∧ Below w.heap.size w w'
set_option maxHeartbeats 1000000 in
theorem right_code (op : Int) (a : List Int) (A : Option Addr) (c : Nat) (w : World) (hA : Reads w w.heap.size 1 A a.length (ints a)) :
    Calls Try.prog 15 #[.agg #[.int .i64 op, .slice A a.length c]] w (RetErr w (P.right op a)) := by
  have K0 : Below w.heap.size w (w.alloc (.cells #[.int .i64 op, .slice A a.length c] 30)) := (Below.refl _ w).alloc (Nat.le_refl _) _
  have T := spans_any op (w.alloc (.cells #[.int .i64 op, .slice A a.length c] 30))
  have C1 : (w.alloc (.cells #[.int .i64 op, .slice A a.length c] 30)).cell? ⟨w.heap.size, 1, none⟩ = some (.slice A a.length c) := by simp
  have S1 : w.heap.size < (w.alloc (.cells #[.int .i64 op, .slice A a.length c] 30)).heap.size := by simp
  have HC := Lib.hid C1
  clear C1
  rcases ht : P.tab op with _ | l
  · have E := Lib.hid (right_none (a := a) ht)
    rw [ht] at T
    clear ht hA
    go_enter Try.func15, Try.ntmps15
    go_wp2_with fail
    refine T.mono ?_
    rintro e w1 ⟨A1, c1, rfl, hr, hb⟩
    have K1 := K0.trans (hb.mono K0.size)
    clear T hb hr
    go_wp2_with fail
    go_ret
    exact ⟨by rw [E.out]; rfl, K1⟩
  have hl16 := P.tab_len ht
  rw [ht] at T
  unfold RetTab at T
  by_cases hn : l.length = a.length
  · have E := Lib.hid (right_fits ht hn)
    have HN := Lib.hid hn
    have b1 : ((a.length : Int) != (l.length : Int)) = false := by simp [hn]
    have q0 : (a.length : Int) ≤ 16 := by omega
    simp only [Option.getD_some, Option.isSome_some] at T
    clear ht
    go_enter Try.func15, Try.ntmps15
    go_wp2_with fail
    refine T.mono ?_
    rintro e w1 ⟨A1, c1, rfl, hr, hb⟩
    have K1 := K0.trans (hb.mono K0.size)
    have C2 := (hb.cell (p := ⟨w.heap.size, 1, none⟩) S1).trans HC.out
    have hA1 := hA.below K1
    clear T hb
    go_wp2_with fail
    rw [hn] at hr
    clear hn b1 C2
    go_loop [26] (fun v => ∃ k : Nat, v = .int .i64 k ∧ k ≤ a.length ∧ Hid (P.fits (l.drop k) (a.drop k) = P.fits l a)) (fun v => a.length - (intOf v).toNat)
    case atStart => exact ⟨0, rfl, by omega, Lib.hid (by rw [List.drop_zero, List.drop_zero])⟩
    case round =>
      obtain ⟨k, rfl, hk, hF⟩ := hrel
      have q1 : (0 : Int) ≤ (k : Int) := by omega
      by_cases hlt : k < a.length
      · have hl : k < l.length := by rw [HN.out]; exact hlt
        have q2 : (k : Int) < (a.length : Int) := by omega
        obtain ⟨ad, u, rfl, hb1, hx, hc⟩ := hA1.at_ hlt
        rw [ints_get hlt] at hx
        obtain rfl := Option.some.inj hx
        obtain ⟨ad1, rfl, hlt2, hat⟩ := hr.lies (by omega)
        have c1 := hat _ _ (pairs_at hl).1
        have c2 := hat _ _ (pairs_at hl).2
        rw [add_off] at c2
        have FB := P.fits_bad HN.out hl
        have FS := P.fits_step HN.out hl
        generalize a[k] = x at *
        generalize l[k].1 = lo at *
        generalize l[k].2 = hi at *
        clear hx hat hA1 hr
        by_cases h1 : x < lo
        · have E4 : Hid (P.right op a = 4) := Lib.hid (by rw [E.out, ← hF.out, FB (by omega)]; rfl)
          clear FB FS
          go_wp2_with fail
          go_ret
          exact ⟨by rw [E4.out]; rfl, K1⟩
        by_cases h2 : hi < x
        · have E4 : Hid (P.right op a = 4) := Lib.hid (by rw [E.out, ← hF.out, FB (by omega)]; rfl)
          clear FB FS
          have d1 : decide (x < lo) = false := decide_eq_false h1
          go_wp2_with fail
          go_ret
          exact ⟨by rw [E4.out]; rfl, K1⟩
        · have N : Hid (P.fits (l.drop (k + 1)) (a.drop (k + 1)) = P.fits l a) := Lib.hid (by rw [← FS ⟨by omega, by omega⟩]; exact hF.out)
          have d1 : decide (x < lo) = false := decide_eq_false h1
          have d2 : decide (hi < x) = false := decide_eq_false h2
          clear FB FS
          go_wp2_with fail
          exact ⟨⟨k + 1, rfl, by omega, N⟩, by simp [intOf]; omega⟩
      · have q2 : ¬ (k : Int) < (a.length : Int) := by omega
        have E0 : Hid (P.right op a = 0) := Lib.hid (by rw [E.out, ← hF.out, P.fits_end (by have := HN.out; omega)]; rfl)
        clear hA1 hr
        go_wp2_with fail
        go_ret
        exact ⟨by rw [E0.out]; rfl, K1⟩
  · have E := Lib.hid (right_arg ht hn)
    have b1 : ((a.length : Int) != (l.length : Int)) = true := by simp; omega
    clear ht hA
    go_enter Try.func15, Try.ntmps15
    go_wp2_with fail
    refine T.mono ?_
    rintro e w1 ⟨A1, c1, rfl, hr, hb⟩
    have K1 := K0.trans (hb.mono K0.size)
    have C2 := (hb.cell (p := ⟨w.heap.size, 1, none⟩) S1).trans HC.out
    clear T hb hr
    go_wp2_with fail
    go_ret
    exact ⟨by rw [E.out]; rfl, K1⟩
set_option maxHeartbeats 1000000 in
theorem right_doc (op : Int) (a : List Int) (A : Option Addr) (c : Nat) (w : World) (hA : Reads w w.heap.size 1 A a.length (ints a)) :
    Calls Try.prog 16 #[.agg #[.int .i64 op, .slice A a.length c]] w (RetErr w (P.right op a)) := by
  have K0 : Below w.heap.size w (w.alloc (.cells #[.int .i64 op, .slice A a.length c] 30)) := (Below.refl _ w).alloc (Nat.le_refl _) _
  have T := bounds_any op (w.alloc (.cells #[.int .i64 op, .slice A a.length c] 30))
  have C1 : (w.alloc (.cells #[.int .i64 op, .slice A a.length c] 30)).cell? ⟨w.heap.size, 1, none⟩ = some (.slice A a.length c) := by simp
  have S1 : w.heap.size < (w.alloc (.cells #[.int .i64 op, .slice A a.length c] 30)).heap.size := by simp
  have HC := Lib.hid C1
  clear C1
  rcases ht : P.tab op with _ | l
  · have E := Lib.hid (right_none (a := a) ht)
    rw [ht] at T
    clear ht hA
    go_enter Try.func16, Try.ntmps16
    go_wp2_with fail
    refine T.mono ?_
    rintro e w1 ⟨A1, c1, rfl, hr, hb⟩
    have K1 := K0.trans (hb.mono K0.size)
    clear T hb hr
    go_wp2_with fail
    go_ret
    exact ⟨by rw [E.out]; rfl, K1⟩
  have hl16 := P.tab_len ht
  rw [ht] at T
  unfold RetTab at T
  by_cases hn : l.length = a.length
  · have E := Lib.hid (right_fits ht hn)
    have HN := Lib.hid hn
    have b1 : ((l.length : Int) != (a.length : Int)) = false := by simp [hn]
    have q0 : (a.length : Int) ≤ 16 := by omega
    simp only [Option.getD_some, Option.isSome_some] at T
    clear ht
    go_enter Try.func16, Try.ntmps16
    go_wp2_with fail
    refine T.mono ?_
    rintro e w1 ⟨A1, c1, rfl, hr, hb⟩
    have K1 := K0.trans (hb.mono K0.size)
    have C2 := (hb.cell (p := ⟨w.heap.size, 1, none⟩) S1).trans HC.out
    have hA1 := hA.below K1
    have S0 := hb.size
    clear T hb
    go_wp2_with fail
    rw [hn] at hr
    have S2 : w.heap.size < w1.heap.size := Nat.lt_of_lt_of_le S1 S0
    clear hn b1
    go_loopw [5] (fun v wr => ∃ k : Nat, v = .int .i64 k ∧ k ≤ a.length ∧ Hid (P.fits (l.drop k) (a.drop k) = P.fits l a) ∧ Below w1.heap.size w1 wr) (fun v _ => a.length - (intOf v).toNat)
    case atStart => exact ⟨0, rfl, by omega, Lib.hid (by rw [List.drop_zero, List.drop_zero]), Below.refl _ _⟩
    case round =>
      obtain ⟨k, rfl, hk, hF, hB⟩ := hrel
      have q1 : (0 : Int) ≤ (k : Int) := by omega
      have K2 := K1.trans (hB.mono K1.size)
      by_cases hlt : k < a.length
      · have hl : k < l.length := by rw [HN.out]; exact hlt
        have q2 : (k : Int) < (a.length : Int) := by omega
        have C3 := (hB.cell (p := ⟨w.heap.size, 1, none⟩) S2).trans C2
        obtain ⟨ad, u, rfl, hb1, hx, hc⟩ := (hA.below K2).at_ hlt
        rw [ints_get hlt] at hx
        obtain rfl := Option.some.inj hx
        obtain ⟨ad1, rfl, hlt2, hat⟩ := (hr.below hB).lies (by omega)
        have c1 := hat _ _ (pairs_at hl).1
        have c2 := hat _ _ (pairs_at hl).2
        rw [add_off] at c2
        have FB := P.fits_bad HN.out hl
        have FS := P.fits_step HN.out hl
        have HA := Lib.hid hA
        generalize a[k] = x at *
        generalize l[k].1 = lo at *
        generalize l[k].2 = hi at *
        clear hx hat hA hr hA1 C2
        by_cases h1 : x < lo
        · have E4 : Hid (P.right op a = 4) := Lib.hid (by rw [E.out, ← hF.out, FB (by omega)]; rfl)
          clear FB FS
          have d1 : decide (x < lo) = true := decide_eq_true h1
          go_wp2_with fail
          go_quiet (fail)
          go_wp2_with fail
          go_ret
          exact ⟨by rw [E4.out]; rfl, bdrewN K2 _⟩
        by_cases h2 : hi < x
        · have E4 : Hid (P.right op a = 4) := Lib.hid (by rw [E.out, ← hF.out, FB (by omega)]; rfl)
          clear FB FS
          have d1 : decide (x < lo) = false := decide_eq_false h1
          have d2 : decide (hi < x) = true := decide_eq_true h2
          go_wp2_with fail
          go_quiet (fail)
          go_wp2_with fail
          go_ret
          exact ⟨by rw [E4.out]; rfl, bdrewN K2 _⟩
        · have N : Hid (P.fits (l.drop (k + 1)) (a.drop (k + 1)) = P.fits l a) := Lib.hid (by rw [← FS ⟨by omega, by omega⟩]; exact hF.out)
          have d1 : decide (x < lo) = false := decide_eq_false h1
          have d2 : decide (hi < x) = false := decide_eq_false h2
          clear FB FS
          go_wp2_with fail
          go_quiet (fail)
          go_wp2_with fail
          exact ⟨⟨k + 1, rfl, by omega, N, bdrewN hB _⟩, by simp [intOf]; omega⟩
      · have q2 : ¬ (k : Int) < (a.length : Int) := by omega
        have E0 : Hid (P.right op a = 0) := Lib.hid (by rw [E.out, ← hF.out, P.fits_end (by have := HN.out; omega)]; rfl)
        clear hA hr hA1
        go_wp2_with fail
        go_ret
        exact ⟨by rw [E0.out]; rfl, K2⟩
  · have E := Lib.hid (right_arg ht hn)
    have b1 : ((l.length : Int) != (a.length : Int)) = true := by simp; omega
    clear ht hA
    go_enter Try.func16, Try.ntmps16
    go_wp2_with fail
    refine T.mono ?_
    rintro e w1 ⟨A1, c1, rfl, hr, hb⟩
    have K1 := K0.trans (hb.mono K0.size)
    have C2 := (hb.cell (p := ⟨w.heap.size, 1, none⟩) S1).trans HC.out
    clear T hb hr
    go_wp2_with fail
    go_ret
    exact ⟨by rw [E.out]; rfl, K1⟩
end Go.Proofs.Ytaegekmfndcflaa
