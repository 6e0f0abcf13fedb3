/-
  For every two slices of ints the law CodeParts returns true: of two streams, one behind the other, come the commands of both; what is wrong in the second one stands so much further on (200 numbers each at most). No condition.
-/
import Derived.Test.YtaegekmfndcflaaRow
import Derived.Test.YtaegekmfndcflaaAwake
import Derived.Test.YtaegekmfndcflaaSame
import Derived.Test.YtaegekmfndcflaaOpen
import Derived.Test.YtaegekmfndcflaaMb
import Derived.Test.YtaegekmfndcflaaJoin
import Derived.Deep.DeepCutAuto
namespace Go.Proofs.Ytaegekmfndcflaa.codeParts
open Go.ChangeShapes Go.WideShapes Go.ChangeAt Go.RowKit
set_option linter.unusedVariables false
set_option linter.unusedSimpArgs false

theorem own : ownKnob Try.prog.godebug = none := by kernel_rfl

set_option maxRecDepth 100000 in
set_option maxHeartbeats 4000000 in
theorem walk (A B : Option Addr) (c d : Nat) (a b : List Int) (w : World) (hA : Reads w w.heap.size 1 A a.length (ints a)) (hB : Reads w w.heap.size 1 B b.length (ints b)) :
    Calls Try.prog 8 #[.slice A a.length c, .slice B b.length d] w fun e w' => e = .returned (.bool true) ∧ Below w.heap.size w w' := by
  by_cases big : 200 < a.length
  · have q : decide ((200 : Int) < (a.length : Int)) = true := decide_eq_true (by omega)
    clear hA hB
    go_enter Try.func8, Try.ntmps8
    go_wp2_with fail
    refine (awake_any _).mono ?_
    rintro e w1 ⟨rfl, hb⟩
    go_wp2_with fail
    go_ret
    exact ⟨rfl, hb⟩
  have q : decide ((200 : Int) < (a.length : Int)) = false := decide_eq_false (by omega)
  by_cases big2 : 200 < b.length
  · have q2 : decide ((200 : Int) < (b.length : Int)) = true := decide_eq_true (by omega)
    clear hA hB
    go_enter Try.func8, Try.ntmps8
    go_wp2_with fail
    refine (awake_any _).mono ?_
    rintro e w1 ⟨rfl, hb⟩
    go_wp2_with fail
    go_ret
    exact ⟨rfl, hb⟩
  have q2 : decide ((200 : Int) < (b.length : Int)) = false := decide_eq_false (by omega)
  have qa : (a.length : Int) ≤ 200 := by omega
  have qb : (b.length : Int) ≤ 200 := by omega
  obtain ⟨i0, hi0, hz0, hz1, hz2⟩ := info_parts int_info
  obtain ⟨j0, hj0, hy0, hy1, hy2⟩ := info_parts rec_info
  have T1 := get_code A a c w hA (by omega)
  have T2 := fun (w' : World) (h : Reads w' w'.heap.size 1 B b.length (ints b)) => get_code B b d w' h (by omega)
  have T3 := fun (A' : Option Addr) (c' : Nat) (w' : World) (h : Reads w' w'.heap.size 1 A' (a ++ b).length (ints (a ++ b))) => get_code A' (a ++ b) c' w' h (by rw [List.length_append]; omega)
  have HA := Lib.hid hA
  have HB := Lib.hid hB
  obtain ⟨g1, g2, g3⟩ := P.get_small a
  obtain ⟨g4, g5, g6⟩ := P.get_small b
  have two := fun l q => P.get_two (a := a) (b := b) (l := l) (q := q) (by omega) (by omega)
  have en := (P.go_ends a.length a [] 0 (Nat.le_refl _))
  have en2 := (P.go_ends b.length b [] 0 (Nat.le_refl _))
  have hab : (a ++ b).length = a.length + b.length := List.length_append
  change ((P.get a).2.2 = 0 → (P.get a).2.1 = 0) ∧ ((P.get a).2.2 ≠ 0 → (P.get a).1 = []) ∧ _ at en
  replace en := And.intro en.1 en.2.1
  clear en2
  generalize P.get a = R1 at *
  generalize P.get b = R2 at *
  generalize P.get (a ++ b) = R3 at *
  obtain ⟨L, p1, e1⟩ := R1
  obtain ⟨M, p2, e2⟩ := R2
  unfold RetGet at T1 T2 T3
  dsimp only at T1 T2 T3 two g1 g2 g3 g4 g5 g6 en
  clear hA hB
  rcases Classical.em (e1 = 0) with h1 | h1
  · subst h1
    have tw := two L p1 rfl
    rcases Classical.em (e2 = 0) with h2 | h2
    · subst h2
      rw [if_pos rfl] at tw
      subst tw
      dsimp only at T3
      have HT : Hid (∀ r ∈ L ++ M, r.2.length ≤ 5000) := Lib.hid fun r hr => by
        rcases List.mem_append.1 hr with hr | hr
        · have := g1 r hr; omega
        · have := g4 r hr; omega
      have hLM : Hid ((L ++ M).length = L.length + M.length) := Lib.hid List.length_append
      have hLm : (L ++ M).length ≤ 5000 := by rw [hLM.out]; omega
      obtain ⟨LM, hE⟩ : ∃ LM, L ++ M = LM := ⟨_, rfl⟩
      rw [hE] at T3 HT hLM hLm
      have HE := Lib.hid hE
      clear hE
      clear two en g1 g4 g3 g6
      go_enter Try.func8, Try.ntmps8
      go_wp2_with fail
      refine T1.mono ?_
      rintro e w1 ⟨A1, c1, rfl, r1, K⟩
      clear T1
      go_wp2_with fail
      refine (T2 _ ((HB.out.below K).more K.size)).mono ?_
      rintro e w2 ⟨A2, c2, rfl, r2, hb⟩
      have r1' := (r1.below hb).more hb.size
      replace K := K.trans (hb.mono K.size)
      clear hb T2 r1
      have E0 : Below w2.heap.size w2 (w2.alloc (.cells #[] 3)) := (Below.refl _ w2).alloc (Nat.le_refl _) _
      have own0 : (w2.alloc (.cells #[] 3)).ownsRow w2.heap.size 3 1 (.slice (some ⟨w2.heap.size, 0, none⟩) 0 0) 0 [] := ⟨rfl, .inr ⟨w2.heap.size, 0, #[], rfl, Nat.le_refl _, alloc_at rfl _, Nat.le_refl _, by simp [maxLen], by simp, by simp⟩⟩
      have src0 := (HA.out.below (K.trans (E0.mono K.size)))
      have HE1 : Hid (∀ w5, (w2.alloc (.cells #[] 3)).grownBy w5 (Value.slice (some ⟨w2.heap.size, 0, none⟩) 0 0).ownBlock → Below w2.heap.size w2 w5) := Lib.hid fun w5 hg => E0.grown hg E0.size (fun j hj => (own_lt2 own0 j hj).1)
      have HS1 : Hid (∀ w5, Below w2.heap.size w2 w5 → Reads w5 w.heap.size 1 B b.length (ints b)) := Lib.hid fun w5 h5 => HB.out.below (K.trans (h5.mono K.size))
      have KH := Lib.hid K
      have k1 : 0 + a.length ≤ maxLen := by simp only [maxLen]; omega
      have k2 : (0 + a.length) * 8 ≤ 140737488355328 := by omega
      have k3 : 0 + a.length + b.length ≤ maxLen := by simp only [maxLen]; omega
      have k4 : (0 + a.length + b.length) * 8 ≤ 140737488355328 := by omega
      go_wp2_with (first
        | (at_builtin; refine wpList_append_any _ rfl _ _ 28 (by rfl) w2.heap.size 3 i0 (.int .i64 0) 1 8 Try.underlying28 hi0 hz0 hz1 hz2 rfl (by omega) (.slice (some ⟨w2.heap.size, 0, none⟩) 0 0) 0 [] (by rfl) own0 _ A a.length c (ints a) (by rfl) src0 (ints_one _) k1 k2 E0.size ?_; intro v5 w5 hown5 hg5 hat5; have E1 := HE1.out w5 hg5; have src5 := HS1.out w5 E1)
        | (at_builtin; refine wpList_append_any _ rfl _ _ 28 (by rfl) w2.heap.size 3 i0 (.int .i64 0) 1 8 Try.underlying28 hi0 hz0 hz1 hz2 rfl (by omega) v5 (0 + a.length) ([] ++ ints a) (by rfl) hown5 _ B b.length d (ints b) (by rfl) src5 (ints_one _) k3 k4 E1.size ?_; intro v6 w6 hown6 hg6 hat6))
      have E2 : Below w2.heap.size w2 w6 := E1.grown hg6 E1.size (fun j hj => (own_lt2 hown5 j hj).1)
      have hown7 : w6.ownsRow w2.heap.size 3 1 v6 (a ++ b).length (ints (a ++ b)) := by
        rw [ints_app, List.length_append]
        rw [Nat.zero_add, List.nil_append] at hown6
        exact hown6
      obtain ⟨A3, c3, rfl, r3⟩ := own_form2 hown7
      have r1'' := (r1'.below E2).more E2.size
      have r2' := (r2.below E2).more E2.size
      replace K := K.trans (E2.mono K.size)
      clear E0 E1 E2 own0 src0 HE1 HS1 KH hown5 hown6 hown7 hg5 hg6 hat5 hat6 src5 r1' r2 k1 k2 k3 k4
      generalize a ++ b = ab at *
      simp only [show a.length + b.length = ab.length by omega] at *
      refine (T3 A3 c3 _ r3).mono ?_
      rintro e w7 ⟨A4, c4, rfl, r4, hb⟩
      have s1 := (r1''.below hb).more hb.size
      have s2 := (r2'.below hb).more hb.size
      replace K := K.trans (hb.mono K.size)
      clear hb T3 r3 r1'' r2'
      go_wp2_with fail
      refine (awake_any _).mono ?_
      rintro e w8 ⟨rfl, hb⟩
      have t1 := (s1.below hb).more hb.size
      have t2 := (s2.below hb).more hb.size
      have t4 := (r4.below hb).more hb.size
      replace K := K.trans (hb.mono K.size)
      clear hb s1 s2 r4
      obtain ⟨cs1, rc1, rr1⟩ := t1
      obtain ⟨cs2, rc2, rr2⟩ := t2
      have one1 := rr1.one
      have one2 := rr2.one
      have F0 : Below w8.heap.size w8 (w8.alloc (.cells #[] 30)) := (Below.refl _ w8).alloc (Nat.le_refl _) _
      have ownR : (w8.alloc (.cells #[] 30)).ownsRow w8.heap.size 30 2 (.slice (some ⟨w8.heap.size, 0, none⟩) 0 0) 0 [] := ⟨rfl, .inr ⟨w8.heap.size, 0, #[], rfl, Nat.le_refl _, alloc_at rfl _, Nat.le_refl _, by simp [maxLen], by simp, by simp⟩⟩
      have srcR := Lib.hid (rc1.below F0)
      have HF1 : Hid (∀ w5, (w8.alloc (.cells #[] 30)).grownBy w5 (Value.slice (some ⟨w8.heap.size, 0, none⟩) 0 0).ownBlock → Below w8.heap.size w8 w5) := Lib.hid fun w5 hg => F0.grown hg F0.size (fun j hj => (own_lt2 ownR j hj).1)
      have HF2 : Hid (∀ w5, Below w8.heap.size w8 w5 → Reads w5 w8.heap.size 2 A2 M.length cs2) := Lib.hid fun w5 h5 => rc2.below h5
      have m1 : 0 + L.length ≤ maxLen := by simp only [maxLen]; omega
      have m2 : (0 + L.length) * 32 ≤ 140737488355328 := by omega
      have m3 : 0 + L.length + M.length ≤ maxLen := by simp only [maxLen]; omega
      have m4 : (0 + L.length + M.length) * 32 ≤ 140737488355328 := by omega
      have RR1 := Lib.hid rr1
      have RR2 := Lib.hid rr2
      have T4 := Lib.hid t4
      clear rr1 rr2 rc1 rc2 t4
      go_wp2_with (first
        | (at_builtin; refine wpList_append_want _ (by rfl) _ _ 34 (by rfl) w8.heap.size 30 j0 (.agg #[.int .i64 0, .slice none 0 0]) 2 32 Try.underlying34 hj0 hy0 hy1 hy2 rfl (by omega) (.slice (some ⟨w8.heap.size, 0, none⟩) 0 0) 0 [] (by rfl) ownR _ A1 L.length c1 cs1 (by rfl) srcR.out one1 m1 m2 F0.size ?_; intro v9 w9 hown9 hg9 hat9; have F1 := HF1.out w9 hg9; have src9 := HF2.out w9 F1)
        | (at_builtin; refine wpList_append_want _ (by rfl) _ _ 34 (by rfl) w8.heap.size 30 j0 (.agg #[.int .i64 0, .slice none 0 0]) 2 32 Try.underlying34 hj0 hy0 hy1 hy2 rfl (by omega) v9 (0 + L.length) ([] ++ cs1) (by rfl) hown9 _ A2 M.length c2 cs2 (by rfl) src9 one2 m3 m4 F1.size ?_; intro v10 w10 hown10 hg10 hat10))
      have F2 : Below w8.heap.size w8 w10 := F1.grown hg10 F1.size (fun j hj => (own_lt2 hown9 j hj).1)
      rw [Nat.zero_add, List.nil_append] at hown10
      have hown11 : w10.ownsRow w8.heap.size 30 2 v10 LM.length (cs1 ++ cs2) := by rw [hLM.out]; exact hown10
      obtain ⟨A5, c5, rfl, r5⟩ := own_form2 hown11
      have S5 : RecsAt w10 w10.heap.size A5 LM := ⟨_, r5, by rw [← HE.out]; exact ((RR1.out.append RR2.out).below F2).more F2.size⟩
      have S4 := (T4.out.below F2).more F2.size
      have T5 := same_recs A4 A5 c4 c5 LM w10 S4 S5 hLm HT.out
      replace K := K.trans (F2.mono K.size)
      clear hown9 hown10 hown11 hg9 hg10 hat9 hat10 F0 F1 F2 ownR src9 srcR HF1 HF2 r5 S4 S5 RR1 RR2 T4 one1 one2
      go_wp2_with fail
      refine T5.mono ?_
      rintro e w11 ⟨rfl, hb⟩
      replace K := K.trans (hb.mono K.size)
      clear hb T5
      go_wp2_with fail
      go_ret
      exact ⟨rfl, K⟩
    · rw [if_neg h2] at tw
      subst tw
      dsimp only at T3
      have b2 : (e2 != 0) = true := by simp [h2]
      have qp : (p2 : Int) ≤ 200 := by omega
      have qp0 : (0 : Int) ≤ (p2 : Int) := by omega
      have cst : ((a.length + p2 : Nat) : Int) = (a.length : Int) + (p2 : Int) := by omega
      simp only [cst] at T3
      clear two en g1 g4 g3 g6 cst
      go_enter Try.func8, Try.ntmps8
      go_wp2_with fail
      refine T1.mono ?_
      rintro e w1 ⟨A1, c1, rfl, r1, K⟩
      clear T1
      go_wp2_with fail
      refine (T2 _ ((HB.out.below K).more K.size)).mono ?_
      rintro e w2 ⟨A2, c2, rfl, r2, hb⟩
      have r1' := (r1.below hb).more hb.size
      replace K := K.trans (hb.mono K.size)
      clear hb T2 r1
      have E0 : Below w2.heap.size w2 (w2.alloc (.cells #[] 3)) := (Below.refl _ w2).alloc (Nat.le_refl _) _
      have own0 : (w2.alloc (.cells #[] 3)).ownsRow w2.heap.size 3 1 (.slice (some ⟨w2.heap.size, 0, none⟩) 0 0) 0 [] := ⟨rfl, .inr ⟨w2.heap.size, 0, #[], rfl, Nat.le_refl _, alloc_at rfl _, Nat.le_refl _, by simp [maxLen], by simp, by simp⟩⟩
      have src0 := (HA.out.below (K.trans (E0.mono K.size)))
      have HE1 : Hid (∀ w5, (w2.alloc (.cells #[] 3)).grownBy w5 (Value.slice (some ⟨w2.heap.size, 0, none⟩) 0 0).ownBlock → Below w2.heap.size w2 w5) := Lib.hid fun w5 hg => E0.grown hg E0.size (fun j hj => (own_lt2 own0 j hj).1)
      have HS1 : Hid (∀ w5, Below w2.heap.size w2 w5 → Reads w5 w.heap.size 1 B b.length (ints b)) := Lib.hid fun w5 h5 => HB.out.below (K.trans (h5.mono K.size))
      have KH := Lib.hid K
      have k1 : 0 + a.length ≤ maxLen := by simp only [maxLen]; omega
      have k2 : (0 + a.length) * 8 ≤ 140737488355328 := by omega
      have k3 : 0 + a.length + b.length ≤ maxLen := by simp only [maxLen]; omega
      have k4 : (0 + a.length + b.length) * 8 ≤ 140737488355328 := by omega
      go_wp2_with (first
        | (at_builtin; refine wpList_append_any _ rfl _ _ 28 (by rfl) w2.heap.size 3 i0 (.int .i64 0) 1 8 Try.underlying28 hi0 hz0 hz1 hz2 rfl (by omega) (.slice (some ⟨w2.heap.size, 0, none⟩) 0 0) 0 [] (by rfl) own0 _ A a.length c (ints a) (by rfl) src0 (ints_one _) k1 k2 E0.size ?_; intro v5 w5 hown5 hg5 hat5; have E1 := HE1.out w5 hg5; have src5 := HS1.out w5 E1)
        | (at_builtin; refine wpList_append_any _ rfl _ _ 28 (by rfl) w2.heap.size 3 i0 (.int .i64 0) 1 8 Try.underlying28 hi0 hz0 hz1 hz2 rfl (by omega) v5 (0 + a.length) ([] ++ ints a) (by rfl) hown5 _ B b.length d (ints b) (by rfl) src5 (ints_one _) k3 k4 E1.size ?_; intro v6 w6 hown6 hg6 hat6))
      have E2 : Below w2.heap.size w2 w6 := E1.grown hg6 E1.size (fun j hj => (own_lt2 hown5 j hj).1)
      have hown7 : w6.ownsRow w2.heap.size 3 1 v6 (a ++ b).length (ints (a ++ b)) := by
        rw [ints_app, List.length_append]
        rw [Nat.zero_add, List.nil_append] at hown6
        exact hown6
      obtain ⟨A3, c3, rfl, r3⟩ := own_form2 hown7
      have r1'' := (r1'.below E2).more E2.size
      have r2' := (r2.below E2).more E2.size
      replace K := K.trans (E2.mono K.size)
      clear E0 E1 E2 own0 src0 HE1 HS1 KH hown5 hown6 hown7 hg5 hg6 hat5 hat6 src5 r1' r2 k1 k2 k3 k4
      generalize a ++ b = ab at *
      simp only [show a.length + b.length = ab.length by omega] at *
      refine (T3 A3 c3 _ r3).mono ?_
      rintro e w7 ⟨A4, c4, rfl, r4, hb⟩
      have s1 := (r1''.below hb).more hb.size
      have s2 := (r2'.below hb).more hb.size
      replace K := K.trans (hb.mono K.size)
      clear hb T3 r3 r1'' r2'
      go_wp2_with fail
      refine (awake_any _).mono ?_
      rintro e w8 ⟨rfl, hb⟩
      have t1 := (s1.below hb).more hb.size
      have t2 := (s2.below hb).more hb.size
      have t4 := (r4.below hb).more hb.size
      replace K := K.trans (hb.mono K.size)
      clear hb s1 s2 r4
      clear t1 t2 t4
      go_wp2_with fail
      go_ret
      exact ⟨by simp, K⟩
  · have hL := en.2 h1
    subst hL
    have b1 : (e1 != 0) = true := by simp [h1]
    clear two en g1 g4 g3 g6
    go_enter Try.func8, Try.ntmps8
    go_wp2_with fail
    refine T1.mono ?_
    rintro e w1 ⟨A1, c1, rfl, r1, K⟩
    clear T1
    go_wp2_with fail
    refine (T2 _ ((HB.out.below K).more K.size)).mono ?_
    rintro e w2 ⟨A2, c2, rfl, r2, hb⟩
    have r1' := (r1.below hb).more hb.size
    replace K := K.trans (hb.mono K.size)
    clear hb T2 r1
    have E0 : Below w2.heap.size w2 (w2.alloc (.cells #[] 3)) := (Below.refl _ w2).alloc (Nat.le_refl _) _
    have own0 : (w2.alloc (.cells #[] 3)).ownsRow w2.heap.size 3 1 (.slice (some ⟨w2.heap.size, 0, none⟩) 0 0) 0 [] := ⟨rfl, .inr ⟨w2.heap.size, 0, #[], rfl, Nat.le_refl _, alloc_at rfl _, Nat.le_refl _, by simp [maxLen], by simp, by simp⟩⟩
    have src0 := (HA.out.below (K.trans (E0.mono K.size)))
    have HE1 : Hid (∀ w5, (w2.alloc (.cells #[] 3)).grownBy w5 (Value.slice (some ⟨w2.heap.size, 0, none⟩) 0 0).ownBlock → Below w2.heap.size w2 w5) := Lib.hid fun w5 hg => E0.grown hg E0.size (fun j hj => (own_lt2 own0 j hj).1)
    have HS1 : Hid (∀ w5, Below w2.heap.size w2 w5 → Reads w5 w.heap.size 1 B b.length (ints b)) := Lib.hid fun w5 h5 => HB.out.below (K.trans (h5.mono K.size))
    have KH := Lib.hid K
    have k1 : 0 + a.length ≤ maxLen := by simp only [maxLen]; omega
    have k2 : (0 + a.length) * 8 ≤ 140737488355328 := by omega
    have k3 : 0 + a.length + b.length ≤ maxLen := by simp only [maxLen]; omega
    have k4 : (0 + a.length + b.length) * 8 ≤ 140737488355328 := by omega
    go_wp2_with (first
      | (at_builtin; refine wpList_append_any _ rfl _ _ 28 (by rfl) w2.heap.size 3 i0 (.int .i64 0) 1 8 Try.underlying28 hi0 hz0 hz1 hz2 rfl (by omega) (.slice (some ⟨w2.heap.size, 0, none⟩) 0 0) 0 [] (by rfl) own0 _ A a.length c (ints a) (by rfl) src0 (ints_one _) k1 k2 E0.size ?_; intro v5 w5 hown5 hg5 hat5; have E1 := HE1.out w5 hg5; have src5 := HS1.out w5 E1)
      | (at_builtin; refine wpList_append_any _ rfl _ _ 28 (by rfl) w2.heap.size 3 i0 (.int .i64 0) 1 8 Try.underlying28 hi0 hz0 hz1 hz2 rfl (by omega) v5 (0 + a.length) ([] ++ ints a) (by rfl) hown5 _ B b.length d (ints b) (by rfl) src5 (ints_one _) k3 k4 E1.size ?_; intro v6 w6 hown6 hg6 hat6))
    have E2 : Below w2.heap.size w2 w6 := E1.grown hg6 E1.size (fun j hj => (own_lt2 hown5 j hj).1)
    have hown7 : w6.ownsRow w2.heap.size 3 1 v6 (a ++ b).length (ints (a ++ b)) := by
      rw [ints_app, List.length_append]
      rw [Nat.zero_add, List.nil_append] at hown6
      exact hown6
    obtain ⟨A3, c3, rfl, r3⟩ := own_form2 hown7
    have r1'' := (r1'.below E2).more E2.size
    have r2' := (r2.below E2).more E2.size
    replace K := K.trans (E2.mono K.size)
    clear E0 E1 E2 own0 src0 HE1 HS1 KH hown5 hown6 hown7 hg5 hg6 hat5 hat6 src5 r1' r2 k1 k2 k3 k4
    generalize a ++ b = ab at *
    simp only [show a.length + b.length = ab.length by omega] at *
    refine (T3 A3 c3 _ r3).mono ?_
    rintro e w7 ⟨A4, c4, rfl, r4, hb⟩
    have s1 := (r1''.below hb).more hb.size
    have s2 := (r2'.below hb).more hb.size
    replace K := K.trans (hb.mono K.size)
    clear hb T3 r3 r1'' r2'
    go_wp2_with fail
    refine (awake_any _).mono ?_
    rintro e w8 ⟨rfl, hb⟩
    have t1 := (s1.below hb).more hb.size
    have t2 := (s2.below hb).more hb.size
    have t4 := (r4.below hb).more hb.size
    replace K := K.trans (hb.mono K.size)
    clear hb s1 s2 r4
    clear t1 t2 t4
    go_wp2_with fail
    go_ret
    exact ⟨rfl, K⟩

theorem readable : ∀ t ∈ Try.f8.params.toList, Try.prog.readableRec t = true ∧ t < Try.prog.types.size := by
  intro t ht
  rw [Try.params8] at ht
  simp only [List.mem_cons, List.not_mem_nil, or_false] at ht
  repeat (first | (rcases ht with rfl | ht; exact ⟨by kernel_rfl, of_decide_eq_true (by kernel_rfl)⟩) | (subst ht; exact ⟨by kernel_rfl, of_decide_eq_true (by kernel_rfl)⟩))
set_option maxRecDepth 100000 in
theorem lifted (os : Os) (started : os.Started) (H : Type) (enc : TypeId × Value → H) :
    ReturnsInHanded {} Try.checked os 8 .any (Rows.codePartsSpec.pre6 enc Try.prog Try.f8 Rows.codePartsRow.domain false) (Rows.codePartsSpec.post enc Try.prog Try.f8 false true false false) := by
  refine returnsInHanded_of_change (C := Try.checked) own started (by kernel_rfl) Try.func8
    (ChangeSpec.witness6 (enc := enc) (C := Try.checked) false ⟨#[], #[.slice none 0 0, .slice none 0 0], []⟩ 8 (by kernel_rfl) (by kernel_rfl) (by kernel_rfl) (by kernel_rfl)) ?_
  intro W base args ds gs before hval0 hW hcnd _
  have hval : ∀ (j : Nat) t v, Try.f8.params[j]? = some t → args[j]? = some v → Value.okWide Try.prog W .any base t v := hval0
  have hW' := hW
  obtain ⟨p, q, hA0, hV, rfl, hfz, hnd⟩ := hW
  have hA : DataW.TrodAll enc Try.prog W 0 (fun _ => true) true Try.f8.params.toList args.toList ds p := hA0
  rw [Try.params8] at hA hval
  have hlt : ∀ x ∈ p ++ q, x.block < W.heap.size := fun x hx => hW'.lt x hx
  obtain ⟨v0, v1, d0, d1, p0, p1, rfl, rfl, rfl, h0, h1⟩ := trodAll_two hA
  obtain ⟨rfl, rfl⟩ := trodVars_none hV
  obtain ⟨A0, n0, c0, rfl⟩ := okWide_slice Try.underlying28 (hval 0 28 v0 rfl rfl)
  obtain ⟨B0, k0, d2, rfl⟩ := okWide_slice Try.underlying28 (hval 1 28 v1 rfl rfl)
  obtain ⟨fuel, hf⟩ := h0
  obtain ⟨fuel', hf'⟩ := h1
  obtain ⟨A, c, a, e0, _, _, rdA⟩ := open_nums (v := .slice A0 n0 c0) hf (fun x hx => hlt x (by simp; exact .inl hx))
  obtain ⟨B, d, b, e1, _, _, rdB⟩ := open_nums (v := .slice B0 k0 d2) hf' (fun x hx => hlt x (by simp; exact .inr hx))
  cases e0
  cases e1
  clear hA0 hval0
  refine (walk A0 B0 c0 d2 a b W rdA rdB).mono fun e W' ⟨he, hg⟩ => ?_
  subst he
  exact ⟨_, rfl, post_true (tb := 4) laid readable (by kernel_rfl) Try.underlying4 rfl (fun l hl => by
    match l, hl with
    | [_, _], _ => exact ⟨rfl, rfl, rfl⟩) hW' hg⟩

theorem over : Rows.codePartsRow.holds Try.pinned (OpenSpec.ofChange Rows.codePartsSpec) :=
  OpenClaim.holds_of_wide 8 Try.f8 rfl rfl rfl rfl rfl rfl rfl ⟨rfl, rfl, rfl, rfl, rfl⟩ rfl rfl rfl rfl rfl (by kernel_rfl) Try.func8 (by kernel_rfl)
    (of_decide_eq_true (by kernel_rfl)) (by unfold Func.isWrapper; first | (rw [if_pos (by decide +kernel)]; kernel_rfl) | (rw [if_neg (by decide +kernel)]; exact ⟨rfl, rfl⟩))
    (fun os started H enc _ => lifted os started H enc)

theorem proved : Rows.CodePartsSaid :=
  over
#print axioms proved
end Go.Proofs.Ytaegekmfndcflaa.codeParts
