/- Contract of the code's Put. -/
import Derived.Test.YtaegekmfndcflaaGet
namespace Go.Proofs.Ytaegekmfndcflaa
open Go.ChangeShapes Go.WideShapes Go.ChangeAt Go.RowKit
set_option linter.unusedVariables false
set_option linter.unusedSimpArgs false

theorem flat_take {l : List P.Rec} {k : Nat} (h : k < l.length) : P.flat (l.take (k + 1)) = P.flat (l.take k) ++ (l[k].1 :: l[k].2) := by
  rw [List.take_succ_eq_append_getElem h, P.flat_app, P.flat_one]
theorem flat_le {l : List P.Rec} : ∀ {k : Nat}, (∀ r ∈ l.take k, ¬ P.bad r) → (P.flat (l.take k)).length ≤ 17 * k
  | 0, _ => by simp [P.flat]
  | k + 1, h => by
    by_cases q : k < l.length
    · have e : l.take (k + 1) = l.take k ++ [l[k]] := List.take_succ_eq_append_getElem q
      rw [e] at h
      have ih := flat_le (l := l) (k := k) (fun r hr => h r (List.mem_append_left _ hr))
      obtain ⟨b, ht, hb⟩ := P.bad_not (h l[k] (List.mem_append_right _ (List.mem_singleton.2 rfl)))
      have := P.tab_len ht
      rw [flat_take q, List.length_append, List.length_cons]
      omega
    · have e : l.take (k + 1) = l.take k := by rw [List.take_of_length_le (by omega), List.take_of_length_le (by omega)]
      rw [e] at h ⊢
      have ih := flat_le (l := l) (k := k) h
      omega
theorem good_take {l : List P.Rec} {k : Nat} (h : k < l.length) (hg : ∀ r ∈ l.take k, ¬ P.bad r) (hb : ¬ P.bad l[k]) : ∀ r ∈ l.take (k + 1), ¬ P.bad r := by
  intro r hr
  rw [List.take_succ_eq_append_getElem h, List.mem_append] at hr
  rcases hr with hr | hr
  · exact hg r hr
  · rw [List.mem_singleton.1 hr]; exact hb
/-- How Put ends. -/
def RetPut (w : World) (R : List Int × Int) (e : Ending) (w' : World) : Prop :=
  ∃ A c, e = .returned (.tuple #[.slice A R.1.length c, .int .i64 R.2]) ∧ R.1.length ≤ c ∧ Reads w' w'.heap.size 1 A R.1.length (ints R.1) ∧ Below w.heap.size w w'
theorem put_none {w w' : World} {R : List Int × Int} {e : Int} (h : R = ([], e)) (hb : Below w.heap.size w w') : RetPut w R (.returned (.tuple #[.slice none 0 0, .int .i64 e])) w' := by
  subst h
  exact ⟨none, 0, rfl, Nat.le_refl _, Reads.none_, hb⟩
theorem put_own {w w' : World} {R : List Int × Int} {s : List Int} {v : Value} {B : Nat} (h : R = (s, 0)) (hown : w'.ownsRow B 3 1 v s.length (ints s)) (hb : Below w.heap.size w w') : RetPut w R (.returned (.tuple #[v, .int .i64 0])) w' := by
  subst h
  obtain ⟨A, c, rfl, h1, _, hr⟩ := own_cap hown
  exact ⟨A, c, rfl, h1, hr, hb⟩
theorem bad_cases {x : Int} : (x ≠ 0 ∧ x ≠ 4) ∨ x = 0 ∨ x = 4 := by omega
set_option maxRecDepth 100000 in
set_option maxHeartbeats 4000000 in
theorem put_code (A : Option Addr) (l : List P.Rec) (c : Nat) (w : World) (hA : RecsAt w w.heap.size A l) (hl : l.length ≤ 4096) :
    Calls Try.prog 17 #[.slice A l.length c] w (RetPut w (P.put l)) := by
  obtain ⟨i0, hi0, hz0, hz1, hz2⟩ := info_parts int_info
  have b0 : (l.length : Int) ≤ 4096 := by omega
  have bf : decide ((4096 : Int) < (l.length : Int)) = false := decide_eq_false (by omega)
  go_enter Try.func17, Try.ntmps17
  go_wp2_with fail
  go_loopw [4, 13] (fun u v wr => ∃ k : Nat, v = .int .i64 k ∧ k ≤ l.length ∧ Hid (∀ r ∈ l.take k, ¬ P.bad r) ∧ wr.ownsRow w.heap.size 3 1 u (P.flat (l.take k)).length (ints (P.flat (l.take k))) ∧ Below w.heap.size w wr) (fun _ v _ => l.length - (intOf v).toNat)
  case atStart => exact ⟨0, rfl, by omega, Lib.hid (by simp), ⟨rfl, .inl ⟨rfl, rfl⟩⟩, Below.refl _ _⟩
  case round =>
    obtain ⟨k, rfl, hk, hG, hown, hB⟩ := hrel
    have q0 : (0 : Int) ≤ (k : Int) := by omega
    by_cases hlt : k < l.length
    · have q1 : (k : Int) < (l.length : Int) := by omega
      obtain ⟨ad, A', c', rfl, lt1, c1, c2, r1⟩ := (hA.below hB).at_ hlt
      have fl := flat_le hG.out
      have ft := flat_take hlt
      have gt := fun (h : ¬ P.bad l[k]) => good_take hlt hG.out h
      have pb := fun (h : P.bad l[k]) => P.put_bad hlt hG.out h
      have pn := fun (h : ¬ P.bad l[k]) => P.bad_not h
      have bd : P.bad l[k] ↔ P.right l[k].1 l[k].2 ≠ 0 ∧ P.right l[k].1 l[k].2 ≠ 4 := Iff.rfl
      rw [add_off] at c2
      generalize l[k].1 = op at *
      generalize l[k].2 = a at *
      have HA := Lib.hid hA
      have B1 : Below wr.heap.size wr (wr.alloc (.cells #[.int .i64 op, .slice A' a.length c'] 30)) := (Below.refl _ wr).alloc (Nat.le_refl _) _
      have T := right_code op a A' c' (wr.alloc (.cells #[.int .i64 op, .slice A' a.length c'] 30)) ((r1.below (B1.mono hB.size)).more (Nat.le_trans hB.size B1.size))
      have n1 : ∀ i, (wr.alloc (.cells #[.int .i64 op, .slice A' a.length c'] 30)).cell? ⟨wr.heap.size, i, none⟩ = #[Value.int .i64 op, .slice A' a.length c'][i]? := fun i => new_cell rfl _ 30 i
      have N1 := Lib.hid n1
      have S1 : wr.heap.size < (wr.alloc (.cells #[.int .i64 op, .slice A' a.length c'] 30)).heap.size := by simp
      clear hA n1
      go_wp2_with fail
      refine T.mono ?_
      rintro e w3 ⟨rfl, hb3⟩
      clear T
      have hBB := hB.trans (B1.mono hB.size)
      have hB3 := hBB.trans (hb3.mono hBB.size)
      have m0 := (hb3.cell (p := ⟨wr.heap.size, 0, none⟩) S1).trans (N1.out 0)
      have m1 := (hb3.cell (p := ⟨wr.heap.size, 1, none⟩) S1).trans (N1.out 1)
      have m0 : w3.cell? ⟨wr.heap.size, 0, none⟩ = some (.int .i64 op) := m0
      have m1 : w3.cell? ⟨wr.heap.size, 1, none⟩ = some (.slice A' a.length c') := m1
      have lt := own_lt2 hown
      have own3 := own_below hown (B1.trans (hb3.mono B1.size))
      have r3 := (r1.below ((B1.trans (hb3.mono B1.size)).mono hB.size))
      have sz3 : wr.heap.size < w3.heap.size := Nat.lt_of_lt_of_le S1 hb3.size
      clear c1 c2 r1 hown hb3 B1
      generalize P.right op a = R at *
      by_cases hbad : P.bad l[k]
      · have hR := bd.1 hbad
        have x1 : (R != 0) = true := by simp [hR.1]
        have x2 : (R != 4) = true := by simp [hR.2]
        have E := Lib.hid (put_none (pb hbad) hB3)
        clear pb gt pn bd ft own3 r3 m0 m1 hR
        go_wp2_with fail
        go_ret2
        exact E.out
      · obtain ⟨b, ht, hbl⟩ := pn hbad
        have ha := P.tab_len ht
        rw [hbl] at ha
        have G2 := Lib.hid (gt hbad)
        have FT := Lib.hid ft
        have hR : R = 0 ∨ R = 4 := by
          have hx : ¬ (R ≠ 0 ∧ R ≠ 4) := fun h => hbad (bd.2 h)
          omega
        clear pb gt pn bd ht hbl hbad ft
        generalize P.flat (l.take k) = s at *
        have hs : s.length ≤ 69632 := by omega
        have own4 : (w3.alloc (.cells #[.int .i64 op] 3)).ownsRow w.heap.size 3 1 u4 s.length (ints s) := own3.alloc _
        have KK : Below w3.heap.size w3 (w3.alloc (.cells #[.int .i64 op] 3)) := (Below.refl _ w3).alloc (Nat.le_refl _) _
        have K4 : Below w.heap.size w (w3.alloc (.cells #[.int .i64 op] 3)) := hB3.alloc hB3.size _
        have src : Reads (w3.alloc (.cells #[.int .i64 op] 3)) (w3.heap.size + 1) 1 (some ⟨w3.heap.size, 0, none⟩) 1 (ints [op]) := ⟨rfl, fun _ => ⟨_, rfl, by simp, fun j z hz => by
          rw [add_zero_block]
          exact (new_cell (W := w3) rfl _ 3 j).trans (by simpa [ints] using hz)⟩⟩
        have h63 : s.length + 1 ≤ maxLen := by simp only [maxLen]; omega
        have hby : (s.length + 1) * 8 ≤ 140737488355328 := by omega
        have k63 : s.length + 1 + a.length ≤ maxLen := by simp only [maxLen]; omega
        have kby : (s.length + 1 + a.length) * 8 ≤ 140737488355328 := by omega
        have M1 := Lib.hid m1
        have R3 := Lib.hid r3
        have hsw := hB3.size
        have HK5 : Hid (∀ w5, (w3.alloc (.cells #[.int .i64 op] 3)).grownBy w5 u4.ownBlock → Below w.heap.size w w5) := Lib.hid fun w5 hg => K4.grown hg K4.size (fun j hj => (lt j hj).1)
        have HM5 : Hid (∀ w5, (w3.alloc (.cells #[.int .i64 op] 3)).grownBy w5 u4.ownBlock → w5.cell? ⟨wr.heap.size, 1, none⟩ = some (.slice A' a.length c')) := Lib.hid fun w5 hg =>
          (World.cell?_of_block (a := ⟨wr.heap.size, 1, none⟩) (hg.block _ (by dsimp only; have := KK.size; omega) (fun e => by have := (lt _ e.symm).2; dsimp only at this; omega))).trans ((KK.cell (p := ⟨wr.heap.size, 1, none⟩) sz3).trans m1)
        have HR5 : Hid (∀ w5, (w3.alloc (.cells #[.int .i64 op] 3)).grownBy w5 u4.ownBlock → Reads w5 w.heap.size 1 A' a.length (ints a)) := Lib.hid fun w5 hg => r3.below ((KK.mono hB3.size).grown hg K4.size (fun j hj => (lt j hj).1))
        clear own3 r3 m1
        rcases hR with rfl | rfl
        all_goals
          go_wp2_with (first
            | (at_builtin; refine wpList_append_any _ rfl _ _ 28 (by rfl) w.heap.size 3 i0 (.int .i64 0) 1 8 Try.underlying28 hi0 hz0 hz1 hz2 rfl (by omega) u4 s.length (ints s) (by rfl) own4 (w3.heap.size + 1) (some ⟨w3.heap.size, 0, none⟩) 1 1 (ints [op]) (by rfl) src (ints_one _) h63 hby K4.size ?_; intro v5 w5 hown5 hg5 hat5; have K5 := HK5.out w5 hg5; have m5 := HM5.out w5 hg5; have r5 := HR5.out w5 hg5)
            | (at_builtin; refine wpList_append_any _ rfl _ _ 28 (by rfl) w.heap.size 3 i0 (.int .i64 0) 1 8 Try.underlying28 hi0 hz0 hz1 hz2 rfl (by omega) v5 (s.length + 1) (ints s ++ ints [op]) (by rfl) hown5 w.heap.size A' a.length c' (ints a) (by rfl) r5 (ints_one _) k63 kby K5.size ?_; intro v6 w6 hown6 hg6 hat6))
          have K6 : Below w.heap.size w w6 := K5.grown hg6 K5.size (fun j hj => (own_lt2 hown5 j hj).1)
          have on : w6.ownsRow w.heap.size 3 1 v6 (P.flat (l.take (k + 1))).length (ints (P.flat (l.take (k + 1)))) := by
            rw [FT.out, show (s ++ op :: a).length = s.length + 1 + a.length by simp; omega, show s ++ op :: a = s ++ [op] ++ a by simp, ints_app, ints_app]
            exact hown6
          exact ⟨⟨k + 1, rfl, by omega, G2, on, K6⟩, by simp [intOf]; omega⟩
    · have q1 : ¬ (k : Int) < (l.length : Int) := by omega
      have hkl : l.take k = l := List.take_of_length_le (by omega)
      rw [hkl] at hG hown
      have E := Lib.hid (P.put_ok hG.out)
      have R := Lib.hid (put_own E.out hown hB)
      clear hkl hG hown hA
      go_wp2_with fail
      go_ret2
      exact R.out
end Go.Proofs.Ytaegekmfndcflaa
