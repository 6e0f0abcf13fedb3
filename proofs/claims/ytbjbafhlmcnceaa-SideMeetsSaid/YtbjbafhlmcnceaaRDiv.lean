/- Contracts of the document's Mul and Div. -/
import Derived.Test.YtbjbafhlmcnceaaFloor
import Derived.Test.YtbjbafhlmcnceaaRRatio
import Derived.Test.YtbjbafhlmcnceaaRow2
import Derived.Test.YtbjbafhlmcnceaaDiv
namespace Go.Proofs.Ytbjbafhlmcnceaa
open Go.ChangeShapes Go.WideShapes Go.ChangeAt Go.RowKit
set_option linter.unusedVariables false
set_option linter.unusedSimpArgs false

theorem floorZ {w : World} {z d : Int} {A B : Option Addr} {la ld : List Nat} (c e : Nat) (h : NumR w z A la) (g : NumR w d B ld) (d1 : 1 ≤ d) (hl : la.length ≤ 400) (hm : ld.length ≤ 400) :
    Calls Try.prog 27 #[.agg #[.bool (decide (z < 0)), .slice A la.length c], .agg #[.bool (decide (d < 0)), .slice B ld.length e]] w (RetTwo w (z / d) (z % d)) := by
  obtain ⟨D, rfl⟩ := Int.eq_ofNat_of_zero_le (show 0 ≤ d by omega)
  have := floor_core (decide (z < 0)) A B c e la ld D w h.1 h.2.1.1 hl g.1 g.2.1 (by have := g.2.2; omega) (by omega) hm
  have e1 : decide ((D : Int) < 0) = false := decide_eq_false (by omega)
  rw [sg_dec h.2.2] at this
  rw [e1]
  exact this
theorem one_new24 (w : World) (x y : Value) : (w.alloc (.cells #[x, y] 54)).cell? ⟨w.heap.size, 0, none⟩ = some x ∧ (w.alloc (.cells #[x, y] 54)).cell? ⟨w.heap.size, 1, none⟩ = some y ∧ (w.alloc (.cells #[x, y] 54)).frozen? ⟨w.heap.size, 0, none⟩ = false ∧ (w.alloc (.cells #[x, y] 54)).frozen? ⟨w.heap.size, 1, none⟩ = false :=
  ⟨by simp, by simp, World.frozen?_alloc_new _ _ _ _, World.frozen?_alloc_new _ _ _ _⟩
set_option maxHeartbeats 2000000 in
theorem rmul_any (m n : Int) (m1 : -9223372036854775808 ≤ m) (m2 : m < 9223372036854775808) (n1 : -9223372036854775808 ≤ n) (n2 : n < 9223372036854775808) (w : World) :
    Calls Try.prog 26 #[.int .i64 m, .int .i64 n] w fun e w' => e = .returned (.agg #[.int .i64 (M.oh (m * n)), .int .u64 (M.ol (m * n))]) ∧ Below w.heap.size w w' := by
  have cM := fun w => num_any m m1 m2 w
  have cN := fun w => num_any n n1 n2 w
  have om : m.natAbs < 2 ^ 128 := by omega
  have on : n.natAbs < 2 ^ 128 := by omega
  have oz := mul_size om on
  have HT := Lib.hid (one_new24 w (.int .i64 0) (.int .u64 0))
  have hs : w.heap.size < (w.alloc (.cells #[.int .i64 0, .int .u64 0] 54)).heap.size := by simp
  have K : Below w.heap.size w (w.alloc (.cells #[.int .i64 0, .int .u64 0] 54)) := (Below.refl _ w).alloc (Nat.le_refl _) _
  have O1 := Lib.hid om
  have O2 := Lib.hid on
  have O3 := Lib.hid oz
  clear om on oz m1 m2 n1 n2
  go_enter Try.func26, Try.ntmps26
  go_wp2_with fail
  refine (cM _).mono ?_
  rintro e w1 ⟨A, c, la, rfl, hr, hC, hz, _, hb⟩
  have NA : NumR w1 m A la := ⟨hr, hC, hz⟩
  have LA := NA.len 128 O1.out
  have G := hb
  clear hb hr hC hz
  go_wp2_with fail
  refine (cN _).mono ?_
  rintro e w2 ⟨B, d, lb, rfl, hr, hC, hz, _, hb⟩
  have NB : NumR w2 n B lb := ⟨hr, hC, hz⟩
  have LB := NB.len 128 O2.out
  have NA2 := NA.up hb
  replace G := G.trans (hb.mono G.size)
  clear hb hr hC hz NA
  go_wp2_with fail
  refine (prodZ c d NA2 NB (by omega) (by omega)).mono ?_
  rintro e w3 ⟨A2, c2, l2, rfl, hr, hC, hz, _, hb⟩
  have NC : NumR w3 (m * n) A2 l2 := ⟨hr, hC, hz⟩
  have LC := NC.len 256 O3.out
  replace G := G.trans (hb.mono G.size)
  clear hb hr hC hz NA2 NB
  go_wp2_with fail
  refine (toZ c2 NC (by omega)).mono ?_
  rintro e w4 ⟨rfl, hb⟩
  replace G := G.trans (hb.mono G.size)
  have p1 := (G.cell (p := ⟨w.heap.size, 0, none⟩) hs).trans HT.out.1
  have p2 := (G.cell (p := ⟨w.heap.size, 1, none⟩) hs).trans HT.out.2.1
  have p3 := (G.frozen (p := ⟨w.heap.size, 0, none⟩) hs).trans HT.out.2.2.1
  have p4 := (G.frozen (p := ⟨w.heap.size, 1, none⟩) hs).trans HT.out.2.2.2
  have K3 := K.trans (G.mono K.size)
  have z4 : w.heap.size < w4.heap.size := Nat.lt_of_lt_of_le hs G.size
  obtain ⟨x, hx⟩ : ∃ x, M.oh (m * n) = x := ⟨_, rfl⟩
  obtain ⟨y, hy⟩ : ∃ y, M.ol (m * n) = y := ⟨_, rfl⟩
  have HX := Lib.hid hx
  have HY := Lib.hid hy
  obtain ⟨s0, s1, sz, KS⟩ := set2 (v := .int .i64 x) (u := .int .u64 y) K3 (Nat.le_refl _) p1 p2 z4
  have a0 : (((w4.setCell ⟨w.heap.size, 0, none⟩ (.int .i64 x)).setCell ⟨w.heap.size, 1, none⟩ (.int .u64 y)).alloc (.cells #[.int .i64 x, .int .u64 y] 54)).cell? ⟨w.heap.size, 0, none⟩ = some (.int .i64 x) := (World.cell?_alloc_lt _ _ ⟨w.heap.size, 0, none⟩ sz).trans s0
  have a1 : (((w4.setCell ⟨w.heap.size, 0, none⟩ (.int .i64 x)).setCell ⟨w.heap.size, 1, none⟩ (.int .u64 y)).alloc (.cells #[.int .i64 x, .int .u64 y] 54)).cell? ⟨w.heap.size, 1, none⟩ = some (.int .u64 y) := (World.cell?_alloc_lt _ _ ⟨w.heap.size, 1, none⟩ sz).trans s1
  clear hb G s0 s1
  go_wp2_with fail
  clear p1 p2
  exact bodyPost_ret (v := .agg #[.int .i64 x, .int .u64 y]) (by simp [results, Try.results26, go_sem, a0, a1]) rfl ⟨by rw [HX.out, HY.out], KS.alloc (Nat.le_of_lt sz) _⟩
theorem rdiv_keep {x : World} {a b g : Nat} {v u y p q : Value} (ha : g ≠ a) (hb : g ≠ b) (h : x.cell? ⟨a, 0, none⟩ = some v ∧ x.cell? ⟨a, 1, none⟩ = some u ∧ x.cell? ⟨b, 1, none⟩ = some y) :
    ((x.setCell ⟨g, 0, none⟩ p).setCell ⟨g, 1, none⟩ q).drew.cell? ⟨a, 0, none⟩ = some v ∧ ((x.setCell ⟨g, 0, none⟩ p).setCell ⟨g, 1, none⟩ q).drew.cell? ⟨a, 1, none⟩ = some u ∧ ((x.setCell ⟨g, 0, none⟩ p).setCell ⟨g, 1, none⟩ q).drew.cell? ⟨b, 1, none⟩ = some y := by
  have s : ∀ (k i : Nat), g ≠ k → ((x.setCell ⟨g, 0, none⟩ p).setCell ⟨g, 1, none⟩ q).cell? ⟨k, i, none⟩ = x.cell? ⟨k, i, none⟩ := fun k i hk =>
    (World.cell?_setCell_other _ _ _ _ (fun e => hk (by injection e))).trans (World.cell?_setCell_other _ _ _ _ (fun e => hk (by injection e)))
  exact ⟨(s a 0 ha).trans h.1, (s a 1 ha).trans h.2.1, (s b 1 hb).trans h.2.2⟩
end Go.Proofs.Ytbjbafhlmcnceaa
