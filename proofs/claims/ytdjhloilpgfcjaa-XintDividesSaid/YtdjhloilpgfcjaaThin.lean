/- Contracts of the document's Neg, Times, Mul, Sign. -/
import Derived.Test.YtdjhloilpgfcjaaProd
namespace Go.Proofs.Ytdjhloilpgfcjaa
open Go.ChangeShapes Go.WideShapes Go.ChangeAt Go.RowKit
set_option linter.unusedVariables false

/-- A number that lies in memory. -/
def NumR (w : World) (z : Int) (A : Option Addr) (l : List Nat) : Prop := Reads w w.heap.size 1 A l.length (cells l) ∧ L.Can l ∧ L.nat l = z.natAbs
theorem NumR.up {w w' : World} {z : Int} {A : Option Addr} {l : List Nat} (h : NumR w z A l) (hb : Below w.heap.size w w') : NumR w' z A l := ⟨h.1.up hb, h.2⟩
theorem NumR.drew {w : World} {z : Int} {A : Option Addr} {l : List Nat} (h : NumR w z A l) : NumR w.drew z A l := ⟨h.1.drew, h.2⟩
theorem NumR.len {w : World} {z : Int} {A : Option Addr} {l : List Nat} (h : NumR w z A l) (k : Nat) (hz : z.natAbs < 2 ^ k) : l.length ≤ k := L.can_len h.2.1 (by rw [h.2.2]; exact hz)
theorem natAbs_lt {z : Int} (o : M.ok z = true) : z.natAbs < 2 ^ 128 := by rw [M.ok_iff] at o; omega
theorem turnZ {w : World} {z : Int} {A : Option Addr} {l : List Nat} (c : Nat) (h : NumR w z A l) (hl : l.length ≤ 400) : Calls Try.prog 35 #[.agg #[.bool (decide (z < 0)), .slice A l.length c]] w (RetNum w (-z)) := by
  have := turn_any (decide (z < 0)) A c l w h.1 h.2.1.1 (by omega)
  rwa [sg_dec h.2.2] at this
theorem sumZ {w : World} {z y : Int} {A B : Option Addr} {l m : List Nat} (c d : Nat) (h : NumR w z A l) (g : NumR w y B m) (hl : l.length ≤ 400) (hm : m.length ≤ 400) :
    Calls Try.prog 38 #[.agg #[.bool (decide (z < 0)), .slice A l.length c], .agg #[.bool (decide (y < 0)), .slice B m.length d]] w (RetNum w (z + y)) := by
  have := sum_any (decide (z < 0)) (decide (y < 0)) A B c d l m w h.1 g.1 h.2.1.1 g.2.1.1 (by omega) (by omega)
  rwa [sg_dec h.2.2, sg_dec g.2.2] at this
theorem prodZ {w : World} {z y : Int} {A B : Option Addr} {l m : List Nat} (c d : Nat) (h : NumR w z A l) (g : NumR w y B m) (hl : l.length ≤ 400) (hm : m.length ≤ 400) :
    Calls Try.prog 43 #[.agg #[.bool (decide (z < 0)), .slice A l.length c], .agg #[.bool (decide (y < 0)), .slice B m.length d]] w (RetNum w (z * y)) := by
  have := prod_any (decide (z < 0)) (decide (y < 0)) A B c d l m w h.1 g.1 h.2.1.1 g.2.1.1 hl hm
  rwa [sg_dec h.2.2, sg_dec g.2.2] at this
theorem orderZ {w : World} {z y : Int} {A B : Option Addr} {l m : List Nat} (c d : Nat) (h : NumR w z A l) (g : NumR w y B m) (hl : l.length ≤ 400) (hm : m.length ≤ 400) :
    Calls Try.prog 45 #[.agg #[.bool (decide (z < 0)), .slice A l.length c], .agg #[.bool (decide (y < 0)), .slice B m.length d]] w fun e w' => e = .returned (.int .i64 (M.sgn z y)) ∧ Below w.heap.size w w' := by
  have := order_any (decide (z < 0)) (decide (y < 0)) A B c d l m w h.1 g.1 h.2.1.1 g.2.1.1 (by omega) (by omega)
  rwa [sg_dec h.2.2, sg_dec g.2.2] at this
theorem toZ {w : World} {z : Int} {A : Option Addr} {l : List Nat} (c : Nat) (h : NumR w z A l) (hl : l.length ≤ 900) :
    Calls Try.prog 34 #[.agg #[.bool (decide (z < 0)), .slice A l.length c]] w fun e w' => e = .returned (.tuple #[.agg #[.int .i64 (M.oh z), .int .u64 (M.ol z)], .bool (M.ok z)]) ∧ Below w.heap.size w w' :=
  to_any z A c l w h.1 h.2.1 h.2.2 hl
/-- The result's variable of one struct parameter. -/
theorem two_new (w : World) (a b x y : Value) (t : TypeId) : ((w.alloc (.cells #[a, b] t)).alloc (.cells #[x, y] 24)).cell? ⟨w.heap.size + 1, 0, none⟩ = some x ∧ ((w.alloc (.cells #[a, b] t)).alloc (.cells #[x, y] 24)).cell? ⟨w.heap.size + 1, 1, none⟩ = some y ∧
    ((w.alloc (.cells #[a, b] t)).alloc (.cells #[x, y] 24)).frozen? ⟨w.heap.size + 1, 0, none⟩ = false ∧ ((w.alloc (.cells #[a, b] t)).alloc (.cells #[x, y] 24)).frozen? ⟨w.heap.size + 1, 1, none⟩ = false :=
  ⟨by simp, by simp, World.frozen?_alloc2_new _ _ _ _, World.frozen?_alloc2_new _ _ _ _⟩
set_option maxHeartbeats 1000000 in
theorem rneg_any (h l : Int) (b : M.B h l) (w : World) :
    Calls Try.prog 12 #[.agg #[.int .i64 h, .int .u64 l]] w fun e w' => e = .returned (.tuple #[.agg #[.int .i64 (M.oh (-(M.val h l))), .int .u64 (M.ol (-(M.val h l)))], .bool (M.ok (-(M.val h l)))]) ∧ Below w.heap.size w w' := by
  have cF := fun w => from_bits h l b w
  have o := natAbs_lt (M.ok_val b)
  generalize M.val h l = z at *
  have o2 : (-z).natAbs < 2 ^ 128 := by rw [Int.natAbs_neg]; exact o
  obtain ⟨y, hy⟩ : ∃ y, -z = y := ⟨_, rfl⟩
  rw [hy] at o2 ⊢
  have HY := Lib.hid hy
  have O1 := Lib.hid o
  have O2 := Lib.hid o2
  clear hy o o2
  have T := two_new w (.int .i64 h) (.int .u64 l) (.int .i64 0) (.int .u64 0) 24
  have hs : w.heap.size + 1 < ((w.alloc (.cells #[.int .i64 h, .int .u64 l] 24)).alloc (.cells #[.int .i64 0, .int .u64 0] 24)).heap.size := by simp
  have K : Below w.heap.size w ((w.alloc (.cells #[.int .i64 h, .int .u64 l] 24)).alloc (.cells #[.int .i64 0, .int .u64 0] 24)) := ((Below.refl _ w).alloc (Nat.le_refl _) _).alloc (by simp) _
  have HT := Lib.hid T
  clear T
  go_enter Try.func12, Try.ntmps12
  go_wp2_with fail
  refine (cF _).mono ?_
  rintro e w1 ⟨A, c, la, rfl, hr, hC, hz, _, hb⟩
  have NA : NumR w1 z A la := ⟨hr, hC, hz⟩
  have LA := NA.len 128 O1.out
  have ct := turnZ c NA (by omega)
  rw [HY.out] at ct
  have G := hb
  clear hb hr hC hz
  go_wp2_with fail
  refine ct.mono ?_
  rintro e w2 ⟨A2, c2, l2, rfl, hr, hC, hz, _, hb⟩
  have NB : NumR w2 y A2 l2 := ⟨hr, hC, hz⟩
  have LB := NB.len 128 O2.out
  replace G := G.trans (hb.mono G.size)
  clear hb hr hC hz
  go_wp2_with fail
  refine (toZ c2 NB (by omega)).mono ?_
  rintro e w3 ⟨rfl, hb⟩
  replace G := G.trans (hb.mono G.size)
  have p1 := (G.cell (p := ⟨w.heap.size + 1, 0, none⟩) hs).trans HT.out.1
  have p2 := (G.cell (p := ⟨w.heap.size + 1, 1, none⟩) hs).trans HT.out.2.1
  have p3 := (G.frozen (p := ⟨w.heap.size + 1, 0, none⟩) hs).trans HT.out.2.2.1
  have p4 := (G.frozen (p := ⟨w.heap.size + 1, 1, none⟩) hs).trans HT.out.2.2.2
  have K3 := K.trans (G.mono K.size)
  clear hb G
  go_wp2_with fail
  exact bodyPost_ret (v := .tuple #[.agg #[.int .i64 (M.oh y), .int .u64 (M.ol y)], .bool (M.ok y)]) (by simp [results, Try.results12, go_sem, p1, p2]) rfl ⟨rfl, (K3.setCell (by dsimp only; omega) _).setCell (by dsimp only; omega) _⟩
set_option maxHeartbeats 1000000 in
theorem rtimes_any (h l n : Int) (b : M.B h l) (n1 : -9223372036854775808 ≤ n) (n2 : n < 9223372036854775808) (w : World) :
    Calls Try.prog 18 #[.agg #[.int .i64 h, .int .u64 l], .int .i64 n] w fun e w' => e = .returned (.tuple #[.agg #[.int .i64 (M.oh (M.val h l * n)), .int .u64 (M.ol (M.val h l * n))], .bool (M.ok (M.val h l * n))]) ∧ Below w.heap.size w w' := by
  have cF := fun w => from_bits h l b w
  have cN := fun w => num_any n n1 n2 w
  have o := natAbs_lt (M.ok_val b)
  have on : n.natAbs < 2 ^ 128 := by omega
  generalize M.val h l = z at *
  have oz : (z * n).natAbs < 2 ^ 256 := by
    rw [Int.natAbs_mul]
    exact Nat.lt_of_lt_of_le (Nat.mul_lt_mul_of_lt_of_lt o on) (by decide)
  have T := two_new w (.int .i64 h) (.int .u64 l) (.int .i64 0) (.int .u64 0) 24
  have hs : w.heap.size + 1 < ((w.alloc (.cells #[.int .i64 h, .int .u64 l] 24)).alloc (.cells #[.int .i64 0, .int .u64 0] 24)).heap.size := by simp
  have K : Below w.heap.size w ((w.alloc (.cells #[.int .i64 h, .int .u64 l] 24)).alloc (.cells #[.int .i64 0, .int .u64 0] 24)) := ((Below.refl _ w).alloc (Nat.le_refl _) _).alloc (by simp) _
  have HT := Lib.hid T
  have O1 := Lib.hid o
  have O2 := Lib.hid on
  have O3 := Lib.hid oz
  clear T o on oz n1 n2
  go_enter Try.func18, Try.ntmps18
  go_wp2_with fail
  refine (cF _).mono ?_
  rintro e w1 ⟨A, c, la, rfl, hr, hC, hz, _, hb⟩
  have NA : NumR w1 z A la := ⟨hr, hC, hz⟩
  have LA := NA.len 128 O1.out
  have G := hb
  clear hb hr hC hz
  go_wp2_with fail
  refine (cN _).mono ?_
  rintro e w2 ⟨B, d, lb, rfl, hr, hC, hz, _, hb⟩
  have NB : NumR w2 n B lb := ⟨hr, hC, hz⟩
  have LB := NB.len 128 O2.out
  have NA2 := NA.up hb
  replace G := G.trans (hb.mono G.size)
  clear hb hr hC hz NA
  go_wp2_with fail
  refine (prodZ c d NA2 NB (by omega) (by omega)).mono ?_
  rintro e w3 ⟨A2, c2, l2, rfl, hr, hC, hz, _, hb⟩
  have NC : NumR w3 (z * n) A2 l2 := ⟨hr, hC, hz⟩
  have LC := NC.len 256 O3.out
  replace G := G.trans (hb.mono G.size)
  clear hb hr hC hz NA2 NB
  go_wp2_with fail
  refine (toZ c2 NC (by omega)).mono ?_
  rintro e w4 ⟨rfl, hb⟩
  replace G := G.trans (hb.mono G.size)
  have p1 := (G.cell (p := ⟨w.heap.size + 1, 0, none⟩) hs).trans HT.out.1
  have p2 := (G.cell (p := ⟨w.heap.size + 1, 1, none⟩) hs).trans HT.out.2.1
  have p3 := (G.frozen (p := ⟨w.heap.size + 1, 0, none⟩) hs).trans HT.out.2.2.1
  have p4 := (G.frozen (p := ⟨w.heap.size + 1, 1, none⟩) hs).trans HT.out.2.2.2
  have K3 := K.trans (G.mono K.size)
  clear hb G
  go_wp2_with fail
  exact bodyPost_ret (v := .tuple #[.agg #[.int .i64 (M.oh (z * n)), .int .u64 (M.ol (z * n))], .bool (M.ok (z * n))]) (by simp [results, Try.results18, go_sem, p1, p2]) rfl ⟨rfl, (K3.setCell (by dsimp only; omega) _).setCell (by dsimp only; omega) _⟩
theorem rsign_any (h l : Int) (b : M.B h l) (w : World) :
    Calls Try.prog 23 #[.agg #[.int .i64 h, .int .u64 l]] w fun e w' => e = .returned (.int .i64 (M.sgn (M.val h l) 0)) ∧ Below w.heap.size w w' := by
  have cF := fun w => from_bits h l b w
  have o := natAbs_lt (M.ok_val b)
  generalize M.val h l = z at *
  go_enter Try.func23, Try.ntmps23
  go_wp2_with fail
  refine (cF _).mono ?_
  rintro e w1 ⟨A, c, la, rfl, hr, hC, hz, _, hb⟩
  have NA : NumR w1 z A la := ⟨hr, hC, hz⟩
  have LA := NA.len 128 o
  have K := ((Below.refl _ w).alloc (Nat.le_refl _) _).trans (hb.mono (show w.heap.size ≤ _ by simp))
  have N0 : NumR w1 0 none [] := ⟨Reads.none_, ⟨L.Bits.nil, fun h => absurd rfl h⟩, rfl⟩
  have cO := orderZ c 0 NA N0 (by omega) (by simp)
  clear hb hr hC hz
  go_wp2_with fail
  refine cO.mono ?_
  rintro e w2 ⟨rfl, hb⟩
  go_wp2_with fail
  go_ret
  exact ⟨rfl, K.trans (hb.mono K.size)⟩
end Go.Proofs.Ytdjhloilpgfcjaa
