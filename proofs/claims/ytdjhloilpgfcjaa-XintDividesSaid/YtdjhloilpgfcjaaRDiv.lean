/- Contracts of the document's Mul and Div. -/
import Derived.Test.YtdjhloilpgfcjaaFloor
import Derived.Test.YtdjhloilpgfcjaaRRatio
import Derived.Test.YtdjhloilpgfcjaaRow
import Derived.Test.YtdjhloilpgfcjaaRatio
namespace Go.Proofs.Ytdjhloilpgfcjaa
open Go.ChangeShapes Go.WideShapes Go.ChangeAt Go.RowKit
set_option linter.unusedVariables false
set_option linter.unusedSimpArgs false

theorem floorZ {w : World} {z d : Int} {A B : Option Addr} {la ld : List Nat} (c e : Nat) (h : NumR w z A la) (g : NumR w d B ld) (d1 : 1 ≤ d) (hl : la.length ≤ 400) (hm : ld.length ≤ 400) :
    Calls Try.prog 49 #[.agg #[.bool (decide (z < 0)), .slice A la.length c], .agg #[.bool (decide (d < 0)), .slice B ld.length e]] w (RetTwo w (z / d) (z % d)) := by
  obtain ⟨D, rfl⟩ := Int.eq_ofNat_of_zero_le (show 0 ≤ d by omega)
  have := floor_core (decide (z < 0)) A B c e la ld D w h.1 h.2.1.1 hl g.1 g.2.1 (by have := g.2.2; omega) (by omega) hm
  have e1 : decide ((D : Int) < 0) = false := decide_eq_false (by omega)
  rw [sg_dec h.2.2] at this
  rw [e1]
  exact this
theorem one_new24 (w : World) (x y : Value) : (w.alloc (.cells #[x, y] 24)).cell? ⟨w.heap.size, 0, none⟩ = some x ∧ (w.alloc (.cells #[x, y] 24)).cell? ⟨w.heap.size, 1, none⟩ = some y ∧ (w.alloc (.cells #[x, y] 24)).frozen? ⟨w.heap.size, 0, none⟩ = false ∧ (w.alloc (.cells #[x, y] 24)).frozen? ⟨w.heap.size, 1, none⟩ = false :=
  ⟨by simp, by simp, World.frozen?_alloc_new _ _ _ _, World.frozen?_alloc_new _ _ _ _⟩
set_option maxHeartbeats 2000000 in
theorem rmul_any (m n : Int) (m1 : -9223372036854775808 ≤ m) (m2 : m < 9223372036854775808) (n1 : -9223372036854775808 ≤ n) (n2 : n < 9223372036854775808) (w : World) :
    Calls Try.prog 31 #[.int .i64 m, .int .i64 n] w fun e w' => e = .returned (.agg #[.int .i64 (M.oh (m * n)), .int .u64 (M.ol (m * n))]) ∧ Below w.heap.size w w' := by
  have cM := fun w => num_any m m1 m2 w
  have cN := fun w => num_any n n1 n2 w
  have om : m.natAbs < 2 ^ 128 := by omega
  have on : n.natAbs < 2 ^ 128 := by omega
  have oz := mul_size om on
  have HT := Lib.hid (one_new24 w (.int .i64 0) (.int .u64 0))
  have hs : w.heap.size < (w.alloc (.cells #[.int .i64 0, .int .u64 0] 24)).heap.size := by simp
  have K : Below w.heap.size w (w.alloc (.cells #[.int .i64 0, .int .u64 0] 24)) := (Below.refl _ w).alloc (Nat.le_refl _) _
  have O1 := Lib.hid om
  have O2 := Lib.hid on
  have O3 := Lib.hid oz
  clear om on oz m1 m2 n1 n2
  go_enter Try.func31, Try.ntmps31
  go_wp2_with fail
  refine (cM _).mono ?_
  rintro e w1 ⟨A, c, la, rfl, hr, hC, hz, _, hb⟩
  have NA : NumR w1 m A la := ⟨hr, hC, hz⟩
  have LA := NA.len 128 O1.out
  have G := hb
  clear hb hr hC hz
  go_wp2_with fail
  refine (cN _).mono ?_
  rintro e w2 ⟨B, d, lb, rfl, hr, hC, hz, _, hb⟩
  have NB : NumR w2 n B lb := ⟨hr, hC, hz⟩
  have LB := NB.len 128 O2.out
  have NA2 := NA.up hb
  replace G := G.trans (hb.mono G.size)
  clear hb hr hC hz NA
  go_wp2_with fail
  refine (prodZ c d NA2 NB (by omega) (by omega)).mono ?_
  rintro e w3 ⟨A2, c2, l2, rfl, hr, hC, hz, _, hb⟩
  have NC : NumR w3 (m * n) A2 l2 := ⟨hr, hC, hz⟩
  have LC := NC.len 256 O3.out
  replace G := G.trans (hb.mono G.size)
  clear hb hr hC hz NA2 NB
  go_wp2_with fail
  refine (toZ c2 NC (by omega)).mono ?_
  rintro e w4 ⟨rfl, hb⟩
  replace G := G.trans (hb.mono G.size)
  have p1 := (G.cell (p := ⟨w.heap.size, 0, none⟩) hs).trans HT.out.1
  have p2 := (G.cell (p := ⟨w.heap.size, 1, none⟩) hs).trans HT.out.2.1
  have p3 := (G.frozen (p := ⟨w.heap.size, 0, none⟩) hs).trans HT.out.2.2.1
  have p4 := (G.frozen (p := ⟨w.heap.size, 1, none⟩) hs).trans HT.out.2.2.2
  have K3 := K.trans (G.mono K.size)
  have z4 : w.heap.size < w4.heap.size := Nat.lt_of_lt_of_le hs G.size
  obtain ⟨x, hx⟩ : ∃ x, M.oh (m * n) = x := ⟨_, rfl⟩
  obtain ⟨y, hy⟩ : ∃ y, M.ol (m * n) = y := ⟨_, rfl⟩
  have HX := Lib.hid hx
  have HY := Lib.hid hy
  obtain ⟨s0, s1, sz, KS⟩ := set2 (v := .int .i64 x) (u := .int .u64 y) K3 (Nat.le_refl _) p1 p2 z4
  have a0 : (((w4.setCell ⟨w.heap.size, 0, none⟩ (.int .i64 x)).setCell ⟨w.heap.size, 1, none⟩ (.int .u64 y)).alloc (.cells #[.int .i64 x, .int .u64 y] 24)).cell? ⟨w.heap.size, 0, none⟩ = some (.int .i64 x) := (World.cell?_alloc_lt _ _ ⟨w.heap.size, 0, none⟩ sz).trans s0
  have a1 : (((w4.setCell ⟨w.heap.size, 0, none⟩ (.int .i64 x)).setCell ⟨w.heap.size, 1, none⟩ (.int .u64 y)).alloc (.cells #[.int .i64 x, .int .u64 y] 24)).cell? ⟨w.heap.size, 1, none⟩ = some (.int .u64 y) := (World.cell?_alloc_lt _ _ ⟨w.heap.size, 1, none⟩ sz).trans s1
  clear hb G s0 s1
  go_wp2_with fail
  clear p1 p2
  exact bodyPost_ret (v := .agg #[.int .i64 x, .int .u64 y]) (by simp [results, Try.results31, go_sem, a0, a1]) rfl ⟨by rw [HX.out, HY.out], KS.alloc (Nat.le_of_lt sz) _⟩
theorem rdiv_keep {x : World} {a b g : Nat} {v u y p q : Value} (ha : g ≠ a) (hb : g ≠ b) (h : x.cell? ⟨a, 0, none⟩ = some v ∧ x.cell? ⟨a, 1, none⟩ = some u ∧ x.cell? ⟨b, 1, none⟩ = some y) :
    ((x.setCell ⟨g, 0, none⟩ p).setCell ⟨g, 1, none⟩ q).drew.cell? ⟨a, 0, none⟩ = some v ∧ ((x.setCell ⟨g, 0, none⟩ p).setCell ⟨g, 1, none⟩ q).drew.cell? ⟨a, 1, none⟩ = some u ∧ ((x.setCell ⟨g, 0, none⟩ p).setCell ⟨g, 1, none⟩ q).drew.cell? ⟨b, 1, none⟩ = some y := by
  have s : ∀ (k i : Nat), g ≠ k → ((x.setCell ⟨g, 0, none⟩ p).setCell ⟨g, 1, none⟩ q).cell? ⟨k, i, none⟩ = x.cell? ⟨k, i, none⟩ := fun k i hk =>
    (World.cell?_setCell_other _ _ _ _ (fun e => hk (by injection e))).trans (World.cell?_setCell_other _ _ _ _ (fun e => hk (by injection e)))
  exact ⟨(s a 0 ha).trans h.1, (s a 1 ha).trans h.2.1, (s b 1 hb).trans h.2.2⟩
theorem rdiv_no (h l d : Int) (hd : d < 1) (w : World) :
    Calls Try.prog 27 #[.agg #[.int .i64 h, .int .u64 l], .int .i64 d] w fun e w' => e = .returned (.tuple #[.agg #[.int .i64 0, .int .u64 0], .int .i64 0, .bool false]) ∧ Below w.heap.size w w' := by
  go_enter Try.func27, Try.ntmps27
  go_wp2
  exact bodyPost_ret (v := .tuple #[.agg #[.int .i64 0, .int .u64 0], .int .i64 0, .bool false]) (by simp [results, Try.results27, go_sem]) rfl ⟨rfl, ((Below.refl _ _).alloc (Nat.le_refl _) _).alloc (by simp) _⟩
set_option maxHeartbeats 8000000 in
theorem rdiv_yes (h l d : Int) (b : M.B h l) (d1 : 1 ≤ d) (d2 : d < 9223372036854775808) (w : World) :
    Calls Try.prog 27 #[.agg #[.int .i64 h, .int .u64 l], .int .i64 d] w fun e w' =>
      e = .returned (.tuple #[.agg #[.int .i64 (M.oh (M.val h l / d)), .int .u64 (M.ol (M.val h l / d))], .int .i64 (M.val h l % d), .bool true]) ∧ Below w.heap.size w w' := by
  have cF := fun w => from_bits h l b w
  have cN := fun w => num_any d (by omega) d2 w
  have OA := Lib.hid (natAbs_lt (M.ok_val b))
  have Od := Lib.hid (show d.natAbs < 2 ^ 128 by omega)
  have oq := M.div_ok (M.ok_val b) d1
  have OQ := Lib.hid (natAbs_lt oq)
  have r0 := Int.emod_nonneg (M.val h l) (b := d) (by omega)
  have r1 := Int.emod_lt_of_pos (M.val h l) (b := d) (by omega)
  have b1 : ¬ d < 1 := by omega
  generalize M.val h l = z at *
  obtain ⟨Q, hQ⟩ : ∃ Q, z / d = Q := ⟨_, rfl⟩
  obtain ⟨R, hR⟩ : ∃ R, z % d = R := ⟨_, rfl⟩
  rw [hQ] at OQ
  rw [hR] at r0 r1
  have fl : ∀ {wx : World} {A B : Option Addr} {la lb : List Nat} (c e : Nat), NumR wx z A la → NumR wx d B lb → la.length ≤ 400 → lb.length ≤ 400 → Calls Try.prog 49 #[.agg #[.bool (decide (z < 0)), .slice A la.length c], .agg #[.bool (decide (d < 0)), .slice B lb.length e]] wx (RetTwo wx Q R) := by
    intro wx A B la lb c e g1 g2 h1 h2
    have := floorZ c e g1 g2 d1 h1 h2
    rwa [hQ, hR] at this
  have OR := Lib.hid (show R.natAbs < 2 ^ 128 by omega)
  have oR : M.ok R = true := by rw [M.ok_iff]; omega
  have RL : M.ol R = R := by unfold M.ol; rw [if_pos oR]; omega
  have HRL := Lib.hid RL
  have HR0 := Lib.hid r0
  have HR1 := Lib.hid (show R < 9223372036854775808 by omega)
  have HQ := Lib.hid hQ
  have HR := Lib.hid hR
  have HB1 := Lib.hid b1
  have HT := Lib.hid (two_new w (.int .i64 h) (.int .u64 l) (.int .i64 0) (.int .u64 0) 24)
  have hs : w.heap.size + 1 < ((w.alloc (.cells #[.int .i64 h, .int .u64 l] 24)).alloc (.cells #[.int .i64 0, .int .u64 0] 24)).heap.size := by simp
  have K : Below w.heap.size w ((w.alloc (.cells #[.int .i64 h, .int .u64 l] 24)).alloc (.cells #[.int .i64 0, .int .u64 0] 24)) := ((Below.refl _ w).alloc (Nat.le_refl _) _).alloc (by simp) _
  clear hQ hR r0 r1 oq oR RL b
  go_enter Try.func27, Try.ntmps27
  go_wp2_with fail
  refine (cF _).mono ?_
  rintro e w1 ⟨A, c, la, rfl, hr, hC, hz, _, hb⟩
  have NA : NumR w1 z A la := ⟨hr, hC, hz⟩
  have LA := NA.len 128 OA.out
  have G := hb
  clear hb hr hC hz
  go_wp2_with fail
  refine (cN _).mono ?_
  rintro e w2 ⟨B, c2, lb, rfl, hr, hC, hz, _, hb⟩
  have NB : NumR w2 d B lb := ⟨hr, hC, hz⟩
  have LB := NB.len 128 Od.out
  have NA2 := NA.up hb
  replace G := G.trans (hb.mono G.size)
  clear hb hr hC hz NA
  go_wp2_with fail
  refine (fl c c2 NA2 NB (by omega) (by omega)).mono ?_
  rintro e w3 ⟨Aq, cq, lq, Ar, cr, lr, rfl, NQ, NR, hb⟩
  replace G := G.trans (hb.mono G.size)
  clear hb NA2 NB
  go_wp2_with fail
  have kw : Below w3.heap.size w3 ((w3.alloc (.cells #[.bool (decide (Q < 0)), .slice Aq lq.length cq] 50)).alloc (.cells #[.bool (decide (R < 0)), .slice Ar lr.length cr] 50)) := ((Below.refl _ w3).alloc (Nat.le_refl _) _).alloc (by simp) _
  have LQ := NQ.len 128 OQ.out
  have LR := NR.len 128 OR.out
  have NR2 := NR.up kw
  have e0 : ((w3.alloc (.cells #[.bool (decide (Q < 0)), .slice Aq lq.length cq] 50)).alloc (.cells #[.bool (decide (R < 0)), .slice Ar lr.length cr] 50)).cell? ⟨w3.heap.size + 1, 0, none⟩ = some (.bool (decide (R < 0))) := by simp
  have e1 : ((w3.alloc (.cells #[.bool (decide (Q < 0)), .slice Aq lq.length cq] 50)).alloc (.cells #[.bool (decide (R < 0)), .slice Ar lr.length cr] 50)).cell? ⟨w3.heap.size + 1, 1, none⟩ = some (.slice Ar lr.length cr) := by simp
  have T1 := toZ cq (NQ.up kw) (by omega)
  have G4 := G.trans (kw.mono G.size)
  have HE := Lib.hid (And.intro e0 e1)
  clear e0 e1 kw
  refine T1.mono ?_
  rintro e w5 ⟨rfl, hb5⟩
  have G5 := G4.trans (hb5.mono G4.size)
  have g0 := (hb5.cell (p := ⟨w3.heap.size + 1, 0, none⟩) (by simp)).trans HE.out.1
  have g1 := (hb5.cell (p := ⟨w3.heap.size + 1, 1, none⟩) (by simp)).trans HE.out.2
  have z5 : w3.heap.size + 1 < w5.heap.size := Nat.lt_of_lt_of_le (by simp) hb5.size
  have NR5 := NR2.up hb5
  obtain ⟨qh, hqh⟩ : ∃ x, M.oh Q = x := ⟨_, rfl⟩
  obtain ⟨ql, hql⟩ : ∃ x, M.ol Q = x := ⟨_, rfl⟩
  have HQH := Lib.hid hqh
  have HQL := Lib.hid hql
  have k0 : (w5.alloc (.cells #[.int .i64 qh, .int .u64 ql] 24)).cell? ⟨w3.heap.size + 1, 0, none⟩ = some (.bool (decide (R < 0))) := (World.cell?_alloc_lt w5 _ ⟨w3.heap.size + 1, 0, none⟩ z5).trans g0
  have k1 : (w5.alloc (.cells #[.int .i64 qh, .int .u64 ql] 24)).cell? ⟨w3.heap.size + 1, 1, none⟩ = some (.slice Ar lr.length cr) := (World.cell?_alloc_lt w5 _ ⟨w3.heap.size + 1, 1, none⟩ z5).trans g1
  have kw5 : Below w5.heap.size w5 (w5.alloc (.cells #[.int .i64 qh, .int .u64 ql] 24)) := (Below.refl _ w5).alloc (Nat.le_refl _) _
  have G6 := G5.trans (kw5.mono G5.size)
  have m0 : (w5.alloc (.cells #[.int .i64 qh, .int .u64 ql] 24)).cell? ⟨w5.heap.size, 0, none⟩ = some (.int .i64 qh) := by simp
  have m1 : (w5.alloc (.cells #[.int .i64 qh, .int .u64 ql] 24)).cell? ⟨w5.heap.size, 1, none⟩ = some (.int .u64 ql) := by simp
  have HM := Lib.hid (And.intro m0 m1)
  have T2 := toZ cr (NR5.up kw5) (by omega)
  clear hb5 g0 g1 T1 m0 m1 NR5 NR2
  go_wp2_with fail
  refine T2.mono ?_
  rintro e w6 ⟨rfl, hb6⟩
  have G7 := G6.trans (hb6.mono G6.size)
  have z6 : w5.heap.size < w6.heap.size := Nat.lt_of_lt_of_le (by simp) hb6.size
  have n0 := (hb6.cell (p := ⟨w5.heap.size, 0, none⟩) (by simp)).trans HM.out.1
  have n1 := (hb6.cell (p := ⟨w5.heap.size, 1, none⟩) (by simp)).trans HM.out.2
  obtain ⟨rh, hrh⟩ : ∃ x, M.oh R = x := ⟨_, rfl⟩
  have hrl := HRL.out
  rw [hrh, hrl]
  clear hrl hrh
  have G8 := G7.alloc G7.size (.cells #[.int .i64 rh, .int .u64 R] 24)
  have s0 : (w6.alloc (.cells #[.int .i64 rh, .int .u64 R] 24)).cell? ⟨w5.heap.size, 0, none⟩ = some (.int .i64 qh) := (World.cell?_alloc_lt w6 _ ⟨w5.heap.size, 0, none⟩ z6).trans n0
  have s1 : (w6.alloc (.cells #[.int .i64 rh, .int .u64 R] 24)).cell? ⟨w5.heap.size, 1, none⟩ = some (.int .u64 ql) := (World.cell?_alloc_lt w6 _ ⟨w5.heap.size, 1, none⟩ z6).trans n1
  have s2 : (w6.alloc (.cells #[.int .i64 rh, .int .u64 R] 24)).cell? ⟨w6.heap.size, 1, none⟩ = some (.int .u64 R) := by simp
  have HS := Lib.hid (And.intro s0 (And.intro s1 s2))
  have p1 := (G8.cell (p := ⟨w.heap.size + 1, 0, none⟩) hs).trans HT.out.1
  have p2 := (G8.cell (p := ⟨w.heap.size + 1, 1, none⟩) hs).trans HT.out.2.1
  have p3 := (G8.frozen (p := ⟨w.heap.size + 1, 0, none⟩) hs).trans HT.out.2.2.1
  have p4 := (G8.frozen (p := ⟨w.heap.size + 1, 1, none⟩) hs).trans HT.out.2.2.2
  have zz : w.heap.size + 1 < w3.heap.size := Nat.lt_of_lt_of_le hs G.size
  have K8 := K.trans (G8.mono K.size)
  have r0 := HR0.out
  have r1 := HR1.out
  have w1e : IntKind.i64.wrap R = R := IntWalk.i64_in _ (by omega)
  clear s0 s1 s2 n0 n1 k0 k1 T2 hb6 kw5 G G4 G5 G6 G7
  go_wp2_with fail
  go_region_held3 (fun w' => w'.cell? ⟨w5.heap.size, 0, none⟩ = some (.int .i64 qh) ∧ w'.cell? ⟨w5.heap.size, 1, none⟩ = some (.int .u64 ql) ∧ w'.cell? ⟨w6.heap.size, 1, none⟩ = some (.int .u64 R))
    (first | exact rdiv_keep (by omega) (by omega) HS.out | exact HS.out | go_keep)
    (fail)
  all_goals go_wp2_with fail
  obtain ⟨v0, v1, vz, KS⟩ := set2 (v := .int .i64 qh) (u := .int .u64 ql) K8 (show w.heap.size ≤ w.heap.size + 1 by omega) p1 p2 (by simp; omega)
  clear p1 p2 p3 p4
  exact bodyPost_ret (v := .tuple #[.agg #[.int .i64 qh, .int .u64 ql], .int .i64 R, .bool true]) (by simp [results, Try.results27, go_sem, v0, v1]) rfl ⟨by rw [HQ.out, HR.out, HQH.out, HQL.out], KS.drew⟩
end Go.Proofs.Ytdjhloilpgfcjaa
