/- Contracts of the document's Add, Sub, Cmp. -/
import Derived.Test.YtdjhloilpgfcjaaThin
namespace Go.Proofs.Ytdjhloilpgfcjaa
open Go.ChangeShapes Go.WideShapes Go.ChangeAt Go.RowKit
set_option linter.unusedVariables false

theorem three24 (w : World) (a b c d x y : Value) : (((w.alloc (.cells #[a, b] 24)).alloc (.cells #[c, d] 24)).alloc (.cells #[x, y] 24)).cell? ⟨w.heap.size + 1 + 1, 0, none⟩ = some x ∧ (((w.alloc (.cells #[a, b] 24)).alloc (.cells #[c, d] 24)).alloc (.cells #[x, y] 24)).cell? ⟨w.heap.size + 1 + 1, 1, none⟩ = some y ∧
    (((w.alloc (.cells #[a, b] 24)).alloc (.cells #[c, d] 24)).alloc (.cells #[x, y] 24)).frozen? ⟨w.heap.size + 1 + 1, 0, none⟩ = false ∧ (((w.alloc (.cells #[a, b] 24)).alloc (.cells #[c, d] 24)).alloc (.cells #[x, y] 24)).frozen? ⟨w.heap.size + 1 + 1, 1, none⟩ = false := by
  have h0 := World.cell?_alloc_new ((w.alloc (.cells #[a, b] 24)).alloc (.cells #[c, d] 24)) #[x, y] 24 0
  have h1 := World.cell?_alloc_new ((w.alloc (.cells #[a, b] 24)).alloc (.cells #[c, d] 24)) #[x, y] 24 1
  have f0 := World.frozen?_alloc_new ((w.alloc (.cells #[a, b] 24)).alloc (.cells #[c, d] 24)) #[x, y] 24 0
  have f1 := World.frozen?_alloc_new ((w.alloc (.cells #[a, b] 24)).alloc (.cells #[c, d] 24)) #[x, y] 24 1
  rw [World.size_alloc, World.size_alloc] at h0 h1 f0 f1
  exact ⟨h0, h1, f0, f1⟩
set_option maxHeartbeats 2000000 in
theorem radd_any (h l h' l' : Int) (b : M.B h l) (b' : M.B h' l') (w : World) :
    Calls Try.prog 14 #[.agg #[.int .i64 h, .int .u64 l], .agg #[.int .i64 h', .int .u64 l']] w fun e w' => e = .returned (.tuple #[.agg #[.int .i64 (M.oh (M.val h l + M.val h' l')), .int .u64 (M.ol (M.val h l + M.val h' l'))], .bool (M.ok (M.val h l + M.val h' l'))]) ∧ Below w.heap.size w w' := by
  have cFa := fun w => from_bits h l b w
  have cFb := fun w => from_bits h' l' b' w
  have OA := Lib.hid (natAbs_lt (M.ok_val b))
  have OB := Lib.hid (natAbs_lt (M.ok_val b'))
  have oS : (M.val h l + M.val h' l').natAbs < 2 ^ 129 := by
    have h1 := M.ok_iff.1 (M.ok_val b)
    have h2 := M.ok_iff.1 (M.ok_val b')
    omega
  generalize M.val h l = x at *
  generalize M.val h' l' = y at *
  obtain ⟨s, hS⟩ : ∃ s, x + y = s := ⟨_, rfl⟩
  rw [hS] at oS ⊢
  have OS := Lib.hid oS
  have sumS : ∀ {w2 : World} {A B : Option Addr} {c d : Nat} {la lb : List Nat}, NumR w2 x A la → NumR w2 y B lb → la.length ≤ 128 → lb.length ≤ 128 → Calls Try.prog 38 #[.agg #[.bool (decide (x < 0)), .slice A la.length c], .agg #[.bool (decide (y < 0)), .slice B lb.length d]] w2 (RetNum w2 s) := by
    intro w2 A B c d la lb N1 N2 L1 L2
    have := sumZ c d N1 N2 (by omega) (by omega)
    rwa [hS] at this
  have K : Below w.heap.size w (((w.alloc (.cells #[.int .i64 h, .int .u64 l] 24)).alloc (.cells #[.int .i64 h', .int .u64 l'] 24)).alloc (.cells #[.int .i64 0, .int .u64 0] 24)) := (((Below.refl _ w).alloc (Nat.le_refl _) _).alloc (by simp) _).alloc (by simp; omega) _
  have HT := Lib.hid (three24 w (.int .i64 h) (.int .u64 l) (.int .i64 h') (.int .u64 l') (.int .i64 0) (.int .u64 0))
  clear hS oS
  go_enter Try.func14, Try.ntmps14
  go_wp2_with fail
  go_region_held3 (fun w' => w'.cell? ⟨w.heap.size, 0, none⟩ = some (.int .i64 h) ∧ w'.cell? ⟨w.heap.size, 1, none⟩ = some (.int .u64 l) ∧ w'.cell? ⟨w.heap.size + 1, 0, none⟩ = some (.int .i64 h') ∧ w'.cell? ⟨w.heap.size + 1, 1, none⟩ = some (.int .u64 l') ∧ w.heap.size + 1 < w'.heap.size)
    (first | exact keep4 hbE (by assumption) | exact keep4s (by (dsimp only; omega)) (keep4s (by (dsimp only; omega)) (by assumption)) | exact keep4 hbD (by assumption) | exact keep4 hbC (by assumption) | exact keep4 hbB (by assumption) | exact keep4 hbA (by assumption) | go_keep)
    ((first | (go_at_call_of 36 (Value.agg #[Value.int IntKind.i64 h, Value.int IntKind.u64 l]); refine (cFa _).mono ?_; rintro e w1 ⟨A, c, la, rfl, hrA, hCA, hzA, _, hbA⟩; have NA : NumR w1 x A la := ⟨hrA, hCA, hzA⟩; have LA := NA.len 128 OA.out; clear hrA hCA hzA) | (go_at_call_of 36 (Value.agg #[Value.int IntKind.i64 h', Value.int IntKind.u64 l']); refine (cFb _).mono ?_; rintro e w2 ⟨B, d, lb, rfl, hrB, hCB, hzB, _, hbB⟩; have NB : NumR w2 y B lb := ⟨hrB, hCB, hzB⟩; have LB := NB.len 128 OB.out; clear hrB hCB hzB) | (go_at_call 38; refine (sumS (NA.up hbB) NB LA LB).mono ?_; rintro e w3 ⟨C3, c3, l3, rfl, hr3, hC3, hz3, _, hbC⟩; have N3 : NumR w3 s C3 l3 := ⟨hr3, hC3, hz3⟩; have L3 := N3.len 129 OS.out; clear hr3 hC3 hz3) | (go_at_call 34; refine (toZ c3 N3 (by omega)).mono ?_; rintro e w4 ⟨rfl, hbD⟩; have G0 := (hbA.trans (hbB.mono hbA.size)).trans (hbC.mono (Nat.le_trans hbA.size hbB.size)); have G := G0.trans (hbD.mono G0.size); have rc0 := (G.cell (p := ⟨w.heap.size + 1 + 1, 0, none⟩) (by simp)).trans HT.out.1; have rc1 := (G.cell (p := ⟨w.heap.size + 1 + 1, 1, none⟩) (by simp)).trans HT.out.2.1; have rf0 := (G.frozen (p := ⟨w.heap.size + 1 + 1, 0, none⟩) (by simp)).trans HT.out.2.2.1; have rf1 := (G.frozen (p := ⟨w.heap.size + 1 + 1, 1, none⟩) (by simp)).trans HT.out.2.2.2)))
  all_goals go_wp2_with fail
  have K3 := K.drew.trans (G.mono K.drew.size)
  exact bodyPost_ret (v := .tuple #[.agg #[.int .i64 (M.oh s), .int .u64 (M.ol s)], .bool (M.ok s)]) (by simp [results, Try.results14, go_sem, rc0, rc1]) rfl ⟨rfl, (K3.setCell (by dsimp only; omega) _).setCell (by dsimp only; omega) _⟩
set_option maxHeartbeats 2000000 in
theorem rsub_any (h l h' l' : Int) (b : M.B h l) (b' : M.B h' l') (w : World) :
    Calls Try.prog 16 #[.agg #[.int .i64 h, .int .u64 l], .agg #[.int .i64 h', .int .u64 l']] w fun e w' => e = .returned (.tuple #[.agg #[.int .i64 (M.oh (M.val h l - M.val h' l')), .int .u64 (M.ol (M.val h l - M.val h' l'))], .bool (M.ok (M.val h l - M.val h' l'))]) ∧ Below w.heap.size w w' := by
  have cFa := fun w => from_bits h l b w
  have cFb := fun w => from_bits h' l' b' w
  have OA := Lib.hid (natAbs_lt (M.ok_val b))
  have OB := Lib.hid (natAbs_lt (M.ok_val b'))
  have oS : (M.val h l - M.val h' l').natAbs < 2 ^ 129 := by
    have h1 := M.ok_iff.1 (M.ok_val b)
    have h2 := M.ok_iff.1 (M.ok_val b')
    omega
  generalize M.val h l = x at *
  generalize M.val h' l' = y at *
  obtain ⟨s, hS⟩ : ∃ s, x - y = s := ⟨_, rfl⟩
  rw [hS] at oS ⊢
  have OS := Lib.hid oS
  obtain ⟨yy, hyy⟩ : ∃ yy, -y = yy := ⟨_, rfl⟩
  have OY : Hid (yy.natAbs < 2 ^ 128) := Lib.hid (by rw [← hyy, Int.natAbs_neg]; exact OB.out)
  have turnY : ∀ {w2 : World} {B : Option Addr} {d : Nat} {lb : List Nat}, NumR w2 y B lb → lb.length ≤ 128 → Calls Try.prog 35 #[.agg #[.bool (decide (y < 0)), .slice B lb.length d]] w2 (RetNum w2 yy) := by
    intro w2 B d lb N L
    have := turnZ d N (by omega)
    rwa [hyy] at this
  have sumS : ∀ {w2 : World} {A B : Option Addr} {c d : Nat} {la lb : List Nat}, NumR w2 x A la → NumR w2 yy B lb → la.length ≤ 128 → lb.length ≤ 128 → Calls Try.prog 38 #[.agg #[.bool (decide (x < 0)), .slice A la.length c], .agg #[.bool (decide (yy < 0)), .slice B lb.length d]] w2 (RetNum w2 s) := by
    intro w2 A B c d la lb N1 N2 L1 L2
    have := sumZ c d N1 N2 (by omega) (by omega)
    rwa [show x + yy = s by omega] at this
  have K : Below w.heap.size w (((w.alloc (.cells #[.int .i64 h, .int .u64 l] 24)).alloc (.cells #[.int .i64 h', .int .u64 l'] 24)).alloc (.cells #[.int .i64 0, .int .u64 0] 24)) := (((Below.refl _ w).alloc (Nat.le_refl _) _).alloc (by simp) _).alloc (by simp; omega) _
  have HT := Lib.hid (three24 w (.int .i64 h) (.int .u64 l) (.int .i64 h') (.int .u64 l') (.int .i64 0) (.int .u64 0))
  clear hS oS hyy
  go_enter Try.func16, Try.ntmps16
  go_wp2_with fail
  go_region_held3 (fun w' => w'.cell? ⟨w.heap.size, 0, none⟩ = some (.int .i64 h) ∧ w'.cell? ⟨w.heap.size, 1, none⟩ = some (.int .u64 l) ∧ w'.cell? ⟨w.heap.size + 1, 0, none⟩ = some (.int .i64 h') ∧ w'.cell? ⟨w.heap.size + 1, 1, none⟩ = some (.int .u64 l') ∧ w.heap.size + 1 < w'.heap.size)
    (first | exact keep4 hbE (by assumption) | exact keep4s (by (dsimp only; omega)) (keep4s (by (dsimp only; omega)) (by assumption)) | exact keep4 hbD (by assumption) | exact keep4 hbC (by assumption) | exact keep4 hbB (by assumption) | exact keep4 hbA (by assumption) | go_keep)
    ((first | (go_at_call_of 36 (Value.agg #[Value.int IntKind.i64 h, Value.int IntKind.u64 l]); refine (cFa _).mono ?_; rintro e w1 ⟨A, c, la, rfl, hrA, hCA, hzA, _, hbA⟩; have NA : NumR w1 x A la := ⟨hrA, hCA, hzA⟩; have LA := NA.len 128 OA.out; clear hrA hCA hzA) | (go_at_call_of 36 (Value.agg #[Value.int IntKind.i64 h', Value.int IntKind.u64 l']); refine (cFb _).mono ?_; rintro e w2 ⟨B, d, lb, rfl, hrB, hCB, hzB, _, hbB⟩; have NB : NumR w2 y B lb := ⟨hrB, hCB, hzB⟩; have LB := NB.len 128 OB.out; clear hrB hCB hzB) | (go_at_call 35; refine (turnY NB LB).mono ?_; rintro e w5 ⟨B5, d5, l5, rfl, hr5, hC5, hz5, _, hbE⟩; have N5 : NumR w5 yy B5 l5 := ⟨hr5, hC5, hz5⟩; have L5 := N5.len 128 OY.out; clear hr5 hC5 hz5) | (go_at_call 38; refine (sumS ((NA.up hbB).up hbE) N5 LA L5).mono ?_; rintro e w3 ⟨C3, c3, l3, rfl, hr3, hC3, hz3, _, hbC⟩; have N3 : NumR w3 s C3 l3 := ⟨hr3, hC3, hz3⟩; have L3 := N3.len 129 OS.out; clear hr3 hC3 hz3) | (go_at_call 34; refine (toZ c3 N3 (by omega)).mono ?_; rintro e w4 ⟨rfl, hbD⟩; have G0 := ((hbA.trans (hbB.mono hbA.size)).trans (hbE.mono (Nat.le_trans hbA.size hbB.size))).trans (hbC.mono (Nat.le_trans (Nat.le_trans hbA.size hbB.size) hbE.size)); have G := G0.trans (hbD.mono G0.size); have rc0 := (G.cell (p := ⟨w.heap.size + 1 + 1, 0, none⟩) (by simp)).trans HT.out.1; have rc1 := (G.cell (p := ⟨w.heap.size + 1 + 1, 1, none⟩) (by simp)).trans HT.out.2.1; have rf0 := (G.frozen (p := ⟨w.heap.size + 1 + 1, 0, none⟩) (by simp)).trans HT.out.2.2.1; have rf1 := (G.frozen (p := ⟨w.heap.size + 1 + 1, 1, none⟩) (by simp)).trans HT.out.2.2.2)))
  all_goals go_wp2_with fail
  have K3 := K.drew.trans (G.mono K.drew.size)
  exact bodyPost_ret (v := .tuple #[.agg #[.int .i64 (M.oh s), .int .u64 (M.ol s)], .bool (M.ok s)]) (by simp [results, Try.results16, go_sem, rc0, rc1]) rfl ⟨rfl, (K3.setCell (by dsimp only; omega) _).setCell (by dsimp only; omega) _⟩
set_option maxHeartbeats 2000000 in
theorem rcmp_any (h l h' l' : Int) (b : M.B h l) (b' : M.B h' l') (w : World) :
    Calls Try.prog 25 #[.agg #[.int .i64 h, .int .u64 l], .agg #[.int .i64 h', .int .u64 l']] w fun e w' => e = .returned (.int .i64 (M.sgn (M.val h l) (M.val h' l'))) ∧ Below w.heap.size w w' := by
  have cFa := fun w => from_bits h l b w
  have cFb := fun w => from_bits h' l' b' w
  have OA := Lib.hid (natAbs_lt (M.ok_val b))
  have OB := Lib.hid (natAbs_lt (M.ok_val b'))
  generalize M.val h l = x at *
  generalize M.val h' l' = y at *
  have K : Below w.heap.size w ((w.alloc (.cells #[.int .i64 h, .int .u64 l] 24)).alloc (.cells #[.int .i64 h', .int .u64 l'] 24)) := ((Below.refl _ w).alloc (Nat.le_refl _) _).alloc (by simp) _
  go_enter Try.func25, Try.ntmps25
  go_wp2_with fail
  go_region_held3 (fun w' => w'.cell? ⟨w.heap.size, 0, none⟩ = some (.int .i64 h) ∧ w'.cell? ⟨w.heap.size, 1, none⟩ = some (.int .u64 l) ∧ w'.cell? ⟨w.heap.size + 1, 0, none⟩ = some (.int .i64 h') ∧ w'.cell? ⟨w.heap.size + 1, 1, none⟩ = some (.int .u64 l') ∧ w.heap.size + 1 < w'.heap.size)
    (first | exact keep4 hbE (by assumption) | exact keep4s (by (dsimp only; omega)) (keep4s (by (dsimp only; omega)) (by assumption)) | exact keep4 hbD (by assumption) | exact keep4 hbC (by assumption) | exact keep4 hbB (by assumption) | exact keep4 hbA (by assumption) | go_keep)
    ((first | (go_at_call_of 36 (Value.agg #[Value.int IntKind.i64 h, Value.int IntKind.u64 l]); refine (cFa _).mono ?_; rintro e w1 ⟨A, c, la, rfl, hrA, hCA, hzA, _, hbA⟩; have NA : NumR w1 x A la := ⟨hrA, hCA, hzA⟩; have LA := NA.len 128 OA.out; clear hrA hCA hzA) | (go_at_call_of 36 (Value.agg #[Value.int IntKind.i64 h', Value.int IntKind.u64 l']); refine (cFb _).mono ?_; rintro e w2 ⟨B, d, lb, rfl, hrB, hCB, hzB, _, hbB⟩; have NB : NumR w2 y B lb := ⟨hrB, hCB, hzB⟩; have LB := NB.len 128 OB.out; clear hrB hCB hzB) | (go_at_call 45; refine (orderZ c d (NA.up hbB) NB (by omega) (by omega)).mono ?_; rintro e w3 ⟨rfl, hbC⟩)))
  all_goals go_wp2_with fail
  have G := (hbA.trans (hbB.mono hbA.size)).trans (hbC.mono (Nat.le_trans hbA.size hbB.size))
  have K3 := K.drew.trans (G.mono K.drew.size)
  go_ret
  exact ⟨rfl, K3⟩
end Go.Proofs.Ytdjhloilpgfcjaa
