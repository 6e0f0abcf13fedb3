/- Contracts: Same, small, awake. -/
import Derived.Test.YtbpignicffkaoaaFf
namespace Go.Proofs.Ytbpignicffkaoaa
open Go.ChangeShapes Go.WideShapes Go.ChangeAt Go.RowKit
set_option linter.unusedVariables false
set_option linter.unusedSimpArgs false

def RetSame (w : World) (a b : List (Nat → Int)) (e f : List Bool) (r : Ending) (w' : World) : Prop := (∃ z, r = .returned (.bool z) ∧ (a = b → e = f → a.length = e.length → z = true)) ∧ Below w.heap.size w w'
set_option maxRecDepth 100000 in
set_option maxHeartbeats 8000000 in
theorem rsame_any (a b : List (Nat → Int)) (e f : List Bool) {lo1 lo2 lo3 lo4 : Nat} {A1 A2 A3 A4 : Option Addr} {c1 c2 c3 c4 : Nat} (h9 : a.length ≤ 1000000) (w : World) (h1 : Lies w free (vE lo1 A1 c1 a)) (h2 : Lies w free (vE lo2 A2 c2 b)) (h3 : Lies w free (bE lo3 A3 c3 e)) (h4 : Lies w free (bE lo4 A4 c4 f)) :
    Calls Try.prog 12 #[.slice A1 a.length c1, .slice A2 b.length c2, .slice A3 e.length c3, .slice A4 f.length c4] w (RetSame w a b e f) := by
  have O := Held.start w [vE lo1 A1 c1 a, vE lo2 A2 c2 b, bE lo3 A3 c3 e, bE lo4 A4 c4 f] (by
    intro x hx
    simp only [List.mem_cons, List.not_mem_nil, or_false] at hx
    rcases hx with rfl | rfl | rfl | rfl
    · exact h1
    · exact h2
    · exact h3
    · exact h4)
  clear h1 h2 h3 h4
  by_cases g1 : a.length = b.length
  case neg =>
    have k1 : ((a.length : Int) != (b.length : Int)) = true := by simp; omega
    have HE : Hid (a = b → e = f → a.length = e.length → false = true) := Lib.hid (fun h => absurd (congrArg List.length h) g1)
    clear g1
    go_enter Try.func12, Try.ntmps12
    go_wp2_with fail
    go_ret
    exact ⟨⟨false, rfl, HE.out⟩, O.below⟩
  have k1 : ((a.length : Int) != (b.length : Int)) = false := by simp; omega
  by_cases g2 : e.length = f.length
  case neg =>
    have k2 : ((e.length : Int) != (f.length : Int)) = true := by simp; omega
    have HE : Hid (a = b → e = f → a.length = e.length → false = true) := Lib.hid (fun _ h => absurd (congrArg List.length h) g2)
    clear g1 g2
    go_enter Try.func12, Try.ntmps12
    go_wp2_with fail
    go_ret
    exact ⟨⟨false, rfl, HE.out⟩, O.below⟩
  have k2 : ((e.length : Int) != (f.length : Int)) = false := by simp; omega
  by_cases g3 : a.length = e.length
  case neg =>
    have k3 : ((a.length : Int) != (e.length : Int)) = true := by simp; omega
    have HE : Hid (a = b → e = f → a.length = e.length → false = true) := Lib.hid (fun _ _ h => absurd h g3)
    clear g1 g2 g3
    go_enter Try.func12, Try.ntmps12
    go_wp2_with fail
    go_ret
    exact ⟨⟨false, rfl, HE.out⟩, O.below⟩
  have k3 : ((a.length : Int) != (e.length : Int)) = false := by simp; omega
  have G1 := Lib.hid g1
  have G2 := Lib.hid g2
  have G3 := Lib.hid g3
  clear g1 g2 g3
  go_enter Try.func12, Try.ntmps12
  go_wp2_with fail
  clear k1 k2 k3
  go_loopw [9] (fun t wr => ∃ k : Nat, k ≤ a.length ∧ t = .int .i64 k ∧ Held w wr [] nilRow [vE lo1 A1 c1 a, vE lo2 A2 c2 b, bE lo3 A3 c3 e, bE lo4 A4 c4 f]) (fun t _ => a.length - (intOf t).toNat)
  case atStart => exact ⟨0, Nat.zero_le _, rfl, O⟩
  case round =>
    clear O
    obtain ⟨k, hk, rfl, O⟩ := hrel
    have q0 : (0 : Int) ≤ k := by omega
    by_cases hlt : k < a.length
    · have q1 : (k : Int) < a.length := by omega
      have q2 : k < b.length := by have := G1.out; omega
      have q3 : k < e.length := by have := G3.out; omega
      have q4 : k < f.length := by have := G2.out; omega
      obtain ⟨x, hx⟩ : ∃ x, a[k]? = some x := ⟨_, List.getElem?_eq_getElem hlt⟩
      obtain ⟨y, hy⟩ : ∃ x, b[k]? = some x := ⟨_, List.getElem?_eq_getElem q2⟩
      obtain ⟨u, hu⟩ : ∃ x, e[k]? = some x := ⟨_, List.getElem?_eq_getElem q3⟩
      obtain ⟨v, hv⟩ : ∃ x, f[k]? = some x := ⟨_, List.getElem?_eq_getElem q4⟩
      have HX := Lib.hid hx
      have HY := Lib.hid hy
      have HU := Lib.hid hu
      have HV := Lib.hid hv
      clear hx hy hu hv
      cases hq : M.eqB 8 x y
      · have HE : Hid (a = b → e = f → a.length = e.length → false = true) := Lib.hid (fun h => by
          have h1 := HX.out
          rw [h, HY.out] at h1
          obtain rfl := Option.some.inj h1
          rw [M.eqB_refl] at hq
          cases hq)
        have HQ := Lib.hid hq
        clear hq
        go_wp2_with fail
        refine region_T ((fun w2 => Held w w2 [] nilRow [vE lo1 A1 c1 a, vE lo2 A2 c2 b, bE lo3 A3 c3 e, bE lo4 A4 c4 f])) [0, 1, 2, 3, 4, 5, 6, 7, 8, 9, 10, 11, 12, 13, 14, 15, 16, 17, 18, 19] 12 [some 35, some 36, some 37, some 38, some 39, some 40, some 41, some 42, some 43, some 44, some 45, some 46, some 47, some 48, some 49, some 50, some 51, some 52, some 53, some 54] [.slice A1 a.length c1, .int .i64 k, .pointer (some ((adr A1).add (k * 8))), arr 8 x, .slice A2 b.length c2, .int .i64 k, .pointer (some ((adr A2).add (k * 8))), arr 8 y, .bool true, .bool true, undef, undef, undef, undef, undef, undef, undef, undef, undef, .bool true] 0 (by kernel_rfl) (by rfl) (by kernel_rfl) (by rfl) (by rfl) (O.drew) (fun F hF => ?_)
        simp only [fillD, Act.put, List.setIfInBounds_toArray, List.set_cons_zero, List.set_cons_succ] at hF
        subst hF
        refine ⟨⟨does_want rfl (by rfl) (fun w' O K hK => ?_), does_want rfl (by rfl) (fun w' O K hK => ?_), does_want rfl (by rfl) (fun w' O K hK => ?_), does_want rfl (by rfl) (fun w' O K hK => ?_), does_want rfl (by rfl) (fun w' O K hK => ?_), does_want rfl (by rfl) (fun w' O K hK => ?_), does_want rfl (by rfl) (fun w' O K hK => ?_), does_want rfl (by rfl) (fun w' O K hK => ?_), does_want rfl (by rfl) (fun w' O K hK => ?_), does_want rfl (by rfl) (fun w' O K hK => ?_), does_skip rfl (by rfl), does_skip rfl (by rfl), does_skip rfl (by rfl), does_skip rfl (by rfl), does_skip rfl (by rfl), does_skip rfl (by rfl), does_skip rfl (by rfl), does_skip rfl (by rfl), does_skip rfl (by rfl), does_want rfl (by rfl) (fun w' O K hK => ?_), trivial⟩, fun w' O => ?_⟩
        · go_simp
          exact hK _ O
        · go_simp
          exact hK _ O
        · exact wp_at_h Try.underlying22 sizeOf27 _ (O.mem List.mem_cons_self) rfl (k) rfl rfl (by omega) rfl (hK _ O)
        · exact wp_elem_h _ (O.mem List.mem_cons_self) (k * 8) (M.mat 8 (x)) (vC_at HX.out) (by rw [M.mat_len]; decide) rfl Try.underlying39 rfl (s27 _) (hK _ O)
        · go_simp
          exact hK _ O
        · go_simp
          exact hK _ O
        · exact wp_at_h Try.underlying22 sizeOf27 _ (O.mem (List.mem_cons_of_mem _ List.mem_cons_self)) rfl (k) rfl rfl (by omega) rfl (hK _ O)
        · exact wp_elem_h _ (O.mem (List.mem_cons_of_mem _ List.mem_cons_self)) (k * 8) (M.mat 8 (y)) (vC_at HY.out) (by rw [M.mat_len]; decide) rfl Try.underlying39 rfl (s27 _) (hK _ O)
        · refine wp_neq27 x y rfl rfl ?_
          rw [HQ.out]
          exact hK _ O
        · go_simp
          exact hK _ O
        · go_simp
          exact hK _ O
        refine wpAny_done (by kernel_rfl) ?_ _
        go_wp2_with fail
        go_ret
        exact ⟨⟨false, rfl, HE.out⟩, O.below⟩
      · have HQ := Lib.hid hq
        clear hq
        cases u <;> cases v
        · go_wp2_with fail
          refine region_T ((fun w2 => Held w w2 [] nilRow [vE lo1 A1 c1 a, vE lo2 A2 c2 b, bE lo3 A3 c3 e, bE lo4 A4 c4 f])) [0, 1, 2, 3, 4, 5, 6, 7, 8, 9, 10, 11, 12, 13, 14, 15, 16, 17, 18, 19] 12 [some 35, some 36, some 37, some 38, some 39, some 40, some 41, some 42, some 43, some 44, some 45, some 46, some 47, some 48, some 49, some 50, some 51, some 52, some 53, some 54] [.slice A1 a.length c1, .int .i64 k, .pointer (some ((adr A1).add (k * 8))), arr 8 x, .slice A2 b.length c2, .int .i64 k, .pointer (some ((adr A2).add (k * 8))), arr 8 y, .bool false, .bool false, .slice A3 e.length c3, .int .i64 k, .pointer (some ((adr A3).add k)), .bool false, .slice A4 f.length c4, .int .i64 k, .pointer (some ((adr A4).add k)), .bool false, .bool false, .bool false] 0 (by kernel_rfl) (by rfl) (by kernel_rfl) (by rfl) (by rfl) (O.drew) (fun F hF => ?_)
          simp only [fillD, Act.put, List.setIfInBounds_toArray, List.set_cons_zero, List.set_cons_succ] at hF
          subst hF
          refine ⟨⟨does_want rfl (by rfl) (fun w' O K hK => ?_), does_want rfl (by rfl) (fun w' O K hK => ?_), does_want rfl (by rfl) (fun w' O K hK => ?_), does_want rfl (by rfl) (fun w' O K hK => ?_), does_want rfl (by rfl) (fun w' O K hK => ?_), does_want rfl (by rfl) (fun w' O K hK => ?_), does_want rfl (by rfl) (fun w' O K hK => ?_), does_want rfl (by rfl) (fun w' O K hK => ?_), does_want rfl (by rfl) (fun w' O K hK => ?_), does_want rfl (by rfl) (fun w' O K hK => ?_), does_want rfl (by rfl) (fun w' O K hK => ?_), does_want rfl (by rfl) (fun w' O K hK => ?_), does_want rfl (by rfl) (fun w' O K hK => ?_), does_want rfl (by rfl) (fun w' O K hK => ?_), does_want rfl (by rfl) (fun w' O K hK => ?_), does_want rfl (by rfl) (fun w' O K hK => ?_), does_want rfl (by rfl) (fun w' O K hK => ?_), does_want rfl (by rfl) (fun w' O K hK => ?_), does_want rfl (by rfl) (fun w' O K hK => ?_), does_want rfl (by rfl) (fun w' O K hK => ?_), trivial⟩, fun w' O => ?_⟩
          · go_simp
            exact hK _ O
          · go_simp
            exact hK _ O
          · exact wp_at_h Try.underlying22 sizeOf27 _ (O.mem List.mem_cons_self) rfl (k) rfl rfl (by omega) rfl (hK _ O)
          · exact wp_elem_h _ (O.mem List.mem_cons_self) (k * 8) (M.mat 8 (x)) (vC_at HX.out) (by rw [M.mat_len]; decide) rfl Try.underlying39 rfl (s27 _) (hK _ O)
          · go_simp
            exact hK _ O
          · go_simp
            exact hK _ O
          · exact wp_at_h Try.underlying22 sizeOf27 _ (O.mem (List.mem_cons_of_mem _ List.mem_cons_self)) rfl (k) rfl rfl (by omega) rfl (hK _ O)
          · exact wp_elem_h _ (O.mem (List.mem_cons_of_mem _ List.mem_cons_self)) (k * 8) (M.mat 8 (y)) (vC_at HY.out) (by rw [M.mat_len]; decide) rfl Try.underlying39 rfl (s27 _) (hK _ O)
          · refine wp_neq27 x y rfl rfl ?_
            rw [HQ.out]
            exact hK _ O
          · go_simp
            exact hK _ O
          · go_simp
            exact hK _ O
          · go_simp
            exact hK _ O
          · refine wp_at_h Try.underlying23 sizeOf4 _ (O.mem (List.mem_cons_of_mem _ (List.mem_cons_of_mem _ List.mem_cons_self))) rfl (k) rfl rfl (by omega) rfl ?_
            try rw [Nat.mul_one]
            exact hK _ O
          · exact wp_ecell_h _ (O.mem (List.mem_cons_of_mem _ (List.mem_cons_of_mem _ List.mem_cons_self))) (k) (bC_at HU.out) rfl agg4 rfl (hK _ O)
          · go_simp
            exact hK _ O
          · go_simp
            exact hK _ O
          · refine wp_at_h Try.underlying23 sizeOf4 _ (O.mem (List.mem_cons_of_mem _ (List.mem_cons_of_mem _ (List.mem_cons_of_mem _ List.mem_cons_self)))) rfl (k) rfl rfl (by omega) rfl ?_
            try rw [Nat.mul_one]
            exact hK _ O
          · exact wp_ecell_h _ (O.mem (List.mem_cons_of_mem _ (List.mem_cons_of_mem _ (List.mem_cons_of_mem _ List.mem_cons_self)))) (k) (bC_at HV.out) rfl agg4 rfl (hK _ O)
          · go_simp
            exact hK _ O
          · go_simp
            exact hK _ O
          refine wpAny_done (by kernel_rfl) ?_ _
          go_wp2_with fail
          go_roundw
          case rel => exact ⟨k + 1, by omega, by go_num, O⟩
          case measure => simp [intOf]; omega
        · have HE : Hid (a = b → e = f → a.length = e.length → false = true) := Lib.hid (fun _ h => by
            have h1 := HU.out
            rw [h, HV.out] at h1
            cases Option.some.inj h1)
          go_wp2_with fail
          refine region_T ((fun w2 => Held w w2 [] nilRow [vE lo1 A1 c1 a, vE lo2 A2 c2 b, bE lo3 A3 c3 e, bE lo4 A4 c4 f])) [0, 1, 2, 3, 4, 5, 6, 7, 8, 9, 10, 11, 12, 13, 14, 15, 16, 17, 18, 19] 12 [some 35, some 36, some 37, some 38, some 39, some 40, some 41, some 42, some 43, some 44, some 45, some 46, some 47, some 48, some 49, some 50, some 51, some 52, some 53, some 54] [.slice A1 a.length c1, .int .i64 k, .pointer (some ((adr A1).add (k * 8))), arr 8 x, .slice A2 b.length c2, .int .i64 k, .pointer (some ((adr A2).add (k * 8))), arr 8 y, .bool false, .bool false, .slice A3 e.length c3, .int .i64 k, .pointer (some ((adr A3).add k)), .bool false, .slice A4 f.length c4, .int .i64 k, .pointer (some ((adr A4).add k)), .bool true, .bool true, .bool true] 0 (by kernel_rfl) (by rfl) (by kernel_rfl) (by rfl) (by rfl) (O.drew) (fun F hF => ?_)
          simp only [fillD, Act.put, List.setIfInBounds_toArray, List.set_cons_zero, List.set_cons_succ] at hF
          subst hF
          refine ⟨⟨does_want rfl (by rfl) (fun w' O K hK => ?_), does_want rfl (by rfl) (fun w' O K hK => ?_), does_want rfl (by rfl) (fun w' O K hK => ?_), does_want rfl (by rfl) (fun w' O K hK => ?_), does_want rfl (by rfl) (fun w' O K hK => ?_), does_want rfl (by rfl) (fun w' O K hK => ?_), does_want rfl (by rfl) (fun w' O K hK => ?_), does_want rfl (by rfl) (fun w' O K hK => ?_), does_want rfl (by rfl) (fun w' O K hK => ?_), does_want rfl (by rfl) (fun w' O K hK => ?_), does_want rfl (by rfl) (fun w' O K hK => ?_), does_want rfl (by rfl) (fun w' O K hK => ?_), does_want rfl (by rfl) (fun w' O K hK => ?_), does_want rfl (by rfl) (fun w' O K hK => ?_), does_want rfl (by rfl) (fun w' O K hK => ?_), does_want rfl (by rfl) (fun w' O K hK => ?_), does_want rfl (by rfl) (fun w' O K hK => ?_), does_want rfl (by rfl) (fun w' O K hK => ?_), does_want rfl (by rfl) (fun w' O K hK => ?_), does_want rfl (by rfl) (fun w' O K hK => ?_), trivial⟩, fun w' O => ?_⟩
          · go_simp
            exact hK _ O
          · go_simp
            exact hK _ O
          · exact wp_at_h Try.underlying22 sizeOf27 _ (O.mem List.mem_cons_self) rfl (k) rfl rfl (by omega) rfl (hK _ O)
          · exact wp_elem_h _ (O.mem List.mem_cons_self) (k * 8) (M.mat 8 (x)) (vC_at HX.out) (by rw [M.mat_len]; decide) rfl Try.underlying39 rfl (s27 _) (hK _ O)
          · go_simp
            exact hK _ O
          · go_simp
            exact hK _ O
          · exact wp_at_h Try.underlying22 sizeOf27 _ (O.mem (List.mem_cons_of_mem _ List.mem_cons_self)) rfl (k) rfl rfl (by omega) rfl (hK _ O)
          · exact wp_elem_h _ (O.mem (List.mem_cons_of_mem _ List.mem_cons_self)) (k * 8) (M.mat 8 (y)) (vC_at HY.out) (by rw [M.mat_len]; decide) rfl Try.underlying39 rfl (s27 _) (hK _ O)
          · refine wp_neq27 x y rfl rfl ?_
            rw [HQ.out]
            exact hK _ O
          · go_simp
            exact hK _ O
          · go_simp
            exact hK _ O
          · go_simp
            exact hK _ O
          · refine wp_at_h Try.underlying23 sizeOf4 _ (O.mem (List.mem_cons_of_mem _ (List.mem_cons_of_mem _ List.mem_cons_self))) rfl (k) rfl rfl (by omega) rfl ?_
            try rw [Nat.mul_one]
            exact hK _ O
          · exact wp_ecell_h _ (O.mem (List.mem_cons_of_mem _ (List.mem_cons_of_mem _ List.mem_cons_self))) (k) (bC_at HU.out) rfl agg4 rfl (hK _ O)
          · go_simp
            exact hK _ O
          · go_simp
            exact hK _ O
          · refine wp_at_h Try.underlying23 sizeOf4 _ (O.mem (List.mem_cons_of_mem _ (List.mem_cons_of_mem _ (List.mem_cons_of_mem _ List.mem_cons_self)))) rfl (k) rfl rfl (by omega) rfl ?_
            try rw [Nat.mul_one]
            exact hK _ O
          · exact wp_ecell_h _ (O.mem (List.mem_cons_of_mem _ (List.mem_cons_of_mem _ (List.mem_cons_of_mem _ List.mem_cons_self)))) (k) (bC_at HV.out) rfl agg4 rfl (hK _ O)
          · go_simp
            exact hK _ O
          · go_simp
            exact hK _ O
          refine wpAny_done (by kernel_rfl) ?_ _
          go_wp2_with fail
          go_ret
          exact ⟨⟨false, rfl, HE.out⟩, O.below⟩
        · have HE : Hid (a = b → e = f → a.length = e.length → false = true) := Lib.hid (fun _ h => by
            have h1 := HU.out
            rw [h, HV.out] at h1
            cases Option.some.inj h1)
          go_wp2_with fail
          refine region_T ((fun w2 => Held w w2 [] nilRow [vE lo1 A1 c1 a, vE lo2 A2 c2 b, bE lo3 A3 c3 e, bE lo4 A4 c4 f])) [0, 1, 2, 3, 4, 5, 6, 7, 8, 9, 10, 11, 12, 13, 14, 15, 16, 17, 18, 19] 12 [some 35, some 36, some 37, some 38, some 39, some 40, some 41, some 42, some 43, some 44, some 45, some 46, some 47, some 48, some 49, some 50, some 51, some 52, some 53, some 54] [.slice A1 a.length c1, .int .i64 k, .pointer (some ((adr A1).add (k * 8))), arr 8 x, .slice A2 b.length c2, .int .i64 k, .pointer (some ((adr A2).add (k * 8))), arr 8 y, .bool false, .bool false, .slice A3 e.length c3, .int .i64 k, .pointer (some ((adr A3).add k)), .bool true, .slice A4 f.length c4, .int .i64 k, .pointer (some ((adr A4).add k)), .bool false, .bool true, .bool true] 0 (by kernel_rfl) (by rfl) (by kernel_rfl) (by rfl) (by rfl) (O.drew) (fun F hF => ?_)
          simp only [fillD, Act.put, List.setIfInBounds_toArray, List.set_cons_zero, List.set_cons_succ] at hF
          subst hF
          refine ⟨⟨does_want rfl (by rfl) (fun w' O K hK => ?_), does_want rfl (by rfl) (fun w' O K hK => ?_), does_want rfl (by rfl) (fun w' O K hK => ?_), does_want rfl (by rfl) (fun w' O K hK => ?_), does_want rfl (by rfl) (fun w' O K hK => ?_), does_want rfl (by rfl) (fun w' O K hK => ?_), does_want rfl (by rfl) (fun w' O K hK => ?_), does_want rfl (by rfl) (fun w' O K hK => ?_), does_want rfl (by rfl) (fun w' O K hK => ?_), does_want rfl (by rfl) (fun w' O K hK => ?_), does_want rfl (by rfl) (fun w' O K hK => ?_), does_want rfl (by rfl) (fun w' O K hK => ?_), does_want rfl (by rfl) (fun w' O K hK => ?_), does_want rfl (by rfl) (fun w' O K hK => ?_), does_want rfl (by rfl) (fun w' O K hK => ?_), does_want rfl (by rfl) (fun w' O K hK => ?_), does_want rfl (by rfl) (fun w' O K hK => ?_), does_want rfl (by rfl) (fun w' O K hK => ?_), does_want rfl (by rfl) (fun w' O K hK => ?_), does_want rfl (by rfl) (fun w' O K hK => ?_), trivial⟩, fun w' O => ?_⟩
          · go_simp
            exact hK _ O
          · go_simp
            exact hK _ O
          · exact wp_at_h Try.underlying22 sizeOf27 _ (O.mem List.mem_cons_self) rfl (k) rfl rfl (by omega) rfl (hK _ O)
          · exact wp_elem_h _ (O.mem List.mem_cons_self) (k * 8) (M.mat 8 (x)) (vC_at HX.out) (by rw [M.mat_len]; decide) rfl Try.underlying39 rfl (s27 _) (hK _ O)
          · go_simp
            exact hK _ O
          · go_simp
            exact hK _ O
          · exact wp_at_h Try.underlying22 sizeOf27 _ (O.mem (List.mem_cons_of_mem _ List.mem_cons_self)) rfl (k) rfl rfl (by omega) rfl (hK _ O)
          · exact wp_elem_h _ (O.mem (List.mem_cons_of_mem _ List.mem_cons_self)) (k * 8) (M.mat 8 (y)) (vC_at HY.out) (by rw [M.mat_len]; decide) rfl Try.underlying39 rfl (s27 _) (hK _ O)
          · refine wp_neq27 x y rfl rfl ?_
            rw [HQ.out]
            exact hK _ O
          · go_simp
            exact hK _ O
          · go_simp
            exact hK _ O
          · go_simp
            exact hK _ O
          · refine wp_at_h Try.underlying23 sizeOf4 _ (O.mem (List.mem_cons_of_mem _ (List.mem_cons_of_mem _ List.mem_cons_self))) rfl (k) rfl rfl (by omega) rfl ?_
            try rw [Nat.mul_one]
            exact hK _ O
          · exact wp_ecell_h _ (O.mem (List.mem_cons_of_mem _ (List.mem_cons_of_mem _ List.mem_cons_self))) (k) (bC_at HU.out) rfl agg4 rfl (hK _ O)
          · go_simp
            exact hK _ O
          · go_simp
            exact hK _ O
          · refine wp_at_h Try.underlying23 sizeOf4 _ (O.mem (List.mem_cons_of_mem _ (List.mem_cons_of_mem _ (List.mem_cons_of_mem _ List.mem_cons_self)))) rfl (k) rfl rfl (by omega) rfl ?_
            try rw [Nat.mul_one]
            exact hK _ O
          · exact wp_ecell_h _ (O.mem (List.mem_cons_of_mem _ (List.mem_cons_of_mem _ (List.mem_cons_of_mem _ List.mem_cons_self)))) (k) (bC_at HV.out) rfl agg4 rfl (hK _ O)
          · go_simp
            exact hK _ O
          · go_simp
            exact hK _ O
          refine wpAny_done (by kernel_rfl) ?_ _
          go_wp2_with fail
          go_ret
          exact ⟨⟨false, rfl, HE.out⟩, O.below⟩
        · go_wp2_with fail
          refine region_T ((fun w2 => Held w w2 [] nilRow [vE lo1 A1 c1 a, vE lo2 A2 c2 b, bE lo3 A3 c3 e, bE lo4 A4 c4 f])) [0, 1, 2, 3, 4, 5, 6, 7, 8, 9, 10, 11, 12, 13, 14, 15, 16, 17, 18, 19] 12 [some 35, some 36, some 37, some 38, some 39, some 40, some 41, some 42, some 43, some 44, some 45, some 46, some 47, some 48, some 49, some 50, some 51, some 52, some 53, some 54] [.slice A1 a.length c1, .int .i64 k, .pointer (some ((adr A1).add (k * 8))), arr 8 x, .slice A2 b.length c2, .int .i64 k, .pointer (some ((adr A2).add (k * 8))), arr 8 y, .bool false, .bool false, .slice A3 e.length c3, .int .i64 k, .pointer (some ((adr A3).add k)), .bool true, .slice A4 f.length c4, .int .i64 k, .pointer (some ((adr A4).add k)), .bool true, .bool false, .bool false] 0 (by kernel_rfl) (by rfl) (by kernel_rfl) (by rfl) (by rfl) (O.drew) (fun F hF => ?_)
          simp only [fillD, Act.put, List.setIfInBounds_toArray, List.set_cons_zero, List.set_cons_succ] at hF
          subst hF
          refine ⟨⟨does_want rfl (by rfl) (fun w' O K hK => ?_), does_want rfl (by rfl) (fun w' O K hK => ?_), does_want rfl (by rfl) (fun w' O K hK => ?_), does_want rfl (by rfl) (fun w' O K hK => ?_), does_want rfl (by rfl) (fun w' O K hK => ?_), does_want rfl (by rfl) (fun w' O K hK => ?_), does_want rfl (by rfl) (fun w' O K hK => ?_), does_want rfl (by rfl) (fun w' O K hK => ?_), does_want rfl (by rfl) (fun w' O K hK => ?_), does_want rfl (by rfl) (fun w' O K hK => ?_), does_want rfl (by rfl) (fun w' O K hK => ?_), does_want rfl (by rfl) (fun w' O K hK => ?_), does_want rfl (by rfl) (fun w' O K hK => ?_), does_want rfl (by rfl) (fun w' O K hK => ?_), does_want rfl (by rfl) (fun w' O K hK => ?_), does_want rfl (by rfl) (fun w' O K hK => ?_), does_want rfl (by rfl) (fun w' O K hK => ?_), does_want rfl (by rfl) (fun w' O K hK => ?_), does_want rfl (by rfl) (fun w' O K hK => ?_), does_want rfl (by rfl) (fun w' O K hK => ?_), trivial⟩, fun w' O => ?_⟩
          · go_simp
            exact hK _ O
          · go_simp
            exact hK _ O
          · exact wp_at_h Try.underlying22 sizeOf27 _ (O.mem List.mem_cons_self) rfl (k) rfl rfl (by omega) rfl (hK _ O)
          · exact wp_elem_h _ (O.mem List.mem_cons_self) (k * 8) (M.mat 8 (x)) (vC_at HX.out) (by rw [M.mat_len]; decide) rfl Try.underlying39 rfl (s27 _) (hK _ O)
          · go_simp
            exact hK _ O
          · go_simp
            exact hK _ O
          · exact wp_at_h Try.underlying22 sizeOf27 _ (O.mem (List.mem_cons_of_mem _ List.mem_cons_self)) rfl (k) rfl rfl (by omega) rfl (hK _ O)
          · exact wp_elem_h _ (O.mem (List.mem_cons_of_mem _ List.mem_cons_self)) (k * 8) (M.mat 8 (y)) (vC_at HY.out) (by rw [M.mat_len]; decide) rfl Try.underlying39 rfl (s27 _) (hK _ O)
          · refine wp_neq27 x y rfl rfl ?_
            rw [HQ.out]
            exact hK _ O
          · go_simp
            exact hK _ O
          · go_simp
            exact hK _ O
          · go_simp
            exact hK _ O
          · refine wp_at_h Try.underlying23 sizeOf4 _ (O.mem (List.mem_cons_of_mem _ (List.mem_cons_of_mem _ List.mem_cons_self))) rfl (k) rfl rfl (by omega) rfl ?_
            try rw [Nat.mul_one]
            exact hK _ O
          · exact wp_ecell_h _ (O.mem (List.mem_cons_of_mem _ (List.mem_cons_of_mem _ List.mem_cons_self))) (k) (bC_at HU.out) rfl agg4 rfl (hK _ O)
          · go_simp
            exact hK _ O
          · go_simp
            exact hK _ O
          · refine wp_at_h Try.underlying23 sizeOf4 _ (O.mem (List.mem_cons_of_mem _ (List.mem_cons_of_mem _ (List.mem_cons_of_mem _ List.mem_cons_self)))) rfl (k) rfl rfl (by omega) rfl ?_
            try rw [Nat.mul_one]
            exact hK _ O
          · exact wp_ecell_h _ (O.mem (List.mem_cons_of_mem _ (List.mem_cons_of_mem _ (List.mem_cons_of_mem _ List.mem_cons_self)))) (k) (bC_at HV.out) rfl agg4 rfl (hK _ O)
          · go_simp
            exact hK _ O
          · go_simp
            exact hK _ O
          refine wpAny_done (by kernel_rfl) ?_ _
          go_wp2_with fail
          go_roundw
          case rel => exact ⟨k + 1, by omega, by go_num, O⟩
          case measure => simp [intOf]; omega
    · have q1 : ¬ (k : Int) < a.length := by omega
      go_wp2_with fail
      go_ret
      exact ⟨⟨true, rfl, fun _ _ _ => rfl⟩, O.below⟩
def C.few (n m k : Nat) : Bool := decide (n ≤ 40) && (decide (m ≤ 40) && decide (k ≤ 12))
theorem C.few_iff {n m k : Nat} : C.few n m k = true ↔ n ≤ 40 ∧ m ≤ 40 ∧ k ≤ 12 := by simp [C.few]
theorem few_any (n m k : Nat) {A B D_ : Option Addr} {c d g : Nat} (w : World) : Calls Try.prog 8 #[.slice A n c, .slice B m d, .slice D_ k g] w fun r w' => r = .returned (.bool (C.few n m k)) ∧ w = w' := by
  have e1 : decide ((n : Int) ≤ 40) = decide (n ≤ 40) := by rw [Bool.eq_iff_iff, decide_eq_true_eq, decide_eq_true_eq]; omega
  have e2 : decide ((m : Int) ≤ 40) = decide (m ≤ 40) := by rw [Bool.eq_iff_iff, decide_eq_true_eq, decide_eq_true_eq]; omega
  have e3 : decide ((k : Int) ≤ 12) = decide (k ≤ 12) := by rw [Bool.eq_iff_iff, decide_eq_true_eq, decide_eq_true_eq]; omega
  have HE : Hid (C.few n m k = (decide ((n : Int) ≤ 40) && (decide ((m : Int) ≤ 40) && decide ((k : Int) ≤ 12)))) := Lib.hid (by rw [e1, e2, e3]; rfl)
  clear e1 e2 e3
  obtain ⟨x, hx⟩ : ∃ x, decide ((n : Int) ≤ 40) = x := ⟨_, rfl⟩
  obtain ⟨y, hy⟩ : ∃ x, decide ((m : Int) ≤ 40) = x := ⟨_, rfl⟩
  obtain ⟨z, hz⟩ : ∃ x, decide ((k : Int) ≤ 12) = x := ⟨_, rfl⟩
  rw [hx, hy, hz] at HE
  cases x <;> cases y <;> cases z
  all_goals
    go_enter Try.func8, Try.ntmps8
    go_wp2_with fail
    go_ret
    exact ⟨by rw [HE.out]; rfl, rfl⟩
def C.p0 : C.PV := (D.vW 5, true)
def C.v4 (i : Nat) : Int := if i = 0 then 4 else if i = 3 then 5 else 0
def C.aw : List (Nat → Int) := [D.vW 5, C.v4, D.vW (-3)]
theorem aw_res : C.res C.aw [true, false, true] [D.kd 0] = [(D.vW 5, true), (C.v4, false), (D.way C.v4 (D.vW (-3)) 4 8, true), (D.way (D.vW 5) (D.vW (-3)) 4 8, true)] := by kernel_rfl
theorem aw_err : C.err C.aw [true, false, true] [D.kd 0] = 0 := by kernel_rfl
theorem built24z : Try.prog.built 35 [] = some (M.mat 5 (D.kd 0)).toArray := by kernel_rfl
theorem built27w5 : Try.prog.built 39 [(3, .int .i64 5)] = some (M.mat 8 (D.vW 5)).toArray := by kernel_rfl
theorem built27w45 : Try.prog.built 39 [(0, .int .i64 4), (3, .int .i64 5)] = some (M.mat 8 C.v4).toArray := by kernel_rfl
theorem built27w3 : Try.prog.built 39 [(3, .int .i64 (-3))] = some (M.mat 8 (D.vW (-3))).toArray := by kernel_rfl
set_option maxRecDepth 100000 in
set_option maxHeartbeats 4000000 in
theorem awake_any (w : World) : Calls Try.prog 9 #[] w fun e w' => e = .returned (.bool true) ∧ Below w.heap.size w w' := by
  have O := Held.start w [] (by simp)
  have cc := fun w lo lo2 lo3 A B D_ c d g h1 h2 h3 => (pcarve_any C.aw [true, false, true] [D.kd 0] (lo := lo) (lo2 := lo2) (lo3 := lo3) (A := A) (B := B) (D_ := D_) (c := c) (d := d) (g := g) w h1 h2 h3 : Calls Try.prog 10 #[.slice A 3 c, .slice B 3 d, .slice D_ 1 g] w _)
  rw [aw_res, aw_err] at cc
  go_enter Try.func9, Try.ntmps9
  go_wp2_with (first | ((with_reducible refine at_build 5 ?_); refine wpList_build_g rfl ([(3, .int .i64 5)]) ((M.mat 8 (D.vW 5)).toArray) ?_ (built27w5) ?_; (focus (simp only [List.map_toArray, List.map_cons, List.map_nil]; rfl))) | ((with_reducible refine at_build 6 ?_); refine wpList_build_g rfl ([(0, .int .i64 4), (3, .int .i64 5)]) ((M.mat 8 C.v4).toArray) ?_ (built27w45) ?_; (focus (simp only [List.map_toArray, List.map_cons, List.map_nil]; rfl))) | ((with_reducible refine at_build 7 ?_); refine wpList_build_g rfl ([(3, .int .i64 (-3))]) ((M.mat 8 (D.vW (-3))).toArray) ?_ (built27w3) ?_; (focus (simp only [List.map_toArray, List.map_cons, List.map_nil]; rfl))) | ((with_reducible refine at_lit 8 ?_); refine wpList_lit_h rfl O 8 (.agg (M.mat 8 M.zero).toArray) info27 Try.underlying22 ([(0, .agg (M.mat 8 (D.vW 5)).toArray), (1, .agg (M.mat 8 C.v4).toArray), (2, .agg (M.mat 8 (D.vW (-3))).toArray)]) (vC C.aw) rfl (vC_len _) (by decide) (by decide) (by kernel_rfl) ?_; clear O; intro gl8 ul8 O) | ((with_reducible refine at_lit 9 ?_); refine wpList_lit_h rfl O 1 (.bool false) info4 Try.underlying23 ([(0, .bool true), (1, .bool false), (2, .bool true)]) (bC [true, false, true]) rfl (bC_len _) (by decide) (by decide) (by kernel_rfl) ?_; clear O; intro gl9 ul9 O) | ((with_reducible refine at_build 10 ?_); refine wpList_build_g rfl ([]) ((M.mat 5 (D.kd 0)).toArray) ?_ (built24z) ?_; (focus (simp only [List.map_toArray, List.map_cons, List.map_nil]; rfl))) | ((with_reducible refine at_lit 11 ?_); refine wpList_lit_h rfl O 5 (.agg (M.mat 5 M.zero).toArray) info24 Try.underlying24 ([(0, .agg (M.mat 5 (D.kd 0)).toArray)]) (ss [D.kd 0]) rfl (ss_len _) (by decide) (by decide) (by kernel_rfl) ?_; clear O; intro gl11 ul11 O) | (go_at_call 10; refine (cc _ _ _ _ _ _ _ _ _ _ (O.arg (List.mem_cons_of_mem _ (List.mem_cons_of_mem _ List.mem_cons_self))) (O.arg (List.mem_cons_of_mem _ List.mem_cons_self)) (O.arg List.mem_cons_self)).mono ?_; rintro r w5 ⟨VB, vb, WB, wb, rfl, hV, hW, hb⟩; have O2 := O.gains hb (ns := [vE _ VB vb _, bE _ WB wb _]) (two_lies hV hW); clear O cc; have O := O2; clear O2) | ((with_reducible refine at_index_ 30 ?_); refine wpList_at_h rfl Try.underlying22 sizeOf27 _ (O.mem List.mem_cons_self) rfl 2 rfl rfl (by decide) rfl ?_) | ((with_reducible refine at_fld 31 ?_); refine wpList_fld_h rfl (f27_3 _) rfl ?_; rw [add_add']) | ((with_reducible refine at_load 32 ?_); refine wpList_ecell_h (v := .int .i64 1) rfl _ (O.mem List.mem_cons_self) (2 * 8 + 3) (by kernel_rfl) rfl agg3 rfl ?_) | ((with_reducible refine at_index_ 37 ?_); refine wpList_at_h rfl Try.underlying23 sizeOf4 _ (O.mem (List.mem_cons_of_mem _ List.mem_cons_self)) rfl 2 rfl rfl (by decide) rfl ?_) | ((with_reducible refine at_load 38 ?_); refine wpList_ecell_h (v := .bool true) rfl _ (O.mem (List.mem_cons_of_mem _ List.mem_cons_self)) (2 * 1) (by kernel_rfl) rfl agg4 rfl ?_) | ((with_reducible refine at_index_ 42 ?_); refine wpList_at_h rfl Try.underlying23 sizeOf4 _ (O.mem (List.mem_cons_of_mem _ List.mem_cons_self)) rfl 1 rfl rfl (by decide) rfl ?_) | ((with_reducible refine at_load 43 ?_); refine wpList_ecell_h (v := .bool false) rfl _ (O.mem (List.mem_cons_of_mem _ List.mem_cons_self)) (1 * 1) (by kernel_rfl) rfl agg4 rfl ?_))
  go_ret
  exact ⟨rfl, O.below⟩
end Go.Proofs.Ytbpignicffkaoaa
