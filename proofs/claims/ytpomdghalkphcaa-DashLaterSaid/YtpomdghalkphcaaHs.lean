/- Contract: the document's Same. -/
import Derived.Test.YtpomdghalkphcaaHl
namespace Go.Proofs.Ytpomdghalkphcaa
open Go.ChangeShapes Go.WideShapes Go.ChangeAt Go.RowKit
set_option linter.unusedVariables false
set_option linter.unusedSimpArgs false

set_option maxRecDepth 100000 in
set_option maxHeartbeats 8000000 in
theorem same_any (l : List (Nat × Nat)) {lo1 lo2 : Nat} {A1 A2 : Option Addr} {c1 c2 : Nat} (h9 : l.length ≤ 100000) (w : World) (h1 : Lies w free (tE lo1 A1 c1 l)) (h2 : Lies w free (tE lo2 A2 c2 l)) :
    Calls Try.prog 15 #[.slice A1 l.length c1, .slice A2 l.length c2] w fun e w' => e = .returned (.bool true) ∧ Below w.heap.size w w' := by
  have O := Held.start w [tE lo1 A1 c1 l, tE lo2 A2 c2 l] (by
    intro x hx
    simp only [List.mem_cons, List.not_mem_nil, or_false] at hx
    rcases hx with rfl | rfl
    · exact h1
    · exact h2)
  clear h1 h2
  have k1 : ((l.length : Int) != (l.length : Int)) = false := by simp
  go_enter Try.func15, Try.ntmps15
  go_wp2_with fail
  clear k1
  go_loopw [5] (fun t wr => ∃ k : Nat, k ≤ l.length ∧ t = .int .i64 k ∧ Held w wr [] nilRow [tE lo1 A1 c1 l, tE lo2 A2 c2 l]) (fun t _ => l.length - (intOf t).toNat)
  case atStart => exact ⟨0, Nat.zero_le _, rfl, O⟩
  case round =>
    clear O
    obtain ⟨k, hk, rfl, O⟩ := hrel
    have q0 : (0 : Int) ≤ k := by omega
    by_cases hlt : k < l.length
    · have q1 : (k : Int) < l.length := by omega
      obtain ⟨x, hx⟩ : ∃ x, l[k]? = some x := ⟨_, List.getElem?_eq_getElem hlt⟩
      have HX := Lib.hid hx
      clear hx
      go_wp2_with fail
      refine region_T ((fun w2 => Held w w2 [] nilRow [tE lo1 A1 c1 l, tE lo2 A2 c2 l])) [0, 1, 2, 3, 4, 5, 6, 7, 8] 12 [some 17, some 18, some 19, some 20, some 21, some 22, some 23, some 24, some 25] [.slice A1 l.length c1, .int .i64 k, .pointer (some ((adr A1).add (k * 2))), arr 2 (sF x), .slice A2 l.length c2, .int .i64 k, .pointer (some ((adr A2).add (k * 2))), arr 2 (sF x), .bool false] 0 (by kernel_rfl) (by rfl) (by kernel_rfl) (by rfl) (by rfl) (O.drew) (fun F hF => ?_)
      simp only [fillD, Act.put, List.setIfInBounds_toArray, List.set_cons_zero, List.set_cons_succ] at hF
      subst hF
      refine ⟨⟨does_want rfl (by rfl) (fun w' O K hK => ?_), does_want rfl (by rfl) (fun w' O K hK => ?_), does_want rfl (by rfl) (fun w' O K hK => ?_), does_want rfl (by rfl) (fun w' O K hK => ?_), does_want rfl (by rfl) (fun w' O K hK => ?_), does_want rfl (by rfl) (fun w' O K hK => ?_), does_want rfl (by rfl) (fun w' O K hK => ?_), does_want rfl (by rfl) (fun w' O K hK => ?_), does_want rfl (by rfl) (fun w' O K hK => ?_), trivial⟩, fun w' O => ?_⟩
      · go_simp
        exact hK _ O
      · go_simp
        exact hK _ O
      · exact wp_at_h Try.underlying31 sizeOfD _ (O.mem List.mem_cons_self) rfl (k) rfl rfl (by omega) rfl (hK _ O)
      · exact wp_elem_h _ (O.mem List.mem_cons_self) (k * 2) (M.mat 2 (sF x)) (tC_at HX.out) (by rw [M.mat_len]; decide) rfl Try.underlying33 rfl (sD _) (hK _ O)
      · go_simp
        exact hK _ O
      · go_simp
        exact hK _ O
      · exact wp_at_h Try.underlying31 sizeOfD _ (O.mem (List.mem_cons_of_mem _ List.mem_cons_self)) rfl (k) rfl rfl (by omega) rfl (hK _ O)
      · exact wp_elem_h _ (O.mem (List.mem_cons_of_mem _ List.mem_cons_self)) (k * 2) (M.mat 2 (sF x)) (tC_at HX.out) (by rw [M.mat_len]; decide) rfl Try.underlying33 rfl (sD _) (hK _ O)
      · refine wp_neqD (sF x) (sF x) rfl rfl ?_
        rw [M.eqB_refl]
        exact hK _ O
      refine wpAny_done (by kernel_rfl) ?_ _
      go_wp2_with fail
      go_roundw
      case rel => exact ⟨k + 1, by omega, by go_num, O⟩
      case measure => simp [intOf]; omega
    · have q1 : ¬ (k : Int) < l.length := by omega
      go_wp2_with fail
      go_ret
      exact ⟨rfl, O.below⟩
end Go.Proofs.Ytpomdghalkphcaa
