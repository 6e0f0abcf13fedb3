/- Contract of awake: the document's examples hold. -/
import Derived.Test.YtdjhloilpgfcjaaRatio
import Derived.Test.YtdjhloilpgfcjaaRoot
import Derived.Test.YtdjhloilpgfcjaaTimes
namespace Go.Proofs.Ytdjhloilpgfcjaa
open Go.ChangeShapes Go.WideShapes Go.ChangeAt Go.RowKit
set_option linter.unusedVariables false

/-- The two cells of a struct of the call's own, held over a call. -/
theorem keep2 {x y : World} {b : Nat} {v u : Value} (hb : Below x.heap.size x y) (h : x.cell? ⟨b, 0, none⟩ = some v ∧ x.cell? ⟨b, 1, none⟩ = some u ∧ b < x.heap.size) :
    y.cell? ⟨b, 0, none⟩ = some v ∧ y.cell? ⟨b, 1, none⟩ = some u ∧ b < y.heap.size :=
  ⟨(hb.cell (p := ⟨b, 0, none⟩) h.2.2).trans h.1, (hb.cell (p := ⟨b, 1, none⟩) h.2.2).trans h.2.1, Nat.lt_of_lt_of_le h.2.2 hb.size⟩
/-- The struct that a call boxed, behind the calls since. -/
theorem box2 {w y : World} {v u : Value} {t : TypeId} {n : Nat} (K : Below n (w.alloc (.cells #[v, u] t)) y) (hn : w.heap.size < n) : y.cell? ⟨w.heap.size, 0, none⟩ = some v ∧ y.cell? ⟨w.heap.size, 1, none⟩ = some u ∧ w.heap.size < y.heap.size := by
  have d0 := K.cell (p := ⟨w.heap.size, 0, none⟩) hn
  have d1 := K.cell (p := ⟨w.heap.size, 1, none⟩) hn
  simp [World.cell?_alloc_new] at d0 d1
  have := K.size
  simp at this
  exact ⟨d0, d1, by omega⟩
theorem awake_any (w : World) : Calls Try.prog 19 #[] w fun e w' => e = .returned (.bool true) ∧ Below w.heap.size w w' := by
  have o7 := of_any (-7) (by omega) (by omega)
  have o99 := of_any 99 (by omega) (by omega)
  have o1 := of_any 1 (by omega) (by omega)
  have o2 := of_any 2 (by omega) (by omega)
  have p4 := rof_any (-4) (by omega) (by omega)
  have dv := div_yes (M.oh (-7)) (M.ol (-7)) 2 (M.b_of _) (by omega) (by omega)
  rw [show M.val (M.oh (-7)) (M.ol (-7)) = -7 by decide, show (-7 : Int) / 2 = -4 by decide, show (-7 : Int) % 2 = 1 by decide] at dv
  have rt := root_yes (M.oh 99) (M.ol 99) 9 (M.b_of _) (by decide) (by decide) (by unfold M.IsRoot; decide)
  have ra := ratio_yes (M.oh 1) (M.ol 1) 3 (M.oh 2) (M.ol 2) 6 (M.b_of _) (M.b_of _) (by omega) (by omega) (by omega) (by omega)
  rw [show M.sgn (M.val (M.oh 1) (M.ol 1) * 6) (M.val (M.oh 2) (M.ol 2) * 3) = 0 by decide] at ra
  generalize M.oh (-7) = h7 at *
  generalize M.ol (-7) = l7 at *
  generalize M.oh 99 = h99 at *
  generalize M.ol 99 = l99 at *
  generalize M.oh 1 = h1 at *
  generalize M.ol 1 = l1 at *
  generalize M.oh 2 = h2 at *
  generalize M.ol 2 = l2 at *
  generalize M.oh (-4) = h4 at *
  generalize M.ol (-4) = l4 at *
  go_enter Try.func19, Try.ntmps19
  go_wp2_with fail
  refine (o7 _).mono ?_; rintro e w1 ⟨rfl, hb⟩
  have K := hb
  clear hb
  go_wp2_with fail
  refine (dv _).mono ?_; rintro e w2 ⟨rfl, hb⟩
  replace K := K.trans (hb.mono K.size)
  clear hb
  go_wp2_with fail
  refine (o99 _).mono ?_; rintro e w3 ⟨rfl, hb⟩
  have G : Below (w2.heap.size + 1) (w2.alloc (.cells #[.int .i64 h4, .int .u64 l4] 24)) w3 := hb.mono (by simp)
  replace K := (K.alloc K.size _).trans (hb.mono (by have := K.size; simp; omega))
  clear hb
  go_wp2_with fail
  refine (rt _).mono ?_; rintro e w4 ⟨rfl, hb⟩
  replace K := K.trans (hb.mono K.size)
  replace G := G.trans (hb.mono (by have := G.size; simpa using this))
  clear hb
  go_wp2_with fail
  refine (o1 _).mono ?_; rintro e w5 ⟨rfl, hb⟩
  replace K := K.trans (hb.mono K.size)
  replace G := G.trans (hb.mono (by have := G.size; simpa using this))
  clear hb
  go_wp2_with fail
  refine (o2 _).mono ?_; rintro e w6 ⟨rfl, hb⟩
  replace K := K.trans (hb.mono K.size)
  replace G := G.trans (hb.mono (by have := G.size; simpa using this))
  clear hb
  go_wp2_with fail
  refine (ra _).mono ?_; rintro e w7 ⟨rfl, hb⟩
  replace K := K.trans (hb.mono K.size)
  replace G := G.trans (hb.mono (by have := G.size; simpa using this))
  clear hb
  have d0 := G.cell (p := ⟨w2.heap.size, 0, none⟩) (by simp)
  have d1 := G.cell (p := ⟨w2.heap.size, 1, none⟩) (by simp)
  simp [World.cell?_alloc_new] at d0 d1
  have hz : w2.heap.size < w7.heap.size := by have := G.size; simp at this; omega
  clear G
  go_wp2_with fail
  go_region_held3 (fun w' => w'.cell? ⟨w2.heap.size, 0, none⟩ = some (.int .i64 h4) ∧ w'.cell? ⟨w2.heap.size, 1, none⟩ = some (.int .u64 l4)) (first | go_keep | exact ⟨(hc _ _ (by simpa using hz)).trans d0, (hc _ _ (by simpa using hz)).trans d1⟩)
    ((go_at_call 21; refine (p4 _).mono ?_; rintro e w8 ⟨rfl, hb⟩; obtain ⟨hc, hf⟩ := bcell hb))
  all_goals go_wp2
  all_goals go_ret
  all_goals exact ⟨retb (by first | rfl | simp), K.drew.trans (hb.mono K.size)⟩
end Go.Proofs.Ytdjhloilpgfcjaa
