/- Contracts of the document's Add, Sub, Cmp. -/
import Derived.Test.YtbjbafhlmcnceaaThin
namespace Go.Proofs.Ytbjbafhlmcnceaa
open Go.ChangeShapes Go.WideShapes Go.ChangeAt Go.RowKit
set_option linter.unusedVariables false

theorem three24 (w : World) (a b c d x y : Value) : (((w.alloc (.cells #[a, b] 54)).alloc (.cells #[c, d] 54)).alloc (.cells #[x, y] 54)).cell? ⟨w.heap.size + 1 + 1, 0, none⟩ = some x ∧ (((w.alloc (.cells #[a, b] 54)).alloc (.cells #[c, d] 54)).alloc (.cells #[x, y] 54)).cell? ⟨w.heap.size + 1 + 1, 1, none⟩ = some y ∧
    (((w.alloc (.cells #[a, b] 54)).alloc (.cells #[c, d] 54)).alloc (.cells #[x, y] 54)).frozen? ⟨w.heap.size + 1 + 1, 0, none⟩ = false ∧ (((w.alloc (.cells #[a, b] 54)).alloc (.cells #[c, d] 54)).alloc (.cells #[x, y] 54)).frozen? ⟨w.heap.size + 1 + 1, 1, none⟩ = false := by
  have h0 := World.cell?_alloc_new ((w.alloc (.cells #[a, b] 54)).alloc (.cells #[c, d] 54)) #[x, y] 54 0
  have h1 := World.cell?_alloc_new ((w.alloc (.cells #[a, b] 54)).alloc (.cells #[c, d] 54)) #[x, y] 54 1
  have f0 := World.frozen?_alloc_new ((w.alloc (.cells #[a, b] 54)).alloc (.cells #[c, d] 54)) #[x, y] 54 0
  have f1 := World.frozen?_alloc_new ((w.alloc (.cells #[a, b] 54)).alloc (.cells #[c, d] 54)) #[x, y] 54 1
  rw [World.size_alloc, World.size_alloc] at h0 h1 f0 f1
  exact ⟨h0, h1, f0, f1⟩
end Go.Proofs.Ytbjbafhlmcnceaa
