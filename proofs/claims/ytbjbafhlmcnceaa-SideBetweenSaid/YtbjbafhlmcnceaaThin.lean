/- Contracts of the document's Neg, Times, Mul, Sign. -/
import Derived.Test.YtbjbafhlmcnceaaProd
namespace Go.Proofs.Ytbjbafhlmcnceaa
open Go.ChangeShapes Go.WideShapes Go.ChangeAt Go.RowKit
set_option linter.unusedVariables false

/-- A number that lies in memory. -/
def NumR (w : World) (z : Int) (A : Option Addr) (l : List Nat) : Prop := Reads w w.heap.size 1 A l.length (cells l) ∧ L.Can l ∧ L.nat l = z.natAbs
theorem NumR.up {w w' : World} {z : Int} {A : Option Addr} {l : List Nat} (h : NumR w z A l) (hb : Below w.heap.size w w') : NumR w' z A l := ⟨h.1.up hb, h.2⟩
theorem NumR.drew {w : World} {z : Int} {A : Option Addr} {l : List Nat} (h : NumR w z A l) : NumR w.drew z A l := ⟨h.1.drew, h.2⟩
theorem NumR.len {w : World} {z : Int} {A : Option Addr} {l : List Nat} (h : NumR w z A l) (k : Nat) (hz : z.natAbs < 2 ^ k) : l.length ≤ k := L.can_len h.2.1 (by rw [h.2.2]; exact hz)
theorem natAbs_lt {z : Int} (o : M.ok z = true) : z.natAbs < 2 ^ 128 := by rw [M.ok_iff] at o; omega
theorem turnZ {w : World} {z : Int} {A : Option Addr} {l : List Nat} (c : Nat) (h : NumR w z A l) (hl : l.length ≤ 400) : Calls Try.prog 41 #[.agg #[.bool (decide (z < 0)), .slice A l.length c]] w (RetNum w (-z)) := by
  have := turn_any (decide (z < 0)) A c l w h.1 h.2.1.1 (by omega)
  rwa [sg_dec h.2.2] at this
theorem sumZ {w : World} {z y : Int} {A B : Option Addr} {l m : List Nat} (c d : Nat) (h : NumR w z A l) (g : NumR w y B m) (hl : l.length ≤ 400) (hm : m.length ≤ 400) :
    Calls Try.prog 28 #[.agg #[.bool (decide (z < 0)), .slice A l.length c], .agg #[.bool (decide (y < 0)), .slice B m.length d]] w (RetNum w (z + y)) := by
  have := sum_any (decide (z < 0)) (decide (y < 0)) A B c d l m w h.1 g.1 h.2.1.1 g.2.1.1 (by omega) (by omega)
  rwa [sg_dec h.2.2, sg_dec g.2.2] at this
theorem prodZ {w : World} {z y : Int} {A B : Option Addr} {l m : List Nat} (c d : Nat) (h : NumR w z A l) (g : NumR w y B m) (hl : l.length ≤ 400) (hm : m.length ≤ 400) :
    Calls Try.prog 38 #[.agg #[.bool (decide (z < 0)), .slice A l.length c], .agg #[.bool (decide (y < 0)), .slice B m.length d]] w (RetNum w (z * y)) := by
  have := prod_any (decide (z < 0)) (decide (y < 0)) A B c d l m w h.1 g.1 h.2.1.1 g.2.1.1 hl hm
  rwa [sg_dec h.2.2, sg_dec g.2.2] at this
theorem toZ {w : World} {z : Int} {A : Option Addr} {l : List Nat} (c : Nat) (h : NumR w z A l) (hl : l.length ≤ 900) :
    Calls Try.prog 30 #[.agg #[.bool (decide (z < 0)), .slice A l.length c]] w fun e w' => e = .returned (.tuple #[.agg #[.int .i64 (M.oh z), .int .u64 (M.ol z)], .bool (M.ok z)]) ∧ Below w.heap.size w w' :=
  to_any z A c l w h.1 h.2.1 h.2.2 hl
/-- The result's variable of one struct parameter. -/
theorem two_new (w : World) (a b x y : Value) (t : TypeId) : ((w.alloc (.cells #[a, b] t)).alloc (.cells #[x, y] 54)).cell? ⟨w.heap.size + 1, 0, none⟩ = some x ∧ ((w.alloc (.cells #[a, b] t)).alloc (.cells #[x, y] 54)).cell? ⟨w.heap.size + 1, 1, none⟩ = some y ∧
    ((w.alloc (.cells #[a, b] t)).alloc (.cells #[x, y] 54)).frozen? ⟨w.heap.size + 1, 0, none⟩ = false ∧ ((w.alloc (.cells #[a, b] t)).alloc (.cells #[x, y] 54)).frozen? ⟨w.heap.size + 1, 1, none⟩ = false :=
  ⟨by simp, by simp, World.frozen?_alloc2_new _ _ _ _, World.frozen?_alloc2_new _ _ _ _⟩
end Go.Proofs.Ytbjbafhlmcnceaa
