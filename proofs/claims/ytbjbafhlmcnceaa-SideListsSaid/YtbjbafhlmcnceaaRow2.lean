/- The last step of a statement's row, where the world is known by Below alone; a struct of two words by value, opened and shut. -/
import Derived.Test.YtbjbafhlmcnceaaRow
import Derived.WalkKit
import Derived.ProofKit
import Derived.OpenShut
import Derived.Below
import Derived.ChangeSame
import Derived.Lib.SmallJoins
namespace Go.Proofs.Ytbjbafhlmcnceaa
open Go.ChangeShapes Go.WideShapes Go.ChangeAt Go.RowKit Go.Joins
set_option linter.unusedVariables false

section
variable {H : Type} {enc : TypeId × Value → H} {P : Program}
theorem post_of_below {f : Func} {s : ChangeSpec} {apart fresh handsOn again : Bool} {W W' : World} {args : Array Value} {v : Value} {ds gs : List (DataW H)} {before pa pv : List MemPlace}
    (hW : DataW.Whole enc P f.params.toList s.vars apart W args.toList ds gs before)
    (hres : ∀ (b : Nat) (sp : Nat → Bool) (hd : Bool), DataW.TrodAll enc P W' b sp hd f.resultTypes.toList (v.resultList f.resultTypes.size) (s.fn H (ds ++ gs)).results [])
    (hargs : ∀ sp : Nat → Bool, (∀ p ∈ before, sp p.block = true) → DataW.TrodAll enc P W' 0 sp true f.params.toList args.toList (s.fn H (ds ++ gs)).args pa)
    (hvars : ∀ sp : Nat → Bool, (∀ p ∈ before, sp p.block = true) → DataW.TrodVars enc P W' sp s.vars (s.fn H (ds ++ gs)).vars pv)
    (hps : before = pa ++ pv) (hb : Below W.heap.size W W')
    (hok : ∀ (j : Nat) (t : TypeId) (r : Value), f.resultTypes[j]? = some t → (v.resultList f.resultTypes.size)[j]? = some r → Value.okWide P W' .any 0 t r) :
    s.post enc P f apart fresh handsOn again W args v W' := by
  have hlt : ∀ p ∈ before, p.block < W.heap.size := fun p hp => hW.lt p hp
  have hold : ∀ p ∈ before, (fun b => decide (b < W.heap.size)) p.block = true := fun p hp => by simpa using hlt p hp
  refine ⟨ds, gs, before, [], pa, pv, hW, hres _ _ _, hargs _ hold, hvars _ hold, World.keptBut_mono (fun p hp => ⟨hp, ?_⟩) (hb.frame (· ∈ before)), fun _ => ?_⟩
  · rw [hps, List.mem_append] at hp
    exact Or.inr hp
  · obtain ⟨_, _, _, _, _, hz, hn⟩ := hW
    refine ⟨hok, _, _, ([] ++ pa) ++ pv, ⟨[] ++ pa, pv, trodAll_append (hargs _ (fun _ _ => rfl)) (hres _ _ _), hvars _ (fun _ _ => rfl), rfl, ?_, ?_⟩, ?_⟩
    · intro b off hp
      have hin : MemPlace.cell b off ∈ before := by rw [hps]; simpa using hp
      rw [hb.frozen (hlt _ hin)]
      exact hz b off hin
    · intro ha
      have := hn ha
      rw [hps] at this
      simpa using this
    · intro p hp _
      rw [hps]
      simpa using hp
end

theorem keep2a {x : World} {b : Nat} {v u : Value} {o : Obj} (h : x.cell? ⟨b, 0, none⟩ = some v ∧ x.cell? ⟨b, 1, none⟩ = some u ∧ b < x.heap.size) :
    (x.alloc o).cell? ⟨b, 0, none⟩ = some v ∧ (x.alloc o).cell? ⟨b, 1, none⟩ = some u ∧ b < (x.alloc o).heap.size :=
  ⟨(World.cell?_alloc_lt x o ⟨b, 0, none⟩ h.2.2).trans h.1, (World.cell?_alloc_lt x o ⟨b, 1, none⟩ h.2.2).trans h.2.1, by have := h.2.2; simp; omega⟩
theorem keep2b {x : World} {b : Nat} {v u : Value} {o o' : Obj} (hz : b < x.heap.size) (h : (x.alloc o).cell? ⟨b, 0, none⟩ = some v ∧ (x.alloc o).cell? ⟨b, 1, none⟩ = some u ∧ b < (x.alloc o).heap.size) :
    (x.alloc o').cell? ⟨b, 0, none⟩ = some v ∧ (x.alloc o').cell? ⟨b, 1, none⟩ = some u ∧ b < (x.alloc o').heap.size :=
  keep2a ⟨(World.cell?_alloc_lt x o ⟨b, 0, none⟩ hz).symm.trans h.1, (World.cell?_alloc_lt x o ⟨b, 1, none⟩ hz).symm.trans h.2.1, hz⟩
/-- A new struct's two cells. -/
theorem new2 {W x : World} {v u : Value} {t : TypeId} (K : Below W.heap.size W x) :
    (x.alloc (.cells #[v, u] t)).cell? ⟨x.heap.size, 0, none⟩ = some v ∧ (x.alloc (.cells #[v, u] t)).cell? ⟨x.heap.size, 1, none⟩ = some u ∧ x.heap.size < (x.alloc (.cells #[v, u] t)).heap.size ∧ Below W.heap.size W (x.alloc (.cells #[v, u] t)) :=
  ⟨by simp [World.cell?_alloc_new], by simp [World.cell?_alloc_new], by simp, K.alloc K.size _⟩
/-- A struct that was made before, stored into: its two cells. -/
theorem set2 {W y : World} {g : Nat} {a b v u : Value} (K : Below W.heap.size W y) (hg : W.heap.size ≤ g) (h0 : y.cell? ⟨g, 0, none⟩ = some a) (h1 : y.cell? ⟨g, 1, none⟩ = some b) (hz : g < y.heap.size) :
    ((y.setCell ⟨g, 0, none⟩ v).setCell ⟨g, 1, none⟩ u).cell? ⟨g, 0, none⟩ = some v ∧ ((y.setCell ⟨g, 0, none⟩ v).setCell ⟨g, 1, none⟩ u).cell? ⟨g, 1, none⟩ = some u ∧ g < ((y.setCell ⟨g, 0, none⟩ v).setCell ⟨g, 1, none⟩ u).heap.size ∧
      Below W.heap.size W ((y.setCell ⟨g, 0, none⟩ v).setCell ⟨g, 1, none⟩ u) := by
  have n01 : (⟨g, 0, none⟩ : Addr) ≠ ⟨g, 1, none⟩ := by simp
  have e1 : (y.setCell ⟨g, 0, none⟩ v).cell? ⟨g, 1, none⟩ = some b := (World.cell?_setCell_other y _ _ v n01).trans h1
  refine ⟨?_, ?_, by simp [World.setCell]; omega, (K.setCell (by dsimp only; omega) _).setCell (by dsimp only; omega) _⟩
  · rw [World.cell?_setCell_other _ _ _ u n01.symm]
    exact World.cell?_setCell_same y _ v h0
  · exact World.cell?_setCell_same _ _ u e1
theorem keep2s {x : World} {b : Nat} {v u z : Value} {p : Addr} (hp : b < p.block) (h : x.cell? ⟨b, 0, none⟩ = some v ∧ x.cell? ⟨b, 1, none⟩ = some u ∧ b < x.heap.size) :
    (x.setCell p z).cell? ⟨b, 0, none⟩ = some v ∧ (x.setCell p z).cell? ⟨b, 1, none⟩ = some u ∧ b < (x.setCell p z).heap.size :=
  ⟨(World.cell?_setCell_other x p ⟨b, 0, none⟩ z (fun e => by have : p.block = b := congrArg Addr.block e; omega)).trans h.1, (World.cell?_setCell_other x p ⟨b, 1, none⟩ z (fun e => by have : p.block = b := congrArg Addr.block e; omega)).trans h.2.1, by have := h.2.2; simp [World.setCell]; omega⟩
theorem cells24 : Try.prog.cellsOf 54 = 2 := by kernel_rfl
/-- An api.Int that came in. -/
theorem open24 {H : Type} {enc : TypeId × Value → H} {w : World} {base : Nat} {spare : Nat → Bool} {held : Bool} {r : Reach} {b0 : Nat} {v : Value} {d : DataW H} {p : List MemPlace}
    (hv : Value.okWide Try.prog w r b0 54 v) (h : DataW.Trod enc Try.prog w base spare held 54 v d p) :
    ∃ a b : Int, v = .agg #[.int .i64 a, .int .u64 b] ∧ d = .agg [.lit (.int .i64 a), .lit (.int .u64 b)] ∧ p = [] ∧ (Lit.int .i64 a).wf = true ∧ (Lit.int .u64 b).wf = true := by
  obtain ⟨c0, c1, y0, y1, m, rfl, rfl, rfl, hy0, hy1⟩ := open_agg2 Try.underlying54 (by kernel_rfl) cells24 hv h
  obtain ⟨a, e0, rfl, wa⟩ := DataW.trod_int Try.underlying3 hy0
  obtain ⟨b, e1, rfl, wb⟩ := DataW.trod_int Try.underlying52 hy1
  simp at e0 e1
  subst e0 e1
  exact ⟨a, b, rfl, rfl, rfl, wa, wb⟩
theorem shut24 {H : Type} {enc : TypeId × Value → H} {a b : Int} (wa : (Lit.int .i64 a).wf = true) (wb : (Lit.int .u64 b).wf = true) (W : World) (base : Nat) (sp : Nat → Bool) (hd : Bool) :
    DataW.Trod enc Try.prog W base sp hd 54 (.agg #[.int .i64 a, .int .u64 b]) (.agg [.lit (.int .i64 a), .lit (.int .u64 b)]) [] :=
  shut_agg2 (y0 := (.lit (.int .i64 a), [])) (y1 := (.lit (.int .u64 b), [])) Try.underlying54 (by kernel_rfl) cells24 ⟨1, by simp [DataW.trod, Try.underlying3, wa]⟩ ⟨1, by simp [DataW.trod, Try.underlying52, wb]⟩
theorem wf_urng {a : Int} (h : (Lit.int .u64 a).wf = true) : 0 ≤ a ∧ a < 18446744073709551616 := by
  simp [Lit.wf, IntKind.min, IntKind.max, IntKind.signed, IntKind.bits] at h
  omega
end Go.Proofs.Ytbjbafhlmcnceaa
