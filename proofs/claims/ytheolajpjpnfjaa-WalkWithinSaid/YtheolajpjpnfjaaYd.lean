/- A fence without a bound: operations are carried out as everywhere. -/
import Derived.Test.YtheolajpjpnfjaaYc
import Derived.OwnWalkIn
import Derived.OrdersIn
import Derived.RangeFuncCalls
namespace Go.Proofs.Ytheolajpjpnfjaa
open Go.ChangeShapes Go.WideShapes Go.ChangeAt Go.RowKit
set_option linter.unusedVariables false
set_option linter.unusedSimpArgs false

section
variable {P : Program} {n : Nat}
theorem Oper.wpIn_of {F : Fence} (hf : ∀ f, F.fn f) (hdp : F.depth = none) (hc : ∀ m f args w R, Calls P f args w R → CallsIn F m P f args w R) (hrw : ∀ m row args w R, Rows P row args w R → RowsIn F m P row args w R)
    {o : Oper} (hd : ∀ c, o.op ≠ .defer c) {a : Act} {w : World} {K : Act → World → Prop} {Q : Exit → Act → World → Prop} (h : o.wp P a w K Q) : o.wpIn F n P a w K Q := by
  unfold Oper.wp at h
  unfold Oper.wpIn
  refine ⟨fun f _ => hf f, ?_⟩
  rw [Oper.semAt_plain F a.eval o hd]
  generalize (execOp a.eval o).run P w = r at h ⊢
  have hdd : F.depth.isSome = true → 1 ≤ n := fun e => by rw [hdp] at e; cases e
  cases r with
  | ok x w' =>
    cases x
    case value v => exact h
    case skip => exact h
    case defer d => exact h
    case enter f args => exact ⟨hdd, hc _ _ _ _ _ h⟩
    case row row args => exact ⟨hdd, hrw _ _ _ _ _ h⟩
    all_goals exact h.elim
  | halt x w' =>
    cases x
    case panic v => exact h
    all_goals exact h.elim
theorem rowsIn_of (m : Nat) (row : String) (args : Array Value) (w : World) (R : Value → World → Prop) (h : Rows P row args w R) : RowsIn Fence.wide m P row args w R :=
  fun c cs _ => let ⟨v, w', r, s⟩ := h c cs; ⟨v, w', r, stepsIn_wide.2 s⟩
theorem Oper.wpIn_wide' {o : Oper} (hd : ∀ c, o.op ≠ .defer c) {a : Act} {w : World} {K : Act → World → Prop} {Q : Exit → Act → World → Prop} (h : o.wp P a w K Q) : o.wpIn Fence.wide n P a w K Q :=
  Oper.wpIn_of (fun _ => trivial) rfl (fun _ _ _ _ _ h => callsIn_wide.2 h) rowsIn_of hd h
theorem Oper.wpIn_round' {l : Nat} {o : Oper} (hd : ∀ c, o.op ≠ .defer c) {a : Act} {w : World} {K : Act → World → Prop} {Q : Exit → Act → World → Prop} (h : o.wp P a w K Q) : o.wpIn (Fence.wide.inRound l) n P a w K Q :=
  Oper.wpIn_of (fun _ => trivial) rfl (fun _ _ _ _ _ h => CallsIn.inRound l (callsIn_wide.2 h)) (fun m row args w R h => rowsIn_of m row args w R h) hd h
/-- An operation, carried out within a fence as everywhere. -/
theorem wpListIn_one {ops : Array Oper} {rest : List Oper} {o : Oper} {a : Act} {w : World} {Q : Exit → Act → World → Prop} (hw : Region.wanted o (yielded ops a.tmps) = true) (hd : ∀ c, o.op ≠ .defer c)
    (h : ∀ K : Act → World → Prop, (∀ a w, wpListIn Fence.wide n P ops Q rest a w → K a w) → o.wp P a w K Q) : wpListIn Fence.wide n P ops Q (o :: rest) a w :=
  wpListIn_step fun K hK => by rw [if_pos hw]; exact Oper.wpIn_wide' hd (h K hK)
/-- A list of operations, carried out in a round as everywhere. -/
theorem wpListIn_round {l : Nat} {ops : Array Oper} {Q : Exit → Act → World → Prop} (hQ : ¬ LetsOut Q) : ∀ {rest : List Oper} {a : Act} {w : World}, (∀ o ∈ rest, ∀ c, o.op ≠ .defer c) → wpList P ops Q rest a w → wpListIn (Fence.wide.inRound l) n P ops Q rest a w := by
  intro rest
  induction rest with
  | nil => exact fun _ h => h
  | cons o rest ih =>
    intro a w hd h
    unfold wpListIn
    unfold wpList at h
    split at h
    · rename_i hw
      rw [if_pos hw]
      rcases h with h | h
      · exact Oper.wpIn_mono (fun a w => ih (fun o ho => hd o (List.mem_cons_of_mem _ ho))) (Oper.wpIn_round' (hd o List.mem_cons_self) h)
      · exact absurd h.2 hQ
    · rename_i hw
      rw [if_neg hw]
      exact ⟨fun f _ => trivial, ih (fun o ho => hd o (List.mem_cons_of_mem _ ho)) h⟩
end
end Go.Proofs.Ytheolajpjpnfjaa
