/- A region that draws its order whose last operation waits for all others, and may write what they read. -/
import Derived.Test.YtbjbafhlmcnceaaRows
import Derived.WalkKit
import Derived.OrdersHeld
import Derived.Deep.RegionHeld3
namespace Go.Proofs.Ytbjbafhlmcnceaa
set_option linter.unusedVariables false

section
variable {P : Program} {ops : Array Oper} {Q : Exit → Act → World → Prop} {md : Region.Mode} {S : World → Prop} {L : Nat}

/-- Operation L waits for operation i. -/
def waits (md : Region.Mode) (ops : Array Oper) (L i : Nat) : Bool := L != i && ((ops[L]?).map fun o => o.after.any fun e => Region.binds md e && e.on == i).getD false
theorem waits_spec {i : Nat} (h : waits md ops L i = true) : L ≠ i ∧ ∀ o, ops[L]? = some o → ¬ ∀ e ∈ o.after, Region.binds md e = true → e.on ≠ i := by
  unfold waits at h
  rw [Bool.and_eq_true, bne_iff_ne] at h
  refine ⟨h.1, fun o ho hall => ?_⟩
  have h2 := h.2
  rw [ho] at h2
  simp only [Option.map_some, Option.getD_some, Array.any_eq_true] at h2
  obtain ⟨k, hk, he⟩ := h2
  rw [Bool.and_eq_true, beq_iff_eq] at he
  exact hall _ (Array.getElem_mem hk) he.1 he.2
/-- Any order: S holds behind each operation but the last one. -/
def anyL (P : Program) (md : Region.Mode) (ops : Array Oper) (Q : Exit → Act → World → Prop) (S : World → Prop) (L : Nat) : Nat → Array Bool → Act → World → Prop
  | 0, listed, a, w => Region.ready md ops listed = [] ∧ Q .normal a w
  | n + 1, listed, a, w => (Region.ready md ops listed = [] → Q .normal a w) ∧
    ∀ i ∈ Region.ready md ops listed, wpOp P ops Q i (fun a' w' => (i ≠ L → S w') ∧ anyL P md ops Q S L n (listed.setIfInBounds i true) a' w') a w
theorem any_of_L : ∀ (n : Nat) (listed : Array Bool) (a : Act) (w : World), anyL P md ops Q S L n listed a w → wpAny P md ops Q n listed a w
  | 0, _, _, _, h => h
  | n + 1, _, _, _, h => ⟨h.1, fun i hi => wpOp_mono (fun _ _ k => any_of_L n _ _ _ k.2) (h.2 i hi)⟩
/-- What yields its value in every world of S, and waits for nobody, may be taken first. -/
theorem takeL_all {i : Nat} {oi : Oper} {v : Value} (hi : ops[i]? = some oi) (hsel : Region.noSelect ops = true) (hQ : ∀ c a w, Q (.panic c) (a.put oi.dst v) w → Q (.panic c) a w) (hL : waits md ops L i = true) :
    ∀ (n : Nat) (listed : Array Bool) (a : Act) (w : World), (∀ j oj, ops[j]? = some oj → j ≠ i → listed.getD j true = false → (∀ e ∈ oj.after, Region.binds md e = true → e.on ≠ i) → oi.apart ops oj = true) →
      i ∈ Region.ready md ops listed → YieldsIf P ops S oi v a → S w → anyL P md ops Q S L n (listed.setIfInBounds i true) (a.put oi.dst v) w → anyL P md ops Q S L (n + 1) listed a w := by
  intro n
  induction n with
  | zero =>
    intro listed a w _ hr hy hS H
    constructor
    · intro e; rw [e] at hr; cases hr
    · intro j hj
      by_cases e : j = i
      · subst e; exact hy.wpOp hi hS ⟨fun _ => hS, H⟩
      · exact absurd (ready_mono hj e) (by rw [H.1]; exact List.not_mem_nil)
  | succ n ih =>
    intro listed a w free hr hy hS H
    constructor
    · intro e; rw [e] at hr; cases hr
    · intro j hj
      by_cases e : j = i
      · subst e; exact hy.wpOp hi hS ⟨fun _ => hS, H⟩
      have later := H.2 j (ready_mono hj e)
      rcases mem_ready.1 hj with ⟨hun, oj, hoj, hall⟩
      have unlisted : listed.getD i false = false := by
        have h0 := (mem_ready.1 hr).1
        rcases Nat.lt_or_ge i listed.size with h | h
        · simp [h] at h0 ⊢; exact h0
        · simp [Array.getElem?_eq_none h]
      have alone : ∀ e ∈ oj.after, Region.binds md e = true → e.on ≠ i := by
        intro e he hb hon
        have := hall e he hb
        rw [hon, unlisted] at this
        cases this
      have jL : j ≠ L := by
        intro hjL
        subst hjL
        exact (waits_spec hL).2 oj hoj alone
      have both := wpOp_putIf hoj (free j oj hoj e hun alone) (fun cs b => Region.noSelect_spec hsel i oi cs b hi) (fun cs b => Region.noSelect_spec hsel j oj cs b hoj) hQ hy later
      have free' : ∀ k ok, ops[k]? = some ok → k ≠ i → (listed.setIfInBounds j true).getD k true = false → (∀ e ∈ ok.after, Region.binds md e = true → e.on ≠ i) → oi.apart ops ok = true := by
        intro k ok hk hki hu hno
        refine free k ok hk hki ?_ hno
        by_cases hjk : j = k
        · subst hjk; exact hun
        · rwa [getD_set_ne true hjk] at hu
      refine wpOp_mono (fun a' w' k => ?_) both
      have sw := k.2.1 jL
      refine ⟨fun _ => sw, ih _ _ _ free' (ready_mono hr (Ne.symm e)) k.1 sw ?_⟩
      rw [Array.setIfInBounds_comm _ _ e]
      exact k.2.2
theorem takeL {i : Nat} {oi : Oper} {v : Value} {n : Nat} {listed : Array Bool} {a : Act} {w : World} (hi : ops[i]? = some oi) (hs : Region.noSelect ops = true) (hL : waits md ops L i = true) (hf : Region.free md ops listed i = true)
    (hr : (Region.ready md ops listed).contains i = true) (hQ : ∀ c a w, Q (.panic c) (a.put oi.dst v) w → Q (.panic c) a w) (hw : Region.wanted oi (yielded ops a.tmps) = true) (hy : ∀ w, S w → (execOp a.eval oi).run P w = .ok (.value v) w) (hS : S w)
    (h : anyL P md ops Q S L n (listed.setIfInBounds i true) (a.put oi.dst v) w) : anyL P md ops Q S L (n + 1) listed a w :=
  takeL_all hi hs hQ hL n listed a w (fun j oj hj hne hun hno => Region.free_spec hi hf j oj hj hne hun hno) (by simpa using hr) (.inl ⟨hw, hy⟩) hS h
/-- The one operation that may come up comes up. -/
theorem nextL {i : Nat} {o : Oper} {n : Nat} {listed : Array Bool} {a : Act} {w : World} (hr : Region.ready md ops listed = [i]) (hi : ops[i]? = some o)
    (h : ∀ K : Act → World → Prop, (∀ a w, (i ≠ L → S w) → anyL P md ops Q S L n (listed.setIfInBounds i true) a w → K a w) → if Region.wanted o (yielded ops a.tmps) = true then Oper.wp P o a w K Q else K (a.put o.dst undef) w) : anyL P md ops Q S L (n + 1) listed a w := by
  constructor
  · intro e; rw [hr] at e; cases e
  · intro j hj
    rw [hr, List.mem_singleton] at hj
    subst hj
    exact wpOp_step hi (fun K hK => h K (fun a w h1 h2 => hK a w ⟨h1, h2⟩))
theorem doneL {n : Nat} {listed : Array Bool} {a : Act} {w : World} (hr : Region.ready md ops listed = []) (h : Q .normal a w) : anyL P md ops Q S L n listed a w := by
  cases n with
  | zero => exact ⟨hr, h⟩
  | succ n => exact ⟨fun _ => h, by rw [hr]; intro i hi; cases hi⟩
theorem region_L {id : Nat} {a : Act} {w : World} (S : World → Prop) (L : Nat) (hm : P.follows .mixedOrders = true) (h : anyL P .any ops Q S L ops.size (Array.replicate ops.size false) a w.drew) : (Code.region id ops true).wp P Q a w :=
  wp_region_any hm (any_of_L _ _ _ _ h)
end
end Go.Proofs.Ytbjbafhlmcnceaa
