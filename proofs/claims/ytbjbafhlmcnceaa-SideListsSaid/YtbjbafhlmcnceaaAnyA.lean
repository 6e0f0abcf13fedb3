/- A region that draws its order, in which a new block is laid at any time, and written ahead of the last operations: 'x, e := f(g(a), h(b))' with x in a block of its own. -/
import Derived.Test.YtbjbafhlmcnceaaAnyG
import Derived.Test.YtbjbafhlmcnceaaOwn
namespace Go.Proofs.Ytbjbafhlmcnceaa
open Go.RowKit
set_option linter.unusedVariables false

section
variable {P : Program} {ops : Array Oper} {Q : Exit → Act → World → Prop}
/-- Whether the block is there, and written. -/
def evA (sa : Nat) : Option (Nat × Bool) → Nat → Bool
  | none, _ => false
  | some (_, b), i => if i = sa then true else b
def ptrA : Option (Nat × Bool) → Value
  | none => undef
  | some (g, _) => .pointer (some ⟨g, 0, none⟩)
def SA (W : World) (bs : List (Nat × TypeId × List Value)) (t : TypeId) (z q : List Value) : Option (Nat × Bool) → World → Prop
  | none, w => Own W w bs
  | some (g, false), w => Own W w ((g, t, z) :: bs)
  | some (g, true), w => Own W w ((g, t, q) :: bs)
def TA (sa ss : Nat) (i : Nat) : Option (Nat × Bool) → Option (Nat × Bool) → Prop
  | none, some (g, false) => i = sa
  | some (g, false), some (g', true) => i = ss ∧ g' = g
  | _, _ => False
theorem Own.tail {w0 w : World} {x : Nat × TypeId × List Value} {bs : List (Nat × TypeId × List Value)} (h : Own w0 w (x :: bs)) : Own w0 w bs :=
  ⟨h.1, (List.nodup_cons.1 (by simpa using h.2.1)).2, fun y hy => h.2.2 y (List.mem_cons_of_mem _ hy)⟩
/-- What an operation does that knows nothing of the new block. -/
def DoesA (P : Program) (ops : Array Oper) (W : World) (bs : List (Nat × TypeId × List Value)) (F : Value → Act) (sa ss i : Nat) (v : Value) : Prop :=
  i = sa ∨ i = ss ∨ ∀ (ext : List (Nat × TypeId × List Value)), (∀ w, Own W w ext → Own W w bs) → ∀ p, Does P ops (fun w => Own W w ext) (F p) i v
def DoesAllA (P : Program) (ops : Array Oper) (W : World) (bs : List (Nat × TypeId × List Value)) (F : Value → Act) (sa ss : Nat) : Nat → List Value → Prop
  | i, v :: vs => DoesA P ops W bs F sa ss i v ∧ DoesAllA P ops W bs F sa ss (i + 1) vs
  | _, [] => True
theorem DoesAllA.get {W : World} {bs : List (Nat × TypeId × List Value)} {F : Value → Act} {sa ss : Nat} : ∀ {vs : List Value} {i : Nat}, DoesAllA P ops W bs F sa ss i vs → ∀ (j : Nat) (v : Value), vs[j]? = some v → DoesA P ops W bs F sa ss (i + j) v
  | [], _, _, _, _, h => by simp at h
  | u :: _, i, h, 0, v, hv => by
    have : u = v := by simpa using hv
    subst this
    exact h.1
  | _ :: _, i, h, j + 1, v, hv => by
    have := DoesAllA.get h.2 j v (by simpa using hv)
    rw [show i + (j + 1) = i + 1 + j by omega]
    exact this
theorem doesA_want {W : World} {bs : List (Nat × TypeId × List Value)} {F : Value → Act} {sa ss i : Nat} {o : Oper} {v : Value} (hi : ops[i]? = some o) (hw : ∀ p, Region.wanted o (yielded ops (F p).tmps) = true)
    (h : ∀ (ext : List (Nat × TypeId × List Value)), (∀ w, Own W w ext → Own W w bs) → ∀ p w, Own W w ext → ∀ K : Act → World → Prop, (∀ w', Own W w' ext → K ((F p).put o.dst v) w') → o.wp P (F p) w K noQ) : DoesA P ops W bs F sa ss i v :=
  .inr (.inr fun ext hx p => does_want hi (hw p) (h ext hx p))
theorem doesA_alloc {W : World} {bs : List (Nat × TypeId × List Value)} {F : Value → Act} {sa ss : Nat} {v : Value} : DoesA P ops W bs F sa ss sa v := .inl rfl
theorem doesA_store {W : World} {bs : List (Nat × TypeId × List Value)} {F : Value → Act} {sa ss : Nat} {v : Value} : DoesA P ops W bs F sa ss ss v := .inr (.inl rfl)
/-- Operation 'sa' lays the block, 'ss' writes it; vals are the values of all (of 'sa' any). -/
theorem region_A {id : Nat} {a0 : Act} {w0 : World} (W : World) (bs : List (Nat × TypeId × List Value)) (t : TypeId) (z q : List Value) (sa ss n : Nat) (ds : List (Option Tmp)) (vals : List Value) (rest : Nat)
    (hm : P.follows .mixedOrders = true) (hok : okV .any ops (List.range n) = true) (hds : (List.range n).map (dstOf ops) = ds) (hr : n + rest = ops.size) (hlen : vals.length = n) (hsa : sa < n) (hss : ss < n) (hne : sa ≠ ss)
    (hw : (ops[ss]?).map (fun o => (o.dst.isNone, waitsOn .any o sa)) = some (true, true)) (h0 : Own W w0.drew bs)
    (h : ∀ F : Value → Act, (∀ p, fillD ds (vals.set sa p) a0 = F p) → DoesAllA P ops W bs F sa ss 0 vals ∧
      (∃ o, ops[sa]? = some o ∧ Region.wanted o (yielded ops (F undef).tmps) = true ∧ ∀ w, Own W w bs → ∀ K : Act → World → Prop, (∀ g w', Own W w' ((g, t, z) :: bs) → K ((F undef).put o.dst (.pointer (some ⟨g, 0, none⟩))) w') → o.wp P (F undef) w K noQ) ∧
      (∃ o, ops[ss]? = some o ∧ (∀ g, Region.wanted o (yielded ops (F (.pointer (some ⟨g, 0, none⟩))).tmps) = true) ∧ ∀ g w, Own W w ((g, t, z) :: bs) → ∀ K : Act → World → Prop, (∀ w', Own W w' ((g, t, q) :: bs) → K ((F (.pointer (some ⟨g, 0, none⟩))).put o.dst undef) w') → o.wp P (F (.pointer (some ⟨g, 0, none⟩))) w K noQ) ∧
      ∀ g w, Own W w ((g, t, q) :: bs) → wpAny P .any ops Q rest (listedOf (List.range n) ops.size) (F (.pointer (some ⟨g, 0, none⟩))) w) :
    (Code.region id ops true).wp P Q a0 w0 := by
  obtain ⟨hsel, hnd, hlt, hdep, hsee, htail, hdst⟩ := okV_spec hok
  obtain ⟨hdo, ⟨oa, hoa, hwa, hda⟩, ⟨os, hos, hws, hds'⟩, hend⟩ := h _ (fun _ => rfl)
  rw [hos] at hw
  simp only [Option.map_some, Option.some.injEq, Prod.mk.injEq] at hw
  obtain ⟨hw1, hw2⟩ := hw
  have hosn : os.dst = none := by simpa using hw1
  refine wp_region_any hm ?_
  rw [← hr]
  subst hds
  have hat : ∀ (st : Option (Nat × Bool)) (i k : Nat), i < n → dstOf ops i = some k → ∀ v, (vals.set sa (ptrA st))[i]? = some v →
      (fillD ((List.range n).map (dstOf ops)) (vals.set sa (ptrA st)) a0).tmps[k]? = if k < (fillD ((List.range n).map (dstOf ops)) (vals.set sa (ptrA st)) a0).tmps.size then some v else none := by
    intro st i k hi hk v hv
    rw [fillD_at _ _ _ k i v (by simp [hi, hk]) hv (fun j hj hjk => ?_), fillD_size]
    rw [List.getElem?_map] at hjk
    by_cases hjn : j < n
    · rw [List.getElem?_range hjn] at hjk
      have : dstOf ops j = some k := by simpa using hjk
      exact hdst j (List.mem_range.2 hjn) i (hlt i (List.mem_range.2 hi)) hj k this hk
    · rw [List.getElem?_eq_none (by simpa using hjn)] at hjk
      simp at hjk
  refine region_G_go (S := SA W bs t z q) (F := fun st => fillD ((List.range n).map (dstOf ops)) (vals.set sa (ptrA st)) a0) (sp := [sa, ss]) (ev := evA sa) (T := TA sa ss) rfl hsel hlt hdep hsee htail hdst
    (fun _ => fillD_defers _ _ _) (fun _ => fillD_size _ _ _) (fun i hi => ?_) (fun i hi st hde hnot => ?_) (fun i hi st st' hT => ?_) (fun st w hS hE => ?_) n (List.range n) _ none a0 _ (by simp) hnd (fun _ h => h) ⟨by simp [hr], fun j hj => ?_⟩
    ⟨(fillD_defers _ _ _).symm, (fillD_size _ _ _).symm, fun k => ⟨fun _ => rfl, fun hno => ?_⟩⟩ h0 (fun i hi => ?_) (fun j hj hju => absurd hj hju)
  · simp only [List.mem_cons, List.not_mem_nil, or_false] at hi
    rcases hi with rfl | rfl
    · exact List.mem_range.2 hsa
    · exact List.mem_range.2 hss
  · have hi' := List.mem_range.1 hi
    by_cases e1 : i = sa
    · subst e1
      refine ⟨oa, fun st' => ptrA st', hoa, fun st' k hk => hat st' i k hi' hk _ (by simp [hlen, hi']), .inl ?_⟩
      have hst : st = none := by
        have := hnot (by simp)
        rcases st with _ | ⟨g, b⟩
        · rfl
        · simp [evA] at this
      subst hst
      refine ⟨hwa, fun w hS K hK => hda w hS K fun g w' O' => ?_⟩
      exact hK (some (g, false)) w' O' (by rw [if_pos (by simp)]; rfl)
    · by_cases e2 : i = ss
      · subst e2
        refine ⟨os, fun _ => undef, hos, fun st' k hk => ?_, .inl ?_⟩
        · simp [dstOf, hos, hosn] at hk
        · have h1 := hnot (by simp)
          have h2 := hde sa (by simp) os hos hw2
          rcases st with _ | ⟨g, b⟩
          · simp [evA] at h2
          · have hb : b = false := by simpa [evA, e1] using h1
            subst hb
            refine ⟨hws g, fun w hS K hK => hds' g w hS K fun w' O' => ?_⟩
            exact hK (some (g, true)) w' O' (by rw [if_pos (by simp)]; exact ⟨rfl, rfl⟩)
      · have hv : ∃ v, vals[i]? = some v := ⟨_, List.getElem?_eq_getElem (by rw [hlen]; exact hi')⟩
        obtain ⟨v, hv⟩ := hv
        have hd := hdo.get i v hv
        rw [Nat.zero_add] at hd
        rcases hd with h | h | hd
        · exact absurd h e1
        · exact absurd h e2
        have key : ∃ o, ops[i]? = some o ∧ ((Region.wanted o (yielded ops (fillD ((List.range n).map (dstOf ops)) (vals.set sa (ptrA st)) a0).tmps) = true ∧ ∀ w, SA W bs t z q st w → ∀ K : Act → World → Prop, (∀ w', SA W bs t z q st w' → K ((fillD ((List.range n).map (dstOf ops)) (vals.set sa (ptrA st)) a0).put o.dst v) w') → o.wp P (fillD ((List.range n).map (dstOf ops)) (vals.set sa (ptrA st)) a0) w K noQ) ∨
            (Region.wanted o (yielded ops (fillD ((List.range n).map (dstOf ops)) (vals.set sa (ptrA st)) a0).tmps) = false ∧ v = undef)) := by
          rcases st with _ | ⟨g, b⟩
          · obtain ⟨o, ho, hx⟩ := hd bs (fun _ h => h) (ptrA none)
            refine ⟨o, ho, hx.imp (fun h => h) (fun h => ⟨h.1, h.2.1⟩)⟩
          · cases b
            · obtain ⟨o, ho, hx⟩ := hd ((g, t, z) :: bs) (fun _ h => h.tail) (ptrA (some (g, false)))
              exact ⟨o, ho, hx.imp (fun h => h) (fun h => ⟨h.1, h.2.1⟩)⟩
            · obtain ⟨o, ho, hx⟩ := hd ((g, t, q) :: bs) (fun _ h => h.tail) (ptrA (some (g, true)))
              exact ⟨o, ho, hx.imp (fun h => h) (fun h => ⟨h.1, h.2.1⟩)⟩
        have hni : i ∉ [sa, ss] := by simp [e1, e2]
        obtain ⟨o, ho, hx⟩ := key
        refine ⟨o, fun _ => v, ho, fun st' k hk => hat st' i k hi' hk v (by rw [List.getElem?_set_ne (Ne.symm e1)]; exact hv), ?_⟩
        rcases hx with ⟨h1, h2⟩ | ⟨h1, h2⟩
        · exact .inl ⟨h1, fun w hS K hK => h2 w hS K fun w' hS' => hK st w' hS' (by rw [if_neg hni])⟩
        · exact .inr ⟨hni, h1, h2⟩
  · simp only [List.mem_cons, List.not_mem_nil, or_false] at hi
    rcases st with _ | ⟨g, b⟩ <;> rcases st' with _ | ⟨g', b'⟩
    · exact hT.elim
    · cases b'
      · have : i = sa := hT
        subst this
        refine ⟨by simp [evA], fun j hj hji => by simp [evA, hji], fun k => ?_⟩
        by_cases hk : dstOf ops i = some k
        · exact .inr (.inl hk)
        · refine .inl ?_
          by_cases hx : ∃ j, j < n ∧ dstOf ops j = some k
          · obtain ⟨j, hj, hjk⟩ := hx
            have hji : i ≠ j := fun e => hk (by rw [e]; exact hjk)
            have hv : ∃ v, vals[j]? = some v := ⟨_, List.getElem?_eq_getElem (by rw [hlen]; exact hj)⟩
            obtain ⟨v, hv⟩ := hv
            rw [hat (some (g', false)) j k hj hjk v (by rw [List.getElem?_set_ne hji]; exact hv), hat none j k hj hjk v (by rw [List.getElem?_set_ne hji]; exact hv), fillD_size, fillD_size]
          · rw [fillD_other _ _ _ _ (fun hm => ?_), fillD_other _ _ _ _ (fun hm => ?_)]
            all_goals
              obtain ⟨j, hj, hjk⟩ := List.mem_map.1 hm
              exact hx ⟨j, List.mem_range.1 hj, hjk⟩
      · exact hT.elim
    · cases b <;> exact hT.elim
    · cases b <;> cases b'
      · exact hT.elim
      · obtain ⟨h1, h2⟩ : i = ss ∧ g' = g := hT
        subst h1 h2
        exact ⟨by simp [evA], fun j hj hji => by
          simp only [List.mem_cons, List.not_mem_nil, or_false] at hj
          rcases hj with rfl | rfl
          · simp [evA]
          · exact absurd rfl hji, fun k => .inl rfl⟩
      · exact hT.elim
      · exact hT.elim
  · rcases st with _ | ⟨g, b⟩
    · have := hE sa (by simp)
      simp [evA] at this
    · have := hE ss (by simp)
      simp only [evA, if_neg (Ne.symm hne)] at this
      subst this
      exact hend g w hS
  · rw [Array.getD_eq_getD_getElem?]
    have : j < n + rest := by omega
    by_cases hj' : j < n <;> simp [this, hj']
  · exact (fillD_other _ _ _ _ (fun hm => by
      obtain ⟨i, hi, hik⟩ := List.mem_map.1 hm
      exact hno i hi hik)).symm
  · simp only [List.mem_cons, List.not_mem_nil, or_false] at hi
    rcases hi with rfl | rfl
    · simp [evA, hsa]
    · simp [evA, hss]
end
end Go.Proofs.Ytbjbafhlmcnceaa
