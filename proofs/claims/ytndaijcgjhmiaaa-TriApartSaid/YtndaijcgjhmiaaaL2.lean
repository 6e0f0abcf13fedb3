/- A region that draws its order: where each operation but the last ones yields its value in every world that meets S, and leaves a world that meets S, one order stands for all. A region that draws its order, of which some operations change the state (a new block, a store) ahead of the last ones. Blocks of a call's own, each known whole: they stay so over calls, new blocks, stores into one of them. A region that draws its order, in which a new block is laid at any time, and written ahead of the last operations: 'x, e := f(g(a), h(b))' with x in a block of its own. A region that draws its order, of which some operations (calls, new blocks, stores) yield values that hang on when they come up, or change what is known of the world; others hang on these. Lists of a call: one that grows, others that lie elsewhere; blocks of the call's own. Types; arrays and structs of numbers by value, compared; elements of an array within a block. -/
import Derived.Test.YtndaijcgjhmiaaaRows
import Derived.WalkKit
import Derived.OrdersHeld
import Derived.RegionTactic
import Derived.Test.YtndaijcgjhmiaaaL1
import Derived.Below
import Derived.Laws.Rows
import Derived.Lib.Hide
import Derived.Laws.ResultCell
import Derived.Great.BuildSlice
import Derived.Laws.CopyRow
import Derived.Laws.OwnMore
import Derived.WalkLawsBesides
import Derived.ChangeKeysEq
import Derived.Deep.DeepCutAuto
namespace Go.Proofs.Ytndaijcgjhmiaaa
set_option linter.unusedVariables false

section
variable {P : Program} {ops : Array Oper} {Q : Exit → Act → World → Prop} {md : Region.Mode} {S : World → Prop}

/-- No way out but the plain one. -/
def noQ : Exit → Act → World → Prop := fun _ _ _ => False
/-- Slot of operation i. -/
def dstOf (ops : Array Oper) (i : Nat) : Option Tmp := (ops[i]?).bind (·.dst)
/-- The values laid into their slots, one behind the other. -/
def fillD : List (Option Tmp) → List Value → Act → Act
  | d :: ds, v :: vs, a => fillD ds vs (a.put d v)
  | _, _, a => a
theorem put_size (a : Act) (d : Option Tmp) (v : Value) : (a.put d v).tmps.size = a.tmps.size := by cases d <;> simp [Act.put]
theorem put_defers' (a : Act) (d : Option Tmp) (v : Value) : (a.put d v).defers = a.defers := by cases d <;> rfl
theorem put_other (a : Act) {d : Option Tmp} {k : Nat} (v : Value) (h : d ≠ some k) : (a.put d v).tmps[k]? = a.tmps[k]? := by
  cases d with
  | none => rfl
  | some e =>
    have : e ≠ k := fun x => h (by rw [x])
    simp [Act.put, Array.getElem?_setIfInBounds_ne this]
theorem put_same (a : Act) {k : Nat} (v : Value) : (a.put (some k) v).tmps[k]? = if k < a.tmps.size then some v else none := by
  simp [Act.put, Array.getElem?_setIfInBounds]
theorem fillD_size : ∀ (ds : List (Option Tmp)) (vs : List Value) (a : Act), (fillD ds vs a).tmps.size = a.tmps.size
  | [], _, _ => by simp [fillD]
  | d :: ds, [], a => rfl
  | d :: ds, v :: vs, a => by rw [fillD, fillD_size ds vs, put_size]
theorem fillD_defers : ∀ (ds : List (Option Tmp)) (vs : List Value) (a : Act), (fillD ds vs a).defers = a.defers
  | [], _, _ => by simp [fillD]
  | d :: ds, [], a => rfl
  | d :: ds, v :: vs, a => by rw [fillD, fillD_defers ds vs, put_defers']
theorem fillD_other : ∀ (ds : List (Option Tmp)) (vs : List Value) (a : Act) (k : Nat), some k ∉ ds → (fillD ds vs a).tmps[k]? = a.tmps[k]?
  | [], _, _, _, _ => by simp [fillD]
  | d :: ds, [], a, _, _ => rfl
  | d :: ds, v :: vs, a, k, h => by
    rw [fillD, fillD_other ds vs _ k (fun x => h (List.mem_cons_of_mem _ x)), put_other a v (fun x => h (by rw [x]; exact List.mem_cons_self))]
theorem fillD_at : ∀ (ds : List (Option Tmp)) (vs : List Value) (a : Act) (k j : Nat) (v : Value), ds[j]? = some (some k) → vs[j]? = some v → (∀ i, i ≠ j → ds[i]? ≠ some (some k)) →
    (fillD ds vs a).tmps[k]? = if k < a.tmps.size then some v else none
  | [], _, _, _, j, _, h, _, _ => by simp at h
  | d :: ds, [], a, _, _, _, _, h, _ => by simp at h
  | d :: ds, u :: vs, a, k, 0, v, h, h', hn => by
    simp only [List.getElem?_cons_zero, Option.some.injEq] at h h'
    subst h h'
    rw [fillD, fillD_other ds vs _ k, put_same]
    intro hm
    obtain ⟨i, hi⟩ := List.mem_iff_getElem?.1 hm
    exact hn (i + 1) (by omega) (by simpa using hi)
  | d :: ds, u :: vs, a, k, j + 1, v, h, h', hn => by
    rw [fillD, fillD_at ds vs _ k j v (by simpa using h) (by simpa using h') (fun i hi => by simpa using hn (i + 1) (by omega)), put_size]

/-- In the full frame F operation i yields v in every world that meets S, and leaves one that meets S; or it isn't wanted. -/
def DoesW (P : Program) (ops : Array Oper) (S S' : World → Prop) (F : Act) (i : Nat) (v : Value) : Prop :=
  ∃ o, ops[i]? = some o ∧
    ((Region.wanted o (yielded ops F.tmps) = true ∧ ∀ w, S w → ∀ K : Act → World → Prop, (∀ w', S' w' → K (F.put o.dst v) w') → o.wp P F w K noQ) ∨
     (Region.wanted o (yielded ops F.tmps) = false ∧ v = undef ∧ S = S'))
abbrev Does (P : Program) (ops : Array Oper) (S : World → Prop) (F : Act) (i : Nat) (v : Value) : Prop := DoesW P ops S S F i v
theorem does_want {F : Act} {i : Nat} {o : Oper} {v : Value} (hi : ops[i]? = some o) (hw : Region.wanted o (yielded ops F.tmps) = true)
    (h : ∀ w, S w → ∀ K : Act → World → Prop, (∀ w', S w' → K (F.put o.dst v) w') → o.wp P F w K noQ) : Does P ops S F i v := ⟨o, hi, .inl ⟨hw, h⟩⟩
theorem does_skip {F : Act} {i : Nat} {o : Oper} (hi : ops[i]? = some o) (hw : Region.wanted o (yielded ops F.tmps) = false) : Does P ops S F i undef := ⟨o, hi, .inr ⟨hw, rfl, rfl⟩⟩
/-- One behind the other. -/
def DoesAll (P : Program) (ops : Array Oper) (S : World → Prop) (F : Act) : List Nat → List Value → Prop
  | i :: is, v :: vs => Does P ops S F i v ∧ DoesAll P ops S F is vs
  | [], [] => True
  | _, _ => False
theorem DoesAll.len {F : Act} : ∀ {is : List Nat} {vs : List Value}, DoesAll P ops S F is vs → is.length = vs.length
  | [], [], _ => rfl
  | _ :: _, _ :: _, h => congrArg (· + 1) (DoesAll.len h.2)
  | [], _ :: _, h => h.elim
  | _ :: _, [], h => h.elim
theorem DoesAll.get {F : Act} : ∀ {is : List Nat} {vs : List Value}, DoesAll P ops S F is vs → ∀ (j i : Nat), is[j]? = some i → ∃ v, vs[j]? = some v ∧ Does P ops S F i v
  | [], [], _, _, _, h => by simp at h
  | i :: _, v :: _, h, 0, k, hk => ⟨v, rfl, (show i = k by simpa using hk) ▸ h.1⟩
  | _ :: _, _ :: _, h, j + 1, k, hk => by simpa using DoesAll.get h.2 j k (by simpa using hk)
  | [], _ :: _, h, _, _, _ => h.elim
  | _ :: _, [], h, _, _, _ => h.elim

/-- What operation o waits for. -/
def waitsOn (md : Region.Mode) (o : Oper) (i : Nat) : Bool := o.after.any fun e => Region.binds md e && e.on == i
theorem waitsOn_iff {o : Oper} {i : Nat} : waitsOn md o i = true ↔ ∃ e ∈ o.after, Region.binds md e = true ∧ e.on = i := by
  unfold waitsOn
  rw [Array.any_eq_true']
  simp
/-- The operations fs come up ahead of all others, each reads what those hand it that it waits for, and nobody else's slot. -/
def okV (md : Region.Mode) (ops : Array Oper) (fs : List Nat) : Bool :=
  Region.noSelect ops && decide fs.Nodup && fs.all (fun i => decide (i < ops.size)) &&
  fs.all (fun i => match ops[i]? with
    | some o => o.after.all (fun e => !Region.binds md e || (fs.contains e.on && decide (e.on < i))) &&
      (o.looksAt ops).all (fun t => fs.all fun j => dstOf ops j != some t || waitsOn md o j)
    | none => false) &&
  (List.range ops.size).all (fun j => fs.contains j || match ops[j]? with | some o => fs.all (fun i => waitsOn md o i) | none => false) &&
  fs.all (fun i => (List.range ops.size).all fun j => i == j || dstOf ops i == none || dstOf ops i != dstOf ops j)

/-- Which ones have come up: those of fs that are in none of us. -/
def Lst (fs us : List Nat) (n : Nat) (listed : Array Bool) : Prop := listed.size = n ∧ ∀ j, j < n → listed.getD j true = (fs.contains j && !us.contains j)
def listedOf (fs : List Nat) (n : Nat) : Array Bool := ((List.range n).map fun j => fs.contains j).toArray
theorem lst_end {fs : List Nat} {n : Nat} {listed : Array Bool} (h : Lst fs [] n listed) : listed = listedOf fs n := by
  apply Array.ext
  · rw [h.1]; simp [listedOf]
  · intro j h1 h2
    have := h.2 j (by rw [← h.1]; exact h1)
    rw [Array.getD_eq_getD_getElem?, Array.getElem?_eq_getElem h1] at this
    simpa [listedOf] using this
/-- The frame on the way: slots of those that have not come up are as they were, all others as they are in the end. -/
def Way (ops : Array Oper) (fs us : List Nat) (a0 F a : Act) : Prop :=
  a.defers = F.defers ∧ a.tmps.size = F.tmps.size ∧ ∀ k, ((∃ j ∈ us, dstOf ops j = some k) → a.tmps[k]? = a0.tmps[k]?) ∧ ((∀ j ∈ us, dstOf ops j ≠ some k) → a.tmps[k]? = F.tmps[k]?)

theorem region_V_go {SS : Bool → World → Prop} {s : Nat} {n0 rest : Nat} {fs : List Nat} {a0 F : Act} (hn : ops.size = n0)
    (hsel : ∀ (j : Nat) (o : Oper) cs b, ops[j]? = some o → o.op ≠ .select cs b)
    (hlt : ∀ i ∈ fs, i < n0)
    (hdep : ∀ i ∈ fs, ∀ o, ops[i]? = some o → ∀ e ∈ o.after, Region.binds md e = true → e.on ∈ fs ∧ e.on < i)
    (hsee : ∀ i ∈ fs, ∀ o, ops[i]? = some o → ∀ t ∈ o.looksAt ops, ∀ j ∈ fs, dstOf ops j = some t → waitsOn md o j = true)
    (htail : ∀ j, j < n0 → j ∉ fs → ∀ o, ops[j]? = some o → ∀ i ∈ fs, waitsOn md o i = true)
    (hdst : ∀ i ∈ fs, ∀ j, j < n0 → i ≠ j → ∀ k, dstOf ops i = some k → dstOf ops j ≠ some k)
    (hF1 : F.defers = a0.defers) (hF2 : F.tmps.size = a0.tmps.size)
    (hdo : ∀ i ∈ fs, ∃ v, (if i = s then DoesW P ops (SS false) (SS true) F i v else ∀ b, Does P ops (SS b) F i v) ∧ ∀ k, dstOf ops i = some k → F.tmps[k]? = if k < F.tmps.size then some v else none)
    (hend : ∀ w, SS true w → wpAny P md ops Q rest (listedOf fs n0) F w) :
    ∀ (n : Nat) (us : List Nat) (listed : Array Bool) (a : Act) (w : World), us.length = n → us.Nodup → (∀ i ∈ us, i ∈ fs) → Lst fs us n0 listed → Way ops fs us a0 F a → SS (!us.contains s) w →
      wpAny P md ops Q (n + rest) listed a w := by
  intro n
  induction n with
  | zero =>
    intro us listed a w hl _ _ hL hW hS
    have : us = [] := List.eq_nil_of_length_eq_zero hl
    subst this
    rw [lst_end hL, Nat.zero_add]
    have ha : a = F := by
      obtain ⟨t1, d1⟩ := a
      obtain ⟨t2, d2⟩ := F
      obtain ⟨h1, h2, h3⟩ := hW
      simp only at h1 h2 h3
      subst h1
      congr 1
      apply Array.ext_getElem?
      intro k
      exact (h3 k).2 (fun j hj => by simp at hj)
    subst ha
    exact hend w (by simpa using hS)
  | succ n ih =>
    intro us listed a w hl hnd hsub hL hW hS
    rw [show n + 1 + rest = (n + rest) + 1 by omega]
    -- the least one that has not come up is ready
    have hready : ∀ j, j ∈ Region.ready md ops listed ↔ (j < n0 ∧ ¬ (j ∈ fs ∧ j ∉ us)) ∧ ∃ o, ops[j]? = some o ∧ ∀ e ∈ o.after, Region.binds md e = true → listed.getD e.on false = true := by
      intro j
      rw [mem_ready]
      constructor
      · rintro ⟨h0, o, ho, h⟩
        have hj : j < n0 := by rw [← hn]; exact (Array.getElem?_eq_some_iff.1 ho).1
        have := hL.2 j hj
        rw [h0] at this
        refine ⟨⟨hj, fun ⟨h1, h2⟩ => ?_⟩, o, ho, h⟩
        simp [h1, h2] at this
      · rintro ⟨⟨hj, h1⟩, o, ho, h⟩
        refine ⟨?_, o, ho, h⟩
        rw [hL.2 j hj]
        by_cases h2 : j ∈ fs <;> by_cases h3 : j ∈ us <;> simp_all
    have hlisted : ∀ j, j ∈ fs → (listed.getD j false = true ↔ j ∉ us) := by
      intro j hj
      have hjn := hlt j hj
      have := hL.2 j hjn
      have hjs : j < listed.size := by rw [hL.1]; exact hjn
      rw [Array.getD_eq_getD_getElem?, Array.getElem?_eq_getElem hjs] at this ⊢
      simp only [Option.getD_some] at this ⊢
      rw [this]
      simp [hj]
    constructor
    · intro hnil
      exfalso
      have hne : us ≠ [] := by intro e; rw [e] at hl; simp at hl
      obtain ⟨m, hm, hmin⟩ : ∃ m ∈ us, ∀ j ∈ us, m ≤ j := by
        clear ih hl hnd hsub hL hW hready hlisted hnil hS
        induction us with
        | nil => exact absurd rfl hne
        | cons x xs ih =>
          cases xs with
          | nil => exact ⟨x, List.mem_cons_self, fun j hj => by simp at hj; omega⟩
          | cons y ys =>
            obtain ⟨m, hm, hmin⟩ := ih (by simp)
            by_cases h : x ≤ m
            · exact ⟨x, List.mem_cons_self, fun j hj => by
                rcases List.mem_cons.1 hj with rfl | hj
                · exact Nat.le_refl _
                · exact Nat.le_trans h (hmin j hj)⟩
            · exact ⟨m, List.mem_cons_of_mem _ hm, fun j hj => by
                rcases List.mem_cons.1 hj with rfl | hj
                · omega
                · exact hmin j hj⟩
      have hmf := hsub m hm
      have hmn := hlt m hmf
      obtain ⟨o, ho⟩ : ∃ o, ops[m]? = some o := ⟨_, Array.getElem?_eq_getElem (by rw [hn]; exact hmn)⟩
      have : m ∈ Region.ready md ops listed := (hready m).2 ⟨⟨hmn, fun h => h.2 hm⟩, o, ho, fun e he hb => by
        have h := hdep m hmf o ho e he hb
        rw [hlisted e.on h.1]
        intro hu
        have := hmin e.on hu
        omega⟩
      rw [hnil] at this
      simp at this
    · intro i hi
      obtain ⟨⟨hin, hun⟩, o, ho, hall⟩ := (hready i).1 hi
      have hif : i ∈ fs := by
        apply Classical.byContradiction
        intro hnf
        obtain ⟨u, hu⟩ : ∃ u, u ∈ us := by
          cases us with
          | nil => simp at hl
          | cons x xs => exact ⟨x, List.mem_cons_self⟩
        obtain ⟨e, he, hb, heq⟩ := waitsOn_iff.1 (htail i hin hnf o ho u (hsub u hu))
        have := hall e he hb
        rw [heq, hlisted u (hsub u hu)] at this
        exact this hu
      have hiu : i ∈ us := by
        apply Classical.byContradiction
        intro h
        exact hun ⟨hif, h⟩
      obtain ⟨v, hdi', hv⟩ := hdo i hif
      have hd0 : DoesW P ops (SS (!us.contains s)) (SS (!(us.erase i).contains s)) F i v := by
        by_cases his : i = s
        · subst his
          rw [if_pos rfl] at hdi'
          have h1 : us.contains i = true := by simpa using hiu
          have h2 : (us.erase i).contains i = false := by
            have : i ∉ us.erase i := fun h => ((hnd.mem_erase_iff).1 h).1 rfl
            simpa using this
          rw [h1, h2]
          exact hdi'
        · rw [if_neg his] at hdi'
          have h1 : (us.erase i).contains s = us.contains s := by
            have : s ∈ us.erase i ↔ s ∈ us := by rw [hnd.mem_erase_iff]; simp [Ne.symm his]
            by_cases h : s ∈ us <;> simp [h, this]
          rw [h1]
          exact hdi' _
      obtain ⟨o', ho', hd⟩ := hd0
      have : o' = o := by rw [ho] at ho'; injection ho' with h; exact h.symm
      subst this
      -- what the operation looks at
      have look : ∀ t ∈ o'.looksAt ops, a.tmps[t]? = F.tmps[t]? := by
        intro t ht
        by_cases hx : ∃ j ∈ us, dstOf ops j = some t
        · obtain ⟨j, hj, hjd⟩ := hx
          obtain ⟨e, he, hb, heq⟩ := waitsOn_iff.1 (hsee i hif o' ho t ht j (hsub j hj) hjd)
          have := hall e he hb
          rw [heq, hlisted j (hsub j hj)] at this
          exact absurd hj this
        · exact (hW.2.2 t).2 (fun j hj h => hx ⟨j, hj, h⟩)
      have hexec : execOp a.eval o' = execOp F.eval o' := execOp_congr o' (fun cs b => hsel i o' cs b ho) (fun x hx => by
        cases x with
        | tmp t =>
          have := look t (List.mem_append_left _ (List.mem_filterMap.2 ⟨.tmp t, by simpa using hx, rfl⟩))
          simp only [Act.eval, Array.getD_eq_getD_getElem?, this]
        | _ => rfl)
      have hwant : Region.wanted o' (yielded ops a.tmps) = Region.wanted o' (yielded ops F.tmps) := by
        unfold Region.wanted
        cases hg : o'.guard with
        | none => rfl
        | some gw =>
          obtain ⟨g, want⟩ := gw
          have hy : yielded ops a.tmps g = yielded ops F.tmps g := by
            unfold yielded
            cases ht : (ops[g]?).bind (·.dst) with
            | none => rfl
            | some t =>
              have := look t (List.mem_append_right _ (by simp [hg, ht]))
              simp only [Option.bind_some, this]
          simp only [hy]
      -- the way goes on
      have next : ∀ u, F.put o'.dst u = F.put o'.dst v → ∀ w', SS (!(us.erase i).contains s) w' → wpAny P md ops Q (n + rest) (listed.setIfInBounds i true) (a.put o'.dst u) w' := by
        intro u hu w' hS'
        have hdi : dstOf ops i = o'.dst := by simp [dstOf, ho]
        refine ih (us.erase i) _ _ w' (by rw [List.length_erase_of_mem hiu]; omega) (hnd.erase i) (fun j hj => hsub j (List.mem_of_mem_erase hj)) ⟨by simpa using hL.1, fun j hj => ?_⟩ ⟨?_, ?_, fun k => ⟨?_, ?_⟩⟩ hS'
        · by_cases hij : i = j
          · subst hij
            rw [Array.getD_eq_getD_getElem?, Array.getElem?_setIfInBounds_self_of_lt (by rw [hL.1]; exact hj)]
            have : i ∉ us.erase i := fun h => ((hnd.mem_erase_iff).1 h).1 rfl
            simp [hif, this]
          · rw [getD_set_ne true hij, hL.2 j hj]
            have : j ∈ us.erase i ↔ j ∈ us := by rw [hnd.mem_erase_iff]; simp [Ne.symm hij]
            by_cases h : j ∈ us <;> simp [h, this]
        · rw [put_defers']; exact hW.1
        · rw [put_size]; exact hW.2.1
        · rintro ⟨j, hj, hjk⟩
          obtain ⟨h1, h2⟩ := (hnd.mem_erase_iff).1 hj
          rw [put_other a u (by rw [← hdi]; intro h; exact hdst i hif j (hlt j (hsub j h2)) (Ne.symm h1) k h hjk)]
          exact (hW.2.2 k).1 ⟨j, h2, hjk⟩
        · intro hno
          by_cases hk : o'.dst = some k
          · have h1 := hv k (by rw [hdi]; exact hk)
            have h2 : (F.put (some k) u).tmps[k]? = (F.put (some k) v).tmps[k]? := by rw [← hk, hu]
            rw [put_same, put_same] at h2
            rw [hk, put_same, h1, hW.2.1]
            exact h2
          · rw [put_other a u hk]
            exact (hW.2.2 k).2 (fun j hj hjk => by
              by_cases hij : j = i
              · subst hij; rw [hdi] at hjk; exact hk hjk
              · exact hno j ((hnd.mem_erase_iff).2 ⟨hij, hj⟩) hjk)
      unfold wpOp
      simp only [ho, hwant]
      rcases hd with ⟨hw, hd⟩ | ⟨hw, rfl, hSS⟩
      · rw [if_pos hw]
        refine .inl ?_
        have h := hd w hS (fun a' w' => a' = F.put o'.dst v ∧ SS (!(us.erase i).contains s) w') (fun w' h => ⟨rfl, h⟩)
        unfold Oper.wp at *
        rw [hexec]
        generalize (execOp F.eval o').run P w = r at *
        cases r with
        | ok x w' =>
          cases x <;> simp only [Oper.upon] at h ⊢
          case value u => exact next u h.1 w' h.2
          case skip => exact next undef h.1 w' h.2
          case defer d =>
            exfalso
            have := congrArg Act.defers h.1
            rw [put_defers', put_defers'] at this
            exact absurd (congrArg List.length this) (by simp)
          case enter f args =>
            refine Calls.mono h fun e w'' he => ?_
            cases e with
            | returned u => exact next u he.1 w'' he.2
            | panicked c => exact he.elim
            | outgrown => obtain ⟨_, _, hf⟩ := he; exact hf.elim
          case row row args => exact Rows.mono h fun u w'' he => next u he.1 w'' he.2
        | halt x w' =>
          cases x <;> simp only [Oper.upon] at h ⊢
          case panic u => exact h.elim
      · rw [if_neg (by simp [hw])]
        exact next undef rfl w (hSS ▸ hS)

theorem okV_spec {fs : List Nat} (h : okV md ops fs = true) :
    (∀ (j : Nat) (o : Oper) cs b, ops[j]? = some o → o.op ≠ .select cs b) ∧ fs.Nodup ∧ (∀ i ∈ fs, i < ops.size) ∧
    (∀ i ∈ fs, ∀ o, ops[i]? = some o → ∀ e ∈ o.after, Region.binds md e = true → e.on ∈ fs ∧ e.on < i) ∧
    (∀ i ∈ fs, ∀ o, ops[i]? = some o → ∀ t ∈ o.looksAt ops, ∀ j ∈ fs, dstOf ops j = some t → waitsOn md o j = true) ∧
    (∀ j, j < ops.size → j ∉ fs → ∀ o, ops[j]? = some o → ∀ i ∈ fs, waitsOn md o i = true) ∧
    (∀ i ∈ fs, ∀ j, j < ops.size → i ≠ j → ∀ k, dstOf ops i = some k → dstOf ops j ≠ some k) := by
  unfold okV at h
  simp only [Bool.and_eq_true] at h
  obtain ⟨⟨⟨⟨⟨h1, h2⟩, h3⟩, h4⟩, h5⟩, h6⟩ := h
  rw [decide_eq_true_eq] at h2
  simp only [List.all_eq_true, List.mem_range, decide_eq_true_eq] at h3 h4 h5 h6
  refine ⟨fun j o cs b ho => Region.noSelect_spec h1 j o cs b ho, h2, h3, fun i hi o ho e he hb => ?_, fun i hi o ho t ht j hj hd => ?_, fun j hj hn o ho i hi => ?_, fun i hi j hj hne k hk hk' => ?_⟩
  · have := h4 i hi
    rw [ho] at this
    simp only [Bool.and_eq_true, Array.all_eq_true_iff_forall_mem] at this
    have := this.1 e he
    simpa [hb] using this
  · have := h4 i hi
    rw [ho] at this
    simp only [Bool.and_eq_true, List.all_eq_true] at this
    have := this.2 t ht j hj
    simpa [hd] using this
  · have := h5 j hj
    rw [ho] at this
    simp only [Bool.or_eq_true, List.all_eq_true] at this
    rcases this with h | h
    · simp [hn] at h
    · exact h i hi
  · have := h6 i hi j hj
    simp [hk, hk', hne] at this

theorem region_V {id : Nat} {a0 : Act} {w0 : World} (S : World → Prop) (fs : List Nat) (ds : List (Option Tmp)) (vals : List Value) (rest : Nat)
    (hm : P.follows .mixedOrders = true) (hok : okV .any ops fs = true) (hds : fs.map (dstOf ops) = ds) (hr : fs.length + rest = ops.size) (h0 : S w0.drew)
    (h : ∀ F, fillD ds vals a0 = F → DoesAll P ops S F fs vals ∧ ∀ w, S w → wpAny P .any ops Q rest (listedOf fs ops.size) F w) :
    (Code.region id ops true).wp P Q a0 w0 := by
  obtain ⟨hsel, hnd, hlt, hdep, hsee, htail, hdst⟩ := okV_spec hok
  obtain ⟨hdo, hend⟩ := h _ rfl
  refine wp_region_any hm ?_
  rw [← hr]
  subst hds
  refine region_V_go (SS := fun _ => S) (s := ops.size) rfl hsel hlt hdep hsee htail hdst (fillD_defers _ _ _) (fillD_size _ _ _) (fun i hi => ?_) hend fs.length fs _ a0 _ rfl hnd (fun _ h => h) ⟨by simp [hr], fun j hj => ?_⟩
    ⟨(fillD_defers _ _ _).symm, (fillD_size _ _ _).symm, fun k => ⟨fun _ => rfl, fun hno => ?_⟩⟩ h0
  · obtain ⟨j, hj⟩ := List.mem_iff_getElem?.1 hi
    obtain ⟨v, hv, hd⟩ := hdo.get j i hj
    refine ⟨v, by rw [if_neg (by have := hlt i hi; omega)]; exact fun _ => hd, fun k hk => ?_⟩
    rw [fillD_at _ _ _ k j v (by simp [hj, hk]) hv (fun i' hne h' => ?_), fillD_size]
    obtain ⟨x, hx, hxk⟩ : ∃ x, fs[i']? = some x ∧ dstOf ops x = some k := by
      rw [List.getElem?_map] at h'
      cases hx : fs[i']? with
      | none => simp [hx] at h'
      | some x => exact ⟨x, rfl, by simpa [hx] using h'⟩
    have hxi : x ≠ i := by
      intro e
      subst e
      obtain ⟨l1, e1⟩ := List.getElem?_eq_some_iff.1 hx
      obtain ⟨l2, e2⟩ := List.getElem?_eq_some_iff.1 hj
      exact hne ((List.getElem_inj hnd).1 (e1.trans e2.symm))
    exact hdst x (List.mem_of_getElem? hx) i (hlt i hi) hxi k hxk hk
  · rw [Array.getD_eq_getD_getElem?]
    have : j < fs.length + rest := by omega
    by_cases hj' : j ∈ fs <;> simp [this, hj']
  · exact (fillD_other _ _ _ _ (fun hm => by
      obtain ⟨i, hi, hik⟩ := List.mem_map.1 hm
      exact hno i hi hik)).symm
/-- The same, of which operation s, a store, stands ahead of the last ones: b tells whether it has come up. -/
def DoesS (P : Program) (ops : Array Oper) (SS : Bool → World → Prop) (s : Nat) (F : Act) (i : Nat) (v : Value) : Prop := if i = s then DoesW P ops (SS false) (SS true) F i v else ∀ b, Does P ops (SS b) F i v
def DoesAllW (P : Program) (ops : Array Oper) (SS : Bool → World → Prop) (s : Nat) (F : Act) : List Nat → List Value → Prop
  | i :: is, v :: vs => DoesS P ops SS s F i v ∧ DoesAllW P ops SS s F is vs
  | [], [] => True
  | _, _ => False
theorem DoesAllW.get {SS : Bool → World → Prop} {s : Nat} {F : Act} : ∀ {is : List Nat} {vs : List Value}, DoesAllW P ops SS s F is vs → ∀ (j i : Nat), is[j]? = some i → ∃ v, vs[j]? = some v ∧ (if i = s then DoesW P ops (SS false) (SS true) F i v else ∀ b, Does P ops (SS b) F i v)
  | [], [], _, _, _, h => by simp at h
  | i :: _, v :: _, h, 0, k, hk => ⟨v, rfl, (show i = k by simpa using hk) ▸ h.1⟩
  | _ :: _, _ :: _, h, j + 1, k, hk => by simpa using DoesAllW.get h.2 j k (by simpa using hk)
  | [], _ :: _, h, _, _, _ => h.elim
  | _ :: _, [], h, _, _, _ => h.elim
theorem does_store {SS : Bool → World → Prop} {s i : Nat} {F : Act} {o : Oper} {v : Value} (hs : i = s) (hi : ops[i]? = some o) (hw : Region.wanted o (yielded ops F.tmps) = true)
    (h : ∀ w, SS false w → ∀ K : Act → World → Prop, (∀ w', SS true w' → K (F.put o.dst v) w') → o.wp P F w K noQ) : DoesS P ops SS s F i v := by
  unfold DoesS; rw [if_pos hs]; exact ⟨o, hi, .inl ⟨hw, h⟩⟩
theorem does_other {SS : Bool → World → Prop} {s i : Nat} {F : Act} {v : Value} (hs : i ≠ s) (h : ∀ b, Does P ops (SS b) F i v) : DoesS P ops SS s F i v := by
  unfold DoesS; rw [if_neg hs]; exact h
theorem region_W {id : Nat} {a0 : Act} {w0 : World} (SS : Bool → World → Prop) (s : Nat) (fs : List Nat) (ds : List (Option Tmp)) (vals : List Value) (rest : Nat)
    (hm : P.follows .mixedOrders = true) (hok : okV .any ops fs = true) (hds : fs.map (dstOf ops) = ds) (hr : fs.length + rest = ops.size) (hs : s ∈ fs) (h0 : SS false w0.drew)
    (h : ∀ F, fillD ds vals a0 = F → DoesAllW P ops SS s F fs vals ∧ ∀ w, SS true w → wpAny P .any ops Q rest (listedOf fs ops.size) F w) :
    (Code.region id ops true).wp P Q a0 w0 := by
  obtain ⟨hsel, hnd, hlt, hdep, hsee, htail, hdst⟩ := okV_spec hok
  obtain ⟨hdo, hend⟩ := h _ rfl
  refine wp_region_any hm ?_
  rw [← hr]
  subst hds
  refine region_V_go (SS := SS) (s := s) rfl hsel hlt hdep hsee htail hdst (fillD_defers _ _ _) (fillD_size _ _ _) (fun i hi => ?_) hend fs.length fs _ a0 _ rfl hnd (fun _ h => h) ⟨by simp [hr], fun j hj => ?_⟩
    ⟨(fillD_defers _ _ _).symm, (fillD_size _ _ _).symm, fun k => ⟨fun _ => rfl, fun hno => ?_⟩⟩ (by rw [show fs.contains s = true by simpa using hs]; exact h0)
  · obtain ⟨j, hj⟩ := List.mem_iff_getElem?.1 hi
    obtain ⟨v, hv, hd⟩ := hdo.get j i hj
    refine ⟨v, hd, fun k hk => ?_⟩
    rw [fillD_at _ _ _ k j v (by simp [hj, hk]) hv (fun i' hne h' => ?_), fillD_size]
    obtain ⟨x, hx, hxk⟩ : ∃ x, fs[i']? = some x ∧ dstOf ops x = some k := by
      rw [List.getElem?_map] at h'
      cases hx : fs[i']? with
      | none => simp [hx] at h'
      | some x => exact ⟨x, rfl, by simpa [hx] using h'⟩
    have hxi : x ≠ i := by
      intro e
      subst e
      obtain ⟨l1, e1⟩ := List.getElem?_eq_some_iff.1 hx
      obtain ⟨l2, e2⟩ := List.getElem?_eq_some_iff.1 hj
      exact hne ((List.getElem_inj hnd).1 (e1.trans e2.symm))
    exact hdst x (List.mem_of_getElem? hx) i (hlt i hi) hxi k hxk hk
  · rw [Array.getD_eq_getD_getElem?]
    have : j < fs.length + rest := by omega
    by_cases hj' : j ∈ fs <;> simp [this, hj']
  · exact (fillD_other _ _ _ _ (fun hm => by
      obtain ⟨i, hi, hik⟩ := List.mem_map.1 hm
      exact hno i hi hik)).symm
/-- The one operation that may come up comes up. -/
theorem wpAny_one {i : Nat} {o : Oper} {fuel : Nat} {listed : Array Bool} {a : Act} {w : World} (hr : Region.ready md ops listed = [i]) (hi : ops[i]? = some o)
    (h : ∀ K : Act → World → Prop, (∀ a w, wpAny P md ops Q fuel (listed.setIfInBounds i true) a w → K a w) → if Region.wanted o (yielded ops a.tmps) = true then Oper.wp P o a w K Q else K (a.put o.dst undef) w) :
    wpAny P md ops Q (fuel + 1) listed a w :=
  wpAny_all hr (by simp) fun j hj => by
    rw [List.mem_singleton] at hj
    subst hj
    exact wpOp_step hi h
/-- The same where it is wanted. -/
theorem wpAny_want {i : Nat} {o : Oper} {fuel : Nat} {listed : Array Bool} {a : Act} {w : World} (hr : Region.ready md ops listed = [i]) (hi : ops[i]? = some o) (hw : Region.wanted o (yielded ops a.tmps) = true)
    (h : ∀ K : Act → World → Prop, (∀ a w, wpAny P md ops Q fuel (listed.setIfInBounds i true) a w → K a w) → Oper.wp P o a w K Q) :
    wpAny P md ops Q (fuel + 1) listed a w :=
  wpAny_one hr hi fun K hK => by rw [if_pos hw]; exact h K hK
end
end Go.Proofs.Ytndaijcgjhmiaaa
namespace Go.Proofs.Ytndaijcgjhmiaaa
set_option linter.unusedVariables false

section
variable {P : Program} {ops : Array Oper} {Q : Exit → Act → World → Prop} {md : Region.Mode} {σ : Type}

theorem region_G_go {S : σ → World → Prop} {F : σ → Act} {sp : List Nat} {ev : σ → Nat → Bool} {T : Nat → σ → σ → Prop} {n0 rest : Nat} {fs : List Nat} {a0 : Act} (hn : ops.size = n0)
    (hsel : ∀ (j : Nat) (o : Oper) cs b, ops[j]? = some o → o.op ≠ .select cs b)
    (hlt : ∀ i ∈ fs, i < n0)
    (hdep : ∀ i ∈ fs, ∀ o, ops[i]? = some o → ∀ e ∈ o.after, Region.binds md e = true → e.on ∈ fs ∧ e.on < i)
    (hsee : ∀ i ∈ fs, ∀ o, ops[i]? = some o → ∀ t ∈ o.looksAt ops, ∀ j ∈ fs, dstOf ops j = some t → waitsOn md o j = true)
    (htail : ∀ j, j < n0 → j ∉ fs → ∀ o, ops[j]? = some o → ∀ i ∈ fs, waitsOn md o i = true)
    (hdst : ∀ i ∈ fs, ∀ j, j < n0 → i ≠ j → ∀ k, dstOf ops i = some k → dstOf ops j ≠ some k)
    (hF1 : ∀ st, (F st).defers = a0.defers) (hF2 : ∀ st, (F st).tmps.size = a0.tmps.size)
    (hsp : ∀ i ∈ sp, i ∈ fs)
    (hdo : ∀ i ∈ fs, ∀ st, (∀ j ∈ sp, ∀ o, ops[i]? = some o → waitsOn md o j = true → ev st j = true) → (i ∈ sp → ev st i = false) →
      ∃ (o : Oper) (v : σ → Value), ops[i]? = some o ∧ (∀ st' k, dstOf ops i = some k → (F st').tmps[k]? = if k < (F st').tmps.size then some (v st') else none) ∧
        ((Region.wanted o (yielded ops (F st).tmps) = true ∧ ∀ w, S st w → ∀ K : Act → World → Prop, (∀ st' w', S st' w' → (if i ∈ sp then T i st st' else st' = st) → K ((F st).put o.dst (v st')) w') → o.wp P (F st) w K noQ) ∨
         (i ∉ sp ∧ Region.wanted o (yielded ops (F st).tmps) = false ∧ v st = undef)))
    (hT : ∀ i ∈ sp, ∀ st st', T i st st' → ev st' i = true ∧ (∀ j ∈ sp, j ≠ i → ev st' j = ev st j) ∧
      ∀ k, (F st').tmps[k]? = (F st).tmps[k]? ∨ dstOf ops i = some k ∨ ∃ j ∈ fs, dstOf ops j = some k ∧ ∀ o, ops[j]? = some o → waitsOn md o i = true)
    (hend : ∀ st w, S st w → (∀ i ∈ sp, ev st i = true) → wpAny P md ops Q rest (listedOf fs n0) (F st) w) :
    ∀ (n : Nat) (us : List Nat) (listed : Array Bool) (st : σ) (a : Act) (w : World), us.length = n → us.Nodup → (∀ i ∈ us, i ∈ fs) → Lst fs us n0 listed → Way ops fs us a0 (F st) a → S st w →
      (∀ i ∈ sp, ev st i = !us.contains i) → (∀ j ∈ fs, j ∉ us → ∀ o, ops[j]? = some o → ∀ i ∈ us, waitsOn md o i = false) →
      wpAny P md ops Q (n + rest) listed a w := by
  intro n
  induction n with
  | zero =>
    intro us listed st a w hl _ _ hL hW hS hE _
    have : us = [] := List.eq_nil_of_length_eq_zero hl
    subst this
    rw [lst_end hL, Nat.zero_add]
    have ha : a = F st := by
      obtain ⟨t1, d1⟩ := a
      generalize F st = f at *
      obtain ⟨t2, d2⟩ := f
      obtain ⟨h1, h2, h3⟩ := hW
      simp only at h1 h2 h3
      subst h1
      congr 1
      apply Array.ext_getElem?
      intro k
      exact (h3 k).2 (fun j hj => by simp at hj)
    subst ha
    exact hend st w hS (fun i hi => by rw [hE i hi]; simp)
  | succ n ih =>
    intro us listed st a w hl hnd hsub hL hW hS hE hcl
    rw [show n + 1 + rest = (n + rest) + 1 by omega]
    -- the least one that has not come up is ready
    have hready : ∀ j, j ∈ Region.ready md ops listed ↔ (j < n0 ∧ ¬ (j ∈ fs ∧ j ∉ us)) ∧ ∃ o, ops[j]? = some o ∧ ∀ e ∈ o.after, Region.binds md e = true → listed.getD e.on false = true := by
      intro j
      rw [mem_ready]
      constructor
      · rintro ⟨h0, o, ho, h⟩
        have hj : j < n0 := by rw [← hn]; exact (Array.getElem?_eq_some_iff.1 ho).1
        have := hL.2 j hj
        rw [h0] at this
        refine ⟨⟨hj, fun ⟨h1, h2⟩ => ?_⟩, o, ho, h⟩
        simp [h1, h2] at this
      · rintro ⟨⟨hj, h1⟩, o, ho, h⟩
        refine ⟨?_, o, ho, h⟩
        rw [hL.2 j hj]
        by_cases h2 : j ∈ fs <;> by_cases h3 : j ∈ us <;> simp_all
    have hlisted : ∀ j, j ∈ fs → (listed.getD j false = true ↔ j ∉ us) := by
      intro j hj
      have hjn := hlt j hj
      have := hL.2 j hjn
      have hjs : j < listed.size := by rw [hL.1]; exact hjn
      rw [Array.getD_eq_getD_getElem?, Array.getElem?_eq_getElem hjs] at this ⊢
      simp only [Option.getD_some] at this ⊢
      rw [this]
      simp [hj]
    constructor
    · intro hnil
      exfalso
      have hne : us ≠ [] := by intro e; rw [e] at hl; simp at hl
      obtain ⟨m, hm, hmin⟩ : ∃ m ∈ us, ∀ j ∈ us, m ≤ j := by
        clear ih hl hnd hsub hL hW hready hlisted hnil hS hE hcl
        induction us with
        | nil => exact absurd rfl hne
        | cons x xs ih =>
          cases xs with
          | nil => exact ⟨x, List.mem_cons_self, fun j hj => by simp at hj; omega⟩
          | cons y ys =>
            obtain ⟨m, hm, hmin⟩ := ih (by simp)
            by_cases h : x ≤ m
            · exact ⟨x, List.mem_cons_self, fun j hj => by
                rcases List.mem_cons.1 hj with rfl | hj
                · exact Nat.le_refl _
                · exact Nat.le_trans h (hmin j hj)⟩
            · exact ⟨m, List.mem_cons_of_mem _ hm, fun j hj => by
                rcases List.mem_cons.1 hj with rfl | hj
                · omega
                · exact hmin j hj⟩
      have hmf := hsub m hm
      have hmn := hlt m hmf
      obtain ⟨o, ho⟩ : ∃ o, ops[m]? = some o := ⟨_, Array.getElem?_eq_getElem (by rw [hn]; exact hmn)⟩
      have : m ∈ Region.ready md ops listed := (hready m).2 ⟨⟨hmn, fun h => h.2 hm⟩, o, ho, fun e he hb => by
        have h := hdep m hmf o ho e he hb
        rw [hlisted e.on h.1]
        intro hu
        have := hmin e.on hu
        omega⟩
      rw [hnil] at this
      simp at this
    · intro i hi
      obtain ⟨⟨hin, hun⟩, o, ho, hall⟩ := (hready i).1 hi
      have hif : i ∈ fs := by
        apply Classical.byContradiction
        intro hnf
        obtain ⟨u, hu⟩ : ∃ u, u ∈ us := by
          cases us with
          | nil => simp at hl
          | cons x xs => exact ⟨x, List.mem_cons_self⟩
        obtain ⟨e, he, hb, heq⟩ := waitsOn_iff.1 (htail i hin hnf o ho u (hsub u hu))
        have := hall e he hb
        rw [heq, hlisted u (hsub u hu)] at this
        exact this hu
      have hiu : i ∈ us := by
        apply Classical.byContradiction
        intro h
        exact hun ⟨hif, h⟩
      have hdeps : ∀ j ∈ sp, ∀ o', ops[i]? = some o' → waitsOn md o' j = true → ev st j = true := by
        intro j hj o' ho' hw
        obtain ⟨e, he, hb, heq⟩ := waitsOn_iff.1 hw
        have : o' = o := by rw [ho] at ho'; injection ho' with h; exact h.symm
        subst this
        have h1 := hall e he hb
        rw [heq, hlisted j (hsp j hj)] at h1
        rw [hE j hj]
        simpa using h1
      have hnot : i ∈ sp → ev st i = false := fun h => by rw [hE i h]; simpa using hiu
      obtain ⟨o', v, ho', hv, hd⟩ := hdo i hif st hdeps hnot
      have : o' = o := by rw [ho] at ho'; injection ho' with h; exact h.symm
      subst this
      -- what the operation looks at
      have look : ∀ t ∈ o'.looksAt ops, a.tmps[t]? = (F st).tmps[t]? := by
        intro t ht
        by_cases hx : ∃ j ∈ us, dstOf ops j = some t
        · obtain ⟨j, hj, hjd⟩ := hx
          obtain ⟨e, he, hb, heq⟩ := waitsOn_iff.1 (hsee i hif o' ho t ht j (hsub j hj) hjd)
          have := hall e he hb
          rw [heq, hlisted j (hsub j hj)] at this
          exact absurd hj this
        · exact (hW.2.2 t).2 (fun j hj h => hx ⟨j, hj, h⟩)
      have hexec : execOp a.eval o' = execOp (F st).eval o' := execOp_congr o' (fun cs b => hsel i o' cs b ho) (fun x hx => by
        cases x with
        | tmp t =>
          have := look t (List.mem_append_left _ (List.mem_filterMap.2 ⟨.tmp t, by simpa using hx, rfl⟩))
          simp only [Act.eval, Array.getD_eq_getD_getElem?, this]
        | _ => rfl)
      have hwant : Region.wanted o' (yielded ops a.tmps) = Region.wanted o' (yielded ops (F st).tmps) := by
        unfold Region.wanted
        cases hg : o'.guard with
        | none => rfl
        | some gw =>
          obtain ⟨g, want⟩ := gw
          have hy : yielded ops a.tmps g = yielded ops (F st).tmps g := by
            unfold yielded
            cases ht : (ops[g]?).bind (·.dst) with
            | none => rfl
            | some t =>
              have := look t (List.mem_append_right _ (by simp [hg, ht]))
              simp only [Option.bind_some, this]
          simp only [hy]
      have hdi : dstOf ops i = o'.dst := by simp [dstOf, ho]
      have hself : waitsOn md o' i = false := by
        rw [← Bool.not_eq_true]
        intro hw
        obtain ⟨e, he, hb, heq⟩ := waitsOn_iff.1 hw
        have := (hdep i hif o' ho e he hb).2
        omega
      -- the way goes on
      have next : ∀ u st', (F st).put o'.dst u = (F st).put o'.dst (v st') → (if i ∈ sp then T i st st' else st' = st) → ∀ w', S st' w' → wpAny P md ops Q (n + rest) (listed.setIfInBounds i true) (a.put o'.dst u) w' := by
        intro u st' hu hTr w' hS'
        have hco : ∀ k, (F st').tmps[k]? = (F st).tmps[k]? ∨ dstOf ops i = some k ∨ ∃ j ∈ fs, dstOf ops j = some k ∧ ∀ o, ops[j]? = some o → waitsOn md o i = true := by
          intro k
          by_cases his : i ∈ sp
          · rw [if_pos his] at hTr
            exact (hT i his st st' hTr).2.2 k
          · rw [if_neg his] at hTr
            subst hTr
            exact .inl rfl
        refine ih (us.erase i) _ st' _ w' (by rw [List.length_erase_of_mem hiu]; omega) (hnd.erase i) (fun j hj => hsub j (List.mem_of_mem_erase hj)) ⟨by simpa using hL.1, fun j hj => ?_⟩ ⟨?_, ?_, fun k => ⟨?_, ?_⟩⟩ hS' ?_ ?_
        · by_cases hij : i = j
          · subst hij
            rw [Array.getD_eq_getD_getElem?, Array.getElem?_setIfInBounds_self_of_lt (by rw [hL.1]; exact hj)]
            have : i ∉ us.erase i := fun h => ((hnd.mem_erase_iff).1 h).1 rfl
            simp [hif, this]
          · rw [getD_set_ne true hij, hL.2 j hj]
            have : j ∈ us.erase i ↔ j ∈ us := by rw [hnd.mem_erase_iff]; simp [Ne.symm hij]
            by_cases h : j ∈ us <;> simp [h, this]
        · rw [put_defers', hW.1, hF1, hF1]
        · rw [put_size, hW.2.1, hF2, hF2]
        · rintro ⟨j, hj, hjk⟩
          obtain ⟨h1, h2⟩ := (hnd.mem_erase_iff).1 hj
          rw [put_other a u (by rw [← hdi]; intro h; exact hdst i hif j (hlt j (hsub j h2)) (Ne.symm h1) k h hjk)]
          exact (hW.2.2 k).1 ⟨j, h2, hjk⟩
        · intro hno
          by_cases hk : o'.dst = some k
          · have h1 := hv st' k (by rw [hdi]; exact hk)
            have h2 : ((F st).put (some k) u).tmps[k]? = ((F st).put (some k) (v st')).tmps[k]? := by rw [← hk, hu]
            rw [put_same, put_same] at h2
            rw [hk, put_same, h1, hW.2.1, hF2, hF2]
            rw [hF2] at h2
            exact h2
          · rw [put_other a u hk]
            have h0 : a.tmps[k]? = (F st).tmps[k]? := (hW.2.2 k).2 (fun j hj hjk => by
              by_cases hij : j = i
              · subst hij; rw [hdi] at hjk; exact hk hjk
              · exact hno j ((hnd.mem_erase_iff).2 ⟨hij, hj⟩) hjk)
            rcases hco k with h | h | ⟨j, hj, hjk, hw⟩
            · rw [h0, h]
            · rw [hdi] at h; exact absurd h hk
            · exfalso
              have hjo : ∃ oj, ops[j]? = some oj := ⟨_, Array.getElem?_eq_getElem (by rw [hn]; exact hlt j hj)⟩
              obtain ⟨oj, hoj⟩ := hjo
              have hwj := hw oj hoj
              by_cases hju : j ∈ us
              · have hji : j ≠ i := by
                  intro e
                  subst e
                  rw [ho] at hoj
                  injection hoj with e
                  subst e
                  rw [hself] at hwj
                  cases hwj
                exact hno j ((hnd.mem_erase_iff).2 ⟨hji, hju⟩) hjk
              · have := hcl j hj hju oj hoj i hiu
                rw [hwj] at this
                cases this
        · intro j hj
          by_cases hji : j = i
          · subst hji
            rw [if_pos hj] at hTr
            rw [(hT j hj st st' hTr).1]
            have : j ∉ us.erase j := fun h => ((hnd.mem_erase_iff).1 h).1 rfl
            simp [this]
          · have h1 : ev st' j = ev st j := by
              by_cases his : i ∈ sp
              · rw [if_pos his] at hTr
                exact (hT i his st st' hTr).2.1 j hj hji
              · rw [if_neg his] at hTr
                rw [hTr]
            rw [h1, hE j hj]
            have : j ∈ us.erase i ↔ j ∈ us := by rw [hnd.mem_erase_iff]; simp [hji]
            by_cases h : j ∈ us <;> simp [h, this]
        · intro j hj hju oj hoj x hx
          obtain ⟨hxi, hxu⟩ := (hnd.mem_erase_iff).1 hx
          by_cases hji : j = i
          · subst hji
            rw [ho] at hoj
            injection hoj with e
            subst e
            rw [← Bool.not_eq_true]
            intro hw
            obtain ⟨e, he, hb, heq⟩ := waitsOn_iff.1 hw
            have h1 := hall e he hb
            rw [heq, hlisted x (hsub x hxu)] at h1
            exact h1 hxu
          · exact hcl j hj (fun h => hju ((hnd.mem_erase_iff).2 ⟨hji, h⟩)) oj hoj x hxu
      unfold wpOp
      simp only [ho, hwant]
      rcases hd with ⟨hw, hd⟩ | ⟨hns, hw, hvu⟩
      · rw [if_pos hw]
        refine .inl ?_
        have h := hd w hS (fun a' w' => ∃ st', S st' w' ∧ (if i ∈ sp then T i st st' else st' = st) ∧ a' = (F st).put o'.dst (v st')) (fun st' w' h1 h2 => ⟨st', h1, h2, rfl⟩)
        unfold Oper.wp at *
        rw [hexec]
        generalize (execOp (F st).eval o').run P w = r at *
        cases r with
        | ok x w' =>
          cases x <;> simp only [Oper.upon] at h ⊢
          case value u => obtain ⟨st', h1, h2, h3⟩ := h; exact next u st' h3 h2 w' h1
          case skip => obtain ⟨st', h1, h2, h3⟩ := h; exact next undef st' h3 h2 w' h1
          case defer d =>
            exfalso
            obtain ⟨st', h1, h2, h3⟩ := h
            have := congrArg Act.defers h3
            rw [put_defers', put_defers'] at this
            exact absurd (congrArg List.length this) (by simp)
          case enter f args =>
            refine Calls.mono h fun e w'' he => ?_
            cases e with
            | returned u => obtain ⟨st', h1, h2, h3⟩ := he; exact next u st' h3 h2 w'' h1
            | panicked c => exact he.elim
            | outgrown => obtain ⟨_, _, hf⟩ := he; exact hf.elim
          case row row args => exact Rows.mono h fun u w'' he => by obtain ⟨st', h1, h2, h3⟩ := he; exact next u st' h3 h2 w'' h1
        | halt x w' =>
          cases x <;> simp only [Oper.upon] at h ⊢
          case panic u => exact h.elim
      · rw [if_neg (by simp [hw])]
        exact next undef st (by rw [hvu]) (by rw [if_neg hns]) w hS
end
end Go.Proofs.Ytndaijcgjhmiaaa
namespace Go.Proofs.Ytndaijcgjhmiaaa
open Go.ChangeShapes Go.WideShapes Go.ChangeAt Go.RowKit
set_option linter.unusedVariables false

/-- Since w0 nothing old has changed, and these blocks are the call's own. -/
def Own (w0 w : World) (bs : List (Nat × TypeId × List Value)) : Prop :=
  Below w0.heap.size w0 w ∧ (bs.map (·.1)).Nodup ∧ ∀ x ∈ bs, w0.heap.size ≤ x.1 ∧ w.heap[x.1]? = some (.cells x.2.2.toArray x.2.1 (0, 0))
section
variable {w0 w w' : World} {bs : List (Nat × TypeId × List Value)} {g k : Nat} {t : TypeId} {cs : List Value}
theorem Own.below (h : Own w0 w bs) : Below w0.heap.size w0 w := h.1
theorem Own.start (w : World) : Own w w [] := ⟨Below.refl _ _, by simp, by simp⟩
theorem Own.lt (h : Own w0 w bs) {x : Nat × TypeId × List Value} (hx : x ∈ bs) : x.1 < w.heap.size := (Array.getElem?_eq_some_iff.1 (h.2.2 x hx).2).1
theorem Own.alloc (h : Own w0 w bs) (t : TypeId) (cs : List Value) : Own w0 (w.alloc (.cells cs.toArray t)) ((w.heap.size, t, cs) :: bs) := by
  refine ⟨h.1.alloc h.1.size _, ?_, fun x hx => ?_⟩
  · simp only [List.map_cons, List.nodup_cons]
    refine ⟨fun hm => ?_, h.2.1⟩
    obtain ⟨x, hx, he⟩ := List.mem_map.1 hm
    have := h.lt hx
    omega
  · rcases List.mem_cons.1 hx with rfl | hx
    · exact ⟨h.1.size, heap_alloc_new w _⟩
    · exact ⟨(h.2.2 x hx).1, (Below.heap_alloc w _ _ (h.lt hx)).trans (h.2.2 x hx).2⟩
theorem Own.drew (h : Own w0 w bs) : Own w0 w.drew bs := ⟨h.1.drew, h.2.1, h.2.2⟩
theorem Own.call (h : Own w0 w bs) (hb : Below w.heap.size w w') : Own w0 w' bs :=
  ⟨h.1.trans (hb.mono h.1.size), h.2.1, fun x hx => ⟨(h.2.2 x hx).1, (hb.block _ (h.lt hx)).trans (h.2.2 x hx).2⟩⟩
theorem Own.mem (hk : bs[k]? = some (g, t, cs)) : (g, t, cs) ∈ bs := List.mem_of_getElem? hk
theorem Own.blk (h : Own w0 w bs) (k : Nat) (hk : bs[k]? = some (g, t, cs)) : w.heap[g]? = some (.cells cs.toArray t (0, 0)) := (h.2.2 _ (Own.mem hk)).2
theorem Own.ge (h : Own w0 w bs) (k : Nat) (hk : bs[k]? = some (g, t, cs)) : w0.heap.size ≤ g := (h.2.2 _ (Own.mem hk)).1
theorem Own.cell (h : Own w0 w bs) (k : Nat) (hk : bs[k]? = some (g, t, cs)) {i : Nat} {v : Value} (hv : cs[i]? = some v) : w.cell? ⟨g, i, none⟩ = some v := by
  rw [cell_of_row w g i _ t (0, 0) (h.blk k hk)]
  simpa using hv
theorem Own.set_mem (h : Own w0 w bs) (hk : bs[k]? = some (g, t, cs)) (ds : List Value) {w' : World} (hg : w'.heap[g]? = some (.cells ds.toArray t (0, 0))) (ho : ∀ b, b ≠ g → w'.heap[b]? = w.heap[b]?) (hb : Below w0.heap.size w0 w') :
    Own w0 w' (bs.set k (g, t, ds)) := by
  have hm : (bs.set k (g, t, ds)).map (·.1) = bs.map (·.1) := by
    rw [List.map_set]
    apply List.ext_getElem?
    intro i
    rw [List.getElem?_set]
    split
    · rename_i e
      subst e
      obtain ⟨hlt, he⟩ := List.getElem?_eq_some_iff.1 hk
      rw [if_pos (by simpa using hlt)]
      simp [hk]
    · rfl
  refine ⟨hb, by rw [hm]; exact h.2.1, fun x hx => ?_⟩
  obtain ⟨i, hi⟩ := List.mem_iff_getElem?.1 hx
  rw [List.getElem?_set] at hi
  by_cases e : k = i
  · subst e
    have hlt : k < bs.length := (List.getElem?_eq_some_iff.1 hk).1
    rw [if_pos rfl, if_pos hlt] at hi
    obtain rfl : (g, t, ds) = x := by simpa using hi
    exact ⟨h.ge k hk, hg⟩
  · rw [if_neg e] at hi
    have hx' := List.mem_of_getElem? hi
    have hne : x.1 ≠ g := by
      intro hxg
      have h1 : (bs.map (·.1))[k]? = some g := by simp [hk]
      have h2 : (bs.map (·.1))[i]? = some g := by simp [hi, hxg]
      obtain ⟨l1, e1⟩ := List.getElem?_eq_some_iff.1 h1
      obtain ⟨l2, e2⟩ := List.getElem?_eq_some_iff.1 h2
      exact e ((List.getElem_inj h.2.1).1 (e1.trans e2.symm))
    exact ⟨(h.2.2 x hx').1, (ho _ hne).trans (h.2.2 x hx').2⟩
theorem Own.setCell (h : Own w0 w bs) (k : Nat) (hk : bs[k]? = some (g, t, cs)) (i : Nat) (v : Value) : Own w0 (w.setCell ⟨g, i, none⟩ v) (bs.set k (g, t, cs.set i v)) := by
  refine h.set_mem hk _ ?_ (fun b hb => heap_setCell_other w _ b v hb) (h.1.setCell (h.ge k hk) v)
  rw [heap_setCell_same w g i _ t v (h.blk k hk)]
  simp
theorem Own.setRow (h : Own w0 w bs) (k : Nat) (hk : bs[k]? = some (g, t, cs)) (ds : List Value) : Own w0 (w.setRow g ds.toArray) (bs.set k (g, t, ds)) := by
  refine h.set_mem hk _ (setRow_heap w g _ _ t _ (h.blk k hk)) (fun b hb => setRow_other w g b _ hb) (h.1.trans ⟨rfl, rfl, rfl, by simp, fun j hj => setRow_other w g j _ (by have := h.ge k hk; omega)⟩)
theorem Own.frozen (h : Own w0 w bs) (k : Nat) (hk : bs[k]? = some (g, t, cs)) (i : Nat) : w.frozen? ⟨g, i, none⟩ = false := frozen_of_row w g i _ t (h.blk k hk)
end

section
variable {P : Program} {ops : Array Oper} {Q : Exit → Act → World → Prop} {a : Act} {w w0 : World} {rest : List Oper} {bs : List (Nat × TypeId × List Value)} {dst : Option Tmp} {ty : TypeId} {pos : String} {after : Array Edge} {K : Act → World → Prop}
theorem wp_box_own {t : TypeId} {x : Operand} (O : Own w0 w bs) (cs : List Value) (hx : a.eval x = .agg cs.toArray)
    (h : ∀ g w1, Own w0 w1 ((g, t, cs) :: bs) → K (a.put dst (.pointer (some ⟨g, 0, none⟩))) w1) : Oper.wp P ⟨dst, .box t x, ty, pos, after, none⟩ a w K Q := by
  have hr : (Instr.box t (.agg cs.toArray)).run P w = .ok (.pointer (some ⟨w.heap.size, 0, none⟩)) (w.alloc (.cells cs.toArray t)) := rfl
  unfold Oper.wp execOp
  simp only [hx, Sem.run_bind, hr, Result.andThen_ok]
  exact h _ _ (O.alloc t cs)
theorem wpList_box_own {t : TypeId} {x : Operand} (O : Own w0 w bs) (cs : List Value) (hx : a.eval x = .agg cs.toArray)
    (h : ∀ g w1, Own w0 w1 ((g, t, cs) :: bs) → wpList P ops Q rest (a.put dst (.pointer (some ⟨g, 0, none⟩))) w1) : wpList P ops Q (⟨dst, .box t x, ty, pos, after, none⟩ :: rest) a w :=
  wpList_plain rfl fun K hK => wp_box_own O cs hx fun g w1 O' => hK _ _ (h g w1 O')
theorem wp_alloc_own {t : TypeId} (O : Own w0 w bs) (cs : List Value) (hz : (P.info? t).map (·.zero) = some (some (.agg cs.toArray)))
    (h : ∀ g w1, Own w0 w1 ((g, t, cs) :: bs) → K (a.put dst (.pointer (some ⟨g, 0, none⟩))) w1) : Oper.wp P ⟨dst, .alloc t, ty, pos, after, none⟩ a w K Q := by
  have hzv : (zeroValue t).run P w = .ok (.agg cs.toArray) w := by
    cases hi : P.info? t with
    | none => simp [hi] at hz
    | some i =>
      have : i.zero = some (.agg cs.toArray) := by simpa [hi] using hz
      simp [zeroValue, typeInfo, hi, this]
  have hr : (Instr.alloc t true (.tuple #[])).run P w = .ok (.pointer (some ⟨w.heap.size, 0, none⟩)) (w.alloc (.cells cs.toArray t)) := by
    unfold Instr.alloc
    rw [Sem.run_bind, hzv, Result.andThen_ok]
    rfl
  unfold Oper.wp execOp
  simp only [Sem.run_bind, hr, Result.andThen_ok]
  exact h _ _ (O.alloc t cs)
theorem wpList_alloc_own {t : TypeId} (O : Own w0 w bs) (cs : List Value) (hz : (P.info? t).map (·.zero) = some (some (.agg cs.toArray)))
    (h : ∀ g w1, Own w0 w1 ((g, t, cs) :: bs) → wpList P ops Q rest (a.put dst (.pointer (some ⟨g, 0, none⟩))) w1) : wpList P ops Q (⟨dst, .alloc t, ty, pos, after, none⟩ :: rest) a w :=
  wpList_plain rfl fun K hK => wp_alloc_own O cs hz fun g w1 O' => hK _ _ (h g w1 O')
/-- A whole array out of its block. -/
theorem wp_row_own {t : TypeId} {x : Operand} {gd : Option (Nat × Bool)} (O : Own w0 w bs) (k : Nat) {g : Nat} {t' : TypeId} {cs : List Value} (hk : bs[k]? = some (g, t', cs)) (hx : a.eval x = .pointer (some ⟨g, 0, none⟩))
    {n : Nat} {e : TypeId} (hu : P.underlying t = some (.array n e)) (hi : (P.info? t).map (·.size) = some cs.length) (h : K (a.put dst (.agg cs.toArray)) w) : Oper.wp P ⟨dst, .load t x, ty, pos, after, gd⟩ a w K Q :=
  wp_load_row t x rfl g hx t' cs.toArray (0, 0) _ (O.blk k hk) hu rfl (by simpa using hi) h
theorem wpList_row_own {t : TypeId} {x : Operand} (O : Own w0 w bs) (k : Nat) {g : Nat} {t' : TypeId} {cs : List Value} (hk : bs[k]? = some (g, t', cs)) (hx : a.eval x = .pointer (some ⟨g, 0, none⟩))
    {n : Nat} {e : TypeId} (hu : P.underlying t = some (.array n e)) (hi : (P.info? t).map (·.size) = some cs.length) (h : wpList P ops Q rest (a.put dst (.agg cs.toArray)) w) :
    wpList P ops Q (⟨dst, .load t x, ty, pos, after, none⟩ :: rest) a w :=
  wpList_plain rfl fun K hK => wp_row_own O k hk hx hu hi (hK _ _ h)
/-- A whole array into its block. -/
theorem wp_put_own {t : TypeId} {x y : Operand} {gd : Option (Nat × Bool)} (O : Own w0 w bs) (k : Nat) {g : Nat} {t' : TypeId} {cs : List Value} (ds : List Value) (hk : bs[k]? = some (g, t', cs)) (hx : a.eval x = .pointer (some ⟨g, 0, none⟩))
    (hy : a.eval y = .agg ds.toArray) (hi : (P.info? t).map (·.size) = some ds.length) (hl : cs.length = ds.length) (h1 : ∀ v ∈ ds, v.oneCell' = true)
    (h : ∀ w1, Own w0 w1 (bs.set k (g, t', ds)) → K (a.put dst undef) w1) : Oper.wp P ⟨dst, .store t x y, ty, pos, after, gd⟩ a w K Q :=
  wp_store_row t x y rfl g ds.toArray hx hy t' cs.toArray (O.blk k hk) (by simpa using hi) (by simpa using hl) (by rw [Array.all_eq_true_iff_forall_mem]; intro v hv; exact h1 v (by simpa using hv)) (h _ (O.setRow k hk ds))
theorem wpList_put_own {t : TypeId} {x y : Operand} (O : Own w0 w bs) (k : Nat) {g : Nat} {t' : TypeId} {cs : List Value} (ds : List Value) (hk : bs[k]? = some (g, t', cs)) (hx : a.eval x = .pointer (some ⟨g, 0, none⟩))
    (hy : a.eval y = .agg ds.toArray) (hi : (P.info? t).map (·.size) = some ds.length) (hl : cs.length = ds.length) (h1 : ∀ v ∈ ds, v.oneCell' = true)
    (h : ∀ w1, Own w0 w1 (bs.set k (g, t', ds)) → wpList P ops Q rest (a.put dst undef) w1) : wpList P ops Q (⟨dst, .store t x y, ty, pos, after, none⟩ :: rest) a w :=
  wpList_plain rfl fun K hK => wp_put_own O k ds hk hx hy hi hl h1 fun w1 O' => hK _ _ (h w1 O')
/-- One cell. -/
theorem wp_cell_own {t : TypeId} {x : Operand} {gd : Option (Nat × Bool)} (O : Own w0 w bs) (k : Nat) {g i : Nat} {t' : TypeId} {cs : List Value} {v : Value} (hk : bs[k]? = some (g, t', cs)) (hv : cs[i]? = some v) (hx : a.eval x = .pointer (some ⟨g, i, none⟩))
    (hs : ∀ w, (isAgg t).run P w = .ok false w) (h1 : v.oneCell' = true) (h : K (a.put dst v) w) : Oper.wp P ⟨dst, .load t x, ty, pos, after, gd⟩ a w K Q := by
  have hc := O.cell k hk hv
  have hr : (loadVar t ⟨g, i, none⟩).run P w = .ok v w := by
    simp [loadVar, hs w, run_load, hc]
  unfold Oper.wp execOp
  simp only [hx, Instr.loadAt, Instr.sureAddr, Sem.run_bind, Sem.run_pure, Result.andThen_ok, hr]
  exact h
theorem wp_set_own {t : TypeId} {x y : Operand} {gd : Option (Nat × Bool)} (O : Own w0 w bs) (k : Nat) {g i : Nat} {t' : TypeId} {cs : List Value} (v : Value) (hk : bs[k]? = some (g, t', cs)) (hi : i < cs.length) (hx : a.eval x = .pointer (some ⟨g, i, none⟩))
    (hy : a.eval y = v) (hs : (P.info? t).map (·.size) = some 1) (h1 : v.oneCell' = true) (hcs : v.cells = #[v])
    (h : ∀ w1, Own w0 w1 (bs.set k (g, t', cs.set i v)) → K (a.put dst undef) w1) : Oper.wp P ⟨dst, .store t x y, ty, pos, after, gd⟩ a w K Q := by
  have hc := O.cell k hk (List.getElem?_eq_getElem hi)
  have hf := O.frozen k hk i
  have hst : (storeVar t ⟨g, i, none⟩ v).run P w = .ok () (w.setCell ⟨g, i, none⟩ v) := by
    cases hq : P.info? t with
    | none => simp [hq] at hs
    | some j =>
      have hj : j.size = 1 := by simpa [hq] using hs
      have ha : (⟨g, i, none⟩ : Addr).add 0 = ⟨g, i, none⟩ := Addr.add_zero' _
      have hst : (store ⟨g, i, none⟩ v).run P w = .ok () (w.setCell ⟨g, i, none⟩ v) := by
        rw [Go.run_store P w _ v _ h1, hc]
        simp [hf]
      simp [storeVar, sizeOf, typeInfo, hq, hj, hcs, storeCells, ha, hst]
  unfold Oper.wp execOp
  simp only [hx, hy, Instr.storeAt, Instr.sureAddr, Sem.run_bind, Sem.run_pure, Result.andThen_ok, hst]
  exact h _ (O.setCell k hk i v)
theorem wpList_set_own {t : TypeId} {x y : Operand} (O : Own w0 w bs) (k : Nat) {g i : Nat} {t' : TypeId} {cs : List Value} (v : Value) (hk : bs[k]? = some (g, t', cs)) (hi : i < cs.length) (hx : a.eval x = .pointer (some ⟨g, i, none⟩))
    (hy : a.eval y = v) (hs : (P.info? t).map (·.size) = some 1) (h1 : v.oneCell' = true) (hcs : v.cells = #[v])
    (h : ∀ w1, Own w0 w1 (bs.set k (g, t', cs.set i v)) → wpList P ops Q rest (a.put dst undef) w1) : wpList P ops Q (⟨dst, .store t x y, ty, pos, after, none⟩ :: rest) a w :=
  wpList_plain rfl fun K hK => wp_set_own O k v hk hi hx hy hs h1 hcs fun w1 O' => hK _ _ (h w1 O')
theorem at_box (d : Nat) {t : TypeId} {x : Operand} {gd : Option (Nat × Bool)} (h : wpList P ops Q (⟨some d, .box t x, ty, pos, after, gd⟩ :: rest) a w) : wpList P ops Q (⟨some d, .box t x, ty, pos, after, gd⟩ :: rest) a w := h
theorem at_alloc (d : Nat) {t : TypeId} {gd : Option (Nat × Bool)} (h : wpList P ops Q (⟨some d, .alloc t, ty, pos, after, gd⟩ :: rest) a w) : wpList P ops Q (⟨some d, .alloc t, ty, pos, after, gd⟩ :: rest) a w := h
theorem at_load (d : Nat) {t : TypeId} {x : Operand} {gd : Option (Nat × Bool)} (h : wpList P ops Q (⟨some d, .load t x, ty, pos, after, gd⟩ :: rest) a w) : wpList P ops Q (⟨some d, .load t x, ty, pos, after, gd⟩ :: rest) a w := h
theorem at_store (j : Nat) {t : TypeId} {y : Operand} {gd : Option (Nat × Bool)} (h : wpList P ops Q (⟨dst, .store t (.tmp j) y, ty, pos, after, gd⟩ :: rest) a w) : wpList P ops Q (⟨dst, .store t (.tmp j) y, ty, pos, after, gd⟩ :: rest) a w := h
theorem at_binOp (d : Nat) {op : BinOp} {t t' : TypeId} {x y : Operand} {gd : Option (Nat × Bool)} (h : wpList P ops Q (⟨some d, .binOp op t x y t', ty, pos, after, gd⟩ :: rest) a w) : wpList P ops Q (⟨some d, .binOp op t x y t', ty, pos, after, gd⟩ :: rest) a w := h
theorem at_build (d : Nat) {t : TypeId} {x : Array (Nat × Operand)} {gd : Option (Nat × Bool)} (h : wpList P ops Q (⟨some d, .build t x, ty, pos, after, gd⟩ :: rest) a w) : wpList P ops Q (⟨some d, .build t x, ty, pos, after, gd⟩ :: rest) a w := h
/-- A literal. -/
theorem wp_build_own {t : TypeId} {x : Array (Nat × Operand)} {gd : Option (Nat × Bool)} (l : List (Nat × Value)) (cs : Array Value) (hx : (x.map fun (i, y) => (i, a.eval y)).toList = l) (hb : P.built t l = some cs) (h : K (a.put dst (.agg cs)) w) :
    Oper.wp P ⟨dst, .build t x, ty, pos, after, gd⟩ a w K Q := by
  refine wp_build t x rfl ?_ ?_
  · rw [hx, hb]; rfl
  · rw [hx, hb]; exact h
theorem wpList_build_own {t : TypeId} {x : Array (Nat × Operand)} (l : List (Nat × Value)) (cs : Array Value) (hx : (x.map fun (i, y) => (i, a.eval y)).toList = l) (hb : P.built t l = some cs) (h : wpList P ops Q rest (a.put dst (.agg cs)) w) :
    wpList P ops Q (⟨dst, .build t x, ty, pos, after, none⟩ :: rest) a w :=
  wpList_plain rfl fun K hK => wp_build_own l cs hx hb (hK _ _ h)
/-- The address of an element, of one cell each. -/
theorem wp_index_own {t : TypeId} {x y : Operand} {gd : Option (Nat × Bool)} {n : Nat} {e : TypeId} (hu : P.underlying t = some (.array n e)) (hs : ∀ w, (sizeOf e).run P w = .ok 1 w) (hn : 1 < n) {g : Nat} {kd : IntKind} {z : Int} (i : Nat)
    (hx : a.eval x = .pointer (some ⟨g, 0, none⟩)) (hy : a.eval y = .int kd z) (hz : z = (i : Int)) (hi : i < n) (h : K (a.put dst (.pointer (some ⟨g, i, none⟩))) w) : Oper.wp P ⟨dst, .indexAddr t x y, ty, pos, after, gd⟩ a w K Q := by
  subst hz
  have hr : (Instr.indexAt t (.pointer (some ⟨g, 0, none⟩)) (.int kd i)).run P w = .ok (.pointer (some ⟨g, i, none⟩)) w := by
    have h1 : (0 : Int) ≤ i ∧ (i : Int) < n := by omega
    have ha : (⟨g, 0, none⟩ : Addr).add i = ⟨g, i, none⟩ := by unfold Addr.add; split <;> simp_all
    unfold Instr.indexAt
    simp [asIntOf, Sem.run_bind, run_underlying hu, Instr.sureAddr, hs w, ha, show ¬ n ≤ i by omega, show ¬ n ≤ 1 by omega]
  unfold Oper.wp execOp
  simp only [hx, hy, Sem.run_bind, hr, Result.andThen_ok]
  exact h
/-- A guarded load that is wanted. -/
theorem wpList_rowg_own {t : TypeId} {x : Operand} {gd : Option (Nat × Bool)} (hw : Region.wanted ⟨dst, .load t x, ty, pos, after, gd⟩ (yielded ops a.tmps) = true) (O : Own w0 w bs) (k : Nat) {g : Nat} {t' : TypeId} {cs : List Value} (hk : bs[k]? = some (g, t', cs)) (hx : a.eval x = .pointer (some ⟨g, 0, none⟩))
    {n : Nat} {e : TypeId} (hu : P.underlying t = some (.array n e)) (hi : (P.info? t).map (·.size) = some cs.length) (h : wpList P ops Q rest (a.put dst (.agg cs.toArray)) w) :
    wpList P ops Q (⟨dst, .load t x, ty, pos, after, gd⟩ :: rest) a w :=
  wpList_step fun K hK => by rw [if_pos hw]; exact wp_row_own O k hk hx hu hi (hK _ _ h)
/-- A function's one result, an array in a block of its own. -/
theorem res_cell {fn : Func} {p : Tmp} {t : TypeId} (h : fn.results = #[.cell p t]) {tmps : Array Value} (O : Own w0 w bs) (k : Nat) {g : Nat} {t' : TypeId} {cs : List Value} (hk : bs[k]? = some (g, t', cs))
    (hp : tmps.getD p undef = .pointer (some ⟨g, 0, none⟩)) {n : Nat} {e : TypeId} (hu : P.underlying t = some (.array n e)) (hi : (P.info? t).map (·.size) = some cs.length) :
    (results fn tmps).run P w = .ok (.agg cs.toArray) w :=
  results_cell_row h tmps w g t' cs.toArray (0, 0) _ hp (O.blk k hk) hu rfl (by simpa using hi)
/-- Two results, the first one an array in a block of its own. -/
theorem res_cell2 {fn : Func} {p u : Tmp} {t : TypeId} (h : fn.results = #[.cell p t, .tmp u]) {tmps : Array Value} (O : Own w0 w bs) (k : Nat) {g : Nat} {t' : TypeId} {cs : List Value} (hk : bs[k]? = some (g, t', cs))
    (hp : tmps.getD p undef = .pointer (some ⟨g, 0, none⟩)) {n : Nat} {e : TypeId} (hu : P.underlying t = some (.array n e)) (hi : (P.info? t).map (·.size) = some cs.length) {v : Value} (hv : tmps.getD u undef = v) :
    (results fn tmps).run P w = .ok (.tuple #[.agg cs.toArray, v]) w := by
  rw [results_cell_tmp h, hp]
  have := run_loadVar_row (P := P) w g t' t cs.toArray (0, 0) _ (O.blk k hk) hu rfl (by simpa using hi)
  simp only [asAddr, Sem.run_pure, Result.andThen_ok, this, hv]
end
end Go.Proofs.Ytndaijcgjhmiaaa
namespace Go.Proofs.Ytndaijcgjhmiaaa
open Go.RowKit
set_option linter.unusedVariables false

section
variable {P : Program} {ops : Array Oper} {Q : Exit → Act → World → Prop}
/-- Whether the block is there, and written. -/
def evA (sa : Nat) : Option (Nat × Bool) → Nat → Bool
  | none, _ => false
  | some (_, b), i => if i = sa then true else b
def ptrA : Option (Nat × Bool) → Value
  | none => undef
  | some (g, _) => .pointer (some ⟨g, 0, none⟩)
def SA (W : World) (bs : List (Nat × TypeId × List Value)) (t : TypeId) (z q : List Value) : Option (Nat × Bool) → World → Prop
  | none, w => Own W w bs
  | some (g, false), w => Own W w ((g, t, z) :: bs)
  | some (g, true), w => Own W w ((g, t, q) :: bs)
def TA (sa ss : Nat) (i : Nat) : Option (Nat × Bool) → Option (Nat × Bool) → Prop
  | none, some (g, false) => i = sa
  | some (g, false), some (g', true) => i = ss ∧ g' = g
  | _, _ => False
theorem Own.tail {w0 w : World} {x : Nat × TypeId × List Value} {bs : List (Nat × TypeId × List Value)} (h : Own w0 w (x :: bs)) : Own w0 w bs :=
  ⟨h.1, (List.nodup_cons.1 (by simpa using h.2.1)).2, fun y hy => h.2.2 y (List.mem_cons_of_mem _ hy)⟩
/-- What an operation does that knows nothing of the new block. -/
def DoesA (P : Program) (ops : Array Oper) (W : World) (bs : List (Nat × TypeId × List Value)) (F : Value → Act) (sa ss i : Nat) (v : Value) : Prop :=
  i = sa ∨ i = ss ∨ ∀ (ext : List (Nat × TypeId × List Value)), (∀ w, Own W w ext → Own W w bs) → ∀ p, Does P ops (fun w => Own W w ext) (F p) i v
def DoesAllA (P : Program) (ops : Array Oper) (W : World) (bs : List (Nat × TypeId × List Value)) (F : Value → Act) (sa ss : Nat) : Nat → List Value → Prop
  | i, v :: vs => DoesA P ops W bs F sa ss i v ∧ DoesAllA P ops W bs F sa ss (i + 1) vs
  | _, [] => True
theorem DoesAllA.get {W : World} {bs : List (Nat × TypeId × List Value)} {F : Value → Act} {sa ss : Nat} : ∀ {vs : List Value} {i : Nat}, DoesAllA P ops W bs F sa ss i vs → ∀ (j : Nat) (v : Value), vs[j]? = some v → DoesA P ops W bs F sa ss (i + j) v
  | [], _, _, _, _, h => by simp at h
  | u :: _, i, h, 0, v, hv => by
    have : u = v := by simpa using hv
    subst this
    exact h.1
  | _ :: _, i, h, j + 1, v, hv => by
    have := DoesAllA.get h.2 j v (by simpa using hv)
    rw [show i + (j + 1) = i + 1 + j by omega]
    exact this
theorem doesA_want {W : World} {bs : List (Nat × TypeId × List Value)} {F : Value → Act} {sa ss i : Nat} {o : Oper} {v : Value} (hi : ops[i]? = some o) (hw : ∀ p, Region.wanted o (yielded ops (F p).tmps) = true)
    (h : ∀ (ext : List (Nat × TypeId × List Value)), (∀ w, Own W w ext → Own W w bs) → ∀ p w, Own W w ext → ∀ K : Act → World → Prop, (∀ w', Own W w' ext → K ((F p).put o.dst v) w') → o.wp P (F p) w K noQ) : DoesA P ops W bs F sa ss i v :=
  .inr (.inr fun ext hx p => does_want hi (hw p) (h ext hx p))
theorem doesA_alloc {W : World} {bs : List (Nat × TypeId × List Value)} {F : Value → Act} {sa ss : Nat} {v : Value} : DoesA P ops W bs F sa ss sa v := .inl rfl
theorem doesA_store {W : World} {bs : List (Nat × TypeId × List Value)} {F : Value → Act} {sa ss : Nat} {v : Value} : DoesA P ops W bs F sa ss ss v := .inr (.inl rfl)
/-- Operation 'sa' lays the block, 'ss' writes it; vals are the values of all (of 'sa' any). -/
theorem region_A {id : Nat} {a0 : Act} {w0 : World} (W : World) (bs : List (Nat × TypeId × List Value)) (t : TypeId) (z q : List Value) (sa ss n : Nat) (ds : List (Option Tmp)) (vals : List Value) (rest : Nat)
    (hm : P.follows .mixedOrders = true) (hok : okV .any ops (List.range n) = true) (hds : (List.range n).map (dstOf ops) = ds) (hr : n + rest = ops.size) (hlen : vals.length = n) (hsa : sa < n) (hss : ss < n) (hne : sa ≠ ss)
    (hw : (ops[ss]?).map (fun o => (o.dst.isNone, waitsOn .any o sa)) = some (true, true)) (h0 : Own W w0.drew bs)
    (h : ∀ F : Value → Act, (∀ p, fillD ds (vals.set sa p) a0 = F p) → DoesAllA P ops W bs F sa ss 0 vals ∧
      (∃ o, ops[sa]? = some o ∧ Region.wanted o (yielded ops (F undef).tmps) = true ∧ ∀ w, Own W w bs → ∀ K : Act → World → Prop, (∀ g w', Own W w' ((g, t, z) :: bs) → K ((F undef).put o.dst (.pointer (some ⟨g, 0, none⟩))) w') → o.wp P (F undef) w K noQ) ∧
      (∃ o, ops[ss]? = some o ∧ (∀ g, Region.wanted o (yielded ops (F (.pointer (some ⟨g, 0, none⟩))).tmps) = true) ∧ ∀ g w, Own W w ((g, t, z) :: bs) → ∀ K : Act → World → Prop, (∀ w', Own W w' ((g, t, q) :: bs) → K ((F (.pointer (some ⟨g, 0, none⟩))).put o.dst undef) w') → o.wp P (F (.pointer (some ⟨g, 0, none⟩))) w K noQ) ∧
      ∀ g w, Own W w ((g, t, q) :: bs) → wpAny P .any ops Q rest (listedOf (List.range n) ops.size) (F (.pointer (some ⟨g, 0, none⟩))) w) :
    (Code.region id ops true).wp P Q a0 w0 := by
  obtain ⟨hsel, hnd, hlt, hdep, hsee, htail, hdst⟩ := okV_spec hok
  obtain ⟨hdo, ⟨oa, hoa, hwa, hda⟩, ⟨os, hos, hws, hds'⟩, hend⟩ := h _ (fun _ => rfl)
  rw [hos] at hw
  simp only [Option.map_some, Option.some.injEq, Prod.mk.injEq] at hw
  obtain ⟨hw1, hw2⟩ := hw
  have hosn : os.dst = none := by simpa using hw1
  refine wp_region_any hm ?_
  rw [← hr]
  subst hds
  have hat : ∀ (st : Option (Nat × Bool)) (i k : Nat), i < n → dstOf ops i = some k → ∀ v, (vals.set sa (ptrA st))[i]? = some v →
      (fillD ((List.range n).map (dstOf ops)) (vals.set sa (ptrA st)) a0).tmps[k]? = if k < (fillD ((List.range n).map (dstOf ops)) (vals.set sa (ptrA st)) a0).tmps.size then some v else none := by
    intro st i k hi hk v hv
    rw [fillD_at _ _ _ k i v (by simp [hi, hk]) hv (fun j hj hjk => ?_), fillD_size]
    rw [List.getElem?_map] at hjk
    by_cases hjn : j < n
    · rw [List.getElem?_range hjn] at hjk
      have : dstOf ops j = some k := by simpa using hjk
      exact hdst j (List.mem_range.2 hjn) i (hlt i (List.mem_range.2 hi)) hj k this hk
    · rw [List.getElem?_eq_none (by simpa using hjn)] at hjk
      simp at hjk
  refine region_G_go (S := SA W bs t z q) (F := fun st => fillD ((List.range n).map (dstOf ops)) (vals.set sa (ptrA st)) a0) (sp := [sa, ss]) (ev := evA sa) (T := TA sa ss) rfl hsel hlt hdep hsee htail hdst
    (fun _ => fillD_defers _ _ _) (fun _ => fillD_size _ _ _) (fun i hi => ?_) (fun i hi st hde hnot => ?_) (fun i hi st st' hT => ?_) (fun st w hS hE => ?_) n (List.range n) _ none a0 _ (by simp) hnd (fun _ h => h) ⟨by simp [hr], fun j hj => ?_⟩
    ⟨(fillD_defers _ _ _).symm, (fillD_size _ _ _).symm, fun k => ⟨fun _ => rfl, fun hno => ?_⟩⟩ h0 (fun i hi => ?_) (fun j hj hju => absurd hj hju)
  · simp only [List.mem_cons, List.not_mem_nil, or_false] at hi
    rcases hi with rfl | rfl
    · exact List.mem_range.2 hsa
    · exact List.mem_range.2 hss
  · have hi' := List.mem_range.1 hi
    by_cases e1 : i = sa
    · subst e1
      refine ⟨oa, fun st' => ptrA st', hoa, fun st' k hk => hat st' i k hi' hk _ (by simp [hlen, hi']), .inl ?_⟩
      have hst : st = none := by
        have := hnot (by simp)
        rcases st with _ | ⟨g, b⟩
        · rfl
        · simp [evA] at this
      subst hst
      refine ⟨hwa, fun w hS K hK => hda w hS K fun g w' O' => ?_⟩
      exact hK (some (g, false)) w' O' (by rw [if_pos (by simp)]; rfl)
    · by_cases e2 : i = ss
      · subst e2
        refine ⟨os, fun _ => undef, hos, fun st' k hk => ?_, .inl ?_⟩
        · simp [dstOf, hos, hosn] at hk
        · have h1 := hnot (by simp)
          have h2 := hde sa (by simp) os hos hw2
          rcases st with _ | ⟨g, b⟩
          · simp [evA] at h2
          · have hb : b = false := by simpa [evA, e1] using h1
            subst hb
            refine ⟨hws g, fun w hS K hK => hds' g w hS K fun w' O' => ?_⟩
            exact hK (some (g, true)) w' O' (by rw [if_pos (by simp)]; exact ⟨rfl, rfl⟩)
      · have hv : ∃ v, vals[i]? = some v := ⟨_, List.getElem?_eq_getElem (by rw [hlen]; exact hi')⟩
        obtain ⟨v, hv⟩ := hv
        have hd := hdo.get i v hv
        rw [Nat.zero_add] at hd
        rcases hd with h | h | hd
        · exact absurd h e1
        · exact absurd h e2
        have key : ∃ o, ops[i]? = some o ∧ ((Region.wanted o (yielded ops (fillD ((List.range n).map (dstOf ops)) (vals.set sa (ptrA st)) a0).tmps) = true ∧ ∀ w, SA W bs t z q st w → ∀ K : Act → World → Prop, (∀ w', SA W bs t z q st w' → K ((fillD ((List.range n).map (dstOf ops)) (vals.set sa (ptrA st)) a0).put o.dst v) w') → o.wp P (fillD ((List.range n).map (dstOf ops)) (vals.set sa (ptrA st)) a0) w K noQ) ∨
            (Region.wanted o (yielded ops (fillD ((List.range n).map (dstOf ops)) (vals.set sa (ptrA st)) a0).tmps) = false ∧ v = undef)) := by
          rcases st with _ | ⟨g, b⟩
          · obtain ⟨o, ho, hx⟩ := hd bs (fun _ h => h) (ptrA none)
            refine ⟨o, ho, hx.imp (fun h => h) (fun h => ⟨h.1, h.2.1⟩)⟩
          · cases b
            · obtain ⟨o, ho, hx⟩ := hd ((g, t, z) :: bs) (fun _ h => h.tail) (ptrA (some (g, false)))
              exact ⟨o, ho, hx.imp (fun h => h) (fun h => ⟨h.1, h.2.1⟩)⟩
            · obtain ⟨o, ho, hx⟩ := hd ((g, t, q) :: bs) (fun _ h => h.tail) (ptrA (some (g, true)))
              exact ⟨o, ho, hx.imp (fun h => h) (fun h => ⟨h.1, h.2.1⟩)⟩
        have hni : i ∉ [sa, ss] := by simp [e1, e2]
        obtain ⟨o, ho, hx⟩ := key
        refine ⟨o, fun _ => v, ho, fun st' k hk => hat st' i k hi' hk v (by rw [List.getElem?_set_ne (Ne.symm e1)]; exact hv), ?_⟩
        rcases hx with ⟨h1, h2⟩ | ⟨h1, h2⟩
        · exact .inl ⟨h1, fun w hS K hK => h2 w hS K fun w' hS' => hK st w' hS' (by rw [if_neg hni])⟩
        · exact .inr ⟨hni, h1, h2⟩
  · simp only [List.mem_cons, List.not_mem_nil, or_false] at hi
    rcases st with _ | ⟨g, b⟩ <;> rcases st' with _ | ⟨g', b'⟩
    · exact hT.elim
    · cases b'
      · have : i = sa := hT
        subst this
        refine ⟨by simp [evA], fun j hj hji => by simp [evA, hji], fun k => ?_⟩
        by_cases hk : dstOf ops i = some k
        · exact .inr (.inl hk)
        · refine .inl ?_
          by_cases hx : ∃ j, j < n ∧ dstOf ops j = some k
          · obtain ⟨j, hj, hjk⟩ := hx
            have hji : i ≠ j := fun e => hk (by rw [e]; exact hjk)
            have hv : ∃ v, vals[j]? = some v := ⟨_, List.getElem?_eq_getElem (by rw [hlen]; exact hj)⟩
            obtain ⟨v, hv⟩ := hv
            rw [hat (some (g', false)) j k hj hjk v (by rw [List.getElem?_set_ne hji]; exact hv), hat none j k hj hjk v (by rw [List.getElem?_set_ne hji]; exact hv), fillD_size, fillD_size]
          · rw [fillD_other _ _ _ _ (fun hm => ?_), fillD_other _ _ _ _ (fun hm => ?_)]
            all_goals
              obtain ⟨j, hj, hjk⟩ := List.mem_map.1 hm
              exact hx ⟨j, List.mem_range.1 hj, hjk⟩
      · exact hT.elim
    · cases b <;> exact hT.elim
    · cases b <;> cases b'
      · exact hT.elim
      · obtain ⟨h1, h2⟩ : i = ss ∧ g' = g := hT
        subst h1 h2
        exact ⟨by simp [evA], fun j hj hji => by
          simp only [List.mem_cons, List.not_mem_nil, or_false] at hj
          rcases hj with rfl | rfl
          · simp [evA]
          · exact absurd rfl hji, fun k => .inl rfl⟩
      · exact hT.elim
      · exact hT.elim
  · rcases st with _ | ⟨g, b⟩
    · have := hE sa (by simp)
      simp [evA] at this
    · have := hE ss (by simp)
      simp only [evA, if_neg (Ne.symm hne)] at this
      subst this
      exact hend g w hS
  · rw [Array.getD_eq_getD_getElem?]
    have : j < n + rest := by omega
    by_cases hj' : j < n <;> simp [this, hj']
  · exact (fillD_other _ _ _ _ (fun hm => by
      obtain ⟨i, hi, hik⟩ := List.mem_map.1 hm
      exact hno i hi hik)).symm
  · simp only [List.mem_cons, List.not_mem_nil, or_false] at hi
    rcases hi with rfl | rfl
    · simp [evA, hsa]
    · simp [evA, hss]
end
end Go.Proofs.Ytndaijcgjhmiaaa
namespace Go.Proofs.Ytndaijcgjhmiaaa
set_option linter.unusedVariables false

section
variable {P : Program} {ops : Array Oper} {Q : Exit → Act → World → Prop} {md : Region.Mode} {σ : Type}
/-- Operation i is one that operation j waits for, or one that such a one waits for, and so on. -/
def reach (md : Region.Mode) (ops : Array Oper) : Nat → Nat → Nat → Bool
  | 0, _, _ => false
  | n + 1, j, i => match ops[j]? with
    | some o => waitsOn md o i || o.after.any fun e => decide (i < e.on) && Region.binds md e && reach md ops n e.on i
    | none => false
theorem reach_edge {md : Region.Mode} {ops : Array Oper} {n i : Nat} {o : Oper} (h : (waitsOn md o i || o.after.any fun e => decide (i < e.on) && Region.binds md e && reach md ops n e.on i) = true) :
    ∃ e ∈ o.after, Region.binds md e = true ∧ (e.on = i ∨ reach md ops n e.on i = true) := by
  rcases Bool.or_eq_true _ _ ▸ h with h | h
  · obtain ⟨e, he, hb, hx⟩ := waitsOn_iff.1 h
    exact ⟨e, he, hb, .inl hx⟩
  · simp only [Array.any_eq_true', Bool.and_eq_true, decide_eq_true_eq] at h
    obtain ⟨e, he, ⟨_, hb⟩, hx⟩ := h
    exact ⟨e, he, hb, .inr hx⟩
theorem reach_closed {fs us : List Nat} {md : Region.Mode} {ops : Array Oper}
    (hdep : ∀ i ∈ fs, ∀ o, ops[i]? = some o → ∀ e ∈ o.after, Region.binds md e = true → e.on ∈ fs ∧ e.on < i)
    (hcl : ∀ j ∈ fs, j ∉ us → ∀ o, ops[j]? = some o → ∀ i ∈ us, waitsOn md o i = false) :
    ∀ (n j i : Nat), j ∈ fs → j ∉ us → reach md ops n j i = true → i ∉ us
  | 0, _, _, _, _, h => by simp [reach] at h
  | n + 1, j, i, hj, hju, h => by
    rw [reach] at h
    cases ho : ops[j]? with
    | none => rw [ho] at h; simp at h
    | some o =>
      rw [ho] at h
      obtain ⟨e, he, hb, hx⟩ := reach_edge h
      obtain ⟨h1, h2⟩ := hdep j hj o ho e he hb
      have h3 : e.on ∉ us := fun hu => by
        have := hcl j hj hju o ho e.on hu
        rw [← Bool.not_eq_true] at this
        exact this (waitsOn_iff.2 ⟨e, he, hb, rfl⟩)
      rcases hx with rfl | hx
      · exact h3
      · exact reach_closed hdep hcl n e.on i h1 h3 hx
theorem reach_lt {fs : List Nat} {md : Region.Mode} {ops : Array Oper}
    (hdep : ∀ i ∈ fs, ∀ o, ops[i]? = some o → ∀ e ∈ o.after, Region.binds md e = true → e.on ∈ fs ∧ e.on < i) :
    ∀ (n j i : Nat), j ∈ fs → reach md ops n j i = true → i < j
  | 0, _, _, _, h => by simp [reach] at h
  | n + 1, j, i, hj, h => by
    rw [reach] at h
    cases ho : ops[j]? with
    | none => rw [ho] at h; simp at h
    | some o =>
      rw [ho] at h
      obtain ⟨e, he, hb, hx⟩ := reach_edge h
      obtain ⟨h1, h2⟩ := hdep j hj o ho e he hb
      rcases hx with rfl | hx
      · exact h2
      · have := reach_lt hdep n e.on i h1 hx
        omega

theorem region_S_go {S : σ → World → Prop} {F : σ → Act} {sp : List Nat} {ev : σ → Nat → Bool} {T : Nat → σ → σ → Prop} {n0 rest : Nat} {fs : List Nat} {fu : Nat} {a0 : Act} (hn : ops.size = n0)
    (hsel : ∀ (j : Nat) (o : Oper) cs b, ops[j]? = some o → o.op ≠ .select cs b)
    (hlt : ∀ i ∈ fs, i < n0)
    (hdep : ∀ i ∈ fs, ∀ o, ops[i]? = some o → ∀ e ∈ o.after, Region.binds md e = true → e.on ∈ fs ∧ e.on < i)
    (hsee : ∀ i ∈ fs, ∀ o, ops[i]? = some o → ∀ t ∈ o.looksAt ops, ∀ j ∈ fs, dstOf ops j = some t → waitsOn md o j = true)
    (htail : ∀ j, j < n0 → j ∉ fs → ∀ i ∈ fs, reach md ops (fu + 1) j i = true) (hback : ∀ j, j < n0 → j ∉ fs → ∀ o, ops[j]? = some o → ∀ e ∈ o.after, Region.binds md e = true → e.on < n0)
    (hdst : ∀ i ∈ fs, ∀ j, j < n0 → i ≠ j → ∀ k, dstOf ops i = some k → dstOf ops j ≠ some k)
    (hF1 : ∀ st, (F st).defers = a0.defers) (hF2 : ∀ st, (F st).tmps.size = a0.tmps.size)
    (hsp : ∀ i ∈ sp, i ∈ fs)
    (hdo : ∀ i ∈ fs, ∀ st, (∀ j ∈ sp, reach md ops fu i j = true → ev st j = true) → (i ∈ sp → ev st i = false) →
      ∃ (o : Oper) (v : σ → Value), ops[i]? = some o ∧ (∀ st' k, dstOf ops i = some k → (F st').tmps[k]? = if k < (F st').tmps.size then some (v st') else none) ∧
        ((Region.wanted o (yielded ops (F st).tmps) = true ∧ ∀ w, S st w → ∀ K : Act → World → Prop, (∀ st' w', S st' w' → (if i ∈ sp then T i st st' else st' = st) → K ((F st).put o.dst (v st')) w') → o.wp P (F st) w K noQ) ∨
         (i ∉ sp ∧ Region.wanted o (yielded ops (F st).tmps) = false ∧ v st = undef)))
    (hT : ∀ i ∈ sp, ∀ st st', T i st st' → ev st' i = true ∧ (∀ j ∈ sp, j ≠ i → ev st' j = ev st j) ∧
      ∀ k, (F st').tmps[k]? = (F st).tmps[k]? ∨ dstOf ops i = some k ∨ ∃ j ∈ fs, dstOf ops j = some k ∧ reach md ops fu j i = true)
    (hend : ∀ st w, S st w → (∀ i ∈ sp, ev st i = true) → wpAny P md ops Q rest (listedOf fs n0) (F st) w) :
    ∀ (n : Nat) (us : List Nat) (listed : Array Bool) (st : σ) (a : Act) (w : World), us.length = n → us.Nodup → (∀ i ∈ us, i ∈ fs) → Lst fs us n0 listed → Way ops fs us a0 (F st) a → S st w →
      (∀ i ∈ sp, ev st i = !us.contains i) → (∀ j ∈ fs, j ∉ us → ∀ o, ops[j]? = some o → ∀ i ∈ us, waitsOn md o i = false) →
      wpAny P md ops Q (n + rest) listed a w := by
  intro n
  induction n with
  | zero =>
    intro us listed st a w hl _ _ hL hW hS hE _
    have : us = [] := List.eq_nil_of_length_eq_zero hl
    subst this
    rw [lst_end hL, Nat.zero_add]
    have ha : a = F st := by
      obtain ⟨t1, d1⟩ := a
      generalize F st = f at *
      obtain ⟨t2, d2⟩ := f
      obtain ⟨h1, h2, h3⟩ := hW
      simp only at h1 h2 h3
      subst h1
      congr 1
      apply Array.ext_getElem?
      intro k
      exact (h3 k).2 (fun j hj => by simp at hj)
    subst ha
    exact hend st w hS (fun i hi => by rw [hE i hi]; simp)
  | succ n ih =>
    intro us listed st a w hl hnd hsub hL hW hS hE hcl
    rw [show n + 1 + rest = (n + rest) + 1 by omega]
    -- the least one that has not come up is ready
    have hready : ∀ j, j ∈ Region.ready md ops listed ↔ (j < n0 ∧ ¬ (j ∈ fs ∧ j ∉ us)) ∧ ∃ o, ops[j]? = some o ∧ ∀ e ∈ o.after, Region.binds md e = true → listed.getD e.on false = true := by
      intro j
      rw [mem_ready]
      constructor
      · rintro ⟨h0, o, ho, h⟩
        have hj : j < n0 := by rw [← hn]; exact (Array.getElem?_eq_some_iff.1 ho).1
        have := hL.2 j hj
        rw [h0] at this
        refine ⟨⟨hj, fun ⟨h1, h2⟩ => ?_⟩, o, ho, h⟩
        simp [h1, h2] at this
      · rintro ⟨⟨hj, h1⟩, o, ho, h⟩
        refine ⟨?_, o, ho, h⟩
        rw [hL.2 j hj]
        by_cases h2 : j ∈ fs <;> by_cases h3 : j ∈ us <;> simp_all
    have hlisted : ∀ j, j ∈ fs → (listed.getD j false = true ↔ j ∉ us) := by
      intro j hj
      have hjn := hlt j hj
      have := hL.2 j hjn
      have hjs : j < listed.size := by rw [hL.1]; exact hjn
      rw [Array.getD_eq_getD_getElem?, Array.getElem?_eq_getElem hjs] at this ⊢
      simp only [Option.getD_some] at this ⊢
      rw [this]
      simp [hj]
    constructor
    · intro hnil
      exfalso
      have hne : us ≠ [] := by intro e; rw [e] at hl; simp at hl
      obtain ⟨m, hm, hmin⟩ : ∃ m ∈ us, ∀ j ∈ us, m ≤ j := by
        clear ih hl hnd hsub hL hW hready hlisted hnil hS hE hcl
        induction us with
        | nil => exact absurd rfl hne
        | cons x xs ih =>
          cases xs with
          | nil => exact ⟨x, List.mem_cons_self, fun j hj => by simp at hj; omega⟩
          | cons y ys =>
            obtain ⟨m, hm, hmin⟩ := ih (by simp)
            by_cases h : x ≤ m
            · exact ⟨x, List.mem_cons_self, fun j hj => by
                rcases List.mem_cons.1 hj with rfl | hj
                · exact Nat.le_refl _
                · exact Nat.le_trans h (hmin j hj)⟩
            · exact ⟨m, List.mem_cons_of_mem _ hm, fun j hj => by
                rcases List.mem_cons.1 hj with rfl | hj
                · omega
                · exact hmin j hj⟩
      have hmf := hsub m hm
      have hmn := hlt m hmf
      obtain ⟨o, ho⟩ : ∃ o, ops[m]? = some o := ⟨_, Array.getElem?_eq_getElem (by rw [hn]; exact hmn)⟩
      have : m ∈ Region.ready md ops listed := (hready m).2 ⟨⟨hmn, fun h => h.2 hm⟩, o, ho, fun e he hb => by
        have h := hdep m hmf o ho e he hb
        rw [hlisted e.on h.1]
        intro hu
        have := hmin e.on hu
        omega⟩
      rw [hnil] at this
      simp at this
    · intro i hi
      obtain ⟨⟨hin, hun⟩, o, ho, hall⟩ := (hready i).1 hi
      have hif : i ∈ fs := by
        apply Classical.byContradiction
        intro hnf
        obtain ⟨u, hu⟩ : ∃ u, u ∈ us := by
          cases us with
          | nil => simp at hl
          | cons x xs => exact ⟨x, List.mem_cons_self⟩
        have hre := htail i hin hnf u (hsub u hu)
        rw [reach, ho] at hre
        obtain ⟨e, he, hb, hx⟩ := reach_edge hre
        have hli := hall e he hb
        have hen : e.on < n0 := hback i hin hnf o ho e he hb
        by_cases hef : e.on ∈ fs
        · rw [hlisted e.on hef] at hli
          rcases hx with hx | hx
          · rw [hx] at hli
            exact hli hu
          · exact reach_closed hdep hcl fu e.on u hef hli hx hu
        · have h2 := hL.2 e.on hen
          have hes : e.on < listed.size := by rw [hL.1]; exact hen
          rw [Array.getD_eq_getD_getElem?, Array.getElem?_eq_getElem hes] at h2 hli
          simp only [Option.getD_some] at h2 hli
          rw [hli] at h2
          simp [hef] at h2
      have hiu : i ∈ us := by
        apply Classical.byContradiction
        intro h
        exact hun ⟨hif, h⟩
      have hdeps : ∀ j ∈ sp, reach md ops fu i j = true → ev st j = true := by
        intro j hj hw
        have hne : i ≠ j := by
          have := reach_lt hdep fu i j hif hw
          omega
        have : j ∉ us.erase i := reach_closed (us := us.erase i) hdep (fun x hx hxu ox hox y hy => by
          obtain ⟨hyi, hyu⟩ := (hnd.mem_erase_iff).1 hy
          by_cases hxi : x = i
          · subst hxi
            rw [ho] at hox
            injection hox with e
            subst e
            rw [← Bool.not_eq_true]
            intro hw
            obtain ⟨e, he, hb, heq⟩ := waitsOn_iff.1 hw
            have h1 := hall e he hb
            rw [heq, hlisted y (hsub y hyu)] at h1
            exact h1 hyu
          · exact hcl x hx (fun h => hxu ((hnd.mem_erase_iff).2 ⟨hxi, h⟩)) ox hox y hyu) fu i j hif (fun h => ((hnd.mem_erase_iff).1 h).1 rfl) hw
        rw [hE j hj]
        have hju : j ∉ us := fun h => this ((hnd.mem_erase_iff).2 ⟨Ne.symm hne, h⟩)
        simp [hju]
      have hnot : i ∈ sp → ev st i = false := fun h => by rw [hE i h]; simpa using hiu
      obtain ⟨o', v, ho', hv, hd⟩ := hdo i hif st hdeps hnot
      have : o' = o := by rw [ho] at ho'; injection ho' with h; exact h.symm
      subst this
      -- what the operation looks at
      have look : ∀ t ∈ o'.looksAt ops, a.tmps[t]? = (F st).tmps[t]? := by
        intro t ht
        by_cases hx : ∃ j ∈ us, dstOf ops j = some t
        · obtain ⟨j, hj, hjd⟩ := hx
          obtain ⟨e, he, hb, heq⟩ := waitsOn_iff.1 (hsee i hif o' ho t ht j (hsub j hj) hjd)
          have := hall e he hb
          rw [heq, hlisted j (hsub j hj)] at this
          exact absurd hj this
        · exact (hW.2.2 t).2 (fun j hj h => hx ⟨j, hj, h⟩)
      have hexec : execOp a.eval o' = execOp (F st).eval o' := execOp_congr o' (fun cs b => hsel i o' cs b ho) (fun x hx => by
        cases x with
        | tmp t =>
          have := look t (List.mem_append_left _ (List.mem_filterMap.2 ⟨.tmp t, by simpa using hx, rfl⟩))
          simp only [Act.eval, Array.getD_eq_getD_getElem?, this]
        | _ => rfl)
      have hwant : Region.wanted o' (yielded ops a.tmps) = Region.wanted o' (yielded ops (F st).tmps) := by
        unfold Region.wanted
        cases hg : o'.guard with
        | none => rfl
        | some gw =>
          obtain ⟨g, want⟩ := gw
          have hy : yielded ops a.tmps g = yielded ops (F st).tmps g := by
            unfold yielded
            cases ht : (ops[g]?).bind (·.dst) with
            | none => rfl
            | some t =>
              have := look t (List.mem_append_right _ (by simp [hg, ht]))
              simp only [Option.bind_some, this]
          simp only [hy]
      have hdi : dstOf ops i = o'.dst := by simp [dstOf, ho]
      have hself : waitsOn md o' i = false := by
        rw [← Bool.not_eq_true]
        intro hw
        obtain ⟨e, he, hb, heq⟩ := waitsOn_iff.1 hw
        have := (hdep i hif o' ho e he hb).2
        omega
      -- the way goes on
      have next : ∀ u st', (F st).put o'.dst u = (F st).put o'.dst (v st') → (if i ∈ sp then T i st st' else st' = st) → ∀ w', S st' w' → wpAny P md ops Q (n + rest) (listed.setIfInBounds i true) (a.put o'.dst u) w' := by
        intro u st' hu hTr w' hS'
        have hco : ∀ k, (F st').tmps[k]? = (F st).tmps[k]? ∨ dstOf ops i = some k ∨ ∃ j ∈ fs, dstOf ops j = some k ∧ reach md ops fu j i = true := by
          intro k
          by_cases his : i ∈ sp
          · rw [if_pos his] at hTr
            exact (hT i his st st' hTr).2.2 k
          · rw [if_neg his] at hTr
            subst hTr
            exact .inl rfl
        refine ih (us.erase i) _ st' _ w' (by rw [List.length_erase_of_mem hiu]; omega) (hnd.erase i) (fun j hj => hsub j (List.mem_of_mem_erase hj)) ⟨by simpa using hL.1, fun j hj => ?_⟩ ⟨?_, ?_, fun k => ⟨?_, ?_⟩⟩ hS' ?_ ?_
        · by_cases hij : i = j
          · subst hij
            rw [Array.getD_eq_getD_getElem?, Array.getElem?_setIfInBounds_self_of_lt (by rw [hL.1]; exact hj)]
            have : i ∉ us.erase i := fun h => ((hnd.mem_erase_iff).1 h).1 rfl
            simp [hif, this]
          · rw [getD_set_ne true hij, hL.2 j hj]
            have : j ∈ us.erase i ↔ j ∈ us := by rw [hnd.mem_erase_iff]; simp [Ne.symm hij]
            by_cases h : j ∈ us <;> simp [h, this]
        · rw [put_defers', hW.1, hF1, hF1]
        · rw [put_size, hW.2.1, hF2, hF2]
        · rintro ⟨j, hj, hjk⟩
          obtain ⟨h1, h2⟩ := (hnd.mem_erase_iff).1 hj
          rw [put_other a u (by rw [← hdi]; intro h; exact hdst i hif j (hlt j (hsub j h2)) (Ne.symm h1) k h hjk)]
          exact (hW.2.2 k).1 ⟨j, h2, hjk⟩
        · intro hno
          by_cases hk : o'.dst = some k
          · have h1 := hv st' k (by rw [hdi]; exact hk)
            have h2 : ((F st).put (some k) u).tmps[k]? = ((F st).put (some k) (v st')).tmps[k]? := by rw [← hk, hu]
            rw [put_same, put_same] at h2
            rw [hk, put_same, h1, hW.2.1, hF2, hF2]
            rw [hF2] at h2
            exact h2
          · rw [put_other a u hk]
            have h0 : a.tmps[k]? = (F st).tmps[k]? := (hW.2.2 k).2 (fun j hj hjk => by
              by_cases hij : j = i
              · subst hij; rw [hdi] at hjk; exact hk hjk
              · exact hno j ((hnd.mem_erase_iff).2 ⟨hij, hj⟩) hjk)
            rcases hco k with h | h | ⟨j, hj, hjk, hw⟩
            · rw [h0, h]
            · rw [hdi] at h; exact absurd h hk
            · exfalso
              by_cases hju : j ∈ us
              · have hji : j ≠ i := by
                  intro e
                  subst e
                  have := reach_lt hdep fu j j hj hw
                  omega
                exact hno j ((hnd.mem_erase_iff).2 ⟨hji, hju⟩) hjk
              · exact reach_closed hdep hcl fu j i hj hju hw hiu
        · intro j hj
          by_cases hji : j = i
          · subst hji
            rw [if_pos hj] at hTr
            rw [(hT j hj st st' hTr).1]
            have : j ∉ us.erase j := fun h => ((hnd.mem_erase_iff).1 h).1 rfl
            simp [this]
          · have h1 : ev st' j = ev st j := by
              by_cases his : i ∈ sp
              · rw [if_pos his] at hTr
                exact (hT i his st st' hTr).2.1 j hj hji
              · rw [if_neg his] at hTr
                rw [hTr]
            rw [h1, hE j hj]
            have : j ∈ us.erase i ↔ j ∈ us := by rw [hnd.mem_erase_iff]; simp [hji]
            by_cases h : j ∈ us <;> simp [h, this]
        · intro j hj hju oj hoj x hx
          obtain ⟨hxi, hxu⟩ := (hnd.mem_erase_iff).1 hx
          by_cases hji : j = i
          · subst hji
            rw [ho] at hoj
            injection hoj with e
            subst e
            rw [← Bool.not_eq_true]
            intro hw
            obtain ⟨e, he, hb, heq⟩ := waitsOn_iff.1 hw
            have h1 := hall e he hb
            rw [heq, hlisted x (hsub x hxu)] at h1
            exact h1 hxu
          · exact hcl j hj (fun h => hju ((hnd.mem_erase_iff).2 ⟨hji, h⟩)) oj hoj x hxu
      unfold wpOp
      simp only [ho, hwant]
      rcases hd with ⟨hw, hd⟩ | ⟨hns, hw, hvu⟩
      · rw [if_pos hw]
        refine .inl ?_
        have h := hd w hS (fun a' w' => ∃ st', S st' w' ∧ (if i ∈ sp then T i st st' else st' = st) ∧ a' = (F st).put o'.dst (v st')) (fun st' w' h1 h2 => ⟨st', h1, h2, rfl⟩)
        unfold Oper.wp at *
        rw [hexec]
        generalize (execOp (F st).eval o').run P w = r at *
        cases r with
        | ok x w' =>
          cases x <;> simp only [Oper.upon] at h ⊢
          case value u => obtain ⟨st', h1, h2, h3⟩ := h; exact next u st' h3 h2 w' h1
          case skip => obtain ⟨st', h1, h2, h3⟩ := h; exact next undef st' h3 h2 w' h1
          case defer d =>
            exfalso
            obtain ⟨st', h1, h2, h3⟩ := h
            have := congrArg Act.defers h3
            rw [put_defers', put_defers'] at this
            exact absurd (congrArg List.length this) (by simp)
          case enter f args =>
            refine Calls.mono h fun e w'' he => ?_
            cases e with
            | returned u => obtain ⟨st', h1, h2, h3⟩ := he; exact next u st' h3 h2 w'' h1
            | panicked c => exact he.elim
            | outgrown => obtain ⟨_, _, hf⟩ := he; exact hf.elim
          case row row args => exact Rows.mono h fun u w'' he => by obtain ⟨st', h1, h2, h3⟩ := he; exact next u st' h3 h2 w'' h1
        | halt x w' =>
          cases x <;> simp only [Oper.upon] at h ⊢
          case panic u => exact h.elim
      · rw [if_neg (by simp [hw])]
        exact next undef st (by rw [hvu]) (by rw [if_neg hns]) w hS
/-- The values of those that have come up. -/
def seen (st : Nat → Option Value) (i : Nat) : Value := (st i).getD undef
def upd (st : Nat → Option Value) (i : Nat) (v : Value) (j : Nat) : Option Value := if j = i then some v else st j
def updV (g : Nat → Value) (i : Nat) (v : Value) (j : Nat) : Value := if j = i then v else g j
theorem seen_upd (st : Nat → Option Value) (i : Nat) (v : Value) : seen (upd st i v) = updV (seen st) i v := by
  funext j
  unfold seen upd updV
  split <;> rfl
theorem upd_same (st : Nat → Option Value) (i : Nat) (v : Value) : upd st i v i = some v := if_pos rfl
theorem upd_other (st : Nat → Option Value) {i j : Nat} (v : Value) (h : j ≠ i) : upd st i v j = st j := if_neg h
/-- What an operation does that is none of sp. -/
def DoesN (P : Program) (ops : Array Oper) (S : (Nat → Option Value) → World → Prop) (F : (Nat → Value) → Act) (vals : (Nat → Value) → List Value) (sp : List Nat) (fu i : Nat) : Prop :=
  i ∉ sp ∧ ∀ st, (∀ j ∈ sp, reach .any ops fu i j = true → (st j).isSome = true) → ∃ o, ops[i]? = some o ∧
    ((Region.wanted o (yielded ops (F (seen st)).tmps) = true ∧ ∀ w, S st w → ∀ K : Act → World → Prop, (∀ w', S st w' → K ((F (seen st)).put o.dst ((vals (seen st)).getD i undef)) w') → o.wp P (F (seen st)) w K noQ) ∨
     (Region.wanted o (yielded ops (F (seen st)).tmps) = false ∧ (vals (seen st)).getD i undef = undef))
/-- What one of sp does. -/
def DoesC (P : Program) (ops : Array Oper) (S : (Nat → Option Value) → World → Prop) (F : (Nat → Value) → Act) (sp : List Nat) (fu i : Nat) : Prop :=
  i ∈ sp ∧ ∀ st, (∀ j ∈ sp, reach .any ops fu i j = true → (st j).isSome = true) → st i = none → ∃ o, ops[i]? = some o ∧
    Region.wanted o (yielded ops (F (seen st)).tmps) = true ∧ ∀ w, S st w → ∀ K : Act → World → Prop, (∀ v w', S (upd st i v) w' → K ((F (seen st)).put o.dst v) w') → o.wp P (F (seen st)) w K noQ
def DoesAllS (P : Program) (ops : Array Oper) (S : (Nat → Option Value) → World → Prop) (F : (Nat → Value) → Act) (vals : (Nat → Value) → List Value) (sp : List Nat) (fu : Nat) : Nat → Nat → Prop
  | i, n + 1 => (DoesN P ops S F vals sp fu i ∨ DoesC P ops S F sp fu i) ∧ DoesAllS P ops S F vals sp fu (i + 1) n
  | _, 0 => True
theorem DoesAllS.get {S : (Nat → Option Value) → World → Prop} {F : (Nat → Value) → Act} {vals : (Nat → Value) → List Value} {sp : List Nat} {fu : Nat} : ∀ {n i : Nat}, DoesAllS P ops S F vals sp fu i n → ∀ j, j < n → DoesN P ops S F vals sp fu (i + j) ∨ DoesC P ops S F sp fu (i + j)
  | _ + 1, _, h, 0, _ => h.1
  | n + 1, i, h, j + 1, hj => by
    have := DoesAllS.get h.2 j (by omega)
    rw [show i + (j + 1) = i + 1 + j by omega]
    exact this
theorem doesN_want {S : (Nat → Option Value) → World → Prop} {F : (Nat → Value) → Act} {vals : (Nat → Value) → List Value} {sp : List Nat} {fu i : Nat} {o : Oper} (hs : i ∉ sp) (hi : ops[i]? = some o) (hw : ∀ g, Region.wanted o (yielded ops (F g).tmps) = true)
    (h : ∀ st w, S st w → (∀ j ∈ sp, reach .any ops fu i j = true → (st j).isSome = true) → ∀ K : Act → World → Prop, (∀ w', S st w' → K ((F (seen st)).put o.dst ((vals (seen st)).getD i undef)) w') → o.wp P (F (seen st)) w K noQ) :
    DoesN P ops S F vals sp fu i ∨ DoesC P ops S F sp fu i := .inl ⟨hs, fun st hp => ⟨o, hi, .inl ⟨hw _, fun w hS K hK => h st w hS hp K hK⟩⟩⟩
theorem doesN_skip {S : (Nat → Option Value) → World → Prop} {F : (Nat → Value) → Act} {vals : (Nat → Value) → List Value} {sp : List Nat} {fu i : Nat} {o : Oper} (hs : i ∉ sp) (hi : ops[i]? = some o) (hw : ∀ g, Region.wanted o (yielded ops (F g).tmps) = false)
    (hv : ∀ g, (vals g).getD i undef = undef) : DoesN P ops S F vals sp fu i ∨ DoesC P ops S F sp fu i := .inl ⟨hs, fun st hp => ⟨o, hi, .inr ⟨hw _, hv _⟩⟩⟩
theorem doesC_want {S : (Nat → Option Value) → World → Prop} {F : (Nat → Value) → Act} {vals : (Nat → Value) → List Value} {sp : List Nat} {fu i : Nat} {o : Oper} (hs : i ∈ sp) (hi : ops[i]? = some o) (hw : ∀ g, Region.wanted o (yielded ops (F g).tmps) = true)
    (h : ∀ st w, S st w → st i = none → (∀ j ∈ sp, reach .any ops fu i j = true → (st j).isSome = true) → ∀ K : Act → World → Prop, (∀ v w', S (upd st i v) w' → K ((F (seen st)).put o.dst v) w') → o.wp P (F (seen st)) w K noQ) :
    DoesN P ops S F vals sp fu i ∨ DoesC P ops S F sp fu i := .inr ⟨hs, fun st hp hn => ⟨o, hi, hw _, fun w hS K hK => h st w hS hn hp K hK⟩⟩
/-- Alike at these places. -/
def farEq (a b : List Value) : List Nat → Prop
  | [] => True
  | j :: js => a[j]? = b[j]? ∧ farEq a b js
theorem farEq.get {a b : List Value} : ∀ {js : List Nat}, farEq a b js → ∀ j ∈ js, a[j]? = b[j]?
  | _ :: _, h, j, hj => by
    rcases List.mem_cons.1 hj with rfl | hj
    · exact h.1
    · exact farEq.get h.2 j hj
  | [], _, _, hj => absurd hj List.not_mem_nil

/-- The operations fs come up ahead of all others, each reads what those hand it that it waits for, and nobody else's slot. -/
def okS (ops : Array Oper) (fs : List Nat) (fu : Nat) : Bool :=
  Region.noSelect ops && decide fs.Nodup && fs.all (fun i => decide (i < ops.size)) &&
  fs.all (fun i => match ops[i]? with
    | some o => o.after.all (fun e => !Region.binds .any e || (fs.contains e.on && decide (e.on < i))) &&
      (o.looksAt ops).all (fun t => fs.all fun j => dstOf ops j != some t || waitsOn .any o j)
    | none => false) &&
  (List.range ops.size).all (fun j => fs.contains j || (fs.all (fun i => reach .any ops (fu + 1) j i) && match ops[j]? with | some o => o.after.all (fun e => decide (e.on < ops.size)) | none => false)) &&
  fs.all (fun i => (List.range ops.size).all fun j => i == j || dstOf ops i == none || dstOf ops i != dstOf ops j)
theorem okS_spec {fs : List Nat} {fu : Nat} (h : okS ops fs fu = true) :
    (∀ (j : Nat) (o : Oper) cs b, ops[j]? = some o → o.op ≠ .select cs b) ∧ fs.Nodup ∧ (∀ i ∈ fs, i < ops.size) ∧
    (∀ i ∈ fs, ∀ o, ops[i]? = some o → ∀ e ∈ o.after, Region.binds .any e = true → e.on ∈ fs ∧ e.on < i) ∧
    (∀ i ∈ fs, ∀ o, ops[i]? = some o → ∀ t ∈ o.looksAt ops, ∀ j ∈ fs, dstOf ops j = some t → waitsOn .any o j = true) ∧
    (∀ j, j < ops.size → j ∉ fs → ∀ i ∈ fs, reach .any ops (fu + 1) j i = true) ∧ (∀ j, j < ops.size → j ∉ fs → ∀ o, ops[j]? = some o → ∀ e ∈ o.after, Region.binds .any e = true → e.on < ops.size) ∧
    (∀ i ∈ fs, ∀ j, j < ops.size → i ≠ j → ∀ k, dstOf ops i = some k → dstOf ops j ≠ some k) := by
  unfold okS at h
  simp only [Bool.and_eq_true] at h
  obtain ⟨⟨⟨⟨⟨h1, h2⟩, h3⟩, h4⟩, h5⟩, h6⟩ := h
  rw [decide_eq_true_eq] at h2
  simp only [List.all_eq_true, List.mem_range, decide_eq_true_eq] at h3 h4 h5 h6
  refine ⟨fun j o cs b ho => Region.noSelect_spec h1 j o cs b ho, h2, h3, fun i hi o ho e he hb => ?_, fun i hi o ho t ht j hj hd => ?_, fun j hj hn i hi => ?_, fun j hj hn o ho e he hb => ?_, fun i hi j hj hne k hk hk' => ?_⟩
  · have := h4 i hi
    rw [ho] at this
    simp only [Bool.and_eq_true, Array.all_eq_true_iff_forall_mem] at this
    have := this.1 e he
    simpa [hb] using this
  · have := h4 i hi
    rw [ho] at this
    simp only [Bool.and_eq_true, List.all_eq_true] at this
    have := this.2 t ht j hj
    simpa [hd] using this
  · have := h5 j hj
    rw [Bool.or_eq_true] at this
    rcases this with h | h
    · simp [hn] at h
    · simp only [Bool.and_eq_true, List.all_eq_true] at h
      exact h.1 i hi
  · have := h5 j hj
    rw [Bool.or_eq_true] at this
    rcases this with h | h
    · simp [hn] at h
    · rw [ho] at h
      simp only [Bool.and_eq_true, Array.all_eq_true_iff_forall_mem, decide_eq_true_eq] at h
      exact h.2 e he
  · have := h6 i hi j hj
    simp [hk, hk', hne] at this

theorem region_S {id : Nat} {a0 : Act} {w0 : World} (S : (Nat → Option Value) → World → Prop) (sp : List Nat) (fu n : Nat) (ds : List (Option Tmp)) (vals : (Nat → Value) → List Value) (rest : Nat)
    (hm : P.follows .mixedOrders = true) (hok : okS ops (List.range n) fu = true) (hds : (List.range n).map (dstOf ops) = ds) (hr : n + rest = ops.size) (hlen : ∀ g, (vals g).length = n) (hsp : ∀ i ∈ sp, i < n)
    (hval : ∀ i ∈ sp, (∀ g, (vals g)[i]? = some (g i)) ∧ ∃ far : List Nat, ((List.range n).all fun j => far.contains j || j == i || reach .any ops fu j i) = true ∧ ∀ g v, farEq (vals (updV g i v)) (vals g) far) (h0 : S (fun _ => none) w0.drew)
    (h : ∀ F : (Nat → Value) → Act, (∀ g, fillD ds (vals g) a0 = F g) → DoesAllS P ops S F vals sp fu 0 n ∧ ∀ st w, S st w → (∀ i ∈ sp, (st i).isSome = true) → wpAny P .any ops Q rest (listedOf (List.range n) ops.size) (F (seen st)) w) :
    (Code.region id ops true).wp P Q a0 w0 := by
  obtain ⟨hsel, hnd, hlt, hdep, hsee, htail, hback, hdst⟩ := okS_spec hok
  obtain ⟨hdo, hend⟩ := h _ (fun _ => rfl)
  refine wp_region_any hm ?_
  rw [← hr]
  subst hds
  have hat : ∀ (g : Nat → Value) (i k : Nat), i < n → dstOf ops i = some k → ∀ v, (vals g)[i]? = some v →
      (fillD ((List.range n).map (dstOf ops)) (vals g) a0).tmps[k]? = if k < (fillD ((List.range n).map (dstOf ops)) (vals g) a0).tmps.size then some v else none := by
    intro g i k hi hk v hv
    rw [fillD_at _ _ _ k i v (by simp [hi, hk]) hv (fun j hj hjk => ?_), fillD_size]
    rw [List.getElem?_map] at hjk
    by_cases hjn : j < n
    · rw [List.getElem?_range hjn] at hjk
      have : dstOf ops j = some k := by simpa using hjk
      exact hdst j (List.mem_range.2 hjn) i (hlt i (List.mem_range.2 hi)) hj k this hk
    · rw [List.getElem?_eq_none (by simpa using hjn)] at hjk
      simp at hjk
  have hget : ∀ (g : Nat → Value) (i : Nat), i < n → (vals g)[i]? = some ((vals g).getD i undef) := by
    intro g i hi
    have : i < (vals g).length := by rw [hlen]; exact hi
    simp [List.getD, List.getElem?_eq_getElem this]
  refine region_S_go (S := S) (F := fun st => fillD ((List.range n).map (dstOf ops)) (vals (seen st)) a0) (sp := sp) (ev := fun st i => (st i).isSome) (T := fun i st st' => st i = none ∧ ∃ v, st' = upd st i v) (fu := fu) rfl hsel hlt hdep hsee htail hback hdst
    (fun _ => fillD_defers _ _ _) (fun _ => fillD_size _ _ _) (fun i hi => List.mem_range.2 (hsp i hi)) (fun i hi st hde hnot => ?_) (fun i hi st st' hT => ?_) (fun st w hS hE => hend st w hS hE) n (List.range n) _ (fun _ => none) a0 _ (by simp) hnd (fun _ h => h) ⟨by simp [hr], fun j hj => ?_⟩
    ⟨(fillD_defers _ _ _).symm, (fillD_size _ _ _).symm, fun k => ⟨fun _ => rfl, fun hno => ?_⟩⟩ h0 (fun i hi => ?_) (fun j hj hju => absurd hj hju)
  · have hin : i < n := List.mem_range.1 hi
    have hd := hdo.get i hin
    rw [Nat.zero_add] at hd
    rcases hd with ⟨hns, hd⟩ | ⟨his, hd⟩
    · obtain ⟨o, ho, hx⟩ := hd st hde
      refine ⟨o, fun st' => (vals (seen st')).getD i undef, ho, fun st' k hk => hat _ i k hin hk _ (hget _ i hin), ?_⟩
      rcases hx with ⟨hw, hx⟩ | ⟨hw, hx⟩
      · refine .inl ⟨hw, fun w hS K hK => hx w hS K (fun w' hS' => hK st w' hS' ?_)⟩
        rw [if_neg hns]
      · exact .inr ⟨hns, hw, hx⟩
    · have hnone : st i = none := by
        have := hnot his
        simpa using this
      obtain ⟨o, ho, hw, hx⟩ := hd st hde hnone
      refine ⟨o, fun st' => (vals (seen st')).getD i undef, ho, fun st' k hk => hat _ i k hin hk _ (hget _ i hin), .inl ⟨hw, fun w hS K hK => hx w hS K (fun v w' hS' => ?_)⟩⟩
      have h1 := hK (upd st i v) w' hS' (by rw [if_pos his]; exact ⟨hnone, v, rfl⟩)
      have h2 : (vals (seen (upd st i v))).getD i undef = v := by
        have := (hval i his).1 (seen (upd st i v))
        rw [hget _ i hin] at this
        have h3 : seen (upd st i v) i = v := by simp [seen, upd]
        rw [h3] at this
        exact Option.some.inj this
      dsimp only at h1
      rw [h2] at h1
      exact h1
  · obtain ⟨hnone, v, rfl⟩ := hT
    refine ⟨by simp [upd], fun j hj hji => by simp [upd, hji], fun k => ?_⟩
    by_cases hk : dstOf ops i = some k
    · exact .inr (.inl hk)
    · by_cases hx : ∃ j, j < n ∧ dstOf ops j = some k
      · obtain ⟨j, hj, hjk⟩ := hx
        have hji : j ≠ i := fun e => hk (by rw [← e]; exact hjk)
        by_cases hre : reach .any ops fu j i = true
        · exact .inr (.inr ⟨j, List.mem_range.2 hj, hjk, hre⟩)
        · refine .inl ?_
          obtain ⟨far, hfar, hfe⟩ := (hval i hi).2
          have hm2 : j ∈ far := by
            have := List.all_eq_true.1 hfar j (List.mem_range.2 hj)
            simpa [hji, hre] using this
          have e2 := (hfe (seen st) v).get j hm2
          rw [hat _ j k hj hjk _ (hget _ j hj), hat _ j k hj hjk _ (hget _ j hj), fillD_size, fillD_size, seen_upd]
          rw [hget _ j hj, hget _ j hj] at e2
          rw [Option.some.inj e2]
      · refine .inl ?_
        rw [fillD_other _ _ _ _ (fun hm => ?_), fillD_other _ _ _ _ (fun hm => ?_)]
        all_goals
          obtain ⟨j, hj, hjk⟩ := List.mem_map.1 hm
          exact hx ⟨j, List.mem_range.1 hj, hjk⟩
  · rw [Array.getD_eq_getD_getElem?]
    have : j < n + rest := by omega
    by_cases hj' : j < n <;> simp [this, hj']
  · exact (fillD_other _ _ _ _ (fun hm => by
      obtain ⟨i, hi, hik⟩ := List.mem_map.1 hm
      exact hno i hi hik)).symm
  · have : i ∈ List.range n := List.mem_range.2 (hsp i hi)
    simp [this]
/-- The same where no value hangs on the order. -/
theorem region_T {id : Nat} {a0 : Act} {w0 : World} (S : World → Prop) (fs : List Nat) (fu : Nat) (ds : List (Option Tmp)) (vals : List Value) (rest : Nat)
    (hm : P.follows .mixedOrders = true) (hfs : fs = List.range fs.length) (hok : okS ops fs fu = true) (hds : fs.map (dstOf ops) = ds) (hr : fs.length + rest = ops.size) (h0 : S w0.drew)
    (h : ∀ F, fillD ds vals a0 = F → DoesAll P ops S F fs vals ∧ ∀ w, S w → wpAny P .any ops Q rest (listedOf fs ops.size) F w) :
    (Code.region id ops true).wp P Q a0 w0 := by
  obtain ⟨n, hn⟩ : ∃ n, fs.length = n := ⟨_, rfl⟩
  rw [hn] at hfs hr
  subst hfs
  have hlen : vals.length = n := by
    have := (h _ rfl).1.len
    simpa using this.symm
  refine region_S (fun _ w => S w) [] fu n ds (fun _ => vals) rest hm hok hds hr (fun _ => hlen) (by simp) (by simp) h0 (fun F hF => ?_)
  have hF2 : F = fun _ => fillD ds vals a0 := funext fun g => (hF g).symm
  subst hF2
  obtain ⟨hdo, hend⟩ := h _ rfl
  refine ⟨?_, fun st w hS _ => hend w hS⟩
  have all : ∀ m i, i + m = n → DoesAllS P ops (fun _ w => S w) (fun _ => fillD ds vals a0) (fun _ => vals) [] fu i m := by
    intro m
    induction m with
    | zero => exact fun _ _ => trivial
    | succ m ih =>
      intro i hi
      refine ⟨.inl ⟨by simp, fun st _ => ?_⟩, ih (i + 1) (by omega)⟩
      obtain ⟨v, hv, o, ho, hd⟩ := hdo.get i i (by simp [List.getElem?_range (show i < n by omega)])
      have hvd : vals.getD i undef = v := by simp [List.getD, hv]
      refine ⟨o, ho, ?_⟩
      rw [hvd]
      rcases hd with ⟨h1, h2⟩ | ⟨h1, h2, h3⟩
      · exact .inl ⟨h1, h2⟩
      · exact .inr ⟨h1, h2⟩
  exact all n 0 (by omega)
end
end Go.Proofs.Ytndaijcgjhmiaaa
namespace Go.Proofs.Ytndaijcgjhmiaaa
open Go.ChangeShapes Go.WideShapes Go.ChangeAt Go.RowKit
set_option linter.unusedVariables false
set_option linter.unusedSimpArgs false

theorem add_add' (a : Addr) (i j : Nat) : (a.add i).add j = a.add (i + j) := by
  unfold Addr.add
  by_cases hi : i = 0
  · subst hi; simp
  · by_cases hj : j = 0
    · subst hj; simp
    · simp [hi, hj, Nat.add_assoc]
theorem add_block (p : Addr) (k : Nat) : (p.add k).block = p.block := by
  by_cases h : k = 0
  · subst h; simp [Addr.add]
  · simp [Addr.add, h]
theorem add_zero_off (g o j : Nat) : (⟨g, o, none⟩ : Addr).add j = ⟨g, o + j, none⟩ := by unfold Addr.add; split <;> simp_all

/-- A list that lies in memory: from which block on it may lie, where, how many, how much room it has, how many cells each takes, the cells. -/
structure Ent where
  lo : Nat
  A : Option Addr
  n : Nat
  c : Nat
  s : Nat
  xs : List Value
def Ent.val (x : Ent) : Value := .slice x.A x.n x.c
/-- It lies there, in none of some blocks. -/
def Lies (w : World) (no : Nat → Prop) (x : Ent) : Prop :=
  x.xs.length = x.n * x.s ∧ x.n ≤ x.c ∧ (0 < x.n → ∃ ad, x.A = some ad ∧ x.lo ≤ ad.block ∧ ad.block < w.heap.size ∧ ¬ no ad.block ∧ ∀ j u, x.xs[j]? = some u → w.cell? (ad.add j) = some u)
def free (_ : Nat) : Prop := False
theorem Lies.turn {w w' : World} {no no' : Nat → Prop} {x : Ent} (h : Lies w no x) (hs : w.heap.size ≤ w'.heap.size) (hb : ∀ b, b < w.heap.size → ¬ no b → w'.heap[b]? = w.heap[b]?) (hn : ∀ b, b < w.heap.size → ¬ no b → ¬ no' b) : Lies w' no' x :=
  ⟨h.1, h.2.1, fun hne => by
    obtain ⟨ad, h1, h2, h3, h4, h5⟩ := h.2.2 hne
    refine ⟨ad, h1, h2, by omega, hn _ h3 h4, fun j u hu => ?_⟩
    rw [← h5 j u hu]
    exact World.cell?_of_block (by rw [add_block]; exact hb _ h3 h4)⟩
theorem Lies.low {w : World} {no : Nat → Prop} {lo lo' n c s : Nat} {A : Option Addr} {xs : List Value} (h : Lies w no ⟨lo, A, n, c, s, xs⟩) (hl : lo' ≤ lo) : Lies w no ⟨lo', A, n, c, s, xs⟩ :=
  ⟨h.1, h.2.1, fun hne => by
    obtain ⟨ad, h1, h2, h3⟩ := h.2.2 hne
    exact ⟨ad, h1, Nat.le_trans hl h2, h3⟩⟩
theorem Lies.nil {w : World} {no : Nat → Prop} {lo c s : Nat} {A : Option Addr} : Lies w no ⟨lo, A, 0, c, s, []⟩ := ⟨by simp, Nat.zero_le _, fun h => absurd h (Nat.lt_irrefl 0)⟩
theorem Lies.below {w w' : World} {x : Ent} (h : Lies w free x) (hb : Below w.heap.size w w') : Lies w' free x := h.turn hb.size (fun b hbb _ => hb.block b hbb) (fun _ _ h => h)
theorem Lies.reads {w : World} {no : Nat → Prop} {x : Ent} (h : Lies w no x) : Reads w w.heap.size x.s x.A x.n x.xs where
  len := h.1
  lies := fun h0 => by
    obtain ⟨ad, h1, h2, h3, h4, h5⟩ := h.2.2 h0
    exact ⟨ad, h1, h3, h5⟩

/-- A row that the call makes. -/
structure RowD where
  v : Value
  e : TypeId
  s : Nat
  n : Nat
  xs : List Value
def nilRow : RowD := ⟨.slice none 0 0, 0, 0, 0, []⟩
def RowD.no (R : RowD) (bs : List (Nat × TypeId × List Value)) (b : Nat) : Prop := R.v.ownBlock = some b ∨ b ∈ bs.map (·.1)
/-- Since w0 nothing old has changed, these blocks are the call's own, the row too, and these lists lie elsewhere. -/
def Held (w0 w : World) (bs : List (Nat × TypeId × List Value)) (R : RowD) (es : List Ent) : Prop :=
  Own w0 w bs ∧ w.ownsRow w0.heap.size R.e R.s R.v R.n R.xs ∧ (∀ x ∈ bs, R.v.ownBlock ≠ some x.1) ∧ ∀ x ∈ es, Lies w (R.no bs) x
theorem grown_below {B : Nat} {w0 w w' : World} {row : Option Nat} (hb : Below B w0 w) (hB : B ≤ w.heap.size) (hg : w.grownBy w' row) (hrow : ∀ k, row = some k → B ≤ k) : Below B w0 w' :=
  hb.trans ⟨hg.os, hg.tape, hg.output, hg.size, fun j hj => hg.block j (Nat.lt_of_lt_of_le hj hB) (fun e => by have := hrow j e.symm; omega)⟩
theorem below_grown {w w' : World} (hb : Below w.heap.size w w') : w.grownBy w' none := ⟨hb.os, hb.tape, hb.output, hb.size, fun k hk _ => hb.block k hk⟩
theorem none_ne (o : Option Nat) : o = none ∨ o ≠ none := by cases o <;> simp
theorem set_fst {bs : List (Nat × TypeId × List Value)} {k g : Nat} {t : TypeId} {cs : List Value} (hk : bs[k]? = some (g, t, cs)) (ds : List Value) : (bs.set k (g, t, ds)).map (·.1) = bs.map (·.1) := by
  rw [List.map_set]
  apply List.ext_getElem?
  intro i
  rw [List.getElem?_set]
  split
  · rename_i e
    subst e
    obtain ⟨hlt, he⟩ := List.getElem?_eq_some_iff.1 hk
    rw [if_pos (by simpa using hlt)]
    simp [hk]
  · rfl
theorem Own.fst {bs : List (Nat × TypeId × List Value)} {k g : Nat} {t : TypeId} {cs : List Value} (hk : bs[k]? = some (g, t, cs)) : g ∈ bs.map (·.1) := List.mem_map.2 ⟨_, Own.mem hk, rfl⟩
section
variable {w0 w w' : World} {bs : List (Nat × TypeId × List Value)} {R : RowD} {es : List Ent} {g k : Nat} {t : TypeId} {cs : List Value}
theorem Held.below (h : Held w0 w bs R es) : Below w0.heap.size w0 w := h.1.1
theorem Held.start (w : World) (es : List Ent) (h : ∀ x ∈ es, Lies w free x) : Held w w [] nilRow es :=
  ⟨Own.start w, World.ownsRow_nil _ _ _ _, by simp, fun x hx => (h x hx).turn (Nat.le_refl _) (fun _ _ _ => rfl) (fun b _ _ => by simp [RowD.no, nilRow, Value.ownBlock])⟩
theorem Held.row_lt (h : Held w0 w bs R es) {b : Nat} (hb : R.v.ownBlock = some b) : w0.heap.size ≤ b ∧ b < w.heap.size := h.2.1.lt b hb
theorem Held.fst_of (h : Held w0 w bs R es) {b : Nat} (hb : b ∈ bs.map (·.1)) : w0.heap.size ≤ b ∧ b < w.heap.size := by
  obtain ⟨x, hx, rfl⟩ := List.mem_map.1 hb
  exact ⟨(h.1.2.2 x hx).1, h.1.lt hx⟩
theorem Held.alloc (h : Held w0 w bs R es) (t : TypeId) (cs : List Value) : Held w0 (w.alloc (.cells cs.toArray t)) ((w.heap.size, t, cs) :: bs) R es :=
  ⟨h.1.alloc t cs, h.2.1.alloc _, fun x hx => by
    rcases List.mem_cons.1 hx with rfl | hx
    · intro e
      have := (h.row_lt e).2
      exact absurd this (Nat.lt_irrefl _)
    · exact h.2.2.1 x hx, fun x hx => (h.2.2.2 x hx).turn (by simp) (fun b hb _ => Below.heap_alloc w _ b hb) (fun b hb hn => by
    simp only [RowD.no, List.map_cons, List.mem_cons] at hn ⊢
    rintro (hm | rfl | hm)
    · exact hn (.inl hm)
    · omega
    · exact hn (.inr hm))⟩
theorem Held.drew (h : Held w0 w bs R es) : Held w0 w.drew bs R es := ⟨h.1.drew, h.2.1, h.2.2.1, fun x hx => (h.2.2.2 x hx).turn (Nat.le_refl _) (fun _ _ _ => rfl) (fun _ _ h => h)⟩
theorem Held.call (h : Held w0 w bs R es) (hb : Below w.heap.size w w') : Held w0 w' bs R es :=
  ⟨h.1.call hb, h.2.1.kept (below_grown hb) (none_ne _), h.2.2.1, fun x hx => (h.2.2.2 x hx).turn hb.size (fun b hbb _ => hb.block b hbb) (fun _ _ h => h)⟩
theorem Held.blk (h : Held w0 w bs R es) (k : Nat) (hk : bs[k]? = some (g, t, cs)) : w.heap[g]? = some (.cells cs.toArray t (0, 0)) := h.1.blk k hk
theorem Held.cell (h : Held w0 w bs R es) (k : Nat) (hk : bs[k]? = some (g, t, cs)) {i : Nat} {v : Value} (hv : cs[i]? = some v) : w.cell? ⟨g, i, none⟩ = some v := h.1.cell k hk hv
theorem Held.frozen (h : Held w0 w bs R es) (k : Nat) (hk : bs[k]? = some (g, t, cs)) (i : Nat) : w.frozen? ⟨g, i, none⟩ = false := h.1.frozen k hk i
theorem Held.set_ (h : Held w0 w bs R es) (hk : bs[k]? = some (g, t, cs)) (ds : List Value) (hO : Own w0 w' (bs.set k (g, t, ds))) (hg : w.grownBy w' (some g)) : Held w0 w' (bs.set k (g, t, ds)) R es := by
  have hne : R.v.ownBlock ≠ some g := h.2.2.1 _ (Own.mem hk)
  refine ⟨hO, h.2.1.kept hg (.inr hne), fun x hx => ?_, fun x hx => (h.2.2.2 x hx).turn hg.size (fun b hb hn => hg.block b hb (fun e => ?_)) (fun b hb hn => ?_)⟩
  · have : x.1 ∈ (bs.set k (g, t, ds)).map (·.1) := List.mem_map.2 ⟨x, hx, rfl⟩
    rw [set_fst hk] at this
    obtain ⟨y, hy, he⟩ := List.mem_map.1 this
    rw [← he]
    exact h.2.2.1 y hy
  · cases e
    exact hn (.inr (Own.fst hk))
  · unfold RowD.no
    rw [set_fst hk]
    exact hn
theorem Held.setCell (h : Held w0 w bs R es) (k : Nat) (hk : bs[k]? = some (g, t, cs)) (i : Nat) (v : Value) : Held w0 (w.setCell ⟨g, i, none⟩ v) (bs.set k (g, t, cs.set i v)) R es :=
  h.set_ hk _ (h.1.setCell k hk i v) ⟨rfl, rfl, rfl, by simp [World.setCell], fun j hj hne => heap_setCell_other w _ j v (fun e => hne (by rw [e]))⟩
theorem Held.setRow (h : Held w0 w bs R es) (k : Nat) (hk : bs[k]? = some (g, t, cs)) (ds : List Value) : Held w0 (w.setRow g ds.toArray) (bs.set k (g, t, ds)) R es :=
  h.set_ hk _ (h.1.setRow k hk ds) ⟨rfl, rfl, rfl, by simp, fun j hj hne => setRow_other w g j _ (fun e => hne (by rw [e]))⟩
theorem Held.pick (h : Held w0 w bs R es) {es' : List Ent} (hs : ∀ x ∈ es', x ∈ es) : Held w0 w bs R es' := ⟨h.1, h.2.1, h.2.2.1, fun x hx => h.2.2.2 x (hs x hx)⟩
theorem Held.tail {x : Nat × TypeId × List Value} (h : Held w0 w (x :: bs) R es) : Held w0 w bs R es :=
  ⟨⟨h.1.1, (List.nodup_cons.1 (by simpa using h.1.2.1)).2, fun y hy => h.1.2.2 y (List.mem_cons_of_mem _ hy)⟩, h.2.1, fun y hy => h.2.2.1 y (List.mem_cons_of_mem _ hy),
    fun y hy => (h.2.2.2 y hy).turn (Nat.le_refl _) (fun _ _ _ => rfl) (fun b _ hn hm => hn (hm.imp id (fun h => List.mem_cons_of_mem _ h)))⟩
theorem Held.mem (h : Held w0 w bs R es) {x : Ent} (hx : x ∈ es) : Lies w (R.no bs) x := h.2.2.2 x hx
/-- A list as an argument, or handed back. -/
theorem Held.arg (h : Held w0 w bs R es) {x : Ent} (hx : x ∈ es) : Lies w free x := (h.2.2.2 x hx).turn (Nat.le_refl _) (fun _ _ _ => rfl) (fun _ _ _ h => h)
/-- Lists that a call hands back. -/
theorem Held.gains (h : Held w0 w bs R es) (hb : Below w.heap.size w w') {ns : List Ent} (hn : ∀ x ∈ ns, x.lo = w.heap.size ∧ Lies w' free x) : Held w0 w' bs R (ns.map (fun x => { x with lo := w0.heap.size }) ++ es) := by
  have h2 := h.call hb
  refine ⟨h2.1, h2.2.1, h2.2.2.1, fun x hx => ?_⟩
  rcases List.mem_append.1 hx with hx | hx
  · obtain ⟨y, hy, rfl⟩ := List.mem_map.1 hx
    obtain ⟨hlo, hl⟩ := hn y hy
    refine ⟨hl.1, hl.2.1, fun hne => ?_⟩
    obtain ⟨ad, h3, h4, h5, h6, h7⟩ := hl.2.2 hne
    have hle := h.1.1.size
    rw [hlo] at h4
    refine ⟨ad, h3, Nat.le_trans hle h4, h5, ?_, h7⟩
    rintro (hr | hm)
    · have := (h.row_lt hr).2; omega
    · have := (h.fst_of hm).2; omega
  · exact h2.2.2.2 x hx
theorem Held.gain (h : Held w0 w bs R es) (hb : Below w.heap.size w w') {n c s : Nat} {A : Option Addr} {xs : List Value} (hx : Lies w' free ⟨w.heap.size, A, n, c, s, xs⟩) : Held w0 w' bs R (⟨w0.heap.size, A, n, c, s, xs⟩ :: es) :=
  h.gains hb (ns := [⟨w.heap.size, A, n, c, s, xs⟩]) (by simpa using hx)
/-- The row has grown. -/
theorem Held.grow (h : Held w0 w bs R es) {v' : Value} {n' : Nat} {xs' : List Value} (ho : w'.ownsRow w0.heap.size R.e R.s v' n' xs') (hg : w.grownBy w' R.v.ownBlock) (hv : v'.ownBlock = R.v.ownBlock ∨ v'.ownBlock = some w.heap.size) :
    Held w0 w' bs ⟨v', R.e, R.s, n', xs'⟩ es := by
  have hsz : w0.heap.size ≤ w.heap.size := h.1.1.size
  refine ⟨⟨grown_below h.1.1 hsz hg (fun k hk => (h.row_lt hk).1), h.1.2.1, fun x hx => ⟨(h.1.2.2 x hx).1, ?_⟩⟩, ho, fun x hx => ?_, fun x hx => (h.2.2.2 x hx).turn hg.size (fun b hb hn => hg.block b hb (fun e => hn (.inl e.symm))) (fun b hb hn => ?_)⟩
  · rw [hg.block _ (h.1.lt hx) (fun e => h.2.2.1 x hx e.symm)]
    exact (h.1.2.2 x hx).2
  · intro e
    rcases hv with hv | hv
    · exact h.2.2.1 x hx (hv ▸ e)
    · have hl := h.1.lt hx
      have : some w.heap.size = some x.1 := hv.symm.trans e
      have := Option.some.inj this
      omega
  · rintro (e | hm)
    · rcases hv with hv | hv
      · exact hn (.inl (hv ▸ e))
      · have : some w.heap.size = some b := hv.symm.trans e
        have := Option.some.inj this
        omega
    · exact hn (.inr hm)
/-- The row is of another kind (there is none yet). -/
theorem Held.fresh (h : Held w0 w bs nilRow es) (e : TypeId) (s : Nat) : Held w0 w bs ⟨.slice none 0 0, e, s, 0, []⟩ es := ⟨h.1, World.ownsRow_nil _ _ _ _, h.2.2.1, h.2.2.2⟩
/-- The row is done. -/
theorem row_lies (h : w.ownsRow w0.heap.size R.e R.s R.v R.n R.xs) : ∃ A c, R.v = .slice A R.n c ∧ (∀ no : Nat → Prop, (∀ b, R.v.ownBlock = some b → ¬ no b) → Lies w no ⟨w0.heap.size, A, R.n, c, R.s, R.xs⟩) := by
  rcases h.2 with ⟨hv, hn⟩ | ⟨g, cap, cur, hv, hb, hg, hnc, _, hcs, ht⟩
  · refine ⟨none, 0, by rw [hv, hn], fun no _ => ⟨h.1, by simp [hn], fun h0 => by simp [hn] at h0⟩⟩
  · refine ⟨some ⟨g, 0, none⟩, cap, hv, fun no hno => ⟨h.1, hnc, fun _ => ⟨_, rfl, hb, (Array.getElem?_eq_some_iff.1 hg).1, hno g (by rw [hv]; rfl), fun j u hu => ?_⟩⟩⟩
    rw [add_zero_off, Nat.zero_add, cell_of_row w g j cur R.e (0, 0) hg]
    have h1 : R.xs[j]? = some u := hu
    rw [← ht, List.getElem?_take] at h1
    split at h1
    · simpa using h1
    · cases h1
theorem Held.done (h : Held w0 w bs R es) : ∃ A c, R.v = .slice A R.n c ∧ Held w0 w bs nilRow (⟨w0.heap.size, A, R.n, c, R.s, R.xs⟩ :: es) := by
  obtain ⟨A, c, hv, hl⟩ := row_lies h.2.1
  refine ⟨A, c, hv, h.1, World.ownsRow_nil _ _ _ _, by simp [nilRow, Value.ownBlock], fun x hx => ?_⟩
  rcases List.mem_cons.1 hx with rfl | hx
  · refine hl _ (fun b hb hn => ?_)
    rcases hn with hn | hn
    · simp [nilRow, Value.ownBlock] at hn
    · obtain ⟨y, hy, rfl⟩ := List.mem_map.1 hn
      exact h.2.2.1 y hy hb
  · refine (h.2.2.2 x hx).turn (Nat.le_refl _) (fun _ _ _ => rfl) (fun b _ hn hm => ?_)
    rcases hm with hm | hm
    · simp [nilRow, Value.ownBlock] at hm
    · exact hn (.inr hm)
/-- A number into the row. -/
theorem Held.store (h : Held w0 w bs R es) {g c : Nat} (hv : R.v = .slice (some ⟨g, 0, none⟩) R.n c) (j : Nat) (u : Value) : Held w0 (w.setCell ⟨g, j, none⟩ u) bs ⟨R.v, R.e, R.s, R.n, R.xs.set j u⟩ es := by
  have h1 := h.2.1
  rw [hv] at h1
  obtain ⟨h2, h3⟩ := h1.stored j u
  refine h.grow (v' := R.v) (n' := R.n) (xs' := R.xs.set j u) (by rw [hv]; exact h2) (by rw [hv]; exact h3) (.inl rfl)
end

section
variable {P : Program} {ops : Array Oper} {Q : Exit → Act → World → Prop} {a : Act} {w w0 : World} {rest : List Oper} {bs : List (Nat × TypeId × List Value)} {R : RowD} {es : List Ent} {dst : Option Tmp} {ty : TypeId} {pos : String} {after : Array Edge} {K : Act → World → Prop}
theorem wp_box_h {t : TypeId} {x : Operand} (O : Held w0 w bs R es) (cs : List Value) (hx : a.eval x = .agg cs.toArray)
    (h : ∀ g w1, Held w0 w1 ((g, t, cs) :: bs) R es → K (a.put dst (.pointer (some ⟨g, 0, none⟩))) w1) : Oper.wp P ⟨dst, .box t x, ty, pos, after, none⟩ a w K Q := by
  have hr : (Instr.box t (.agg cs.toArray)).run P w = .ok (.pointer (some ⟨w.heap.size, 0, none⟩)) (w.alloc (.cells cs.toArray t)) := rfl
  unfold Oper.wp execOp
  simp only [hx, Sem.run_bind, hr, Result.andThen_ok]
  exact h _ _ (O.alloc t cs)
theorem wpList_box_h {t : TypeId} {x : Operand} (O : Held w0 w bs R es) (cs : List Value) (hx : a.eval x = .agg cs.toArray)
    (h : ∀ g w1, Held w0 w1 ((g, t, cs) :: bs) R es → wpList P ops Q rest (a.put dst (.pointer (some ⟨g, 0, none⟩))) w1) : wpList P ops Q (⟨dst, .box t x, ty, pos, after, none⟩ :: rest) a w :=
  wpList_plain rfl fun K hK => wp_box_h O cs hx fun g w1 O' => hK _ _ (h g w1 O')
theorem wp_alloc_h {t : TypeId} (O : Held w0 w bs R es) (cs : List Value) (hz : (P.info? t).map (·.zero) = some (some (.agg cs.toArray)))
    (h : ∀ g w1, Held w0 w1 ((g, t, cs) :: bs) R es → K (a.put dst (.pointer (some ⟨g, 0, none⟩))) w1) : Oper.wp P ⟨dst, .alloc t, ty, pos, after, none⟩ a w K Q := by
  have hzv : (zeroValue t).run P w = .ok (.agg cs.toArray) w := by
    cases hi : P.info? t with
    | none => simp [hi] at hz
    | some i =>
      have : i.zero = some (.agg cs.toArray) := by simpa [hi] using hz
      simp [zeroValue, typeInfo, hi, this]
  have hr : (Instr.alloc t true (.tuple #[])).run P w = .ok (.pointer (some ⟨w.heap.size, 0, none⟩)) (w.alloc (.cells cs.toArray t)) := by
    unfold Instr.alloc
    rw [Sem.run_bind, hzv, Result.andThen_ok]
    rfl
  unfold Oper.wp execOp
  simp only [Sem.run_bind, hr, Result.andThen_ok]
  exact h _ _ (O.alloc t cs)
theorem wpList_alloc_h {t : TypeId} (O : Held w0 w bs R es) (cs : List Value) (hz : (P.info? t).map (·.zero) = some (some (.agg cs.toArray)))
    (h : ∀ g w1, Held w0 w1 ((g, t, cs) :: bs) R es → wpList P ops Q rest (a.put dst (.pointer (some ⟨g, 0, none⟩))) w1) : wpList P ops Q (⟨dst, .alloc t, ty, pos, after, none⟩ :: rest) a w :=
  wpList_plain rfl fun K hK => wp_alloc_h O cs hz fun g w1 O' => hK _ _ (h g w1 O')
/-- A whole array out of its block. -/
theorem wp_row_h {t : TypeId} {x : Operand} {gd : Option (Nat × Bool)} (O : Held w0 w bs R es) (k : Nat) {g : Nat} {t' : TypeId} {cs : List Value} (hk : bs[k]? = some (g, t', cs)) (hx : a.eval x = .pointer (some ⟨g, 0, none⟩))
    {d : TypeDesc} (hu : P.underlying t = some d) (hd : (match d with | .struct _ | .array _ _ => true | _ => false) = true) (hi : (P.info? t).map (·.size) = some cs.length) (h : K (a.put dst (.agg cs.toArray)) w) : Oper.wp P ⟨dst, .load t x, ty, pos, after, gd⟩ a w K Q :=
  wp_load_row t x rfl g hx t' cs.toArray (0, 0) _ (O.blk k hk) hu hd (by simpa using hi) h
theorem wpList_row_h {t : TypeId} {x : Operand} (O : Held w0 w bs R es) (k : Nat) {g : Nat} {t' : TypeId} {cs : List Value} (hk : bs[k]? = some (g, t', cs)) (hx : a.eval x = .pointer (some ⟨g, 0, none⟩))
    {d : TypeDesc} (hu : P.underlying t = some d) (hd : (match d with | .struct _ | .array _ _ => true | _ => false) = true) (hi : (P.info? t).map (·.size) = some cs.length) (h : wpList P ops Q rest (a.put dst (.agg cs.toArray)) w) :
    wpList P ops Q (⟨dst, .load t x, ty, pos, after, none⟩ :: rest) a w :=
  wpList_plain rfl fun K hK => wp_row_h O k hk hx hu hd hi (hK _ _ h)
/-- A whole array into its block. -/
theorem wp_put_h {t : TypeId} {x y : Operand} {gd : Option (Nat × Bool)} (O : Held w0 w bs R es) (k : Nat) {g : Nat} {t' : TypeId} {cs : List Value} (ds : List Value) (hk : bs[k]? = some (g, t', cs)) (hx : a.eval x = .pointer (some ⟨g, 0, none⟩))
    (hy : a.eval y = .agg ds.toArray) (hi : (P.info? t).map (·.size) = some ds.length) (hl : cs.length = ds.length) (h1 : ∀ v ∈ ds, v.oneCell' = true)
    (h : ∀ w1, Held w0 w1 (bs.set k (g, t', ds)) R es → K (a.put dst undef) w1) : Oper.wp P ⟨dst, .store t x y, ty, pos, after, gd⟩ a w K Q :=
  wp_store_row t x y rfl g ds.toArray hx hy t' cs.toArray (O.blk k hk) (by simpa using hi) (by simpa using hl) (by rw [Array.all_eq_true_iff_forall_mem]; intro v hv; exact h1 v (by simpa using hv)) (h _ (O.setRow k hk ds))
theorem wpList_put_h {t : TypeId} {x y : Operand} (O : Held w0 w bs R es) (k : Nat) {g : Nat} {t' : TypeId} {cs : List Value} (ds : List Value) (hk : bs[k]? = some (g, t', cs)) (hx : a.eval x = .pointer (some ⟨g, 0, none⟩))
    (hy : a.eval y = .agg ds.toArray) (hi : (P.info? t).map (·.size) = some ds.length) (hl : cs.length = ds.length) (h1 : ∀ v ∈ ds, v.oneCell' = true)
    (h : ∀ w1, Held w0 w1 (bs.set k (g, t', ds)) R es → wpList P ops Q rest (a.put dst undef) w1) : wpList P ops Q (⟨dst, .store t x y, ty, pos, after, none⟩ :: rest) a w :=
  wpList_plain rfl fun K hK => wp_put_h O k ds hk hx hy hi hl h1 fun w1 O' => hK _ _ (h w1 O')
/-- One cell. -/
theorem wp_cell_h {t : TypeId} {x : Operand} {gd : Option (Nat × Bool)} (O : Held w0 w bs R es) (k : Nat) {g i : Nat} {t' : TypeId} {cs : List Value} {v : Value} (hk : bs[k]? = some (g, t', cs)) (hv : cs[i]? = some v) (hx : a.eval x = .pointer (some ⟨g, i, none⟩))
    (hs : ∀ w, (isAgg t).run P w = .ok false w) (h1 : v.oneCell' = true) (h : K (a.put dst v) w) : Oper.wp P ⟨dst, .load t x, ty, pos, after, gd⟩ a w K Q := by
  have hc := O.cell k hk hv
  have hr : (loadVar t ⟨g, i, none⟩).run P w = .ok v w := by
    simp [loadVar, hs w, run_load, hc]
  unfold Oper.wp execOp
  simp only [hx, Instr.loadAt, Instr.sureAddr, Sem.run_bind, Sem.run_pure, Result.andThen_ok, hr]
  exact h
theorem wp_set_h {t : TypeId} {x y : Operand} {gd : Option (Nat × Bool)} (O : Held w0 w bs R es) (k : Nat) {g i : Nat} {t' : TypeId} {cs : List Value} (v : Value) (hk : bs[k]? = some (g, t', cs)) (hi : i < cs.length) (hx : a.eval x = .pointer (some ⟨g, i, none⟩))
    (hy : a.eval y = v) (hs : (P.info? t).map (·.size) = some 1) (h1 : v.oneCell' = true) (hcs : v.cells = #[v])
    (h : ∀ w1, Held w0 w1 (bs.set k (g, t', cs.set i v)) R es → K (a.put dst undef) w1) : Oper.wp P ⟨dst, .store t x y, ty, pos, after, gd⟩ a w K Q := by
  have hc := O.cell k hk (List.getElem?_eq_getElem hi)
  have hf := O.frozen k hk i
  have hst : (storeVar t ⟨g, i, none⟩ v).run P w = .ok () (w.setCell ⟨g, i, none⟩ v) := by
    cases hq : P.info? t with
    | none => simp [hq] at hs
    | some j =>
      have hj : j.size = 1 := by simpa [hq] using hs
      have ha : (⟨g, i, none⟩ : Addr).add 0 = ⟨g, i, none⟩ := Addr.add_zero' _
      have hst : (store ⟨g, i, none⟩ v).run P w = .ok () (w.setCell ⟨g, i, none⟩ v) := by
        rw [Go.run_store P w _ v _ h1, hc]
        simp [hf]
      simp [storeVar, sizeOf, typeInfo, hq, hj, hcs, storeCells, ha, hst]
  unfold Oper.wp execOp
  simp only [hx, hy, Instr.storeAt, Instr.sureAddr, Sem.run_bind, Sem.run_pure, Result.andThen_ok, hst]
  exact h _ (O.setCell k hk i v)
theorem wpList_set_h {t : TypeId} {x y : Operand} (O : Held w0 w bs R es) (k : Nat) {g i : Nat} {t' : TypeId} {cs : List Value} (v : Value) (hk : bs[k]? = some (g, t', cs)) (hi : i < cs.length) (hx : a.eval x = .pointer (some ⟨g, i, none⟩))
    (hy : a.eval y = v) (hs : (P.info? t).map (·.size) = some 1) (h1 : v.oneCell' = true) (hcs : v.cells = #[v])
    (h : ∀ w1, Held w0 w1 (bs.set k (g, t', cs.set i v)) R es → wpList P ops Q rest (a.put dst undef) w1) : wpList P ops Q (⟨dst, .store t x y, ty, pos, after, none⟩ :: rest) a w :=
  wpList_plain rfl fun K hK => wp_set_h O k v hk hi hx hy hs h1 hcs fun w1 O' => hK _ _ (h w1 O')
/-- A guarded load that is wanted. -/
theorem wpList_rowg_h {t : TypeId} {x : Operand} {gd : Option (Nat × Bool)} (hw : Region.wanted ⟨dst, .load t x, ty, pos, after, gd⟩ (yielded ops a.tmps) = true) (O : Held w0 w bs R es) (k : Nat) {g : Nat} {t' : TypeId} {cs : List Value} (hk : bs[k]? = some (g, t', cs)) (hx : a.eval x = .pointer (some ⟨g, 0, none⟩))
    {d : TypeDesc} (hu : P.underlying t = some d) (hd : (match d with | .struct _ | .array _ _ => true | _ => false) = true) (hi : (P.info? t).map (·.size) = some cs.length) (h : wpList P ops Q rest (a.put dst (.agg cs.toArray)) w) :
    wpList P ops Q (⟨dst, .load t x, ty, pos, after, gd⟩ :: rest) a w :=
  wpList_step fun K hK => by rw [if_pos hw]; exact wp_row_h O k hk hx hu hd hi (hK _ _ h)
/-- A function's one result, an array in a block of its own. -/
theorem res_h {fn : Func} {p : Tmp} {t : TypeId} (h : fn.results = #[.cell p t]) {tmps : Array Value} (O : Held w0 w bs R es) (k : Nat) {g : Nat} {t' : TypeId} {cs : List Value} (hk : bs[k]? = some (g, t', cs))
    (hp : tmps.getD p undef = .pointer (some ⟨g, 0, none⟩)) {d : TypeDesc} (hu : P.underlying t = some d) (hd : (match d with | .struct _ | .array _ _ => true | _ => false) = true) (hi : (P.info? t).map (·.size) = some cs.length) :
    (results fn tmps).run P w = .ok (.agg cs.toArray) w :=
  results_cell_row h tmps w g t' cs.toArray (0, 0) _ hp (O.blk k hk) hu hd (by simpa using hi)
/-- Two results, the first one an array in a block of its own. -/
theorem res_h2 {fn : Func} {p u : Tmp} {t : TypeId} (h : fn.results = #[.cell p t, .tmp u]) {tmps : Array Value} (O : Held w0 w bs R es) (k : Nat) {g : Nat} {t' : TypeId} {cs : List Value} (hk : bs[k]? = some (g, t', cs))
    (hp : tmps.getD p undef = .pointer (some ⟨g, 0, none⟩)) {d : TypeDesc} (hu : P.underlying t = some d) (hd : (match d with | .struct _ | .array _ _ => true | _ => false) = true) (hi : (P.info? t).map (·.size) = some cs.length) {v : Value} (hv : tmps.getD u undef = v) :
    (results fn tmps).run P w = .ok (.tuple #[.agg cs.toArray, v]) w := by
  rw [results_cell_tmp h, hp]
  have := run_loadVar_row (P := P) w g t' t cs.toArray (0, 0) _ (O.blk k hk) hu hd (by simpa using hi)
  simp only [asAddr, Sem.run_pure, Result.andThen_ok, this, hv]
/-- A guarded cell that is wanted. -/
theorem wpList_cell_h {t : TypeId} {x : Operand} {gd : Option (Nat × Bool)} (hw : Region.wanted ⟨dst, .load t x, ty, pos, after, gd⟩ (yielded ops a.tmps) = true) (O : Held w0 w bs R es) (k : Nat) {g i : Nat} {t' : TypeId} {cs : List Value} {v : Value} (hk : bs[k]? = some (g, t', cs)) (hv : cs[i]? = some v)
    (hx : a.eval x = .pointer (some ⟨g, i, none⟩)) (hs : ∀ w, (isAgg t).run P w = .ok false w) (h1 : v.oneCell' = true) (h : wpList P ops Q rest (a.put dst v) w) : wpList P ops Q (⟨dst, .load t x, ty, pos, after, gd⟩ :: rest) a w :=
  wpList_step fun K hK => by rw [if_pos hw]; exact wp_cell_h O k hk hv hx hs h1 (hK _ _ h)
/-- An array or a struct that stands within a block. -/
theorem wp_mid_h {t : TypeId} {x : Operand} {gd : Option (Nat × Bool)} (O : Held w0 w bs R es) (k : Nat) {g o : Nat} {t' : TypeId} {cs : List Value} (hk : bs[k]? = some (g, t', cs)) (ds : List Value) (hds : ∀ j v, ds[j]? = some v → cs[o + j]? = some v) (hx : a.eval x = .pointer (some ⟨g, o, none⟩))
    {d : TypeDesc} (hu : P.underlying t = some d) (hd : (match d with | .struct _ | .array _ _ => true | _ => false) = true) (hi : (P.info? t).map (·.size) = some ds.length) (h : K (a.put dst (.agg ds.toArray)) w) : Oper.wp P ⟨dst, .load t x, ty, pos, after, gd⟩ a w K Q := by
  have hcell : ∀ j u, ds[j]? = some u → w.cell? ((⟨g, o, none⟩ : Addr).add j) = some u := by
    intro j u hu
    have ha : (⟨g, o, none⟩ : Addr).add j = ⟨g, o + j, none⟩ := by unfold Addr.add; split <;> simp_all
    rw [ha]
    exact O.cell k hk (hds j u hu)
  have hl := run_loadCells_list (P := P) w ⟨g, o, none⟩ ds hcell
  have hr : (loadVar t ⟨g, o, none⟩).run P w = .ok (.agg ds.toArray) w := by
    cases hq : P.info? t with
    | none => simp [hq] at hi
    | some j =>
      have hs : j.size = ds.length := by simpa [hq] using hi
      have hagg : (isAgg t).run P w = .ok true w := by
        unfold isAgg
        rw [Sem.run_bind, run_underlying hu w]
        cases d <;> simp_all
      simp [loadVar, Sem.run_bind, hagg, sizeOf, typeInfo, hq, hs, hl]
  unfold Oper.wp execOp
  simp only [hx, Instr.loadAt, Instr.sureAddr, Sem.run_bind, Sem.run_pure, Result.andThen_ok, hr]
  exact h
theorem wpList_mid_h {t : TypeId} {x : Operand} {gd : Option (Nat × Bool)} (hw : Region.wanted ⟨dst, .load t x, ty, pos, after, gd⟩ (yielded ops a.tmps) = true) (O : Held w0 w bs R es) (k : Nat) {g o : Nat} {t' : TypeId} {cs : List Value} (hk : bs[k]? = some (g, t', cs)) (ds : List Value) (hds : ∀ j v, ds[j]? = some v → cs[o + j]? = some v) (hx : a.eval x = .pointer (some ⟨g, o, none⟩))
    {d : TypeDesc} (hu : P.underlying t = some d) (hd : (match d with | .struct _ | .array _ _ => true | _ => false) = true) (hi : (P.info? t).map (·.size) = some ds.length) (h : wpList P ops Q rest (a.put dst (.agg ds.toArray)) w) : wpList P ops Q (⟨dst, .load t x, ty, pos, after, gd⟩ :: rest) a w :=
  wpList_step fun K hK => by rw [if_pos hw]; exact wp_mid_h O k hk ds hds hx hu hd hi (hK _ _ h)
/-- An element of an array that is a value, elements of one cell each. -/
theorem wp_idx {t e : TypeId} {x y : Operand} {gd : Option (Nat × Bool)} {n : Nat} (hu : P.underlying t = some (.array n e)) (hs : ∀ w, (sizeOf e).run P w = .ok 1 w) (hg : ∀ w, (isAgg e).run P w = .ok false w) (ds : List Value) (hx : a.eval x = .agg ds.toArray) {kd : IntKind} {z : Int} (i : Nat) (hy : a.eval y = .int kd z) (hz : z = (i : Int)) (hi : i < n) {v : Value} (hv : ds[i]? = some v)
    (h : K (a.put dst v) w) : Oper.wp P ⟨dst, .index t x y, ty, pos, after, gd⟩ a w K Q := by
  subst hz
  have hp : (part e ds.toArray i).run P w = .ok v w := by
    have : ds.toArray[i]? = some v := by simpa using hv
    simp [part, Sem.run_bind, hg w, this]
  have hr : (Instr.index t (.agg ds.toArray) (.int kd i)).run P w = .ok v w := by
    unfold Instr.index
    have h1 : (0 : Int) ≤ i ∧ (i : Int) < n := by omega
    simp [asIntOf, Sem.run_bind, run_underlying hu, h1, hs, hp, show ¬ n ≤ i by omega]
  unfold Oper.wp execOp
  simp only [hx, hy, Sem.run_bind, hr, Result.andThen_ok]
  exact h
theorem wpList_idx {t e : TypeId} {x y : Operand} {gd : Option (Nat × Bool)} {n : Nat} (hw : Region.wanted ⟨dst, .index t x y, ty, pos, after, gd⟩ (yielded ops a.tmps) = true) (hu : P.underlying t = some (.array n e)) (hs : ∀ w, (sizeOf e).run P w = .ok 1 w) (hg : ∀ w, (isAgg e).run P w = .ok false w) (ds : List Value) (hx : a.eval x = .agg ds.toArray) {kd : IntKind} {z : Int} (i : Nat) (hy : a.eval y = .int kd z) (hz : z = (i : Int)) (hi : i < n) {v : Value} (hv : ds[i]? = some v)
    (h : wpList P ops Q rest (a.put dst v) w) : wpList P ops Q (⟨dst, .index t x y, ty, pos, after, gd⟩ :: rest) a w :=
  wpList_step fun K hK => by rw [if_pos hw]; exact wp_idx hu hs hg ds hx i hy hz hi hv (hK _ _ h)
/-- Cells into the middle of a block of the call's own. -/
theorem wp_into_h {t : TypeId} {x y : Operand} {gd : Option (Nat × Bool)} (O : Held w0 w bs R es) (k : Nat) {g o : Nat} {t' : TypeId} {cs : List Value} (ds : List Value) (hk : bs[k]? = some (g, t', cs)) (hx : a.eval x = .pointer (some ⟨g, o, none⟩))
    (hy : a.eval y = .agg ds.toArray) (hi : (P.info? t).map (·.size) = some ds.length) (hl : o + ds.length ≤ cs.length) (h1 : ∀ v ∈ ds, v.oneCell' = true)
    (h : ∀ w1, Held w0 w1 (bs.set k (g, t', cs.take o ++ ds ++ cs.drop (o + ds.length))) R es → K (a.put dst undef) w1) : Oper.wp P ⟨dst, .store t x y, ty, pos, after, gd⟩ a w K Q := by
  have hst := run_storeCells_at P g o t' ds 0 cs.toArray w (O.blk k hk) (by simpa using hl) h1
  have hsv : (storeVar t ⟨g, o, none⟩ (.agg ds.toArray)).run P w = .ok () (w.setRow g (cs.take o ++ ds ++ cs.drop (o + ds.length)).toArray) := by
    cases hq : P.info? t with
    | none => simp [hq] at hi
    | some j =>
      have hj : j.size = ds.length := by simpa [hq] using hi
      have hc : (Value.agg ds.toArray).cells = ds.toArray := rfl
      simp only [Nat.add_zero] at hst
      simp [storeVar, sizeOf, typeInfo, hq, hj, hc, hst]
  unfold Oper.wp execOp
  simp only [hx, hy, Instr.storeAt, Instr.sureAddr, Sem.run_bind, Sem.run_pure, Result.andThen_ok, hsv]
  exact h _ (O.setRow k hk _)
/-- The address of an element of a list. -/
def adr (A : Option Addr) : Addr := A.getD ⟨0, 0, none⟩
theorem wp_at_h {t e : TypeId} {x y : Operand} {gd : Option (Nat × Bool)} {s : Nat} (hu : P.underlying t = some (.slice e)) (hs : ∀ w, (sizeOf e).run P w = .ok s w) {no : Nat → Prop} (en : Ent) (L : Lies w no en)
    {n cc : Nat} (hx : a.eval x = .slice en.A n cc) {kd : IntKind} {z : Int} (i : Nat) (hy : a.eval y = .int kd z) (hz : z = (i : Int)) (hi : i < n) (hn : n = en.n) (h : K (a.put dst (.pointer (some ((adr en.A).add (i * s))))) w) : Oper.wp P ⟨dst, .indexAddr t x y, ty, pos, after, gd⟩ a w K Q := by
  subst hz hn
  obtain ⟨lo, A, n, c, s', xs⟩ := en
  obtain ⟨ad, rfl, -⟩ := L.2.2 (by omega)
  have hr : (Instr.indexAt t (.slice (some ad) n cc) (.int kd i)).run P w = .ok (.pointer (some (ad.add (i * s)))) w := by
    have h1 : (0 : Int) ≤ i ∧ (i : Int) < n := by dsimp only at hi; omega
    unfold Instr.indexAt
    simp [asIntOf, Sem.run_bind, run_underlying hu, hs w, h1, show ¬ n ≤ i by dsimp only at hi; omega]
  unfold Oper.wp execOp
  simp only [hx, hy, Sem.run_bind, hr, Result.andThen_ok]
  exact h
theorem wpList_at_h {t e : TypeId} {x y : Operand} {gd : Option (Nat × Bool)} {s : Nat} (hw : Region.wanted ⟨dst, .indexAddr t x y, ty, pos, after, gd⟩ (yielded ops a.tmps) = true) (hu : P.underlying t = some (.slice e)) (hs : ∀ w, (sizeOf e).run P w = .ok s w) {no : Nat → Prop} (en : Ent) (L : Lies w no en)
    {n cc : Nat} (hx : a.eval x = .slice en.A n cc) {kd : IntKind} {z : Int} (i : Nat) (hy : a.eval y = .int kd z) (hz : z = (i : Int)) (hi : i < n) (hn : n = en.n) (h : wpList P ops Q rest (a.put dst (.pointer (some ((adr en.A).add (i * s))))) w) : wpList P ops Q (⟨dst, .indexAddr t x y, ty, pos, after, gd⟩ :: rest) a w :=
  wpList_step fun K hK => by rw [if_pos hw]; exact wp_at_h hu hs en L hx i hy hz hi hn (hK _ _ h)
/-- The address of a field. -/
theorem wp_fld_h {t : TypeId} {x : Operand} {gd : Option (Nat × Bool)} {f : Nat} {k : Nat} {ad : Addr} (hf : ∀ w, (Instr.fieldAt t (.pointer (some ad)) f).run P w = .ok (.pointer (some (ad.add k))) w) (hx : a.eval x = .pointer (some ad))
    (h : K (a.put dst (.pointer (some (ad.add k)))) w) : Oper.wp P ⟨dst, .fieldAddr t x f, ty, pos, after, gd⟩ a w K Q := by
  unfold Oper.wp execOp
  simp only [hx, Sem.run_bind, hf w, Result.andThen_ok]
  exact h
theorem wpList_fld_h {t : TypeId} {x : Operand} {gd : Option (Nat × Bool)} {f : Nat} {k : Nat} {ad : Addr} (hw : Region.wanted ⟨dst, .fieldAddr t x f, ty, pos, after, gd⟩ (yielded ops a.tmps) = true) (hf : ∀ w, (Instr.fieldAt t (.pointer (some ad)) f).run P w = .ok (.pointer (some (ad.add k))) w) (hx : a.eval x = .pointer (some ad))
    (h : wpList P ops Q rest (a.put dst (.pointer (some (ad.add k)))) w) : wpList P ops Q (⟨dst, .fieldAddr t x f, ty, pos, after, gd⟩ :: rest) a w :=
  wpList_step fun K hK => by rw [if_pos hw]; exact wp_fld_h hf hx (hK _ _ h)
/-- One cell of a list. -/
theorem wp_ecell_h {t : TypeId} {x : Operand} {gd : Option (Nat × Bool)} {no : Nat → Prop} (en : Ent) (L : Lies w no en) (j : Nat) {v : Value} (hv : en.xs[j]? = some v) (hx : a.eval x = .pointer (some ((adr en.A).add j)))
    (hs : ∀ w, (isAgg t).run P w = .ok false w) (h1 : v.oneCell' = true) (h : K (a.put dst v) w) : Oper.wp P ⟨dst, .load t x, ty, pos, after, gd⟩ a w K Q := by
  obtain ⟨lo, A, n, c, s, xs⟩ := en
  have hj : j < xs.length := (List.getElem?_eq_some_iff.1 hv).1
  obtain ⟨ad, rfl, -, -, -, hc⟩ := L.2.2 (by
    have := L.1
    dsimp only at this ⊢
    rcases Nat.eq_zero_or_pos n with rfl | h0
    · rw [Nat.zero_mul] at this; omega
    · exact h0)
  have hc := hc j v hv
  have hr : (loadVar t (ad.add j)).run P w = .ok v w := by
    simp [loadVar, hs w, run_load, hc]
  unfold Oper.wp execOp
  simp only [hx, Instr.loadAt, Instr.sureAddr, Sem.run_bind, Sem.run_pure, Result.andThen_ok, adr, Option.getD_some, hr]
  exact h
theorem wpList_ecell_h {t : TypeId} {x : Operand} {gd : Option (Nat × Bool)} {no : Nat → Prop} (hw : Region.wanted ⟨dst, .load t x, ty, pos, after, gd⟩ (yielded ops a.tmps) = true) (en : Ent) (L : Lies w no en) (j : Nat) {v : Value} (hv : en.xs[j]? = some v) (hx : a.eval x = .pointer (some ((adr en.A).add j)))
    (hs : ∀ w, (isAgg t).run P w = .ok false w) (h1 : v.oneCell' = true) (h : wpList P ops Q rest (a.put dst v) w) : wpList P ops Q (⟨dst, .load t x, ty, pos, after, gd⟩ :: rest) a w :=
  wpList_step fun K hK => by rw [if_pos hw]; exact wp_ecell_h en L j hv hx hs h1 (hK _ _ h)
/-- Some cells of a list, as a struct. -/
theorem wp_elem_h {t : TypeId} {x : Operand} {gd : Option (Nat × Bool)} {no : Nat → Prop} (en : Ent) (L : Lies w no en) (o : Nat) (ds : List Value) (hds : ∀ j v, ds[j]? = some v → en.xs[o + j]? = some v) (h0 : 0 < ds.length) (hx : a.eval x = .pointer (some ((adr en.A).add o)))
    {d : TypeDesc} (hu : P.underlying t = some d) (hd : (match d with | .struct _ | .array _ _ => true | _ => false) = true) (hi : (P.info? t).map (·.size) = some ds.length) (h : K (a.put dst (.agg ds.toArray)) w) : Oper.wp P ⟨dst, .load t x, ty, pos, after, gd⟩ a w K Q := by
  obtain ⟨lo, A, n, c, s, xs⟩ := en
  obtain ⟨ad, rfl, -, -, -, hc⟩ := L.2.2 (by
    have := L.1
    have hh := hds 0 _ (List.getElem?_eq_getElem h0)
    have hj := (List.getElem?_eq_some_iff.1 hh).1
    dsimp only at this hj ⊢
    rcases Nat.eq_zero_or_pos n with rfl | h0
    · rw [Nat.zero_mul] at this; omega
    · exact h0)
  have hcell : ∀ j u, ds[j]? = some u → w.cell? ((ad.add o).add j) = some u := by
    intro j u hu
    rw [add_add']
    exact hc _ u (hds j u hu)
  have hl := run_loadCells_list (P := P) w (ad.add o) ds hcell
  have hr : (loadVar t (ad.add o)).run P w = .ok (.agg ds.toArray) w := by
    cases hq : P.info? t with
    | none => simp [hq] at hi
    | some j =>
      have hs : j.size = ds.length := by simpa [hq] using hi
      have hagg : (isAgg t).run P w = .ok true w := by
        unfold isAgg
        rw [Sem.run_bind, run_underlying hu w]
        cases d <;> simp_all
      simp [loadVar, Sem.run_bind, hagg, sizeOf, typeInfo, hq, hs, hl]
  unfold Oper.wp execOp
  simp only [hx, Instr.loadAt, Instr.sureAddr, Sem.run_bind, Sem.run_pure, Result.andThen_ok, adr, Option.getD_some, hr]
  exact h
theorem wpList_elem_h {t : TypeId} {x : Operand} {gd : Option (Nat × Bool)} {no : Nat → Prop} (hw : Region.wanted ⟨dst, .load t x, ty, pos, after, gd⟩ (yielded ops a.tmps) = true) (en : Ent) (L : Lies w no en) (o : Nat) (ds : List Value) (hds : ∀ j v, ds[j]? = some v → en.xs[o + j]? = some v) (h0 : 0 < ds.length) (hx : a.eval x = .pointer (some ((adr en.A).add o)))
    {d : TypeDesc} (hu : P.underlying t = some d) (hd : (match d with | .struct _ | .array _ _ => true | _ => false) = true) (hi : (P.info? t).map (·.size) = some ds.length) (h : wpList P ops Q rest (a.put dst (.agg ds.toArray)) w) : wpList P ops Q (⟨dst, .load t x, ty, pos, after, gd⟩ :: rest) a w :=
  wpList_step fun K hK => by rw [if_pos hw]; exact wp_elem_h en L o ds hds h0 hx hu hd hi (hK _ _ h)
/-- A slice literal. -/
theorem wp_lit_h {t e : TypeId} {len : Nat} {parts : Array (Nat × Operand)} {gd : Option (Nat × Bool)} (O : Held w0 w bs R es) (s : Nat) (z : Value) (hi : (P.info? e).map (fun i => (i.zero, i.size)) = some (some z, s)) (hu : P.underlying t = some (.slice e))
    (l : List (Nat × Value)) (cs : List Value) (hl : parts.toList.map (fun x => (x.1, a.eval x.2)) = l) (hn : cs.length = len * s) (hp : 0 < len * s) (hm : len * s ≤ 1000)
    (hf : Instr.fill (fun i => some (i * s, s)) ((Array.range (len * s)).map (z.cells[· % z.cells.size]!)) l = some cs.toArray)
    (h : ∀ g w1, Held w0 w1 bs R (⟨w0.heap.size, some ⟨g, 0, none⟩, len, len, s, cs⟩ :: es) → K (a.put dst (.slice (some ⟨g, 0, none⟩) len len)) w1) : Oper.wp P ⟨dst, .buildSlice t len parts, ty, pos, after, gd⟩ a w K Q := by
  cases hie : P.info? e with
  | none => simp [hie] at hi
  | some ie =>
    simp only [hie, Option.map_some, Option.some.injEq, Prod.mk.injEq] at hi
    obtain ⟨hz, hs⟩ := hi
    subst hs
    refine wp_buildSlice t e len parts rfl cs.toArray ie z hu hie hz (by omega) (by omega) (by rw [Array.toList_map, hl]; exact hf) ?_
    have hbw : Below w.heap.size w (w.alloc (.cells cs.toArray e)) := (Below.refl _ w).alloc (Nat.le_refl _) _
    refine h _ _ (O.gain hbw ⟨hn, Nat.le_refl _, fun _ => ⟨_, rfl, Nat.le_refl _, by simp, id, fun j u hu => ?_⟩⟩)
    rw [add_zero_off, Nat.zero_add, cell_of_row _ _ _ _ _ _ (heap_alloc_new w _)]
    simpa using hu
theorem wpList_lit_h {t e : TypeId} {len : Nat} {parts : Array (Nat × Operand)} {gd : Option (Nat × Bool)} (hw : Region.wanted ⟨dst, .buildSlice t len parts, ty, pos, after, gd⟩ (yielded ops a.tmps) = true) (O : Held w0 w bs R es) (s : Nat) (z : Value) (hi : (P.info? e).map (fun i => (i.zero, i.size)) = some (some z, s)) (hu : P.underlying t = some (.slice e))
    (l : List (Nat × Value)) (cs : List Value) (hl : parts.toList.map (fun x => (x.1, a.eval x.2)) = l) (hn : cs.length = len * s) (hp : 0 < len * s) (hm : len * s ≤ 1000)
    (hf : Instr.fill (fun i => some (i * s, s)) ((Array.range (len * s)).map (z.cells[· % z.cells.size]!)) l = some cs.toArray)
    (h : ∀ g w1, Held w0 w1 bs R (⟨w0.heap.size, some ⟨g, 0, none⟩, len, len, s, cs⟩ :: es) → wpList P ops Q rest (a.put dst (.slice (some ⟨g, 0, none⟩) len len)) w1) : wpList P ops Q (⟨dst, .buildSlice t len parts, ty, pos, after, gd⟩ :: rest) a w :=
  wpList_step fun K hK => by rw [if_pos hw]; exact wp_lit_h O s z hi hu l cs hl hn hp hm hf fun g w1 O' => hK _ _ (h g w1 O')
/-- An append onto the row, of a list that lies elsewhere. -/
theorem wp_app_h {t : TypeId} {x y : Operand} {gd : Option (Nat × Bool)} (O : Held w0 w bs R es) (z : Value) (bytes : Nat) (hi : (P.info? R.e).map (fun i => (i.zero, i.size, i.bytes)) = some (some z, R.s, bytes)) (hzs : z.cells.size = R.s) (hsz : 0 < R.s) (hu : P.underlying t = some (.slice R.e))
    (hx : a.eval x = R.v) {no : Nat → Prop} (en : Ent) (L : Lies w no en) (hes : en.s = R.s) {c : Nat} (hy : a.eval y = .slice en.A en.n c) (h1 : ∀ v ∈ en.xs, v.oneCell' = true) (hb : (R.n + en.n) ≤ 1000) (hbb : bytes ≤ 1000)
    (h : ∀ v w1, Held w0 w1 bs ⟨v, R.e, R.s, R.n + en.n, R.xs ++ en.xs⟩ es → K (a.put dst v) w1) : Oper.wp P ⟨dst, .call { callee := .builtin .append, args := #[x, y], argTypes := #[t, t] }, ty, pos, after, gd⟩ a w K Q := by
  cases hie : P.info? R.e with
  | none => simp [hie] at hi
  | some ie =>
    simp only [hie, Option.map_some, Option.some.injEq, Prod.mk.injEq] at hi
    obtain ⟨hz, hs, hby⟩ := hi
    have hR := L.reads
    rw [hes] at hR
    exact append_steps (P := P) rfl hu hie hz hs hby hzs hsz hx O.2.1 hy hR h1 (by unfold maxLen; omega) (by have := Nat.mul_le_mul hb hbb; omega) O.1.1.size fun v' w' a1 a2 a3 => h v' w' (O.grow a1 a2 a3)
theorem wpList_app_h {t : TypeId} {x y : Operand} {gd : Option (Nat × Bool)} (hw : Region.wanted ⟨dst, .call { callee := .builtin .append, args := #[x, y], argTypes := #[t, t] }, ty, pos, after, gd⟩ (yielded ops a.tmps) = true) (O : Held w0 w bs R es) (z : Value) (bytes : Nat) (hi : (P.info? R.e).map (fun i => (i.zero, i.size, i.bytes)) = some (some z, R.s, bytes)) (hzs : z.cells.size = R.s) (hsz : 0 < R.s) (hu : P.underlying t = some (.slice R.e))
    (hx : a.eval x = R.v) {no : Nat → Prop} (en : Ent) (L : Lies w no en) (hes : en.s = R.s) {c : Nat} (hy : a.eval y = .slice en.A en.n c) (h1 : ∀ v ∈ en.xs, v.oneCell' = true) (hb : (R.n + en.n) ≤ 1000) (hbb : bytes ≤ 1000)
    (h : ∀ v w1, Held w0 w1 bs ⟨v, R.e, R.s, R.n + en.n, R.xs ++ en.xs⟩ es → wpList P ops Q rest (a.put dst v) w1) : wpList P ops Q (⟨dst, .call { callee := .builtin .append, args := #[x, y], argTypes := #[t, t] }, ty, pos, after, gd⟩ :: rest) a w :=
  wpList_step fun K hK => by rw [if_pos hw]; exact wp_app_h O z bytes hi hzs hsz hu hx en L hes hy h1 hb hbb fun v w1 O' => hK _ _ (h v w1 O')
/-- A new list, of zero values of one cell. -/
theorem wp_make_h {t e : TypeId} {x y : Operand} {gd : Option (Nat × Bool)} (O : Held w0 w bs R es) (z : Value) (bytes : Nat) (hi : (P.info? e).map (fun i => (i.zero, i.size, i.bytes)) = some (some z, 1, bytes)) (hzc : z.cells = #[z]) (hu : P.underlying t = some (.slice e))
    (n : Nat) {k1 k2 : IntKind} (hx : a.eval x = .int k1 (n : Int)) (hy : a.eval y = .int k2 (n : Int)) (hb : n ≤ 1000) (hbb : bytes ≤ 1000)
    (h : ∀ A w1, Held w0 w1 bs R (⟨w0.heap.size, A, n, n, 1, List.replicate n z⟩ :: es) → K (a.put dst (.slice A n n)) w1) : Oper.wp P ⟨dst, .makeSlice t x y, ty, pos, after, gd⟩ a w K Q := by
  cases hie : P.info? e with
  | none => simp [hie] at hi
  | some ie =>
    simp only [hie, Option.map_some, Option.some.injEq, Prod.mk.injEq] at hi
    obtain ⟨hz, hs, hby⟩ := hi
    obtain ⟨w', hr, ho, hg⟩ := run_makeSlice_full (P := P) w w.heap.size t e ie z 1 hu hie hz hs k1 k2 n (by omega) (by rw [hby]; have := Nat.mul_le_mul hbb hb; omega) (by unfold maxLen; omega) (Nat.le_refl _)
    unfold Oper.wp execOp
    simp only [hx, hy, Sem.run_bind, hr, Result.andThen_ok]
    refine h _ w' (O.gain ⟨hg.os, hg.tape, hg.output, hg.size, fun j hj => hg.block j hj (by simp)⟩ ?_)
    rw [Nat.mul_one, hzc, toList_madeCells_one] at ho
    obtain ⟨A, c, hv, hl⟩ := row_lies (w0 := w) (R := ⟨_, e, 1, n, List.replicate n z⟩) ho
    injection hv with h1 h2 h3
    subst h1 h3
    exact hl free (fun _ _ h => h)
theorem wpList_make_h {t e : TypeId} {x y : Operand} {gd : Option (Nat × Bool)} (hw : Region.wanted ⟨dst, .makeSlice t x y, ty, pos, after, gd⟩ (yielded ops a.tmps) = true) (O : Held w0 w bs R es) (z : Value) (bytes : Nat) (hi : (P.info? e).map (fun i => (i.zero, i.size, i.bytes)) = some (some z, 1, bytes)) (hzc : z.cells = #[z]) (hu : P.underlying t = some (.slice e))
    (n : Nat) {k1 k2 : IntKind} (hx : a.eval x = .int k1 (n : Int)) (hy : a.eval y = .int k2 (n : Int)) (hb : n ≤ 1000) (hbb : bytes ≤ 1000)
    (h : ∀ A w1, Held w0 w1 bs R (⟨w0.heap.size, A, n, n, 1, List.replicate n z⟩ :: es) → wpList P ops Q rest (a.put dst (.slice A n n)) w1) : wpList P ops Q (⟨dst, .makeSlice t x y, ty, pos, after, gd⟩ :: rest) a w :=
  wpList_step fun K hK => by rw [if_pos hw]; exact wp_make_h O z bytes hi hzc hu n hx hy hb hbb fun A w1 O' => hK _ _ (h A w1 O')
theorem at_lit (d : Nat) {t : TypeId} {len : Nat} {parts : Array (Nat × Operand)} {gd : Option (Nat × Bool)} (h : wpList P ops Q (⟨some d, .buildSlice t len parts, ty, pos, after, gd⟩ :: rest) a w) : wpList P ops Q (⟨some d, .buildSlice t len parts, ty, pos, after, gd⟩ :: rest) a w := h
theorem at_app (d : Nat) {t t' : TypeId} {x y : Operand} {gd : Option (Nat × Bool)} (h : wpList P ops Q (⟨some d, .call { callee := .builtin .append, args := #[x, y], argTypes := #[t, t'] }, ty, pos, after, gd⟩ :: rest) a w) : wpList P ops Q (⟨some d, .call { callee := .builtin .append, args := #[x, y], argTypes := #[t, t'] }, ty, pos, after, gd⟩ :: rest) a w := h
theorem at_make_ (d : Nat) {t : TypeId} {x y : Operand} {gd : Option (Nat × Bool)} (h : wpList P ops Q (⟨some d, .makeSlice t x y, ty, pos, after, gd⟩ :: rest) a w) : wpList P ops Q (⟨some d, .makeSlice t x y, ty, pos, after, gd⟩ :: rest) a w := h
theorem at_fld (d : Nat) {t : TypeId} {x : Operand} {f : Nat} {gd : Option (Nat × Bool)} (h : wpList P ops Q (⟨some d, .fieldAddr t x f, ty, pos, after, gd⟩ :: rest) a w) : wpList P ops Q (⟨some d, .fieldAddr t x f, ty, pos, after, gd⟩ :: rest) a w := h
theorem at_index_ (d : Nat) {t : TypeId} {x y : Operand} {gd : Option (Nat × Bool)} (h : wpList P ops Q (⟨some d, .indexAddr t x y, ty, pos, after, gd⟩ :: rest) a w) : wpList P ops Q (⟨some d, .indexAddr t x y, ty, pos, after, gd⟩ :: rest) a w := h
end
end Go.Proofs.Ytndaijcgjhmiaaa
namespace Go.Proofs.Ytndaijcgjhmiaaa
open Go.ChangeShapes Go.WideShapes Go.ChangeAt Go.RowKit
set_option linter.unusedVariables false
set_option linter.unusedSimpArgs false

theorem size3 : (Try.prog.info? 3).map (·.size) = some 1 := by kernel_rfl
theorem agg3 (w : World) : (isAgg 3).run Try.prog w = .ok false w := by kernel_rfl
theorem sizeOf3 (w : World) : (sizeOf 3).run Try.prog w = .ok 1 w := by kernel_rfl
theorem cells3 : Try.prog.cellsOf 3 = 1 := by kernel_rfl
theorem Own.held {w0 w : World} {bs : List (Nat × TypeId × List Value)} (h : Own w0 w bs) : Held w0 w bs nilRow [] :=
  ⟨h, World.ownsRow_nil _ _ _ _, by simp [nilRow, Value.ownBlock], by simp⟩
/-- An array, or a struct of numbers, by value. -/
abbrev arr (n : Nat) (a : Nat → Int) : Value := .agg (M.mat n a).toArray
theorem run_part_mat {n : Nat} (a : Nat → Int) {i : Nat} (h : i < n) (w : World) : (part 3 (M.mat n a).toArray i).run Try.prog w = .ok (.int .i64 (a i)) w := by
  have : (M.mat n a).toArray[i]? = some (.int .i64 (a i)) := by simpa using M.mat_get (a := a) h
  simp [part, Sem.run_bind, agg3 w, this]
theorem run_eqItems_mat {n : Nat} (a b : Nat → Int) (d : Nat) (w : World) : ∀ is : List Nat, (∀ i ∈ is, i < n) → (Op.eqItems (d + 1) 3 (Try.prog.cellsOf 3) (M.mat n a).toArray (M.mat n b).toArray is).run Try.prog w = .ok (is.all fun i => a i == b i) w
  | [], _ => by simp [Op.eqItems]
  | i :: is, h => by
    have hi : i < n := h i List.mem_cons_self
    have ih := run_eqItems_mat a b d w is (fun j hj => h j (List.mem_cons_of_mem _ hj))
    rw [cells3] at ih ⊢
    unfold Op.eqItems
    simp only [Sem.run_bind, Nat.mul_one, run_part_mat a hi, run_part_mat b hi, Result.andThen_ok, run_equalIn_int w d 3 .i64 .i64 _ _ Try.underlying3]
    cases h : a i == b i
    · simp [h]
    · simpa [h] using ih
theorem run_eq_arr (d : Nat) {t : TypeId} {n : Nat} (hu : Try.prog.underlying t = some (.array n 3)) (a b : Nat → Int) (w : World) : (Op.equalIn (d + 2) t (arr n a) (arr n b)).run Try.prog w = .ok (M.eqB n a b) w := by
  obtain ⟨i, hi⟩ : ∃ i, Try.prog.info? 3 = some i := by
    have := size3
    cases h : Try.prog.info? 3 with
    | none => simp [h] at this
    | some i => exact ⟨i, rfl⟩
  rw [show d + 2 = d + 1 + 1 from rfl, run_equalIn_array w (d + 1) _ _ hu hi]
  exact run_eqItems_mat a b d w (List.range n) (fun j hj => List.mem_range.1 hj)
theorem mat_cut {n k m : Nat} (a : Nat → Int) (h : k + m ≤ n) : ((M.mat n a).drop k).take m = M.mat m (D.sub k a) := by
  apply List.ext_getElem?
  intro i
  rw [List.getElem?_take]
  by_cases hi : i < m
  · rw [if_pos hi, List.getElem?_drop, M.mat_get (by omega), M.mat_get hi, D.sub]
  · rw [if_neg hi, List.getElem?_eq_none (by rw [M.mat_len]; omega)]
theorem eqF_int {n d : Nat} {a b : Nat → Int} {f : Field} {fs : List Field} (w : World) (hn : f.name ≠ "_") (ht : f.type = 3) (i : Nat) (ho : f.offset = i) (hi : i < n) :
    (Op.eqFields (d + 1) (M.mat n a).toArray (M.mat n b).toArray (f :: fs)).run Try.prog w = if (a i == b i) = true then (Op.eqFields (d + 1) (M.mat n a).toArray (M.mat n b).toArray fs).run Try.prog w else .ok false w := by
  rw [Op.eqFields, if_pos hn, ht, ho]
  simp only [Sem.run_bind, run_part_mat a hi, run_part_mat b hi, Result.andThen_ok, run_equalIn_int w d 3 .i64 .i64 _ _ Try.underlying3]
  cases h : a i == b i
  · simp
  · simp
theorem eqF_arr {n d m k : Nat} {a b : Nat → Int} {f : Field} {fs : List Field} (w : World) (hn : f.name ≠ "_") {t : TypeId} (ht : f.type = t) (hu : Try.prog.underlying t = some (.array m 3)) (hs : (sizeOf t).run Try.prog w = .ok m w) (ho : f.offset = k) (hi : k + m ≤ n) :
    (Op.eqFields (d + 2) (M.mat n a).toArray (M.mat n b).toArray (f :: fs)).run Try.prog w = if M.eqB m (D.sub k a) (D.sub k b) = true then (Op.eqFields (d + 2) (M.mat n a).toArray (M.mat n b).toArray fs).run Try.prog w else .ok false w := by
  rw [Op.eqFields, if_pos hn, ht, ho]
  have hagg : (isAgg t).run Try.prog w = .ok true w := by
    unfold isAgg
    rw [Sem.run_bind, run_underlying hu w]
    rfl
  have hp : ∀ c : Nat → Int, (part t (M.mat n c).toArray k).run Try.prog w = .ok (arr m (D.sub k c)) w := by
    intro c
    simp [part, Sem.run_bind, hagg, hs, mat_cut c hi]
  simp only [Sem.run_bind, hp, Result.andThen_ok, run_eq_arr d hu]
  cases h : M.eqB m (D.sub k a) (D.sub k b)
  · simp
  · simp
theorem run_index_mat {t : TypeId} {n : Nat} (hu : Try.prog.underlying t = some (.array n 3)) (a : Nat → Int) {i : Nat} (h : i < n) (w : World) : (Instr.index t (arr n a) (.int .i64 i)).run Try.prog w = .ok (.int .i64 (a i)) w := by
  unfold Instr.index
  have h1 : (0 : Int) ≤ i ∧ (i : Int) < n := by omega
  simp [asIntOf, Sem.run_bind, run_underlying hu, h1, sizeOf3, run_part_mat a h, show ¬ n ≤ i by omega]
theorem mat_sub {n k m : Nat} (a : Nat → Int) (h : k + m ≤ n) : ∀ j v, (M.mat m (D.sub k a))[j]? = some v → (M.mat n a)[k + j]? = some v := by
  intro j v hv
  have hj : j < m := by
    have := (List.getElem?_eq_some_iff.1 hv).1
    rwa [M.mat_len] at this
  rw [M.mat_get hj] at hv
  rw [M.mat_get (by omega)]
  exact hv
theorem mat_pre {n m : Nat} (a : Nat → Int) (h : m ≤ n) : ∀ j v, (M.mat m a)[j]? = some v → (M.mat n a)[0 + j]? = some v := by
  intro j v hv
  have hj : j < m := by
    have := (List.getElem?_eq_some_iff.1 hv).1
    rwa [M.mat_len] at this
  rw [M.mat_get hj] at hv
  rw [Nat.zero_add, M.mat_get (by omega)]
  exact hv
section
variable {P : Program} {ops : Array Oper} {Q : Exit → Act → World → Prop} {a : Act} {w w0 : World} {rest : List Oper} {bs : List (Nat × TypeId × List Value)} {dst : Option Tmp} {ty : TypeId} {pos : String} {after : Array Edge} {K : Act → World → Prop}
/-- The address of an element of an array within a block. -/
theorem wp_ino {t e : TypeId} {x y : Operand} {gd : Option (Nat × Bool)} {n : Nat} (hu : P.underlying t = some (.array n e)) (hs : ∀ w, (sizeOf e).run P w = .ok 1 w) (hn : 1 < n) {g o : Nat} {kd : IntKind} {z : Int} (i : Nat)
    (hx : a.eval x = .pointer (some ⟨g, o, none⟩)) (hy : a.eval y = .int kd z) (hz : z = (i : Int)) (hi : i < n) (h : K (a.put dst (.pointer (some ⟨g, o + i, none⟩))) w) : Oper.wp P ⟨dst, .indexAddr t x y, ty, pos, after, gd⟩ a w K Q := by
  subst hz
  have hr : (Instr.indexAt t (.pointer (some ⟨g, o, none⟩)) (.int kd i)).run P w = .ok (.pointer (some ⟨g, o + i, none⟩)) w := by
    have h1 : (0 : Int) ≤ i ∧ (i : Int) < n := by omega
    unfold Instr.indexAt
    simp [asIntOf, Sem.run_bind, run_underlying hu, Instr.sureAddr, hs w, add_zero_off, show ¬ n ≤ i by omega, show ¬ n ≤ 1 by omega]
  unfold Oper.wp execOp
  simp only [hx, hy, Sem.run_bind, hr, Result.andThen_ok]
  exact h
theorem wpList_ino {t e : TypeId} {x y : Operand} {gd : Option (Nat × Bool)} {n : Nat} (hw : Region.wanted ⟨dst, .indexAddr t x y, ty, pos, after, gd⟩ (yielded ops a.tmps) = true) (hu : P.underlying t = some (.array n e)) (hs : ∀ w, (sizeOf e).run P w = .ok 1 w) (hn : 1 < n) {g o : Nat} {kd : IntKind} {z : Int} (i : Nat)
    (hx : a.eval x = .pointer (some ⟨g, o, none⟩)) (hy : a.eval y = .int kd z) (hz : z = (i : Int)) (hi : i < n) (h : wpList P ops Q rest (a.put dst (.pointer (some ⟨g, o + i, none⟩))) w) : wpList P ops Q (⟨dst, .indexAddr t x y, ty, pos, after, gd⟩ :: rest) a w :=
  wpList_step fun K hK => by rw [if_pos hw]; exact wp_ino hu hs hn i hx hy hz hi (hK _ _ h)
/-- A block of the call's own as one value. -/
theorem wp_whole {t : TypeId} {x : Operand} {gd : Option (Nat × Bool)} (O : Own w0 w bs) (k : Nat) {g : Nat} {t' : TypeId} {cs : List Value} (hk : bs[k]? = some (g, t', cs)) (hx : a.eval x = .pointer (some ⟨g, 0, none⟩))
    {d : TypeDesc} (hu : P.underlying t = some d) (hd : (match d with | .struct _ | .array _ _ => true | _ => false) = true) (hi : (P.info? t).map (·.size) = some cs.length) (h : K (a.put dst (.agg cs.toArray)) w) : Oper.wp P ⟨dst, .load t x, ty, pos, after, gd⟩ a w K Q :=
  wp_mid_h O.held k hk cs (fun j v h => by rw [Nat.zero_add]; exact h) hx hu hd hi h
theorem wpList_whole {t : TypeId} {x : Operand} {gd : Option (Nat × Bool)} (hw : Region.wanted ⟨dst, .load t x, ty, pos, after, gd⟩ (yielded ops a.tmps) = true) (O : Own w0 w bs) (k : Nat) {g : Nat} {t' : TypeId} {cs : List Value} (hk : bs[k]? = some (g, t', cs)) (hx : a.eval x = .pointer (some ⟨g, 0, none⟩))
    {d : TypeDesc} (hu : P.underlying t = some d) (hd : (match d with | .struct _ | .array _ _ => true | _ => false) = true) (hi : (P.info? t).map (·.size) = some cs.length) (h : wpList P ops Q rest (a.put dst (.agg cs.toArray)) w) : wpList P ops Q (⟨dst, .load t x, ty, pos, after, gd⟩ :: rest) a w :=
  wpList_step fun K hK => by rw [if_pos hw]; exact wp_whole O k hk hx hu hd hi (hK _ _ h)
/-- A literal, guarded or not. -/
theorem wpList_build_g {t : TypeId} {x : Array (Nat × Operand)} {gd : Option (Nat × Bool)} (hw : Region.wanted ⟨dst, .build t x, ty, pos, after, gd⟩ (yielded ops a.tmps) = true) (l : List (Nat × Value)) (cs : Array Value) (hx : (x.map fun (i, y) => (i, a.eval y)).toList = l) (hb : P.built t l = some cs) (h : wpList P ops Q rest (a.put dst (.agg cs)) w) :
    wpList P ops Q (⟨dst, .build t x, ty, pos, after, gd⟩ :: rest) a w :=
  wpList_step fun K hK => by rw [if_pos hw]; exact wp_build_own l cs hx hb (hK _ _ h)
end
end Go.Proofs.Ytndaijcgjhmiaaa
