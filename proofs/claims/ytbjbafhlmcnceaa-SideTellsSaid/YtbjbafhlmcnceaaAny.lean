/- A region that draws its order: where each operation but the last ones yields its value in every world that meets S, and leaves a world that meets S, one order stands for all. -/
import Derived.Test.YtbjbafhlmcnceaaRows
import Derived.WalkKit
import Derived.OrdersHeld
import Derived.RegionTactic
namespace Go.Proofs.Ytbjbafhlmcnceaa
set_option linter.unusedVariables false

section
variable {P : Program} {ops : Array Oper} {Q : Exit → Act → World → Prop} {md : Region.Mode} {S : World → Prop}

/-- No way out but the plain one. -/
def noQ : Exit → Act → World → Prop := fun _ _ _ => False
/-- Slot of operation i. -/
def dstOf (ops : Array Oper) (i : Nat) : Option Tmp := (ops[i]?).bind (·.dst)
/-- The values laid into their slots, one behind the other. -/
def fillD : List (Option Tmp) → List Value → Act → Act
  | d :: ds, v :: vs, a => fillD ds vs (a.put d v)
  | _, _, a => a
theorem put_size (a : Act) (d : Option Tmp) (v : Value) : (a.put d v).tmps.size = a.tmps.size := by cases d <;> simp [Act.put]
theorem put_defers' (a : Act) (d : Option Tmp) (v : Value) : (a.put d v).defers = a.defers := by cases d <;> rfl
theorem put_other (a : Act) {d : Option Tmp} {k : Nat} (v : Value) (h : d ≠ some k) : (a.put d v).tmps[k]? = a.tmps[k]? := by
  cases d with
  | none => rfl
  | some e =>
    have : e ≠ k := fun x => h (by rw [x])
    simp [Act.put, Array.getElem?_setIfInBounds_ne this]
theorem put_same (a : Act) {k : Nat} (v : Value) : (a.put (some k) v).tmps[k]? = if k < a.tmps.size then some v else none := by
  simp [Act.put, Array.getElem?_setIfInBounds]
theorem fillD_size : ∀ (ds : List (Option Tmp)) (vs : List Value) (a : Act), (fillD ds vs a).tmps.size = a.tmps.size
  | [], _, _ => by simp [fillD]
  | d :: ds, [], a => rfl
  | d :: ds, v :: vs, a => by rw [fillD, fillD_size ds vs, put_size]
theorem fillD_defers : ∀ (ds : List (Option Tmp)) (vs : List Value) (a : Act), (fillD ds vs a).defers = a.defers
  | [], _, _ => by simp [fillD]
  | d :: ds, [], a => rfl
  | d :: ds, v :: vs, a => by rw [fillD, fillD_defers ds vs, put_defers']
theorem fillD_other : ∀ (ds : List (Option Tmp)) (vs : List Value) (a : Act) (k : Nat), some k ∉ ds → (fillD ds vs a).tmps[k]? = a.tmps[k]?
  | [], _, _, _, _ => by simp [fillD]
  | d :: ds, [], a, _, _ => rfl
  | d :: ds, v :: vs, a, k, h => by
    rw [fillD, fillD_other ds vs _ k (fun x => h (List.mem_cons_of_mem _ x)), put_other a v (fun x => h (by rw [x]; exact List.mem_cons_self))]
theorem fillD_at : ∀ (ds : List (Option Tmp)) (vs : List Value) (a : Act) (k j : Nat) (v : Value), ds[j]? = some (some k) → vs[j]? = some v → (∀ i, i ≠ j → ds[i]? ≠ some (some k)) →
    (fillD ds vs a).tmps[k]? = if k < a.tmps.size then some v else none
  | [], _, _, _, j, _, h, _, _ => by simp at h
  | d :: ds, [], a, _, _, _, _, h, _ => by simp at h
  | d :: ds, u :: vs, a, k, 0, v, h, h', hn => by
    simp only [List.getElem?_cons_zero, Option.some.injEq] at h h'
    subst h h'
    rw [fillD, fillD_other ds vs _ k, put_same]
    intro hm
    obtain ⟨i, hi⟩ := List.mem_iff_getElem?.1 hm
    exact hn (i + 1) (by omega) (by simpa using hi)
  | d :: ds, u :: vs, a, k, j + 1, v, h, h', hn => by
    rw [fillD, fillD_at ds vs _ k j v (by simpa using h) (by simpa using h') (fun i hi => by simpa using hn (i + 1) (by omega)), put_size]

/-- In the full frame F operation i yields v in every world that meets S, and leaves one that meets S; or it isn't wanted. -/
def DoesW (P : Program) (ops : Array Oper) (S S' : World → Prop) (F : Act) (i : Nat) (v : Value) : Prop :=
  ∃ o, ops[i]? = some o ∧
    ((Region.wanted o (yielded ops F.tmps) = true ∧ ∀ w, S w → ∀ K : Act → World → Prop, (∀ w', S' w' → K (F.put o.dst v) w') → o.wp P F w K noQ) ∨
     (Region.wanted o (yielded ops F.tmps) = false ∧ v = undef ∧ S = S'))
abbrev Does (P : Program) (ops : Array Oper) (S : World → Prop) (F : Act) (i : Nat) (v : Value) : Prop := DoesW P ops S S F i v
theorem does_want {F : Act} {i : Nat} {o : Oper} {v : Value} (hi : ops[i]? = some o) (hw : Region.wanted o (yielded ops F.tmps) = true)
    (h : ∀ w, S w → ∀ K : Act → World → Prop, (∀ w', S w' → K (F.put o.dst v) w') → o.wp P F w K noQ) : Does P ops S F i v := ⟨o, hi, .inl ⟨hw, h⟩⟩
theorem does_skip {F : Act} {i : Nat} {o : Oper} (hi : ops[i]? = some o) (hw : Region.wanted o (yielded ops F.tmps) = false) : Does P ops S F i undef := ⟨o, hi, .inr ⟨hw, rfl, rfl⟩⟩
/-- One behind the other. -/
def DoesAll (P : Program) (ops : Array Oper) (S : World → Prop) (F : Act) : List Nat → List Value → Prop
  | i :: is, v :: vs => Does P ops S F i v ∧ DoesAll P ops S F is vs
  | [], [] => True
  | _, _ => False
theorem DoesAll.len {F : Act} : ∀ {is : List Nat} {vs : List Value}, DoesAll P ops S F is vs → is.length = vs.length
  | [], [], _ => rfl
  | _ :: _, _ :: _, h => congrArg (· + 1) (DoesAll.len h.2)
  | [], _ :: _, h => h.elim
  | _ :: _, [], h => h.elim
theorem DoesAll.get {F : Act} : ∀ {is : List Nat} {vs : List Value}, DoesAll P ops S F is vs → ∀ (j i : Nat), is[j]? = some i → ∃ v, vs[j]? = some v ∧ Does P ops S F i v
  | [], [], _, _, _, h => by simp at h
  | i :: _, v :: _, h, 0, k, hk => ⟨v, rfl, (show i = k by simpa using hk) ▸ h.1⟩
  | _ :: _, _ :: _, h, j + 1, k, hk => by simpa using DoesAll.get h.2 j k (by simpa using hk)
  | [], _ :: _, h, _, _, _ => h.elim
  | _ :: _, [], h, _, _, _ => h.elim

/-- What operation o waits for. -/
def waitsOn (md : Region.Mode) (o : Oper) (i : Nat) : Bool := o.after.any fun e => Region.binds md e && e.on == i
theorem waitsOn_iff {o : Oper} {i : Nat} : waitsOn md o i = true ↔ ∃ e ∈ o.after, Region.binds md e = true ∧ e.on = i := by
  unfold waitsOn
  rw [Array.any_eq_true']
  simp
/-- The operations fs come up ahead of all others, each reads what those hand it that it waits for, and nobody else's slot. -/
def okV (md : Region.Mode) (ops : Array Oper) (fs : List Nat) : Bool :=
  Region.noSelect ops && decide fs.Nodup && fs.all (fun i => decide (i < ops.size)) &&
  fs.all (fun i => match ops[i]? with
    | some o => o.after.all (fun e => !Region.binds md e || (fs.contains e.on && decide (e.on < i))) &&
      (o.looksAt ops).all (fun t => fs.all fun j => dstOf ops j != some t || waitsOn md o j)
    | none => false) &&
  (List.range ops.size).all (fun j => fs.contains j || match ops[j]? with | some o => fs.all (fun i => waitsOn md o i) | none => false) &&
  fs.all (fun i => (List.range ops.size).all fun j => i == j || dstOf ops i == none || dstOf ops i != dstOf ops j)

/-- Which ones have come up: those of fs that are in none of us. -/
def Lst (fs us : List Nat) (n : Nat) (listed : Array Bool) : Prop := listed.size = n ∧ ∀ j, j < n → listed.getD j true = (fs.contains j && !us.contains j)
def listedOf (fs : List Nat) (n : Nat) : Array Bool := ((List.range n).map fun j => fs.contains j).toArray
theorem lst_end {fs : List Nat} {n : Nat} {listed : Array Bool} (h : Lst fs [] n listed) : listed = listedOf fs n := by
  apply Array.ext
  · rw [h.1]; simp [listedOf]
  · intro j h1 h2
    have := h.2 j (by rw [← h.1]; exact h1)
    rw [Array.getD_eq_getD_getElem?, Array.getElem?_eq_getElem h1] at this
    simpa [listedOf] using this
/-- The frame on the way: slots of those that have not come up are as they were, all others as they are in the end. -/
def Way (ops : Array Oper) (fs us : List Nat) (a0 F a : Act) : Prop :=
  a.defers = F.defers ∧ a.tmps.size = F.tmps.size ∧ ∀ k, ((∃ j ∈ us, dstOf ops j = some k) → a.tmps[k]? = a0.tmps[k]?) ∧ ((∀ j ∈ us, dstOf ops j ≠ some k) → a.tmps[k]? = F.tmps[k]?)

theorem region_V_go {SS : Bool → World → Prop} {s : Nat} {n0 rest : Nat} {fs : List Nat} {a0 F : Act} (hn : ops.size = n0)
    (hsel : ∀ (j : Nat) (o : Oper) cs b, ops[j]? = some o → o.op ≠ .select cs b)
    (hlt : ∀ i ∈ fs, i < n0)
    (hdep : ∀ i ∈ fs, ∀ o, ops[i]? = some o → ∀ e ∈ o.after, Region.binds md e = true → e.on ∈ fs ∧ e.on < i)
    (hsee : ∀ i ∈ fs, ∀ o, ops[i]? = some o → ∀ t ∈ o.looksAt ops, ∀ j ∈ fs, dstOf ops j = some t → waitsOn md o j = true)
    (htail : ∀ j, j < n0 → j ∉ fs → ∀ o, ops[j]? = some o → ∀ i ∈ fs, waitsOn md o i = true)
    (hdst : ∀ i ∈ fs, ∀ j, j < n0 → i ≠ j → ∀ k, dstOf ops i = some k → dstOf ops j ≠ some k)
    (hF1 : F.defers = a0.defers) (hF2 : F.tmps.size = a0.tmps.size)
    (hdo : ∀ i ∈ fs, ∃ v, (if i = s then DoesW P ops (SS false) (SS true) F i v else ∀ b, Does P ops (SS b) F i v) ∧ ∀ k, dstOf ops i = some k → F.tmps[k]? = if k < F.tmps.size then some v else none)
    (hend : ∀ w, SS true w → wpAny P md ops Q rest (listedOf fs n0) F w) :
    ∀ (n : Nat) (us : List Nat) (listed : Array Bool) (a : Act) (w : World), us.length = n → us.Nodup → (∀ i ∈ us, i ∈ fs) → Lst fs us n0 listed → Way ops fs us a0 F a → SS (!us.contains s) w →
      wpAny P md ops Q (n + rest) listed a w := by
  intro n
  induction n with
  | zero =>
    intro us listed a w hl _ _ hL hW hS
    have : us = [] := List.eq_nil_of_length_eq_zero hl
    subst this
    rw [lst_end hL, Nat.zero_add]
    have ha : a = F := by
      obtain ⟨t1, d1⟩ := a
      obtain ⟨t2, d2⟩ := F
      obtain ⟨h1, h2, h3⟩ := hW
      simp only at h1 h2 h3
      subst h1
      congr 1
      apply Array.ext_getElem?
      intro k
      exact (h3 k).2 (fun j hj => by simp at hj)
    subst ha
    exact hend w (by simpa using hS)
  | succ n ih =>
    intro us listed a w hl hnd hsub hL hW hS
    rw [show n + 1 + rest = (n + rest) + 1 by omega]
    -- the least one that has not come up is ready
    have hready : ∀ j, j ∈ Region.ready md ops listed ↔ (j < n0 ∧ ¬ (j ∈ fs ∧ j ∉ us)) ∧ ∃ o, ops[j]? = some o ∧ ∀ e ∈ o.after, Region.binds md e = true → listed.getD e.on false = true := by
      intro j
      rw [mem_ready]
      constructor
      · rintro ⟨h0, o, ho, h⟩
        have hj : j < n0 := by rw [← hn]; exact (Array.getElem?_eq_some_iff.1 ho).1
        have := hL.2 j hj
        rw [h0] at this
        refine ⟨⟨hj, fun ⟨h1, h2⟩ => ?_⟩, o, ho, h⟩
        simp [h1, h2] at this
      · rintro ⟨⟨hj, h1⟩, o, ho, h⟩
        refine ⟨?_, o, ho, h⟩
        rw [hL.2 j hj]
        by_cases h2 : j ∈ fs <;> by_cases h3 : j ∈ us <;> simp_all
    have hlisted : ∀ j, j ∈ fs → (listed.getD j false = true ↔ j ∉ us) := by
      intro j hj
      have hjn := hlt j hj
      have := hL.2 j hjn
      have hjs : j < listed.size := by rw [hL.1]; exact hjn
      rw [Array.getD_eq_getD_getElem?, Array.getElem?_eq_getElem hjs] at this ⊢
      simp only [Option.getD_some] at this ⊢
      rw [this]
      simp [hj]
    constructor
    · intro hnil
      exfalso
      have hne : us ≠ [] := by intro e; rw [e] at hl; simp at hl
      obtain ⟨m, hm, hmin⟩ : ∃ m ∈ us, ∀ j ∈ us, m ≤ j := by
        clear ih hl hnd hsub hL hW hready hlisted hnil hS
        induction us with
        | nil => exact absurd rfl hne
        | cons x xs ih =>
          cases xs with
          | nil => exact ⟨x, List.mem_cons_self, fun j hj => by simp at hj; omega⟩
          | cons y ys =>
            obtain ⟨m, hm, hmin⟩ := ih (by simp)
            by_cases h : x ≤ m
            · exact ⟨x, List.mem_cons_self, fun j hj => by
                rcases List.mem_cons.1 hj with rfl | hj
                · exact Nat.le_refl _
                · exact Nat.le_trans h (hmin j hj)⟩
            · exact ⟨m, List.mem_cons_of_mem _ hm, fun j hj => by
                rcases List.mem_cons.1 hj with rfl | hj
                · omega
                · exact hmin j hj⟩
      have hmf := hsub m hm
      have hmn := hlt m hmf
      obtain ⟨o, ho⟩ : ∃ o, ops[m]? = some o := ⟨_, Array.getElem?_eq_getElem (by rw [hn]; exact hmn)⟩
      have : m ∈ Region.ready md ops listed := (hready m).2 ⟨⟨hmn, fun h => h.2 hm⟩, o, ho, fun e he hb => by
        have h := hdep m hmf o ho e he hb
        rw [hlisted e.on h.1]
        intro hu
        have := hmin e.on hu
        omega⟩
      rw [hnil] at this
      simp at this
    · intro i hi
      obtain ⟨⟨hin, hun⟩, o, ho, hall⟩ := (hready i).1 hi
      have hif : i ∈ fs := by
        apply Classical.byContradiction
        intro hnf
        obtain ⟨u, hu⟩ : ∃ u, u ∈ us := by
          cases us with
          | nil => simp at hl
          | cons x xs => exact ⟨x, List.mem_cons_self⟩
        obtain ⟨e, he, hb, heq⟩ := waitsOn_iff.1 (htail i hin hnf o ho u (hsub u hu))
        have := hall e he hb
        rw [heq, hlisted u (hsub u hu)] at this
        exact this hu
      have hiu : i ∈ us := by
        apply Classical.byContradiction
        intro h
        exact hun ⟨hif, h⟩
      obtain ⟨v, hdi', hv⟩ := hdo i hif
      have hd0 : DoesW P ops (SS (!us.contains s)) (SS (!(us.erase i).contains s)) F i v := by
        by_cases his : i = s
        · subst his
          rw [if_pos rfl] at hdi'
          have h1 : us.contains i = true := by simpa using hiu
          have h2 : (us.erase i).contains i = false := by
            have : i ∉ us.erase i := fun h => ((hnd.mem_erase_iff).1 h).1 rfl
            simpa using this
          rw [h1, h2]
          exact hdi'
        · rw [if_neg his] at hdi'
          have h1 : (us.erase i).contains s = us.contains s := by
            have : s ∈ us.erase i ↔ s ∈ us := by rw [hnd.mem_erase_iff]; simp [Ne.symm his]
            by_cases h : s ∈ us <;> simp [h, this]
          rw [h1]
          exact hdi' _
      obtain ⟨o', ho', hd⟩ := hd0
      have : o' = o := by rw [ho] at ho'; injection ho' with h; exact h.symm
      subst this
      -- what the operation looks at
      have look : ∀ t ∈ o'.looksAt ops, a.tmps[t]? = F.tmps[t]? := by
        intro t ht
        by_cases hx : ∃ j ∈ us, dstOf ops j = some t
        · obtain ⟨j, hj, hjd⟩ := hx
          obtain ⟨e, he, hb, heq⟩ := waitsOn_iff.1 (hsee i hif o' ho t ht j (hsub j hj) hjd)
          have := hall e he hb
          rw [heq, hlisted j (hsub j hj)] at this
          exact absurd hj this
        · exact (hW.2.2 t).2 (fun j hj h => hx ⟨j, hj, h⟩)
      have hexec : execOp a.eval o' = execOp F.eval o' := execOp_congr o' (fun cs b => hsel i o' cs b ho) (fun x hx => by
        cases x with
        | tmp t =>
          have := look t (List.mem_append_left _ (List.mem_filterMap.2 ⟨.tmp t, by simpa using hx, rfl⟩))
          simp only [Act.eval, Array.getD_eq_getD_getElem?, this]
        | _ => rfl)
      have hwant : Region.wanted o' (yielded ops a.tmps) = Region.wanted o' (yielded ops F.tmps) := by
        unfold Region.wanted
        cases hg : o'.guard with
        | none => rfl
        | some gw =>
          obtain ⟨g, want⟩ := gw
          have hy : yielded ops a.tmps g = yielded ops F.tmps g := by
            unfold yielded
            cases ht : (ops[g]?).bind (·.dst) with
            | none => rfl
            | some t =>
              have := look t (List.mem_append_right _ (by simp [hg, ht]))
              simp only [Option.bind_some, this]
          simp only [hy]
      -- the way goes on
      have next : ∀ u, F.put o'.dst u = F.put o'.dst v → ∀ w', SS (!(us.erase i).contains s) w' → wpAny P md ops Q (n + rest) (listed.setIfInBounds i true) (a.put o'.dst u) w' := by
        intro u hu w' hS'
        have hdi : dstOf ops i = o'.dst := by simp [dstOf, ho]
        refine ih (us.erase i) _ _ w' (by rw [List.length_erase_of_mem hiu]; omega) (hnd.erase i) (fun j hj => hsub j (List.mem_of_mem_erase hj)) ⟨by simpa using hL.1, fun j hj => ?_⟩ ⟨?_, ?_, fun k => ⟨?_, ?_⟩⟩ hS'
        · by_cases hij : i = j
          · subst hij
            rw [Array.getD_eq_getD_getElem?, Array.getElem?_setIfInBounds_self_of_lt (by rw [hL.1]; exact hj)]
            have : i ∉ us.erase i := fun h => ((hnd.mem_erase_iff).1 h).1 rfl
            simp [hif, this]
          · rw [getD_set_ne true hij, hL.2 j hj]
            have : j ∈ us.erase i ↔ j ∈ us := by rw [hnd.mem_erase_iff]; simp [Ne.symm hij]
            by_cases h : j ∈ us <;> simp [h, this]
        · rw [put_defers']; exact hW.1
        · rw [put_size]; exact hW.2.1
        · rintro ⟨j, hj, hjk⟩
          obtain ⟨h1, h2⟩ := (hnd.mem_erase_iff).1 hj
          rw [put_other a u (by rw [← hdi]; intro h; exact hdst i hif j (hlt j (hsub j h2)) (Ne.symm h1) k h hjk)]
          exact (hW.2.2 k).1 ⟨j, h2, hjk⟩
        · intro hno
          by_cases hk : o'.dst = some k
          · have h1 := hv k (by rw [hdi]; exact hk)
            have h2 : (F.put (some k) u).tmps[k]? = (F.put (some k) v).tmps[k]? := by rw [← hk, hu]
            rw [put_same, put_same] at h2
            rw [hk, put_same, h1, hW.2.1]
            exact h2
          · rw [put_other a u hk]
            exact (hW.2.2 k).2 (fun j hj hjk => by
              by_cases hij : j = i
              · subst hij; rw [hdi] at hjk; exact hk hjk
              · exact hno j ((hnd.mem_erase_iff).2 ⟨hij, hj⟩) hjk)
      unfold wpOp
      simp only [ho, hwant]
      rcases hd with ⟨hw, hd⟩ | ⟨hw, rfl, hSS⟩
      · rw [if_pos hw]
        refine .inl ?_
        have h := hd w hS (fun a' w' => a' = F.put o'.dst v ∧ SS (!(us.erase i).contains s) w') (fun w' h => ⟨rfl, h⟩)
        unfold Oper.wp at *
        rw [hexec]
        generalize (execOp F.eval o').run P w = r at *
        cases r with
        | ok x w' =>
          cases x <;> simp only [Oper.upon] at h ⊢
          case value u => exact next u h.1 w' h.2
          case skip => exact next undef h.1 w' h.2
          case defer d =>
            exfalso
            have := congrArg Act.defers h.1
            rw [put_defers', put_defers'] at this
            exact absurd (congrArg List.length this) (by simp)
          case enter f args =>
            refine Calls.mono h fun e w'' he => ?_
            cases e with
            | returned u => exact next u he.1 w'' he.2
            | panicked c => exact he.elim
            | outgrown => obtain ⟨_, _, hf⟩ := he; exact hf.elim
          case row row args => exact Rows.mono h fun u w'' he => next u he.1 w'' he.2
        | halt x w' =>
          cases x <;> simp only [Oper.upon] at h ⊢
          case panic u => exact h.elim
      · rw [if_neg (by simp [hw])]
        exact next undef rfl w (hSS ▸ hS)

theorem okV_spec {fs : List Nat} (h : okV md ops fs = true) :
    (∀ (j : Nat) (o : Oper) cs b, ops[j]? = some o → o.op ≠ .select cs b) ∧ fs.Nodup ∧ (∀ i ∈ fs, i < ops.size) ∧
    (∀ i ∈ fs, ∀ o, ops[i]? = some o → ∀ e ∈ o.after, Region.binds md e = true → e.on ∈ fs ∧ e.on < i) ∧
    (∀ i ∈ fs, ∀ o, ops[i]? = some o → ∀ t ∈ o.looksAt ops, ∀ j ∈ fs, dstOf ops j = some t → waitsOn md o j = true) ∧
    (∀ j, j < ops.size → j ∉ fs → ∀ o, ops[j]? = some o → ∀ i ∈ fs, waitsOn md o i = true) ∧
    (∀ i ∈ fs, ∀ j, j < ops.size → i ≠ j → ∀ k, dstOf ops i = some k → dstOf ops j ≠ some k) := by
  unfold okV at h
  simp only [Bool.and_eq_true] at h
  obtain ⟨⟨⟨⟨⟨h1, h2⟩, h3⟩, h4⟩, h5⟩, h6⟩ := h
  rw [decide_eq_true_eq] at h2
  simp only [List.all_eq_true, List.mem_range, decide_eq_true_eq] at h3 h4 h5 h6
  refine ⟨fun j o cs b ho => Region.noSelect_spec h1 j o cs b ho, h2, h3, fun i hi o ho e he hb => ?_, fun i hi o ho t ht j hj hd => ?_, fun j hj hn o ho i hi => ?_, fun i hi j hj hne k hk hk' => ?_⟩
  · have := h4 i hi
    rw [ho] at this
    simp only [Bool.and_eq_true, Array.all_eq_true_iff_forall_mem] at this
    have := this.1 e he
    simpa [hb] using this
  · have := h4 i hi
    rw [ho] at this
    simp only [Bool.and_eq_true, List.all_eq_true] at this
    have := this.2 t ht j hj
    simpa [hd] using this
  · have := h5 j hj
    rw [ho] at this
    simp only [Bool.or_eq_true, List.all_eq_true] at this
    rcases this with h | h
    · simp [hn] at h
    · exact h i hi
  · have := h6 i hi j hj
    simp [hk, hk', hne] at this

theorem region_V {id : Nat} {a0 : Act} {w0 : World} (S : World → Prop) (fs : List Nat) (ds : List (Option Tmp)) (vals : List Value) (rest : Nat)
    (hm : P.follows .mixedOrders = true) (hok : okV .any ops fs = true) (hds : fs.map (dstOf ops) = ds) (hr : fs.length + rest = ops.size) (h0 : S w0.drew)
    (h : ∀ F, fillD ds vals a0 = F → DoesAll P ops S F fs vals ∧ ∀ w, S w → wpAny P .any ops Q rest (listedOf fs ops.size) F w) :
    (Code.region id ops true).wp P Q a0 w0 := by
  obtain ⟨hsel, hnd, hlt, hdep, hsee, htail, hdst⟩ := okV_spec hok
  obtain ⟨hdo, hend⟩ := h _ rfl
  refine wp_region_any hm ?_
  rw [← hr]
  subst hds
  refine region_V_go (SS := fun _ => S) (s := ops.size) rfl hsel hlt hdep hsee htail hdst (fillD_defers _ _ _) (fillD_size _ _ _) (fun i hi => ?_) hend fs.length fs _ a0 _ rfl hnd (fun _ h => h) ⟨by simp [hr], fun j hj => ?_⟩
    ⟨(fillD_defers _ _ _).symm, (fillD_size _ _ _).symm, fun k => ⟨fun _ => rfl, fun hno => ?_⟩⟩ h0
  · obtain ⟨j, hj⟩ := List.mem_iff_getElem?.1 hi
    obtain ⟨v, hv, hd⟩ := hdo.get j i hj
    refine ⟨v, by rw [if_neg (by have := hlt i hi; omega)]; exact fun _ => hd, fun k hk => ?_⟩
    rw [fillD_at _ _ _ k j v (by simp [hj, hk]) hv (fun i' hne h' => ?_), fillD_size]
    obtain ⟨x, hx, hxk⟩ : ∃ x, fs[i']? = some x ∧ dstOf ops x = some k := by
      rw [List.getElem?_map] at h'
      cases hx : fs[i']? with
      | none => simp [hx] at h'
      | some x => exact ⟨x, rfl, by simpa [hx] using h'⟩
    have hxi : x ≠ i := by
      intro e
      subst e
      obtain ⟨l1, e1⟩ := List.getElem?_eq_some_iff.1 hx
      obtain ⟨l2, e2⟩ := List.getElem?_eq_some_iff.1 hj
      exact hne ((List.getElem_inj hnd).1 (e1.trans e2.symm))
    exact hdst x (List.mem_of_getElem? hx) i (hlt i hi) hxi k hxk hk
  · rw [Array.getD_eq_getD_getElem?]
    have : j < fs.length + rest := by omega
    by_cases hj' : j ∈ fs <;> simp [this, hj']
  · exact (fillD_other _ _ _ _ (fun hm => by
      obtain ⟨i, hi, hik⟩ := List.mem_map.1 hm
      exact hno i hi hik)).symm
/-- The same, of which operation s, a store, stands ahead of the last ones: b tells whether it has come up. -/
def DoesS (P : Program) (ops : Array Oper) (SS : Bool → World → Prop) (s : Nat) (F : Act) (i : Nat) (v : Value) : Prop := if i = s then DoesW P ops (SS false) (SS true) F i v else ∀ b, Does P ops (SS b) F i v
def DoesAllW (P : Program) (ops : Array Oper) (SS : Bool → World → Prop) (s : Nat) (F : Act) : List Nat → List Value → Prop
  | i :: is, v :: vs => DoesS P ops SS s F i v ∧ DoesAllW P ops SS s F is vs
  | [], [] => True
  | _, _ => False
theorem DoesAllW.get {SS : Bool → World → Prop} {s : Nat} {F : Act} : ∀ {is : List Nat} {vs : List Value}, DoesAllW P ops SS s F is vs → ∀ (j i : Nat), is[j]? = some i → ∃ v, vs[j]? = some v ∧ (if i = s then DoesW P ops (SS false) (SS true) F i v else ∀ b, Does P ops (SS b) F i v)
  | [], [], _, _, _, h => by simp at h
  | i :: _, v :: _, h, 0, k, hk => ⟨v, rfl, (show i = k by simpa using hk) ▸ h.1⟩
  | _ :: _, _ :: _, h, j + 1, k, hk => by simpa using DoesAllW.get h.2 j k (by simpa using hk)
  | [], _ :: _, h, _, _, _ => h.elim
  | _ :: _, [], h, _, _, _ => h.elim
theorem does_store {SS : Bool → World → Prop} {s i : Nat} {F : Act} {o : Oper} {v : Value} (hs : i = s) (hi : ops[i]? = some o) (hw : Region.wanted o (yielded ops F.tmps) = true)
    (h : ∀ w, SS false w → ∀ K : Act → World → Prop, (∀ w', SS true w' → K (F.put o.dst v) w') → o.wp P F w K noQ) : DoesS P ops SS s F i v := by
  unfold DoesS; rw [if_pos hs]; exact ⟨o, hi, .inl ⟨hw, h⟩⟩
theorem does_other {SS : Bool → World → Prop} {s i : Nat} {F : Act} {v : Value} (hs : i ≠ s) (h : ∀ b, Does P ops (SS b) F i v) : DoesS P ops SS s F i v := by
  unfold DoesS; rw [if_neg hs]; exact h
theorem region_W {id : Nat} {a0 : Act} {w0 : World} (SS : Bool → World → Prop) (s : Nat) (fs : List Nat) (ds : List (Option Tmp)) (vals : List Value) (rest : Nat)
    (hm : P.follows .mixedOrders = true) (hok : okV .any ops fs = true) (hds : fs.map (dstOf ops) = ds) (hr : fs.length + rest = ops.size) (hs : s ∈ fs) (h0 : SS false w0.drew)
    (h : ∀ F, fillD ds vals a0 = F → DoesAllW P ops SS s F fs vals ∧ ∀ w, SS true w → wpAny P .any ops Q rest (listedOf fs ops.size) F w) :
    (Code.region id ops true).wp P Q a0 w0 := by
  obtain ⟨hsel, hnd, hlt, hdep, hsee, htail, hdst⟩ := okV_spec hok
  obtain ⟨hdo, hend⟩ := h _ rfl
  refine wp_region_any hm ?_
  rw [← hr]
  subst hds
  refine region_V_go (SS := SS) (s := s) rfl hsel hlt hdep hsee htail hdst (fillD_defers _ _ _) (fillD_size _ _ _) (fun i hi => ?_) hend fs.length fs _ a0 _ rfl hnd (fun _ h => h) ⟨by simp [hr], fun j hj => ?_⟩
    ⟨(fillD_defers _ _ _).symm, (fillD_size _ _ _).symm, fun k => ⟨fun _ => rfl, fun hno => ?_⟩⟩ (by rw [show fs.contains s = true by simpa using hs]; exact h0)
  · obtain ⟨j, hj⟩ := List.mem_iff_getElem?.1 hi
    obtain ⟨v, hv, hd⟩ := hdo.get j i hj
    refine ⟨v, hd, fun k hk => ?_⟩
    rw [fillD_at _ _ _ k j v (by simp [hj, hk]) hv (fun i' hne h' => ?_), fillD_size]
    obtain ⟨x, hx, hxk⟩ : ∃ x, fs[i']? = some x ∧ dstOf ops x = some k := by
      rw [List.getElem?_map] at h'
      cases hx : fs[i']? with
      | none => simp [hx] at h'
      | some x => exact ⟨x, rfl, by simpa [hx] using h'⟩
    have hxi : x ≠ i := by
      intro e
      subst e
      obtain ⟨l1, e1⟩ := List.getElem?_eq_some_iff.1 hx
      obtain ⟨l2, e2⟩ := List.getElem?_eq_some_iff.1 hj
      exact hne ((List.getElem_inj hnd).1 (e1.trans e2.symm))
    exact hdst x (List.mem_of_getElem? hx) i (hlt i hi) hxi k hxk hk
  · rw [Array.getD_eq_getD_getElem?]
    have : j < fs.length + rest := by omega
    by_cases hj' : j ∈ fs <;> simp [this, hj']
  · exact (fillD_other _ _ _ _ (fun hm => by
      obtain ⟨i, hi, hik⟩ := List.mem_map.1 hm
      exact hno i hi hik)).symm
/-- The one operation that may come up comes up. -/
theorem wpAny_one {i : Nat} {o : Oper} {fuel : Nat} {listed : Array Bool} {a : Act} {w : World} (hr : Region.ready md ops listed = [i]) (hi : ops[i]? = some o)
    (h : ∀ K : Act → World → Prop, (∀ a w, wpAny P md ops Q fuel (listed.setIfInBounds i true) a w → K a w) → if Region.wanted o (yielded ops a.tmps) = true then Oper.wp P o a w K Q else K (a.put o.dst undef) w) :
    wpAny P md ops Q (fuel + 1) listed a w :=
  wpAny_all hr (by simp) fun j hj => by
    rw [List.mem_singleton] at hj
    subst hj
    exact wpOp_step hi h
/-- The same where it is wanted. -/
theorem wpAny_want {i : Nat} {o : Oper} {fuel : Nat} {listed : Array Bool} {a : Act} {w : World} (hr : Region.ready md ops listed = [i]) (hi : ops[i]? = some o) (hw : Region.wanted o (yielded ops a.tmps) = true)
    (h : ∀ K : Act → World → Prop, (∀ a w, wpAny P md ops Q fuel (listed.setIfInBounds i true) a w → K a w) → Oper.wp P o a w K Q) :
    wpAny P md ops Q (fuel + 1) listed a w :=
  wpAny_one hr hi fun K hK => by rw [if_pos hw]; exact h K hK
end
end Go.Proofs.Ytbjbafhlmcnceaa
