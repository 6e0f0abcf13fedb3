/- A region that draws its order, of which some operations (calls, new blocks, stores) yield values that hang on when they come up, or change what is known of the world; others hang on these. -/
import Derived.Test.YtbjbafhlmcnceaaAny
namespace Go.Proofs.Ytbjbafhlmcnceaa
set_option linter.unusedVariables false

section
variable {P : Program} {ops : Array Oper} {Q : Exit → Act → World → Prop} {md : Region.Mode} {σ : Type}
/-- Operation i is one that operation j waits for, or one that such a one waits for, and so on. -/
def reach (md : Region.Mode) (ops : Array Oper) : Nat → Nat → Nat → Bool
  | 0, _, _ => false
  | n + 1, j, i => match ops[j]? with
    | some o => waitsOn md o i || o.after.any fun e => decide (i < e.on) && Region.binds md e && reach md ops n e.on i
    | none => false
theorem reach_edge {md : Region.Mode} {ops : Array Oper} {n i : Nat} {o : Oper} (h : (waitsOn md o i || o.after.any fun e => decide (i < e.on) && Region.binds md e && reach md ops n e.on i) = true) :
    ∃ e ∈ o.after, Region.binds md e = true ∧ (e.on = i ∨ reach md ops n e.on i = true) := by
  rcases Bool.or_eq_true _ _ ▸ h with h | h
  · obtain ⟨e, he, hb, hx⟩ := waitsOn_iff.1 h
    exact ⟨e, he, hb, .inl hx⟩
  · simp only [Array.any_eq_true', Bool.and_eq_true, decide_eq_true_eq] at h
    obtain ⟨e, he, ⟨_, hb⟩, hx⟩ := h
    exact ⟨e, he, hb, .inr hx⟩
theorem reach_closed {fs us : List Nat} {md : Region.Mode} {ops : Array Oper}
    (hdep : ∀ i ∈ fs, ∀ o, ops[i]? = some o → ∀ e ∈ o.after, Region.binds md e = true → e.on ∈ fs ∧ e.on < i)
    (hcl : ∀ j ∈ fs, j ∉ us → ∀ o, ops[j]? = some o → ∀ i ∈ us, waitsOn md o i = false) :
    ∀ (n j i : Nat), j ∈ fs → j ∉ us → reach md ops n j i = true → i ∉ us
  | 0, _, _, _, _, h => by simp [reach] at h
  | n + 1, j, i, hj, hju, h => by
    rw [reach] at h
    cases ho : ops[j]? with
    | none => rw [ho] at h; simp at h
    | some o =>
      rw [ho] at h
      obtain ⟨e, he, hb, hx⟩ := reach_edge h
      obtain ⟨h1, h2⟩ := hdep j hj o ho e he hb
      have h3 : e.on ∉ us := fun hu => by
        have := hcl j hj hju o ho e.on hu
        rw [← Bool.not_eq_true] at this
        exact this (waitsOn_iff.2 ⟨e, he, hb, rfl⟩)
      rcases hx with rfl | hx
      · exact h3
      · exact reach_closed hdep hcl n e.on i h1 h3 hx
theorem reach_lt {fs : List Nat} {md : Region.Mode} {ops : Array Oper}
    (hdep : ∀ i ∈ fs, ∀ o, ops[i]? = some o → ∀ e ∈ o.after, Region.binds md e = true → e.on ∈ fs ∧ e.on < i) :
    ∀ (n j i : Nat), j ∈ fs → reach md ops n j i = true → i < j
  | 0, _, _, _, h => by simp [reach] at h
  | n + 1, j, i, hj, h => by
    rw [reach] at h
    cases ho : ops[j]? with
    | none => rw [ho] at h; simp at h
    | some o =>
      rw [ho] at h
      obtain ⟨e, he, hb, hx⟩ := reach_edge h
      obtain ⟨h1, h2⟩ := hdep j hj o ho e he hb
      rcases hx with rfl | hx
      · exact h2
      · have := reach_lt hdep n e.on i h1 hx
        omega

theorem region_S_go {S : σ → World → Prop} {F : σ → Act} {sp : List Nat} {ev : σ → Nat → Bool} {T : Nat → σ → σ → Prop} {n0 rest : Nat} {fs : List Nat} {fu : Nat} {a0 : Act} (hn : ops.size = n0)
    (hsel : ∀ (j : Nat) (o : Oper) cs b, ops[j]? = some o → o.op ≠ .select cs b)
    (hlt : ∀ i ∈ fs, i < n0)
    (hdep : ∀ i ∈ fs, ∀ o, ops[i]? = some o → ∀ e ∈ o.after, Region.binds md e = true → e.on ∈ fs ∧ e.on < i)
    (hsee : ∀ i ∈ fs, ∀ o, ops[i]? = some o → ∀ t ∈ o.looksAt ops, ∀ j ∈ fs, dstOf ops j = some t → waitsOn md o j = true)
    (htail : ∀ j, j < n0 → j ∉ fs → ∀ i ∈ fs, reach md ops (fu + 1) j i = true) (hback : ∀ j, j < n0 → j ∉ fs → ∀ o, ops[j]? = some o → ∀ e ∈ o.after, Region.binds md e = true → e.on < n0)
    (hdst : ∀ i ∈ fs, ∀ j, j < n0 → i ≠ j → ∀ k, dstOf ops i = some k → dstOf ops j ≠ some k)
    (hF1 : ∀ st, (F st).defers = a0.defers) (hF2 : ∀ st, (F st).tmps.size = a0.tmps.size)
    (hsp : ∀ i ∈ sp, i ∈ fs)
    (hdo : ∀ i ∈ fs, ∀ st, (∀ j ∈ sp, reach md ops fu i j = true → ev st j = true) → (i ∈ sp → ev st i = false) →
      ∃ (o : Oper) (v : σ → Value), ops[i]? = some o ∧ (∀ st' k, dstOf ops i = some k → (F st').tmps[k]? = if k < (F st').tmps.size then some (v st') else none) ∧
        ((Region.wanted o (yielded ops (F st).tmps) = true ∧ ∀ w, S st w → ∀ K : Act → World → Prop, (∀ st' w', S st' w' → (if i ∈ sp then T i st st' else st' = st) → K ((F st).put o.dst (v st')) w') → o.wp P (F st) w K noQ) ∨
         (i ∉ sp ∧ Region.wanted o (yielded ops (F st).tmps) = false ∧ v st = undef)))
    (hT : ∀ i ∈ sp, ∀ st st', T i st st' → ev st' i = true ∧ (∀ j ∈ sp, j ≠ i → ev st' j = ev st j) ∧
      ∀ k, (F st').tmps[k]? = (F st).tmps[k]? ∨ dstOf ops i = some k ∨ ∃ j ∈ fs, dstOf ops j = some k ∧ reach md ops fu j i = true)
    (hend : ∀ st w, S st w → (∀ i ∈ sp, ev st i = true) → wpAny P md ops Q rest (listedOf fs n0) (F st) w) :
    ∀ (n : Nat) (us : List Nat) (listed : Array Bool) (st : σ) (a : Act) (w : World), us.length = n → us.Nodup → (∀ i ∈ us, i ∈ fs) → Lst fs us n0 listed → Way ops fs us a0 (F st) a → S st w →
      (∀ i ∈ sp, ev st i = !us.contains i) → (∀ j ∈ fs, j ∉ us → ∀ o, ops[j]? = some o → ∀ i ∈ us, waitsOn md o i = false) →
      wpAny P md ops Q (n + rest) listed a w := by
  intro n
  induction n with
  | zero =>
    intro us listed st a w hl _ _ hL hW hS hE _
    have : us = [] := List.eq_nil_of_length_eq_zero hl
    subst this
    rw [lst_end hL, Nat.zero_add]
    have ha : a = F st := by
      obtain ⟨t1, d1⟩ := a
      generalize F st = f at *
      obtain ⟨t2, d2⟩ := f
      obtain ⟨h1, h2, h3⟩ := hW
      simp only at h1 h2 h3
      subst h1
      congr 1
      apply Array.ext_getElem?
      intro k
      exact (h3 k).2 (fun j hj => by simp at hj)
    subst ha
    exact hend st w hS (fun i hi => by rw [hE i hi]; simp)
  | succ n ih =>
    intro us listed st a w hl hnd hsub hL hW hS hE hcl
    rw [show n + 1 + rest = (n + rest) + 1 by omega]
    -- the least one that has not come up is ready
    have hready : ∀ j, j ∈ Region.ready md ops listed ↔ (j < n0 ∧ ¬ (j ∈ fs ∧ j ∉ us)) ∧ ∃ o, ops[j]? = some o ∧ ∀ e ∈ o.after, Region.binds md e = true → listed.getD e.on false = true := by
      intro j
      rw [mem_ready]
      constructor
      · rintro ⟨h0, o, ho, h⟩
        have hj : j < n0 := by rw [← hn]; exact (Array.getElem?_eq_some_iff.1 ho).1
        have := hL.2 j hj
        rw [h0] at this
        refine ⟨⟨hj, fun ⟨h1, h2⟩ => ?_⟩, o, ho, h⟩
        simp [h1, h2] at this
      · rintro ⟨⟨hj, h1⟩, o, ho, h⟩
        refine ⟨?_, o, ho, h⟩
        rw [hL.2 j hj]
        by_cases h2 : j ∈ fs <;> by_cases h3 : j ∈ us <;> simp_all
    have hlisted : ∀ j, j ∈ fs → (listed.getD j false = true ↔ j ∉ us) := by
      intro j hj
      have hjn := hlt j hj
      have := hL.2 j hjn
      have hjs : j < listed.size := by rw [hL.1]; exact hjn
      rw [Array.getD_eq_getD_getElem?, Array.getElem?_eq_getElem hjs] at this ⊢
      simp only [Option.getD_some] at this ⊢
      rw [this]
      simp [hj]
    constructor
    · intro hnil
      exfalso
      have hne : us ≠ [] := by intro e; rw [e] at hl; simp at hl
      obtain ⟨m, hm, hmin⟩ : ∃ m ∈ us, ∀ j ∈ us, m ≤ j := by
        clear ih hl hnd hsub hL hW hready hlisted hnil hS hE hcl
        induction us with
        | nil => exact absurd rfl hne
        | cons x xs ih =>
          cases xs with
          | nil => exact ⟨x, List.mem_cons_self, fun j hj => by simp at hj; omega⟩
          | cons y ys =>
            obtain ⟨m, hm, hmin⟩ := ih (by simp)
            by_cases h : x ≤ m
            · exact ⟨x, List.mem_cons_self, fun j hj => by
                rcases List.mem_cons.1 hj with rfl | hj
                · exact Nat.le_refl _
                · exact Nat.le_trans h (hmin j hj)⟩
            · exact ⟨m, List.mem_cons_of_mem _ hm, fun j hj => by
                rcases List.mem_cons.1 hj with rfl | hj
                · omega
                · exact hmin j hj⟩
      have hmf := hsub m hm
      have hmn := hlt m hmf
      obtain ⟨o, ho⟩ : ∃ o, ops[m]? = some o := ⟨_, Array.getElem?_eq_getElem (by rw [hn]; exact hmn)⟩
      have : m ∈ Region.ready md ops listed := (hready m).2 ⟨⟨hmn, fun h => h.2 hm⟩, o, ho, fun e he hb => by
        have h := hdep m hmf o ho e he hb
        rw [hlisted e.on h.1]
        intro hu
        have := hmin e.on hu
        omega⟩
      rw [hnil] at this
      simp at this
    · intro i hi
      obtain ⟨⟨hin, hun⟩, o, ho, hall⟩ := (hready i).1 hi
      have hif : i ∈ fs := by
        apply Classical.byContradiction
        intro hnf
        obtain ⟨u, hu⟩ : ∃ u, u ∈ us := by
          cases us with
          | nil => simp at hl
          | cons x xs => exact ⟨x, List.mem_cons_self⟩
        have hre := htail i hin hnf u (hsub u hu)
        rw [reach, ho] at hre
        obtain ⟨e, he, hb, hx⟩ := reach_edge hre
        have hli := hall e he hb
        have hen : e.on < n0 := hback i hin hnf o ho e he hb
        by_cases hef : e.on ∈ fs
        · rw [hlisted e.on hef] at hli
          rcases hx with hx | hx
          · rw [hx] at hli
            exact hli hu
          · exact reach_closed hdep hcl fu e.on u hef hli hx hu
        · have h2 := hL.2 e.on hen
          have hes : e.on < listed.size := by rw [hL.1]; exact hen
          rw [Array.getD_eq_getD_getElem?, Array.getElem?_eq_getElem hes] at h2 hli
          simp only [Option.getD_some] at h2 hli
          rw [hli] at h2
          simp [hef] at h2
      have hiu : i ∈ us := by
        apply Classical.byContradiction
        intro h
        exact hun ⟨hif, h⟩
      have hdeps : ∀ j ∈ sp, reach md ops fu i j = true → ev st j = true := by
        intro j hj hw
        have hne : i ≠ j := by
          have := reach_lt hdep fu i j hif hw
          omega
        have : j ∉ us.erase i := reach_closed (us := us.erase i) hdep (fun x hx hxu ox hox y hy => by
          obtain ⟨hyi, hyu⟩ := (hnd.mem_erase_iff).1 hy
          by_cases hxi : x = i
          · subst hxi
            rw [ho] at hox
            injection hox with e
            subst e
            rw [← Bool.not_eq_true]
            intro hw
            obtain ⟨e, he, hb, heq⟩ := waitsOn_iff.1 hw
            have h1 := hall e he hb
            rw [heq, hlisted y (hsub y hyu)] at h1
            exact h1 hyu
          · exact hcl x hx (fun h => hxu ((hnd.mem_erase_iff).2 ⟨hxi, h⟩)) ox hox y hyu) fu i j hif (fun h => ((hnd.mem_erase_iff).1 h).1 rfl) hw
        rw [hE j hj]
        have hju : j ∉ us := fun h => this ((hnd.mem_erase_iff).2 ⟨Ne.symm hne, h⟩)
        simp [hju]
      have hnot : i ∈ sp → ev st i = false := fun h => by rw [hE i h]; simpa using hiu
      obtain ⟨o', v, ho', hv, hd⟩ := hdo i hif st hdeps hnot
      have : o' = o := by rw [ho] at ho'; injection ho' with h; exact h.symm
      subst this
      -- what the operation looks at
      have look : ∀ t ∈ o'.looksAt ops, a.tmps[t]? = (F st).tmps[t]? := by
        intro t ht
        by_cases hx : ∃ j ∈ us, dstOf ops j = some t
        · obtain ⟨j, hj, hjd⟩ := hx
          obtain ⟨e, he, hb, heq⟩ := waitsOn_iff.1 (hsee i hif o' ho t ht j (hsub j hj) hjd)
          have := hall e he hb
          rw [heq, hlisted j (hsub j hj)] at this
          exact absurd hj this
        · exact (hW.2.2 t).2 (fun j hj h => hx ⟨j, hj, h⟩)
      have hexec : execOp a.eval o' = execOp (F st).eval o' := execOp_congr o' (fun cs b => hsel i o' cs b ho) (fun x hx => by
        cases x with
        | tmp t =>
          have := look t (List.mem_append_left _ (List.mem_filterMap.2 ⟨.tmp t, by simpa using hx, rfl⟩))
          simp only [Act.eval, Array.getD_eq_getD_getElem?, this]
        | _ => rfl)
      have hwant : Region.wanted o' (yielded ops a.tmps) = Region.wanted o' (yielded ops (F st).tmps) := by
        unfold Region.wanted
        cases hg : o'.guard with
        | none => rfl
        | some gw =>
          obtain ⟨g, want⟩ := gw
          have hy : yielded ops a.tmps g = yielded ops (F st).tmps g := by
            unfold yielded
            cases ht : (ops[g]?).bind (·.dst) with
            | none => rfl
            | some t =>
              have := look t (List.mem_append_right _ (by simp [hg, ht]))
              simp only [Option.bind_some, this]
          simp only [hy]
      have hdi : dstOf ops i = o'.dst := by simp [dstOf, ho]
      have hself : waitsOn md o' i = false := by
        rw [← Bool.not_eq_true]
        intro hw
        obtain ⟨e, he, hb, heq⟩ := waitsOn_iff.1 hw
        have := (hdep i hif o' ho e he hb).2
        omega
      -- the way goes on
      have next : ∀ u st', (F st).put o'.dst u = (F st).put o'.dst (v st') → (if i ∈ sp then T i st st' else st' = st) → ∀ w', S st' w' → wpAny P md ops Q (n + rest) (listed.setIfInBounds i true) (a.put o'.dst u) w' := by
        intro u st' hu hTr w' hS'
        have hco : ∀ k, (F st').tmps[k]? = (F st).tmps[k]? ∨ dstOf ops i = some k ∨ ∃ j ∈ fs, dstOf ops j = some k ∧ reach md ops fu j i = true := by
          intro k
          by_cases his : i ∈ sp
          · rw [if_pos his] at hTr
            exact (hT i his st st' hTr).2.2 k
          · rw [if_neg his] at hTr
            subst hTr
            exact .inl rfl
        refine ih (us.erase i) _ st' _ w' (by rw [List.length_erase_of_mem hiu]; omega) (hnd.erase i) (fun j hj => hsub j (List.mem_of_mem_erase hj)) ⟨by simpa using hL.1, fun j hj => ?_⟩ ⟨?_, ?_, fun k => ⟨?_, ?_⟩⟩ hS' ?_ ?_
        · by_cases hij : i = j
          · subst hij
            rw [Array.getD_eq_getD_getElem?, Array.getElem?_setIfInBounds_self_of_lt (by rw [hL.1]; exact hj)]
            have : i ∉ us.erase i := fun h => ((hnd.mem_erase_iff).1 h).1 rfl
            simp [hif, this]
          · rw [getD_set_ne true hij, hL.2 j hj]
            have : j ∈ us.erase i ↔ j ∈ us := by rw [hnd.mem_erase_iff]; simp [Ne.symm hij]
            by_cases h : j ∈ us <;> simp [h, this]
        · rw [put_defers', hW.1, hF1, hF1]
        · rw [put_size, hW.2.1, hF2, hF2]
        · rintro ⟨j, hj, hjk⟩
          obtain ⟨h1, h2⟩ := (hnd.mem_erase_iff).1 hj
          rw [put_other a u (by rw [← hdi]; intro h; exact hdst i hif j (hlt j (hsub j h2)) (Ne.symm h1) k h hjk)]
          exact (hW.2.2 k).1 ⟨j, h2, hjk⟩
        · intro hno
          by_cases hk : o'.dst = some k
          · have h1 := hv st' k (by rw [hdi]; exact hk)
            have h2 : ((F st).put (some k) u).tmps[k]? = ((F st).put (some k) (v st')).tmps[k]? := by rw [← hk, hu]
            rw [put_same, put_same] at h2
            rw [hk, put_same, h1, hW.2.1, hF2, hF2]
            rw [hF2] at h2
            exact h2
          · rw [put_other a u hk]
            have h0 : a.tmps[k]? = (F st).tmps[k]? := (hW.2.2 k).2 (fun j hj hjk => by
              by_cases hij : j = i
              · subst hij; rw [hdi] at hjk; exact hk hjk
              · exact hno j ((hnd.mem_erase_iff).2 ⟨hij, hj⟩) hjk)
            rcases hco k with h | h | ⟨j, hj, hjk, hw⟩
            · rw [h0, h]
            · rw [hdi] at h; exact absurd h hk
            · exfalso
              by_cases hju : j ∈ us
              · have hji : j ≠ i := by
                  intro e
                  subst e
                  have := reach_lt hdep fu j j hj hw
                  omega
                exact hno j ((hnd.mem_erase_iff).2 ⟨hji, hju⟩) hjk
              · exact reach_closed hdep hcl fu j i hj hju hw hiu
        · intro j hj
          by_cases hji : j = i
          · subst hji
            rw [if_pos hj] at hTr
            rw [(hT j hj st st' hTr).1]
            have : j ∉ us.erase j := fun h => ((hnd.mem_erase_iff).1 h).1 rfl
            simp [this]
          · have h1 : ev st' j = ev st j := by
              by_cases his : i ∈ sp
              · rw [if_pos his] at hTr
                exact (hT i his st st' hTr).2.1 j hj hji
              · rw [if_neg his] at hTr
                rw [hTr]
            rw [h1, hE j hj]
            have : j ∈ us.erase i ↔ j ∈ us := by rw [hnd.mem_erase_iff]; simp [hji]
            by_cases h : j ∈ us <;> simp [h, this]
        · intro j hj hju oj hoj x hx
          obtain ⟨hxi, hxu⟩ := (hnd.mem_erase_iff).1 hx
          by_cases hji : j = i
          · subst hji
            rw [ho] at hoj
            injection hoj with e
            subst e
            rw [← Bool.not_eq_true]
            intro hw
            obtain ⟨e, he, hb, heq⟩ := waitsOn_iff.1 hw
            have h1 := hall e he hb
            rw [heq, hlisted x (hsub x hxu)] at h1
            exact h1 hxu
          · exact hcl j hj (fun h => hju ((hnd.mem_erase_iff).2 ⟨hji, h⟩)) oj hoj x hxu
      unfold wpOp
      simp only [ho, hwant]
      rcases hd with ⟨hw, hd⟩ | ⟨hns, hw, hvu⟩
      · rw [if_pos hw]
        refine .inl ?_
        have h := hd w hS (fun a' w' => ∃ st', S st' w' ∧ (if i ∈ sp then T i st st' else st' = st) ∧ a' = (F st).put o'.dst (v st')) (fun st' w' h1 h2 => ⟨st', h1, h2, rfl⟩)
        unfold Oper.wp at *
        rw [hexec]
        generalize (execOp (F st).eval o').run P w = r at *
        cases r with
        | ok x w' =>
          cases x <;> simp only [Oper.upon] at h ⊢
          case value u => obtain ⟨st', h1, h2, h3⟩ := h; exact next u st' h3 h2 w' h1
          case skip => obtain ⟨st', h1, h2, h3⟩ := h; exact next undef st' h3 h2 w' h1
          case defer d =>
            exfalso
            obtain ⟨st', h1, h2, h3⟩ := h
            have := congrArg Act.defers h3
            rw [put_defers', put_defers'] at this
            exact absurd (congrArg List.length this) (by simp)
          case enter f args =>
            refine Calls.mono h fun e w'' he => ?_
            cases e with
            | returned u => obtain ⟨st', h1, h2, h3⟩ := he; exact next u st' h3 h2 w'' h1
            | panicked c => exact he.elim
            | outgrown => obtain ⟨_, _, hf⟩ := he; exact hf.elim
          case row row args => exact Rows.mono h fun u w'' he => by obtain ⟨st', h1, h2, h3⟩ := he; exact next u st' h3 h2 w'' h1
        | halt x w' =>
          cases x <;> simp only [Oper.upon] at h ⊢
          case panic u => exact h.elim
      · rw [if_neg (by simp [hw])]
        exact next undef st (by rw [hvu]) (by rw [if_neg hns]) w hS
/-- The values of those that have come up. -/
def seen (st : Nat → Option Value) (i : Nat) : Value := (st i).getD undef
def upd (st : Nat → Option Value) (i : Nat) (v : Value) (j : Nat) : Option Value := if j = i then some v else st j
def updV (g : Nat → Value) (i : Nat) (v : Value) (j : Nat) : Value := if j = i then v else g j
theorem seen_upd (st : Nat → Option Value) (i : Nat) (v : Value) : seen (upd st i v) = updV (seen st) i v := by
  funext j
  unfold seen upd updV
  split <;> rfl
theorem upd_same (st : Nat → Option Value) (i : Nat) (v : Value) : upd st i v i = some v := if_pos rfl
theorem upd_other (st : Nat → Option Value) {i j : Nat} (v : Value) (h : j ≠ i) : upd st i v j = st j := if_neg h
/-- What an operation does that is none of sp. -/
def DoesN (P : Program) (ops : Array Oper) (S : (Nat → Option Value) → World → Prop) (F : (Nat → Value) → Act) (vals : (Nat → Value) → List Value) (sp : List Nat) (fu i : Nat) : Prop :=
  i ∉ sp ∧ ∀ st, (∀ j ∈ sp, reach .any ops fu i j = true → (st j).isSome = true) → ∃ o, ops[i]? = some o ∧
    ((Region.wanted o (yielded ops (F (seen st)).tmps) = true ∧ ∀ w, S st w → ∀ K : Act → World → Prop, (∀ w', S st w' → K ((F (seen st)).put o.dst ((vals (seen st)).getD i undef)) w') → o.wp P (F (seen st)) w K noQ) ∨
     (Region.wanted o (yielded ops (F (seen st)).tmps) = false ∧ (vals (seen st)).getD i undef = undef))
/-- What one of sp does. -/
def DoesC (P : Program) (ops : Array Oper) (S : (Nat → Option Value) → World → Prop) (F : (Nat → Value) → Act) (sp : List Nat) (fu i : Nat) : Prop :=
  i ∈ sp ∧ ∀ st, (∀ j ∈ sp, reach .any ops fu i j = true → (st j).isSome = true) → st i = none → ∃ o, ops[i]? = some o ∧
    Region.wanted o (yielded ops (F (seen st)).tmps) = true ∧ ∀ w, S st w → ∀ K : Act → World → Prop, (∀ v w', S (upd st i v) w' → K ((F (seen st)).put o.dst v) w') → o.wp P (F (seen st)) w K noQ
def DoesAllS (P : Program) (ops : Array Oper) (S : (Nat → Option Value) → World → Prop) (F : (Nat → Value) → Act) (vals : (Nat → Value) → List Value) (sp : List Nat) (fu : Nat) : Nat → Nat → Prop
  | i, n + 1 => (DoesN P ops S F vals sp fu i ∨ DoesC P ops S F sp fu i) ∧ DoesAllS P ops S F vals sp fu (i + 1) n
  | _, 0 => True
theorem DoesAllS.get {S : (Nat → Option Value) → World → Prop} {F : (Nat → Value) → Act} {vals : (Nat → Value) → List Value} {sp : List Nat} {fu : Nat} : ∀ {n i : Nat}, DoesAllS P ops S F vals sp fu i n → ∀ j, j < n → DoesN P ops S F vals sp fu (i + j) ∨ DoesC P ops S F sp fu (i + j)
  | _ + 1, _, h, 0, _ => h.1
  | n + 1, i, h, j + 1, hj => by
    have := DoesAllS.get h.2 j (by omega)
    rw [show i + (j + 1) = i + 1 + j by omega]
    exact this
theorem doesN_want {S : (Nat → Option Value) → World → Prop} {F : (Nat → Value) → Act} {vals : (Nat → Value) → List Value} {sp : List Nat} {fu i : Nat} {o : Oper} (hs : i ∉ sp) (hi : ops[i]? = some o) (hw : ∀ g, Region.wanted o (yielded ops (F g).tmps) = true)
    (h : ∀ st w, S st w → (∀ j ∈ sp, reach .any ops fu i j = true → (st j).isSome = true) → ∀ K : Act → World → Prop, (∀ w', S st w' → K ((F (seen st)).put o.dst ((vals (seen st)).getD i undef)) w') → o.wp P (F (seen st)) w K noQ) :
    DoesN P ops S F vals sp fu i ∨ DoesC P ops S F sp fu i := .inl ⟨hs, fun st hp => ⟨o, hi, .inl ⟨hw _, fun w hS K hK => h st w hS hp K hK⟩⟩⟩
theorem doesN_skip {S : (Nat → Option Value) → World → Prop} {F : (Nat → Value) → Act} {vals : (Nat → Value) → List Value} {sp : List Nat} {fu i : Nat} {o : Oper} (hs : i ∉ sp) (hi : ops[i]? = some o) (hw : ∀ g, Region.wanted o (yielded ops (F g).tmps) = false)
    (hv : ∀ g, (vals g).getD i undef = undef) : DoesN P ops S F vals sp fu i ∨ DoesC P ops S F sp fu i := .inl ⟨hs, fun st hp => ⟨o, hi, .inr ⟨hw _, hv _⟩⟩⟩
theorem doesC_want {S : (Nat → Option Value) → World → Prop} {F : (Nat → Value) → Act} {vals : (Nat → Value) → List Value} {sp : List Nat} {fu i : Nat} {o : Oper} (hs : i ∈ sp) (hi : ops[i]? = some o) (hw : ∀ g, Region.wanted o (yielded ops (F g).tmps) = true)
    (h : ∀ st w, S st w → st i = none → (∀ j ∈ sp, reach .any ops fu i j = true → (st j).isSome = true) → ∀ K : Act → World → Prop, (∀ v w', S (upd st i v) w' → K ((F (seen st)).put o.dst v) w') → o.wp P (F (seen st)) w K noQ) :
    DoesN P ops S F vals sp fu i ∨ DoesC P ops S F sp fu i := .inr ⟨hs, fun st hp hn => ⟨o, hi, hw _, fun w hS K hK => h st w hS hn hp K hK⟩⟩
/-- Alike at these places. -/
def farEq (a b : List Value) : List Nat → Prop
  | [] => True
  | j :: js => a[j]? = b[j]? ∧ farEq a b js
theorem farEq.get {a b : List Value} : ∀ {js : List Nat}, farEq a b js → ∀ j ∈ js, a[j]? = b[j]?
  | _ :: _, h, j, hj => by
    rcases List.mem_cons.1 hj with rfl | hj
    · exact h.1
    · exact farEq.get h.2 j hj
  | [], _, _, hj => absurd hj List.not_mem_nil

/-- The operations fs come up ahead of all others, each reads what those hand it that it waits for, and nobody else's slot. -/
def okS (ops : Array Oper) (fs : List Nat) (fu : Nat) : Bool :=
  Region.noSelect ops && decide fs.Nodup && fs.all (fun i => decide (i < ops.size)) &&
  fs.all (fun i => match ops[i]? with
    | some o => o.after.all (fun e => !Region.binds .any e || (fs.contains e.on && decide (e.on < i))) &&
      (o.looksAt ops).all (fun t => fs.all fun j => dstOf ops j != some t || waitsOn .any o j)
    | none => false) &&
  (List.range ops.size).all (fun j => fs.contains j || (fs.all (fun i => reach .any ops (fu + 1) j i) && match ops[j]? with | some o => o.after.all (fun e => decide (e.on < ops.size)) | none => false)) &&
  fs.all (fun i => (List.range ops.size).all fun j => i == j || dstOf ops i == none || dstOf ops i != dstOf ops j)
theorem okS_spec {fs : List Nat} {fu : Nat} (h : okS ops fs fu = true) :
    (∀ (j : Nat) (o : Oper) cs b, ops[j]? = some o → o.op ≠ .select cs b) ∧ fs.Nodup ∧ (∀ i ∈ fs, i < ops.size) ∧
    (∀ i ∈ fs, ∀ o, ops[i]? = some o → ∀ e ∈ o.after, Region.binds .any e = true → e.on ∈ fs ∧ e.on < i) ∧
    (∀ i ∈ fs, ∀ o, ops[i]? = some o → ∀ t ∈ o.looksAt ops, ∀ j ∈ fs, dstOf ops j = some t → waitsOn .any o j = true) ∧
    (∀ j, j < ops.size → j ∉ fs → ∀ i ∈ fs, reach .any ops (fu + 1) j i = true) ∧ (∀ j, j < ops.size → j ∉ fs → ∀ o, ops[j]? = some o → ∀ e ∈ o.after, Region.binds .any e = true → e.on < ops.size) ∧
    (∀ i ∈ fs, ∀ j, j < ops.size → i ≠ j → ∀ k, dstOf ops i = some k → dstOf ops j ≠ some k) := by
  unfold okS at h
  simp only [Bool.and_eq_true] at h
  obtain ⟨⟨⟨⟨⟨h1, h2⟩, h3⟩, h4⟩, h5⟩, h6⟩ := h
  rw [decide_eq_true_eq] at h2
  simp only [List.all_eq_true, List.mem_range, decide_eq_true_eq] at h3 h4 h5 h6
  refine ⟨fun j o cs b ho => Region.noSelect_spec h1 j o cs b ho, h2, h3, fun i hi o ho e he hb => ?_, fun i hi o ho t ht j hj hd => ?_, fun j hj hn i hi => ?_, fun j hj hn o ho e he hb => ?_, fun i hi j hj hne k hk hk' => ?_⟩
  · have := h4 i hi
    rw [ho] at this
    simp only [Bool.and_eq_true, Array.all_eq_true_iff_forall_mem] at this
    have := this.1 e he
    simpa [hb] using this
  · have := h4 i hi
    rw [ho] at this
    simp only [Bool.and_eq_true, List.all_eq_true] at this
    have := this.2 t ht j hj
    simpa [hd] using this
  · have := h5 j hj
    rw [Bool.or_eq_true] at this
    rcases this with h | h
    · simp [hn] at h
    · simp only [Bool.and_eq_true, List.all_eq_true] at h
      exact h.1 i hi
  · have := h5 j hj
    rw [Bool.or_eq_true] at this
    rcases this with h | h
    · simp [hn] at h
    · rw [ho] at h
      simp only [Bool.and_eq_true, Array.all_eq_true_iff_forall_mem, decide_eq_true_eq] at h
      exact h.2 e he
  · have := h6 i hi j hj
    simp [hk, hk', hne] at this

theorem region_S {id : Nat} {a0 : Act} {w0 : World} (S : (Nat → Option Value) → World → Prop) (sp : List Nat) (fu n : Nat) (ds : List (Option Tmp)) (vals : (Nat → Value) → List Value) (rest : Nat)
    (hm : P.follows .mixedOrders = true) (hok : okS ops (List.range n) fu = true) (hds : (List.range n).map (dstOf ops) = ds) (hr : n + rest = ops.size) (hlen : ∀ g, (vals g).length = n) (hsp : ∀ i ∈ sp, i < n)
    (hval : ∀ i ∈ sp, (∀ g, (vals g)[i]? = some (g i)) ∧ ∃ far : List Nat, ((List.range n).all fun j => far.contains j || j == i || reach .any ops fu j i) = true ∧ ∀ g v, farEq (vals (updV g i v)) (vals g) far) (h0 : S (fun _ => none) w0.drew)
    (h : ∀ F : (Nat → Value) → Act, (∀ g, fillD ds (vals g) a0 = F g) → DoesAllS P ops S F vals sp fu 0 n ∧ ∀ st w, S st w → (∀ i ∈ sp, (st i).isSome = true) → wpAny P .any ops Q rest (listedOf (List.range n) ops.size) (F (seen st)) w) :
    (Code.region id ops true).wp P Q a0 w0 := by
  obtain ⟨hsel, hnd, hlt, hdep, hsee, htail, hback, hdst⟩ := okS_spec hok
  obtain ⟨hdo, hend⟩ := h _ (fun _ => rfl)
  refine wp_region_any hm ?_
  rw [← hr]
  subst hds
  have hat : ∀ (g : Nat → Value) (i k : Nat), i < n → dstOf ops i = some k → ∀ v, (vals g)[i]? = some v →
      (fillD ((List.range n).map (dstOf ops)) (vals g) a0).tmps[k]? = if k < (fillD ((List.range n).map (dstOf ops)) (vals g) a0).tmps.size then some v else none := by
    intro g i k hi hk v hv
    rw [fillD_at _ _ _ k i v (by simp [hi, hk]) hv (fun j hj hjk => ?_), fillD_size]
    rw [List.getElem?_map] at hjk
    by_cases hjn : j < n
    · rw [List.getElem?_range hjn] at hjk
      have : dstOf ops j = some k := by simpa using hjk
      exact hdst j (List.mem_range.2 hjn) i (hlt i (List.mem_range.2 hi)) hj k this hk
    · rw [List.getElem?_eq_none (by simpa using hjn)] at hjk
      simp at hjk
  have hget : ∀ (g : Nat → Value) (i : Nat), i < n → (vals g)[i]? = some ((vals g).getD i undef) := by
    intro g i hi
    have : i < (vals g).length := by rw [hlen]; exact hi
    simp [List.getD, List.getElem?_eq_getElem this]
  refine region_S_go (S := S) (F := fun st => fillD ((List.range n).map (dstOf ops)) (vals (seen st)) a0) (sp := sp) (ev := fun st i => (st i).isSome) (T := fun i st st' => st i = none ∧ ∃ v, st' = upd st i v) (fu := fu) rfl hsel hlt hdep hsee htail hback hdst
    (fun _ => fillD_defers _ _ _) (fun _ => fillD_size _ _ _) (fun i hi => List.mem_range.2 (hsp i hi)) (fun i hi st hde hnot => ?_) (fun i hi st st' hT => ?_) (fun st w hS hE => hend st w hS hE) n (List.range n) _ (fun _ => none) a0 _ (by simp) hnd (fun _ h => h) ⟨by simp [hr], fun j hj => ?_⟩
    ⟨(fillD_defers _ _ _).symm, (fillD_size _ _ _).symm, fun k => ⟨fun _ => rfl, fun hno => ?_⟩⟩ h0 (fun i hi => ?_) (fun j hj hju => absurd hj hju)
  · have hin : i < n := List.mem_range.1 hi
    have hd := hdo.get i hin
    rw [Nat.zero_add] at hd
    rcases hd with ⟨hns, hd⟩ | ⟨his, hd⟩
    · obtain ⟨o, ho, hx⟩ := hd st hde
      refine ⟨o, fun st' => (vals (seen st')).getD i undef, ho, fun st' k hk => hat _ i k hin hk _ (hget _ i hin), ?_⟩
      rcases hx with ⟨hw, hx⟩ | ⟨hw, hx⟩
      · refine .inl ⟨hw, fun w hS K hK => hx w hS K (fun w' hS' => hK st w' hS' ?_)⟩
        rw [if_neg hns]
      · exact .inr ⟨hns, hw, hx⟩
    · have hnone : st i = none := by
        have := hnot his
        simpa using this
      obtain ⟨o, ho, hw, hx⟩ := hd st hde hnone
      refine ⟨o, fun st' => (vals (seen st')).getD i undef, ho, fun st' k hk => hat _ i k hin hk _ (hget _ i hin), .inl ⟨hw, fun w hS K hK => hx w hS K (fun v w' hS' => ?_)⟩⟩
      have h1 := hK (upd st i v) w' hS' (by rw [if_pos his]; exact ⟨hnone, v, rfl⟩)
      have h2 : (vals (seen (upd st i v))).getD i undef = v := by
        have := (hval i his).1 (seen (upd st i v))
        rw [hget _ i hin] at this
        have h3 : seen (upd st i v) i = v := by simp [seen, upd]
        rw [h3] at this
        exact Option.some.inj this
      dsimp only at h1
      rw [h2] at h1
      exact h1
  · obtain ⟨hnone, v, rfl⟩ := hT
    refine ⟨by simp [upd], fun j hj hji => by simp [upd, hji], fun k => ?_⟩
    by_cases hk : dstOf ops i = some k
    · exact .inr (.inl hk)
    · by_cases hx : ∃ j, j < n ∧ dstOf ops j = some k
      · obtain ⟨j, hj, hjk⟩ := hx
        have hji : j ≠ i := fun e => hk (by rw [← e]; exact hjk)
        by_cases hre : reach .any ops fu j i = true
        · exact .inr (.inr ⟨j, List.mem_range.2 hj, hjk, hre⟩)
        · refine .inl ?_
          obtain ⟨far, hfar, hfe⟩ := (hval i hi).2
          have hm2 : j ∈ far := by
            have := List.all_eq_true.1 hfar j (List.mem_range.2 hj)
            simpa [hji, hre] using this
          have e2 := (hfe (seen st) v).get j hm2
          rw [hat _ j k hj hjk _ (hget _ j hj), hat _ j k hj hjk _ (hget _ j hj), fillD_size, fillD_size, seen_upd]
          rw [hget _ j hj, hget _ j hj] at e2
          rw [Option.some.inj e2]
      · refine .inl ?_
        rw [fillD_other _ _ _ _ (fun hm => ?_), fillD_other _ _ _ _ (fun hm => ?_)]
        all_goals
          obtain ⟨j, hj, hjk⟩ := List.mem_map.1 hm
          exact hx ⟨j, List.mem_range.1 hj, hjk⟩
  · rw [Array.getD_eq_getD_getElem?]
    have : j < n + rest := by omega
    by_cases hj' : j < n <;> simp [this, hj']
  · exact (fillD_other _ _ _ _ (fun hm => by
      obtain ⟨i, hi, hik⟩ := List.mem_map.1 hm
      exact hno i hi hik)).symm
  · have : i ∈ List.range n := List.mem_range.2 (hsp i hi)
    simp [this]
/-- The same where no value hangs on the order. -/
theorem region_T {id : Nat} {a0 : Act} {w0 : World} (S : World → Prop) (fs : List Nat) (fu : Nat) (ds : List (Option Tmp)) (vals : List Value) (rest : Nat)
    (hm : P.follows .mixedOrders = true) (hfs : fs = List.range fs.length) (hok : okS ops fs fu = true) (hds : fs.map (dstOf ops) = ds) (hr : fs.length + rest = ops.size) (h0 : S w0.drew)
    (h : ∀ F, fillD ds vals a0 = F → DoesAll P ops S F fs vals ∧ ∀ w, S w → wpAny P .any ops Q rest (listedOf fs ops.size) F w) :
    (Code.region id ops true).wp P Q a0 w0 := by
  obtain ⟨n, hn⟩ : ∃ n, fs.length = n := ⟨_, rfl⟩
  rw [hn] at hfs hr
  subst hfs
  have hlen : vals.length = n := by
    have := (h _ rfl).1.len
    simpa using this.symm
  refine region_S (fun _ w => S w) [] fu n ds (fun _ => vals) rest hm hok hds hr (fun _ => hlen) (by simp) (by simp) h0 (fun F hF => ?_)
  have hF2 : F = fun _ => fillD ds vals a0 := funext fun g => (hF g).symm
  subst hF2
  obtain ⟨hdo, hend⟩ := h _ rfl
  refine ⟨?_, fun st w hS _ => hend w hS⟩
  have all : ∀ m i, i + m = n → DoesAllS P ops (fun _ w => S w) (fun _ => fillD ds vals a0) (fun _ => vals) [] fu i m := by
    intro m
    induction m with
    | zero => exact fun _ _ => trivial
    | succ m ih =>
      intro i hi
      refine ⟨.inl ⟨by simp, fun st _ => ?_⟩, ih (i + 1) (by omega)⟩
      obtain ⟨v, hv, o, ho, hd⟩ := hdo.get i i (by simp [List.getElem?_range (show i < n by omega)])
      have hvd : vals.getD i undef = v := by simp [List.getD, hv]
      refine ⟨o, ho, ?_⟩
      rw [hvd]
      rcases hd with ⟨h1, h2⟩ | ⟨h1, h2, h3⟩
      · exact .inl ⟨h1, h2⟩
      · exact .inr ⟨h1, h2⟩
  exact all n 0 (by omega)
end
end Go.Proofs.Ytbjbafhlmcnceaa
