/- A region that draws its order, of which some operations change the state (a new block, a store) ahead of the last ones. -/
import Derived.Test.YtbjbafhlmcnceaaAny
namespace Go.Proofs.Ytbjbafhlmcnceaa
set_option linter.unusedVariables false

section
variable {P : Program} {ops : Array Oper} {Q : Exit → Act → World → Prop} {md : Region.Mode} {σ : Type}

theorem region_G_go {S : σ → World → Prop} {F : σ → Act} {sp : List Nat} {ev : σ → Nat → Bool} {T : Nat → σ → σ → Prop} {n0 rest : Nat} {fs : List Nat} {a0 : Act} (hn : ops.size = n0)
    (hsel : ∀ (j : Nat) (o : Oper) cs b, ops[j]? = some o → o.op ≠ .select cs b)
    (hlt : ∀ i ∈ fs, i < n0)
    (hdep : ∀ i ∈ fs, ∀ o, ops[i]? = some o → ∀ e ∈ o.after, Region.binds md e = true → e.on ∈ fs ∧ e.on < i)
    (hsee : ∀ i ∈ fs, ∀ o, ops[i]? = some o → ∀ t ∈ o.looksAt ops, ∀ j ∈ fs, dstOf ops j = some t → waitsOn md o j = true)
    (htail : ∀ j, j < n0 → j ∉ fs → ∀ o, ops[j]? = some o → ∀ i ∈ fs, waitsOn md o i = true)
    (hdst : ∀ i ∈ fs, ∀ j, j < n0 → i ≠ j → ∀ k, dstOf ops i = some k → dstOf ops j ≠ some k)
    (hF1 : ∀ st, (F st).defers = a0.defers) (hF2 : ∀ st, (F st).tmps.size = a0.tmps.size)
    (hsp : ∀ i ∈ sp, i ∈ fs)
    (hdo : ∀ i ∈ fs, ∀ st, (∀ j ∈ sp, ∀ o, ops[i]? = some o → waitsOn md o j = true → ev st j = true) → (i ∈ sp → ev st i = false) →
      ∃ (o : Oper) (v : σ → Value), ops[i]? = some o ∧ (∀ st' k, dstOf ops i = some k → (F st').tmps[k]? = if k < (F st').tmps.size then some (v st') else none) ∧
        ((Region.wanted o (yielded ops (F st).tmps) = true ∧ ∀ w, S st w → ∀ K : Act → World → Prop, (∀ st' w', S st' w' → (if i ∈ sp then T i st st' else st' = st) → K ((F st).put o.dst (v st')) w') → o.wp P (F st) w K noQ) ∨
         (i ∉ sp ∧ Region.wanted o (yielded ops (F st).tmps) = false ∧ v st = undef)))
    (hT : ∀ i ∈ sp, ∀ st st', T i st st' → ev st' i = true ∧ (∀ j ∈ sp, j ≠ i → ev st' j = ev st j) ∧
      ∀ k, (F st').tmps[k]? = (F st).tmps[k]? ∨ dstOf ops i = some k ∨ ∃ j ∈ fs, dstOf ops j = some k ∧ ∀ o, ops[j]? = some o → waitsOn md o i = true)
    (hend : ∀ st w, S st w → (∀ i ∈ sp, ev st i = true) → wpAny P md ops Q rest (listedOf fs n0) (F st) w) :
    ∀ (n : Nat) (us : List Nat) (listed : Array Bool) (st : σ) (a : Act) (w : World), us.length = n → us.Nodup → (∀ i ∈ us, i ∈ fs) → Lst fs us n0 listed → Way ops fs us a0 (F st) a → S st w →
      (∀ i ∈ sp, ev st i = !us.contains i) → (∀ j ∈ fs, j ∉ us → ∀ o, ops[j]? = some o → ∀ i ∈ us, waitsOn md o i = false) →
      wpAny P md ops Q (n + rest) listed a w := by
  intro n
  induction n with
  | zero =>
    intro us listed st a w hl _ _ hL hW hS hE _
    have : us = [] := List.eq_nil_of_length_eq_zero hl
    subst this
    rw [lst_end hL, Nat.zero_add]
    have ha : a = F st := by
      obtain ⟨t1, d1⟩ := a
      generalize F st = f at *
      obtain ⟨t2, d2⟩ := f
      obtain ⟨h1, h2, h3⟩ := hW
      simp only at h1 h2 h3
      subst h1
      congr 1
      apply Array.ext_getElem?
      intro k
      exact (h3 k).2 (fun j hj => by simp at hj)
    subst ha
    exact hend st w hS (fun i hi => by rw [hE i hi]; simp)
  | succ n ih =>
    intro us listed st a w hl hnd hsub hL hW hS hE hcl
    rw [show n + 1 + rest = (n + rest) + 1 by omega]
    -- the least one that has not come up is ready
    have hready : ∀ j, j ∈ Region.ready md ops listed ↔ (j < n0 ∧ ¬ (j ∈ fs ∧ j ∉ us)) ∧ ∃ o, ops[j]? = some o ∧ ∀ e ∈ o.after, Region.binds md e = true → listed.getD e.on false = true := by
      intro j
      rw [mem_ready]
      constructor
      · rintro ⟨h0, o, ho, h⟩
        have hj : j < n0 := by rw [← hn]; exact (Array.getElem?_eq_some_iff.1 ho).1
        have := hL.2 j hj
        rw [h0] at this
        refine ⟨⟨hj, fun ⟨h1, h2⟩ => ?_⟩, o, ho, h⟩
        simp [h1, h2] at this
      · rintro ⟨⟨hj, h1⟩, o, ho, h⟩
        refine ⟨?_, o, ho, h⟩
        rw [hL.2 j hj]
        by_cases h2 : j ∈ fs <;> by_cases h3 : j ∈ us <;> simp_all
    have hlisted : ∀ j, j ∈ fs → (listed.getD j false = true ↔ j ∉ us) := by
      intro j hj
      have hjn := hlt j hj
      have := hL.2 j hjn
      have hjs : j < listed.size := by rw [hL.1]; exact hjn
      rw [Array.getD_eq_getD_getElem?, Array.getElem?_eq_getElem hjs] at this ⊢
      simp only [Option.getD_some] at this ⊢
      rw [this]
      simp [hj]
    constructor
    · intro hnil
      exfalso
      have hne : us ≠ [] := by intro e; rw [e] at hl; simp at hl
      obtain ⟨m, hm, hmin⟩ : ∃ m ∈ us, ∀ j ∈ us, m ≤ j := by
        clear ih hl hnd hsub hL hW hready hlisted hnil hS hE hcl
        induction us with
        | nil => exact absurd rfl hne
        | cons x xs ih =>
          cases xs with
          | nil => exact ⟨x, List.mem_cons_self, fun j hj => by simp at hj; omega⟩
          | cons y ys =>
            obtain ⟨m, hm, hmin⟩ := ih (by simp)
            by_cases h : x ≤ m
            · exact ⟨x, List.mem_cons_self, fun j hj => by
                rcases List.mem_cons.1 hj with rfl | hj
                · exact Nat.le_refl _
                · exact Nat.le_trans h (hmin j hj)⟩
            · exact ⟨m, List.mem_cons_of_mem _ hm, fun j hj => by
                rcases List.mem_cons.1 hj with rfl | hj
                · omega
                · exact hmin j hj⟩
      have hmf := hsub m hm
      have hmn := hlt m hmf
      obtain ⟨o, ho⟩ : ∃ o, ops[m]? = some o := ⟨_, Array.getElem?_eq_getElem (by rw [hn]; exact hmn)⟩
      have : m ∈ Region.ready md ops listed := (hready m).2 ⟨⟨hmn, fun h => h.2 hm⟩, o, ho, fun e he hb => by
        have h := hdep m hmf o ho e he hb
        rw [hlisted e.on h.1]
        intro hu
        have := hmin e.on hu
        omega⟩
      rw [hnil] at this
      simp at this
    · intro i hi
      obtain ⟨⟨hin, hun⟩, o, ho, hall⟩ := (hready i).1 hi
      have hif : i ∈ fs := by
        apply Classical.byContradiction
        intro hnf
        obtain ⟨u, hu⟩ : ∃ u, u ∈ us := by
          cases us with
          | nil => simp at hl
          | cons x xs => exact ⟨x, List.mem_cons_self⟩
        obtain ⟨e, he, hb, heq⟩ := waitsOn_iff.1 (htail i hin hnf o ho u (hsub u hu))
        have := hall e he hb
        rw [heq, hlisted u (hsub u hu)] at this
        exact this hu
      have hiu : i ∈ us := by
        apply Classical.byContradiction
        intro h
        exact hun ⟨hif, h⟩
      have hdeps : ∀ j ∈ sp, ∀ o', ops[i]? = some o' → waitsOn md o' j = true → ev st j = true := by
        intro j hj o' ho' hw
        obtain ⟨e, he, hb, heq⟩ := waitsOn_iff.1 hw
        have : o' = o := by rw [ho] at ho'; injection ho' with h; exact h.symm
        subst this
        have h1 := hall e he hb
        rw [heq, hlisted j (hsp j hj)] at h1
        rw [hE j hj]
        simpa using h1
      have hnot : i ∈ sp → ev st i = false := fun h => by rw [hE i h]; simpa using hiu
      obtain ⟨o', v, ho', hv, hd⟩ := hdo i hif st hdeps hnot
      have : o' = o := by rw [ho] at ho'; injection ho' with h; exact h.symm
      subst this
      -- what the operation looks at
      have look : ∀ t ∈ o'.looksAt ops, a.tmps[t]? = (F st).tmps[t]? := by
        intro t ht
        by_cases hx : ∃ j ∈ us, dstOf ops j = some t
        · obtain ⟨j, hj, hjd⟩ := hx
          obtain ⟨e, he, hb, heq⟩ := waitsOn_iff.1 (hsee i hif o' ho t ht j (hsub j hj) hjd)
          have := hall e he hb
          rw [heq, hlisted j (hsub j hj)] at this
          exact absurd hj this
        · exact (hW.2.2 t).2 (fun j hj h => hx ⟨j, hj, h⟩)
      have hexec : execOp a.eval o' = execOp (F st).eval o' := execOp_congr o' (fun cs b => hsel i o' cs b ho) (fun x hx => by
        cases x with
        | tmp t =>
          have := look t (List.mem_append_left _ (List.mem_filterMap.2 ⟨.tmp t, by simpa using hx, rfl⟩))
          simp only [Act.eval, Array.getD_eq_getD_getElem?, this]
        | _ => rfl)
      have hwant : Region.wanted o' (yielded ops a.tmps) = Region.wanted o' (yielded ops (F st).tmps) := by
        unfold Region.wanted
        cases hg : o'.guard with
        | none => rfl
        | some gw =>
          obtain ⟨g, want⟩ := gw
          have hy : yielded ops a.tmps g = yielded ops (F st).tmps g := by
            unfold yielded
            cases ht : (ops[g]?).bind (·.dst) with
            | none => rfl
            | some t =>
              have := look t (List.mem_append_right _ (by simp [hg, ht]))
              simp only [Option.bind_some, this]
          simp only [hy]
      have hdi : dstOf ops i = o'.dst := by simp [dstOf, ho]
      have hself : waitsOn md o' i = false := by
        rw [← Bool.not_eq_true]
        intro hw
        obtain ⟨e, he, hb, heq⟩ := waitsOn_iff.1 hw
        have := (hdep i hif o' ho e he hb).2
        omega
      -- the way goes on
      have next : ∀ u st', (F st).put o'.dst u = (F st).put o'.dst (v st') → (if i ∈ sp then T i st st' else st' = st) → ∀ w', S st' w' → wpAny P md ops Q (n + rest) (listed.setIfInBounds i true) (a.put o'.dst u) w' := by
        intro u st' hu hTr w' hS'
        have hco : ∀ k, (F st').tmps[k]? = (F st).tmps[k]? ∨ dstOf ops i = some k ∨ ∃ j ∈ fs, dstOf ops j = some k ∧ ∀ o, ops[j]? = some o → waitsOn md o i = true := by
          intro k
          by_cases his : i ∈ sp
          · rw [if_pos his] at hTr
            exact (hT i his st st' hTr).2.2 k
          · rw [if_neg his] at hTr
            subst hTr
            exact .inl rfl
        refine ih (us.erase i) _ st' _ w' (by rw [List.length_erase_of_mem hiu]; omega) (hnd.erase i) (fun j hj => hsub j (List.mem_of_mem_erase hj)) ⟨by simpa using hL.1, fun j hj => ?_⟩ ⟨?_, ?_, fun k => ⟨?_, ?_⟩⟩ hS' ?_ ?_
        · by_cases hij : i = j
          · subst hij
            rw [Array.getD_eq_getD_getElem?, Array.getElem?_setIfInBounds_self_of_lt (by rw [hL.1]; exact hj)]
            have : i ∉ us.erase i := fun h => ((hnd.mem_erase_iff).1 h).1 rfl
            simp [hif, this]
          · rw [getD_set_ne true hij, hL.2 j hj]
            have : j ∈ us.erase i ↔ j ∈ us := by rw [hnd.mem_erase_iff]; simp [Ne.symm hij]
            by_cases h : j ∈ us <;> simp [h, this]
        · rw [put_defers', hW.1, hF1, hF1]
        · rw [put_size, hW.2.1, hF2, hF2]
        · rintro ⟨j, hj, hjk⟩
          obtain ⟨h1, h2⟩ := (hnd.mem_erase_iff).1 hj
          rw [put_other a u (by rw [← hdi]; intro h; exact hdst i hif j (hlt j (hsub j h2)) (Ne.symm h1) k h hjk)]
          exact (hW.2.2 k).1 ⟨j, h2, hjk⟩
        · intro hno
          by_cases hk : o'.dst = some k
          · have h1 := hv st' k (by rw [hdi]; exact hk)
            have h2 : ((F st).put (some k) u).tmps[k]? = ((F st).put (some k) (v st')).tmps[k]? := by rw [← hk, hu]
            rw [put_same, put_same] at h2
            rw [hk, put_same, h1, hW.2.1, hF2, hF2]
            rw [hF2] at h2
            exact h2
          · rw [put_other a u hk]
            have h0 : a.tmps[k]? = (F st).tmps[k]? := (hW.2.2 k).2 (fun j hj hjk => by
              by_cases hij : j = i
              · subst hij; rw [hdi] at hjk; exact hk hjk
              · exact hno j ((hnd.mem_erase_iff).2 ⟨hij, hj⟩) hjk)
            rcases hco k with h | h | ⟨j, hj, hjk, hw⟩
            · rw [h0, h]
            · rw [hdi] at h; exact absurd h hk
            · exfalso
              have hjo : ∃ oj, ops[j]? = some oj := ⟨_, Array.getElem?_eq_getElem (by rw [hn]; exact hlt j hj)⟩
              obtain ⟨oj, hoj⟩ := hjo
              have hwj := hw oj hoj
              by_cases hju : j ∈ us
              · have hji : j ≠ i := by
                  intro e
                  subst e
                  rw [ho] at hoj
                  injection hoj with e
                  subst e
                  rw [hself] at hwj
                  cases hwj
                exact hno j ((hnd.mem_erase_iff).2 ⟨hji, hju⟩) hjk
              · have := hcl j hj hju oj hoj i hiu
                rw [hwj] at this
                cases this
        · intro j hj
          by_cases hji : j = i
          · subst hji
            rw [if_pos hj] at hTr
            rw [(hT j hj st st' hTr).1]
            have : j ∉ us.erase j := fun h => ((hnd.mem_erase_iff).1 h).1 rfl
            simp [this]
          · have h1 : ev st' j = ev st j := by
              by_cases his : i ∈ sp
              · rw [if_pos his] at hTr
                exact (hT i his st st' hTr).2.1 j hj hji
              · rw [if_neg his] at hTr
                rw [hTr]
            rw [h1, hE j hj]
            have : j ∈ us.erase i ↔ j ∈ us := by rw [hnd.mem_erase_iff]; simp [hji]
            by_cases h : j ∈ us <;> simp [h, this]
        · intro j hj hju oj hoj x hx
          obtain ⟨hxi, hxu⟩ := (hnd.mem_erase_iff).1 hx
          by_cases hji : j = i
          · subst hji
            rw [ho] at hoj
            injection hoj with e
            subst e
            rw [← Bool.not_eq_true]
            intro hw
            obtain ⟨e, he, hb, heq⟩ := waitsOn_iff.1 hw
            have h1 := hall e he hb
            rw [heq, hlisted x (hsub x hxu)] at h1
            exact h1 hxu
          · exact hcl j hj (fun h => hju ((hnd.mem_erase_iff).2 ⟨hji, h⟩)) oj hoj x hxu
      unfold wpOp
      simp only [ho, hwant]
      rcases hd with ⟨hw, hd⟩ | ⟨hns, hw, hvu⟩
      · rw [if_pos hw]
        refine .inl ?_
        have h := hd w hS (fun a' w' => ∃ st', S st' w' ∧ (if i ∈ sp then T i st st' else st' = st) ∧ a' = (F st).put o'.dst (v st')) (fun st' w' h1 h2 => ⟨st', h1, h2, rfl⟩)
        unfold Oper.wp at *
        rw [hexec]
        generalize (execOp (F st).eval o').run P w = r at *
        cases r with
        | ok x w' =>
          cases x <;> simp only [Oper.upon] at h ⊢
          case value u => obtain ⟨st', h1, h2, h3⟩ := h; exact next u st' h3 h2 w' h1
          case skip => obtain ⟨st', h1, h2, h3⟩ := h; exact next undef st' h3 h2 w' h1
          case defer d =>
            exfalso
            obtain ⟨st', h1, h2, h3⟩ := h
            have := congrArg Act.defers h3
            rw [put_defers', put_defers'] at this
            exact absurd (congrArg List.length this) (by simp)
          case enter f args =>
            refine Calls.mono h fun e w'' he => ?_
            cases e with
            | returned u => obtain ⟨st', h1, h2, h3⟩ := he; exact next u st' h3 h2 w'' h1
            | panicked c => exact he.elim
            | outgrown => obtain ⟨_, _, hf⟩ := he; exact hf.elim
          case row row args => exact Rows.mono h fun u w'' he => by obtain ⟨st', h1, h2, h3⟩ := he; exact next u st' h3 h2 w'' h1
        | halt x w' =>
          cases x <;> simp only [Oper.upon] at h ⊢
          case panic u => exact h.elim
      · rw [if_neg (by simp [hw])]
        exact next undef st (by rw [hvu]) (by rw [if_neg hns]) w hS
end
end Go.Proofs.Ytbjbafhlmcnceaa
