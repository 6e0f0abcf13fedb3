/- New blocks, laid and written in any order in a region that draws it, beside lists. -/
import Derived.Test.YtheolajpjpnfjaaXn
import Derived.Test.YtheolajpjpnfjaaNb
namespace Go.Proofs.Ytheolajpjpnfjaa
open Go.ChangeShapes Go.WideShapes Go.ChangeAt Go.RowKit
set_option linter.unusedVariables false
set_option linter.unusedSimpArgs false

theorem Held.perm {w0 w : World} {l l' : List (Nat × TypeId × List Value)} {R : RowD} {es : List Ent} (h : Held w0 w l R es) (hp : l.Perm l') : Held w0 w l' R es :=
  ⟨Own.perm h.1 hp, h.2.1, fun x hx => h.2.2.1 x (hp.mem_iff.2 hx), fun x hx => (h.2.2.2 x hx).turn (Nat.le_refl _) (fun _ _ _ => rfl) (fun b _ hn hm => hn (hm.imp id (fun e => (hp.map _).mem_iff.2 e)))⟩
theorem Held.drop {w0 w : World} {R : RowD} {es : List Ent} : ∀ {l bs : List (Nat × TypeId × List Value)}, Held w0 w (l ++ bs) R es → Held w0 w bs R es
  | [], _, h => h
  | _ :: l, bs, h => Held.drop (l := l) (Held.tail h)
theorem Held.as {w0 w : World} {l l' : List (Nat × TypeId × List Value)} {R : RowD} {es : List Ent} (h : Held w0 w l R es) (e : l = l') : Held w0 w l' R es := e ▸ h
/-- New blocks, laid and written in any order, beside lists. -/
def HB (w0 : World) (bs : List (Nat × TypeId × List Value)) (ss : List NbS) (R : RowD) (es : List Ent) (st : Nat → Option Value) (w : World) : Prop :=
  (∀ s ∈ ss, st s.a = none → st s.p = none) ∧ (∀ s ∈ ss, isP (st s.a)) ∧ Held w0 w (nows st ss ++ bs) R es
section
variable {w0 w : World} {bs : List (Nat × TypeId × List Value)} {ss : List NbS} {R : RowD} {es : List Ent} {st : Nat → Option Value}
theorem HB.start (O : Held w0 w bs R es) : HB w0 bs ss R es (fun _ => none) w := by
  refine ⟨fun _ _ _ => rfl, fun _ _ => isP_none, ?_⟩
  have : nows (fun _ => none) ss = [] := by
    unfold nows
    rw [List.flatMap_eq_nil_iff]
    exact fun _ _ => rfl
  rw [this]
  exact O
theorem HB.own (h : HB w0 bs ss R es st w) : Held w0 w bs R es := Held.drop h.2.2
theorem HB.ptr (h : HB w0 bs ss R es st w) (k : Nat) {s : NbS} (hk : ss[k]? = some s) (ha : (st s.a).isSome = true) : ∃ g, st s.a = some (.pointer (some ⟨g, 0, none⟩)) := by
  obtain ⟨v, hv⟩ := Option.isSome_iff_exists.1 ha
  obtain ⟨g, rfl⟩ := h.2.1 s (List.mem_of_getElem? hk) v hv
  exact ⟨g, hv⟩
variable {P : Program} {dst : Option Tmp} {ty : TypeId} {pos : String} {after : Array Edge} {K : Act → World → Prop} {p q : Operand} {ac : Act} {Q : Exit → Act → World → Prop} {gd : Option (Nat × Bool)}
theorem HB.alloc (h : HB w0 bs ss R es st w) (hd : apart ss) (k : Nat) {s : NbS} (hk : ss[k]? = some s) (hn : st s.a = none) (hz : (P.info? s.t).map (·.zero) = some (some (.agg s.z.toArray)))
    (hK : ∀ v w1, HB w0 bs ss R es (upd st s.a v) w1 → K (ac.put dst v) w1) : Oper.wp P ⟨dst, .alloc s.t, ty, pos, after, none⟩ ac w K Q := by
  obtain ⟨h1, h2, O⟩ := h
  refine wp_alloc_h O s.z hz fun g w1 O1 => hK _ _ ⟨fun x hx => ?_, fun x hx => ?_, ?_⟩
  · have e := cut_at hk
    rw [e] at hd hx
    obtain ⟨d0, d1, d2⟩ := apart_mid hd
    by_cases ex : x.a = s.a
    · rw [ex, upd_same]; intro hc; cases hc
    · rw [upd_other st _ ex]
      intro hx0
      have hxs : x ∈ ss := by rw [e]; exact hx
      have hp : x.p ≠ s.a := by
        rcases List.mem_append.1 hx with hm | hm
        · exact (d1 x hm).1.2
        · rcases List.mem_cons.1 hm with rfl | hm
          · exact absurd rfl ex
          · exact (d2 x hm).1.2
      rw [upd_other st _ hp]
      exact h1 x hxs hx0
  · by_cases ex : x.a = s.a
    · rw [ex, upd_same]; exact isP_some g
    · rw [upd_other st _ ex]; exact h2 x hx
  · have e := cut_at hk
    have hsp := h1 s (List.mem_of_getElem? hk) hn
    rw [e] at hd O1 ⊢
    obtain ⟨d0, d1, d2⟩ := apart_mid hd
    rw [nows_app, nows_cons] at O1 ⊢
    rw [nows_upd fun x hx => (d1 x hx).1, nows_upd fun x hx => (d2 x hx).1, NbS.now_is (upd_same st s.a _) false (by rw [upd_other st _ (Ne.symm d0), hsp]; rfl)]
    rw [NbS.now_none hn] at O1
    refine O1.perm ?_
    simp only [List.nil_append, List.append_assoc]
    exact List.perm_middle.symm
theorem HB.put (h : HB w0 bs ss R es st w) (hd : apart ss) (k : Nat) {s : NbS} (hk : ss[k]? = some s) (ha : (st s.a).isSome = true) (hn : st s.p = none) (hx : ac.eval p = (st s.a).getD undef) (hy : ac.eval q = .agg s.q.toArray)
    (hi : (P.info? s.t).map (·.size) = some s.q.length) (hl : s.z.length = s.q.length) (h1 : ∀ v ∈ s.q, v.oneCell' = true)
    (hK : ∀ v w1, HB w0 bs ss R es (upd st s.p v) w1 → K (ac.put dst v) w1) : Oper.wp P ⟨dst, .store s.t p q, ty, pos, after, gd⟩ ac w K Q := by
  obtain ⟨g, hg⟩ := h.ptr k hk ha
  rw [hg] at hx
  obtain ⟨h3, h2, O⟩ := h
  have e := cut_at hk
  have hd' := hd
  rw [e] at hd'
  obtain ⟨d0, d1, d2⟩ := apart_mid hd'
  have O2 : Held w0 w ((g, s.t, s.z) :: (nows st (ss.take k) ++ (nows st (ss.drop (k + 1)) ++ bs))) R es := by
    refine Held.perm (l := nows st ss ++ bs) O ?_
    conv => lhs; rw [e, nows_app, nows_cons, NbS.now_is hg false (by rw [hn]; rfl)]
    simp only [List.append_assoc, List.cons_append, List.nil_append]
    exact List.perm_middle
  refine wp_put_h O2 0 s.q rfl hx hy hi hl h1 fun w1 O1 => hK _ _ ⟨fun x hx => ?_, fun x hx => ?_, ?_⟩
  · have hxs := hx
    rw [e] at hx
    by_cases ex : x.a = s.a
    · rw [ex, upd_other st _ d0, hg]; intro hc; cases hc
    · have hm2 : x.a ≠ s.p ∧ x.p ≠ s.p := by
        rcases List.mem_append.1 hx with hm | hm
        · exact (d1 x hm).2
        · rcases List.mem_cons.1 hm with rfl | hm
          · exact absurd rfl ex
          · exact (d2 x hm).2
      rw [upd_other st _ hm2.1, upd_other st _ hm2.2]
      exact h3 x hxs
  · have hm2 : x.a ≠ s.p := by
      rw [e] at hx
      rcases List.mem_append.1 hx with hm | hm
      · exact (d1 x hm).2.1
      · rcases List.mem_cons.1 hm with rfl | hm
        · exact d0
        · exact (d2 x hm).2.1
    rw [upd_other st _ hm2]
    exact h2 x (by rw [e] at hx ⊢; exact hx)
  · refine Held.perm O1 ?_
    conv => rhs; rw [e, nows_app, nows_cons, nows_upd fun x hx => (d1 x hx).2, nows_upd fun x hx => (d2 x hx).2, NbS.now_is (by rw [upd_other st _ d0]; exact hg) true (by rw [upd_same]; rfl)]
    simp only [List.append_assoc, List.cons_append, List.nil_append]
    exact List.perm_middle.symm
end
end Go.Proofs.Ytheolajpjpnfjaa
