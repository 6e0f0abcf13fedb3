/- Contracts of the document's Sum, whatever the signs, and of Order. -/
import Derived.Test.YtdjhloilpgfcjaaSum
namespace Go.Proofs.Ytdjhloilpgfcjaa
open Go.ChangeShapes Go.WideShapes Go.ChangeAt Go.RowKit
set_option linter.unusedVariables false

theorem sum_any (am bm : Bool) (A B : Option Addr) (c d : Nat) (a b : List Nat) (w : World) (ha : Reads w w.heap.size 1 A a.length (cells a)) (hb : Reads w w.heap.size 1 B b.length (cells b))
    (xa : L.Bits a) (xb : L.Bits b) (na : a.length ≤ 900) (nb : b.length ≤ 900) :
    Calls Try.prog 38 #[.agg #[.bool am, .slice A a.length c], .agg #[.bool bm, .slice B b.length d]] w (RetNum w (M.sg am (L.nat a) + M.sg bm (L.nat b))) := by
  have K0 : Below w.heap.size w (((w.alloc (.cells #[.bool am, .slice A a.length c] 50)).alloc (.cells #[.bool bm, .slice B b.length d] 50)).alloc (.cells #[.bool false, .slice none 0 0] 50)) := ((((Below.refl _ w).alloc (Nat.le_refl _) _).alloc (by simp) _).alloc (by simp; omega) _)
  have ha0 := ha.up K0
  have hb0 := hb.up K0
  by_cases hm : (am == bm) = true
  · have e : am = bm := by simpa using hm
    subst e
    refine sum_same am am A B c d a b w _ hm ?_
    refine (more_any A B c d a b _ ha0.drew hb0.drew xa xb na nb).mono fun e w' h => sln_of h fun l hl => ⟨hl.1, by have := hl.2.2; omega, ?_⟩
    rw [hl.2.1]
    cases am <;> simp only [M.sg, Int.natCast_add, if_true, if_false, Bool.false_eq_true] <;> omega
  · have hm := Bool.eq_false_iff.2 hm
    have cO := above_any A B c d a b _ ha0 hb0 xa xb na nb
    rw [L.sgn_of] at cO
    by_cases g : L.nat a < L.nat b
    · rw [if_pos g] at cO
      refine sum_lt am bm A B c d a b w _ _ hm (by omega) cO fun w2 h2 => ?_
      refine (less_any B A d c b a _ (hb0.up h2).drew (ha0.up h2).drew xb xa nb na (by omega)).mono fun e w' h => sln_of h fun l hl => ⟨hl.1, by have := hl.2.2; omega, ?_⟩
      rw [hl.2.1, Int.ofNat_sub (by omega)]
      cases am <;> cases bm <;> simp_all only [M.sg, if_true, if_false, Bool.false_eq_true] <;> first | omega | (exfalso; exact absurd hm (by decide))
    · have hg : 0 ≤ (if L.nat a < L.nat b then (-1 : Int) else if L.nat b < L.nat a then 1 else 0) := by rw [if_neg g]; split <;> omega
      refine sum_ge am bm A B c d a b w _ _ hm hg cO fun w2 h2 => ?_
      refine (less_any A B c d a b _ (ha0.up h2).drew (hb0.up h2).drew xa xb na nb (by omega)).mono fun e w' h => sln_of h fun l hl => ⟨hl.1, by have := hl.2.2; omega, ?_⟩
      rw [hl.2.1, Int.ofNat_sub (by omega)]
      cases am <;> cases bm <;> simp_all only [M.sg, if_true, if_false, Bool.false_eq_true] <;> first | omega | (exfalso; exact absurd hm (by decide))
/-- What a number that was handed back says. -/
theorem sg_dec {z : Int} {l : List Nat} (h : L.nat l = z.natAbs) : M.sg (decide (z < 0)) (L.nat l) = z := by
  unfold M.sg
  by_cases g : z < 0
  · rw [decide_eq_true g, if_pos rfl]; omega
  · rw [decide_eq_false g]; simp; omega
theorem keep4a {x : World} {b : Nat} {v u v' u' : Value} {o : Obj} (h : x.cell? ⟨b, 0, none⟩ = some v ∧ x.cell? ⟨b, 1, none⟩ = some u ∧ x.cell? ⟨b + 1, 0, none⟩ = some v' ∧ x.cell? ⟨b + 1, 1, none⟩ = some u' ∧ b + 1 < x.heap.size) : (x.alloc o).cell? ⟨b, 0, none⟩ = some v ∧ (x.alloc o).cell? ⟨b, 1, none⟩ = some u ∧ (x.alloc o).cell? ⟨b + 1, 0, none⟩ = some v' ∧ (x.alloc o).cell? ⟨b + 1, 1, none⟩ = some u' ∧ b + 1 < (x.alloc o).heap.size :=
  ⟨(World.cell?_alloc_lt x o ⟨b, 0, none⟩ (by have := h.2.2.2.2; dsimp only; omega)).trans h.1, (World.cell?_alloc_lt x o ⟨b, 1, none⟩ (by have := h.2.2.2.2; dsimp only; omega)).trans h.2.1, (World.cell?_alloc_lt x o ⟨b + 1, 0, none⟩ h.2.2.2.2).trans h.2.2.1, (World.cell?_alloc_lt x o ⟨b + 1, 1, none⟩ h.2.2.2.2).trans h.2.2.2.1, by have := h.2.2.2.2; simp; omega⟩
theorem keep4b {x : World} {b : Nat} {v u v' u' : Value} {o o' : Obj} (hz : b + 1 < x.heap.size) (h : (x.alloc o).cell? ⟨b, 0, none⟩ = some v ∧ (x.alloc o).cell? ⟨b, 1, none⟩ = some u ∧ (x.alloc o).cell? ⟨b + 1, 0, none⟩ = some v' ∧ (x.alloc o).cell? ⟨b + 1, 1, none⟩ = some u' ∧ b + 1 < (x.alloc o).heap.size) : (x.alloc o').cell? ⟨b, 0, none⟩ = some v ∧ (x.alloc o').cell? ⟨b, 1, none⟩ = some u ∧ (x.alloc o').cell? ⟨b + 1, 0, none⟩ = some v' ∧ (x.alloc o').cell? ⟨b + 1, 1, none⟩ = some u' ∧ b + 1 < (x.alloc o').heap.size :=
  keep4a ⟨(World.cell?_alloc_lt x o ⟨b, 0, none⟩ (by dsimp only; omega)).symm.trans h.1, (World.cell?_alloc_lt x o ⟨b, 1, none⟩ (by dsimp only; omega)).symm.trans h.2.1, (World.cell?_alloc_lt x o ⟨b + 1, 0, none⟩ hz).symm.trans h.2.2.1, (World.cell?_alloc_lt x o ⟨b + 1, 1, none⟩ hz).symm.trans h.2.2.2.1, hz⟩
theorem Reads.upA {w : World} {A : Option Addr} {n : Nat} {xs : List Value} (h : Reads w w.heap.size 1 A n xs) (o : Obj) : Reads (w.alloc o) (w.alloc o).heap.size 1 A n xs := h.up ((Below.refl _ w).alloc (Nat.le_refl _) o)
/-- A variable that holds a number. -/
def NumAt (w0 wx : World) (g : Nat) (z : Int) : Prop := ∃ A c l, wx.cell? ⟨g, 0, none⟩ = some (.bool (decide (z < 0))) ∧ wx.cell? ⟨g, 1, none⟩ = some (.slice A l.length c) ∧ L.Can l ∧ L.nat l = z.natAbs ∧ g < wx.heap.size ∧ Below w0.heap.size w0 wx
theorem new2w {w x : World} {v u : Value} {t : TypeId} (K : Below w.heap.size w x) :
    (x.alloc (.cells #[v, u] t)).cell? ⟨x.heap.size, 0, none⟩ = some v ∧ (x.alloc (.cells #[v, u] t)).cell? ⟨x.heap.size, 1, none⟩ = some u ∧ x.heap.size < (x.alloc (.cells #[v, u] t)).heap.size ∧ Below w.heap.size w (x.alloc (.cells #[v, u] t)) :=
  ⟨by simp [World.cell?_alloc_new], by simp [World.cell?_alloc_new], by simp, K.alloc K.size _⟩
theorem set2w {W y : World} {g : Nat} {a b v u : Value} (K : Below W.heap.size W y) (hg : W.heap.size ≤ g) (h0 : y.cell? ⟨g, 0, none⟩ = some a) (h1 : y.cell? ⟨g, 1, none⟩ = some b) (hz : g < y.heap.size) :
    ((y.setCell ⟨g, 0, none⟩ v).setCell ⟨g, 1, none⟩ u).cell? ⟨g, 0, none⟩ = some v ∧ ((y.setCell ⟨g, 0, none⟩ v).setCell ⟨g, 1, none⟩ u).cell? ⟨g, 1, none⟩ = some u ∧ g < ((y.setCell ⟨g, 0, none⟩ v).setCell ⟨g, 1, none⟩ u).heap.size ∧
      Below W.heap.size W ((y.setCell ⟨g, 0, none⟩ v).setCell ⟨g, 1, none⟩ u) := by
  have n01 : (⟨g, 0, none⟩ : Addr) ≠ ⟨g, 1, none⟩ := by simp
  have e1 : (y.setCell ⟨g, 0, none⟩ v).cell? ⟨g, 1, none⟩ = some b := (World.cell?_setCell_other y _ _ v n01).trans h1
  refine ⟨?_, ?_, by simp [World.setCell]; omega, (K.setCell (by dsimp only; omega) _).setCell (by dsimp only; omega) _⟩
  · rw [World.cell?_setCell_other _ _ _ u n01.symm]
    exact World.cell?_setCell_same y _ v h0
  · exact World.cell?_setCell_same _ _ u e1
set_option maxHeartbeats 2000000 in
theorem order_core (am bm : Bool) (A B : Option Addr) (c d : Nat) (a b : List Nat) (w : World) (z zb s : Int) (ha0 : Reads ((w.alloc (.cells #[.bool am, .slice A a.length c] 50)).alloc (.cells #[.bool bm, .slice B b.length d] 50)) (((w.alloc (.cells #[.bool am, .slice A a.length c] 50)).alloc (.cells #[.bool bm, .slice B b.length d] 50))).heap.size 1 A a.length (cells a)) (hb0 : Reads ((w.alloc (.cells #[.bool am, .slice A a.length c] 50)).alloc (.cells #[.bool bm, .slice B b.length d] 50)) (((w.alloc (.cells #[.bool am, .slice A a.length c] 50)).alloc (.cells #[.bool bm, .slice B b.length d] 50))).heap.size 1 B b.length (cells b))
    (cT : ∀ w2, Reads w2 w2.heap.size 1 B b.length (cells b) → Calls Try.prog 35 #[.agg #[.bool bm, .slice B b.length d]] w2 (RetNum w2 zb))
    (cS : ∀ w3, Reads w3 w3.heap.size 1 A a.length (cells a) → ∀ A' c' l', Reads w3 w3.heap.size 1 A' l'.length (cells l') → L.Can l' → L.nat l' = zb.natAbs → Calls Try.prog 38 #[.agg #[.bool am, .slice A a.length c], .agg #[.bool (decide (zb < 0)), .slice A' l'.length c']] w3 (RetNum w3 z))
    (hs : s = M.sgn z 0) :
    Calls Try.prog 45 #[.agg #[.bool am, .slice A a.length c], .agg #[.bool bm, .slice B b.length d]] w fun e w' => e = .returned (.int .i64 s) ∧ Below w.heap.size w w' := by
  have K0 : Below w.heap.size w ((w.alloc (.cells #[.bool am, .slice A a.length c] 50)).alloc (.cells #[.bool bm, .slice B b.length d] 50)) := (((Below.refl _ w).alloc (Nat.le_refl _) _).alloc (by simp) _)
  have HS := Lib.hid hs
  clear hs
  go_enter Try.func45, Try.ntmps45
  go_upto_region 1 with fail
  go_cut [5] (fun t5 wx => ∃ g : Nat, t5 = .pointer (some ⟨g, 0, none⟩) ∧ NumAt w wx g z)
  case first =>
    go_region_held3 (fun w' => w'.cell? ⟨w.heap.size, 0, none⟩ = some (.bool am) ∧ w'.cell? ⟨w.heap.size, 1, none⟩ = some (.slice A a.length c) ∧ w'.cell? ⟨w.heap.size + 1, 0, none⟩ = some (.bool bm) ∧ w'.cell? ⟨w.heap.size + 1, 1, none⟩ = some (.slice B b.length d) ∧ w.heap.size + 1 < w'.heap.size)
      (first | exact keep4 hbB (by assumption) | exact keep4s (by (dsimp only; omega)) (keep4s (by (dsimp only; omega)) (by assumption)) | exact keep4a (by assumption) | exact keep4b zB (by assumption) | exact keep4b zA (by assumption) | exact keep4 hbA (by assumption) | go_keep)
      ((first | (go_at_call 35; refine (cT _ (by first | exact hb0.drew | exact (hb0.upA _).drew)).mono ?_; rintro e w3 ⟨A', c', l', rfl, hr, hC, hz, hA, hbA⟩; have zA : w.heap.size + 1 < w3.heap.size := (by (have := hbA.size; (try simp at this); omega)); have ha3 : Reads w3 w3.heap.size 1 A a.length (cells a) := (by first | exact ha0.drew.up hbA | exact (ha0.upA _).drew.up hbA); (try have yA : w.heap.size + 1 + 1 < w3.heap.size := (by (have := hbA.size; (try simp at this); omega))); obtain ⟨hcA, hfA⟩ := bcell hbA) | (go_at_call 38; refine (cS _ (by first | exact ha3 | exact ha3.upA _) A' c' l' (by first | exact hr | exact hr.upA _) hC hz).mono ?_; rintro e w4 ⟨A2, c2, l2, rfl, hr2, hC2, hz2, hA2, hbB⟩; have zB : w.heap.size + 1 < w4.heap.size := (by (have := hbB.size; (try simp at this); omega)); (try have xB : w3.heap.size < w4.heap.size := (by (have := hbB.size; (try simp at this); omega))); (try have yB : w.heap.size + 1 + 1 < w4.heap.size := (by (have := hbB.size; (try simp at this); omega))); obtain ⟨hcB, hfB⟩ := bcell hbB)))
    all_goals (go_wp2_with fail; go_meet)
    · have K5 := K0.drew.trans (hbA.mono K0.drew.size)
      have K6 := K5.trans (hbB.mono K5.size)
      have N := new2w (v := .bool (decide (z < 0))) (u := .slice A2 l2.length c2) (t := 50) K6
      exact ⟨w4.heap.size, rfl, A2, c2, l2, N.1, N.2.1, hC2, hz2, N.2.2.1, N.2.2.2⟩
    · have K5 := K0.drew.trans (hbA.mono K0.drew.size)
      have K5' := K5.alloc K5.size (.cells #[.bool false, .slice none 0 0] 50)
      have K6 := K5'.trans (hbB.mono K5'.size)
      have c0 := hcB w3.heap.size 0 (by simp)
      have c1 := hcB w3.heap.size 1 (by simp)
      simp [World.cell?_alloc_new] at c0 c1
      have N := set2w (v := .bool (decide (z < 0))) (u := .slice A2 l2.length c2) K6 K5.size c0 c1 xB
      exact ⟨w3.heap.size, rfl, A2, c2, l2, N.1, N.2.1, hC2, hz2, N.2.2.1, N.2.2.2⟩
    · have K4 := (K0.alloc K0.size (.cells #[.bool false, .slice none 0 0] 50)).drew
      have K5 := K4.trans (hbA.mono K4.size)
      have K6 := K5.trans (hbB.mono K5.size)
      have n0 := three_new w (.bool am) (.slice A a.length c) (.bool bm) (.slice B b.length d) (.bool false) (.slice none 0 0)
      have e0 := (hcA (w.heap.size + 1 + 1) 0 (by simp)).trans n0.1
      have e1 := (hcA (w.heap.size + 1 + 1) 1 (by simp)).trans n0.2
      have c0 := (hcB (w.heap.size + 1 + 1) 0 yA).trans e0
      have c1 := (hcB (w.heap.size + 1 + 1) 1 yA).trans e1
      have N := set2w (v := .bool (decide (z < 0))) (u := .slice A2 l2.length c2) K6 (by omega) c0 c1 yB
      exact ⟨w.heap.size + 1 + 1, rfl, A2, c2, l2, N.1, N.2.1, hC2, hz2, N.2.2.1, N.2.2.2⟩
  case rest =>
    obtain ⟨g, rfl, A2, c2, l2, c0, c1, hC, hz, hg, K⟩ := hcut
    have hp := L.can_pos hC
    rw [hz] at hp
    by_cases n : z < 0
    · have n' : decide (z < 0) = true := decide_eq_true n
      have E := Lib.hid (HS.out.trans (M.sgn_lt n).symm)
      rw [n'] at c0
      clear n n' hp hz hC HS
      go_wp2_with fail
      go_ret
      exact ⟨ret1 E.out.symm, K⟩
    · have n' : decide (z < 0) = false := decide_eq_false n
      rw [n'] at c0
      by_cases q : 0 < l2.length
      · have E := Lib.hid (HS.out.trans (M.sgn_gt (by have := hp.1 q; omega)).symm)
        have q' : (0 : Int) < (l2.length : Int) := by omega
        clear n n' hp hz hC HS q
        go_wp2_with fail
        go_ret
        exact ⟨ret1 E.out.symm, K⟩
      · have E := Lib.hid (HS.out.trans (M.sgn_eq n (by have : ¬ 0 < z.natAbs := fun h => q (hp.2 h); omega)).symm)
        have q' : ¬ (0 : Int) < (l2.length : Int) := by omega
        clear n n' hp hz hC HS q
        go_wp2_with fail
        go_ret
        exact ⟨ret1 E.out.symm, K⟩
theorem order_any (am bm : Bool) (A B : Option Addr) (c d : Nat) (a b : List Nat) (w : World) (ha : Reads w w.heap.size 1 A a.length (cells a)) (hb : Reads w w.heap.size 1 B b.length (cells b))
    (xa : L.Bits a) (xb : L.Bits b) (na : a.length ≤ 890) (nb : b.length ≤ 890) :
    Calls Try.prog 45 #[.agg #[.bool am, .slice A a.length c], .agg #[.bool bm, .slice B b.length d]] w fun e w' => e = .returned (.int .i64 (M.sgn (M.sg am (L.nat a)) (M.sg bm (L.nat b)))) ∧ Below w.heap.size w w' := by
  have K0 : Below w.heap.size w ((w.alloc (.cells #[.bool am, .slice A a.length c] 50)).alloc (.cells #[.bool bm, .slice B b.length d] 50)) := (((Below.refl _ w).alloc (Nat.le_refl _) _).alloc (by simp) _)
  refine order_core am bm A B c d a b w (M.sg am (L.nat a) + -(M.sg bm (L.nat b))) (-(M.sg bm (L.nat b))) _ (ha.up K0) (hb.up K0) (fun w2 h2 => turn_any bm B d b w2 h2 xb (by omega)) (fun w3 h3 A' c' l' hr hC hz => ?_) ?_
  · have hl : l'.length ≤ 900 := by
      have h1 := L.nat_lt xb
      have e : L.nat l' = L.nat b := by rw [hz]; cases bm <;> simp [M.sg]
      have := L.can_len hC (k := b.length) (by omega)
      omega
    have := sum_any am (decide (-(M.sg bm (L.nat b : Int)) < 0)) A A' c c' a l' w3 h3 hr xa hC.1 (by omega) hl
    rwa [sg_dec hz] at this
  · rcases Int.lt_trichotomy (M.sg am (L.nat a : Int)) (M.sg bm (L.nat b : Int)) with g | g | g
    · exact (M.sgn_lt g).symm.trans (M.sgn_lt (by omega))
    · exact (M.sgn_eq (by omega) (by omega)).symm.trans (M.sgn_eq (by omega) (by omega))
    · exact (M.sgn_gt g).symm.trans (M.sgn_gt (by omega))
end Go.Proofs.Ytdjhloilpgfcjaa
