/- Contracts of the document's Turn, Sum and Order. -/
import Derived.Test.YtbjbafhlmcnceaaTrim
namespace Go.Proofs.Ytbjbafhlmcnceaa
open Go.ChangeShapes Go.WideShapes Go.ChangeAt Go.RowKit
set_option linter.unusedVariables false

/-- A call hands back a slice that reads as bits. -/
def RetSl (w : World) (P : List Nat → Prop) (e : Ending) (w' : World) : Prop :=
  ∃ A c l, e = .returned (.slice A l.length c) ∧ Reads w' w'.heap.size 1 A l.length (cells l) ∧ P l ∧ Below w.heap.size w w'
theorem sl_of {w : World} {P : List Nat → Prop} {e : Ending} {w' : World} (h : RetList w P e w') : RetSl w P e w' := by
  obtain ⟨v, l, rfl, hown, hP, hB⟩ := h
  rcases hown.2 with ⟨rfl, hn⟩ | ⟨g, cap, cur, rfl, _⟩
  · have : l = [] := List.eq_nil_of_length_eq_zero hn
    subst this
    exact ⟨none, 0, [], rfl, Reads.none_, hP, hB⟩
  · exact ⟨some ⟨g, 0, none⟩, cap, l, rfl, Reads.of_own hown, hP, hB⟩
theorem Reads.up {w w' : World} {A : Option Addr} {n : Nat} {xs : List Value} (h : Reads w w.heap.size 1 A n xs) (hb : Below w.heap.size w w') : Reads w' w'.heap.size 1 A n xs := (h.below hb).more hb.size
def RetSlN (w : World) (P : List Nat → Prop) (e : Ending) (w' : World) : Prop :=
  ∃ A c l, e = .returned (.slice A l.length c) ∧ Reads w' w'.heap.size 1 A l.length (cells l) ∧ P l ∧ (∀ ad, A = some ad → w.heap.size ≤ ad.block) ∧ Below w.heap.size w w'
theorem sln_of {w : World} {P Q : List Nat → Prop} {e : Ending} {w' : World} (h : RetList w P e w') (hPQ : ∀ l, P l → Q l) : RetSlN w Q e w' := by
  obtain ⟨v, l, rfl, hown, hP, hB⟩ := h
  rcases hown.2 with ⟨rfl, hn⟩ | ⟨g, cap, cur, rfl, hg, _⟩
  · have : l = [] := List.eq_nil_of_length_eq_zero hn
    subst this
    exact ⟨none, 0, [], rfl, Reads.none_, hPQ _ hP, fun ad e => (by cases e), hB⟩
  · exact ⟨some ⟨g, 0, none⟩, cap, l, rfl, Reads.of_own hown, hPQ _ hP, fun ad e => (by cases e; exact hg), hB⟩
/-- Two structs of two cells, one behind the other, held over a call. -/
theorem keep4 {x y : World} {b : Nat} {v u v' u' : Value} (hb : Below x.heap.size x y)
    (h : x.cell? ⟨b, 0, none⟩ = some v ∧ x.cell? ⟨b, 1, none⟩ = some u ∧ x.cell? ⟨b + 1, 0, none⟩ = some v' ∧ x.cell? ⟨b + 1, 1, none⟩ = some u' ∧ b + 1 < x.heap.size) :
    y.cell? ⟨b, 0, none⟩ = some v ∧ y.cell? ⟨b, 1, none⟩ = some u ∧ y.cell? ⟨b + 1, 0, none⟩ = some v' ∧ y.cell? ⟨b + 1, 1, none⟩ = some u' ∧ b + 1 < y.heap.size :=
  ⟨(hb.cell (p := ⟨b, 0, none⟩) (by dsimp only; omega)).trans h.1, (hb.cell (p := ⟨b, 1, none⟩) (by dsimp only; omega)).trans h.2.1, (hb.cell (p := ⟨b + 1, 0, none⟩) h.2.2.2.2).trans h.2.2.1, (hb.cell (p := ⟨b + 1, 1, none⟩) h.2.2.2.2).trans h.2.2.2.1, Nat.lt_of_lt_of_le h.2.2.2.2 hb.size⟩
theorem retnum_up {w w1 w' : World} {z : Int} {e : Ending} (h : RetNum w1 z e w') (hB : Below w.heap.size w w1) : RetNum w z e w' := by
  obtain ⟨A, c, l, he, hr, hC, hn, ha, hb⟩ := h
  exact ⟨A, c, l, he, hr, hC, hn, fun ad e => Nat.le_trans hB.size (ha ad e), hB.trans (hb.mono hB.size)⟩
theorem reads_set {w : World} {B n : Nat} {A : Option Addr} {xs : List Value} (h : Reads w B 1 A n xs) {p : Addr} (hp : ∀ ad, A = some ad → p.block < ad.block) (u : Value) : Reads (w.setCell p u) B 1 A n xs :=
  ⟨h.1, fun hn => by
    obtain ⟨ad, e, hb, hc⟩ := h.2 hn
    refine ⟨ad, e, hb, fun j v hv => ?_⟩
    rw [World.cell?_setCell_other _ _ _ _ (fun q => ?_)]
    · exact hc j v hv
    · have h1 := hp ad e
      have h2 : p.block = (ad.add j).block := congrArg Addr.block q
      rw [block_of_add] at h2
      omega⟩
/-- A number handed back out of a variable of the call's own. -/
theorem end_num {w w1 : World} {A : Option Addr} {c R : Nat} {l : List Nat} {z : Int} (hr : Reads w1 w1.heap.size 1 A l.length (cells l)) (hC : L.Can l) (hz : L.nat l = z.natAbs) (hA : ∀ ad, A = some ad → R < ad.block)
    (hR : w.heap.size ≤ R) (hB : Below w.heap.size w w1) :
    RetNum w z (.returned (.agg #[.bool (decide (z < 0)), .slice A l.length c])) ((w1.setCell ⟨R, 0, none⟩ (.bool (decide (z < 0)))).setCell ⟨R, 1, none⟩ (.slice A l.length c)) :=
  ⟨A, c, l, rfl, by
    have := reads_set (reads_set hr (p := ⟨R, 0, none⟩) hA (.bool (decide (z < 0)))) (p := ⟨R, 1, none⟩) hA (.slice A l.length c)
    simpa [World.setCell] using this, hC, hz, fun ad e => Nat.le_trans hR (Nat.le_of_lt (hA ad e)), (hB.setCell hR _).setCell hR _⟩
theorem turn_any (m : Bool) (A : Option Addr) (c : Nat) (l : List Nat) (w : World) (h : Reads w w.heap.size 1 A l.length (cells l)) (hl : L.Bits l) (hn : l.length ≤ 950) :
    Calls Try.prog 41 #[.agg #[.bool m, .slice A l.length c]] w (RetNum w (-(M.sg m (L.nat l)))) := by
  have ez : -(M.sg m (L.nat l : Int)) = M.sg (!m) (L.nat l) := by cases m <;> simp [M.sg]
  have ht := trim_any (!m) A c l ((w.alloc (.cells #[.bool m, .slice A l.length c] 50)).alloc (.cells #[.bool false, .slice none 0 0] 50))
    (h.up (((Below.refl _ w).alloc (Nat.le_refl _) _).alloc (by simp) _)) hl hn
  rw [ez]
  clear ez
  generalize M.sg (!m) (L.nat l : Int) = z at *
  go_enter Try.func41, Try.ntmps41
  go_wp2_with fail
  refine ht.mono ?_
  rintro e w1 ⟨A', c', l', rfl, hr, hC, hz, hA, hb⟩
  have K : Below w.heap.size w w1 := (((Below.refl _ w).alloc (Nat.le_refl _) _).alloc (by simp) _).trans (hb.mono (by simp; omega))
  have E := Lib.hid (end_num (w := w) (R := w.heap.size + 1) (c := c') hr hC hz (fun ad e => by have := hA ad e; simp at this; omega) (by omega) K)
  obtain ⟨hc, hf⟩ := bcell hb
  have hs : w.heap.size + 1 < w1.heap.size := by have := hb.size; simp at this; omega
  clear hA hz hC hr
  go_wp2_with fail
  exact bodyPost_ret (v := .agg #[.bool (decide (z < 0)), .slice A' l'.length c']) (by simp [results, Try.results41, go_sem, hc]) rfl E.out
theorem keep4s {x : World} {b : Nat} {v u v' u' z : Value} {p : Addr} (hp : b + 1 < p.block)
    (h : x.cell? ⟨b, 0, none⟩ = some v ∧ x.cell? ⟨b, 1, none⟩ = some u ∧ x.cell? ⟨b + 1, 0, none⟩ = some v' ∧ x.cell? ⟨b + 1, 1, none⟩ = some u' ∧ b + 1 < x.heap.size) :
    (x.setCell p z).cell? ⟨b, 0, none⟩ = some v ∧ (x.setCell p z).cell? ⟨b, 1, none⟩ = some u ∧ (x.setCell p z).cell? ⟨b + 1, 0, none⟩ = some v' ∧ (x.setCell p z).cell? ⟨b + 1, 1, none⟩ = some u' ∧ b + 1 < (x.setCell p z).heap.size := by
  have n : ∀ k i, k ≤ b + 1 → p ≠ ⟨k, i, none⟩ := fun k i hk e => by have : p.block = k := congrArg Addr.block e; omega
  exact ⟨(World.cell?_setCell_other _ _ _ _ (n _ _ (by omega))).trans h.1, (World.cell?_setCell_other _ _ _ _ (n _ _ (by omega))).trans h.2.1, (World.cell?_setCell_other _ _ _ _ (n _ _ (by omega))).trans h.2.2.1, (World.cell?_setCell_other _ _ _ _ (n _ _ (by omega))).trans h.2.2.2.1, by have := h.2.2.2.2; simp [World.setCell]; omega⟩
theorem three_new (w : World) (a b c d x y : Value) : (((w.alloc (.cells #[a, b] 50)).alloc (.cells #[c, d] 50)).alloc (.cells #[x, y] 50)).cell? ⟨w.heap.size + 1 + 1, 0, none⟩ = some x ∧ (((w.alloc (.cells #[a, b] 50)).alloc (.cells #[c, d] 50)).alloc (.cells #[x, y] 50)).cell? ⟨w.heap.size + 1 + 1, 1, none⟩ = some y := by
  have h0 := World.cell?_alloc_new ((w.alloc (.cells #[a, b] 50)).alloc (.cells #[c, d] 50)) #[x, y] 50 0
  have h1 := World.cell?_alloc_new ((w.alloc (.cells #[a, b] 50)).alloc (.cells #[c, d] 50)) #[x, y] 50 1
  rw [World.size_alloc, World.size_alloc] at h0 h1
  exact ⟨h0, h1⟩
theorem three_frozen (w : World) (a b c d x y : Value) (i : Nat) : (((w.alloc (.cells #[a, b] 50)).alloc (.cells #[c, d] 50)).alloc (.cells #[x, y] 50)).frozen? ⟨w.heap.size + 1 + 1, i, none⟩ = false := by
  have h0 := World.frozen?_alloc_new ((w.alloc (.cells #[a, b] 50)).alloc (.cells #[c, d] 50)) #[x, y] 50 i
  rw [World.size_alloc, World.size_alloc] at h0
  exact h0
/-- The case of one sign. -/
theorem sum_same (am bm : Bool) (A B : Option Addr) (c d : Nat) (a b : List Nat) (w : World) (z : Int) (hm : (am == bm) = true)
    (cM : Calls Try.prog 42 #[.slice A a.length c, .slice B b.length d] (World.drew (((w.alloc (.cells #[.bool am, .slice A a.length c] 50)).alloc (.cells #[.bool bm, .slice B b.length d] 50)).alloc (.cells #[.bool false, .slice none 0 0] 50))) (RetSlN (World.drew (((w.alloc (.cells #[.bool am, .slice A a.length c] 50)).alloc (.cells #[.bool bm, .slice B b.length d] 50)).alloc (.cells #[.bool false, .slice none 0 0] 50))) fun l => L.Bits l ∧ l.length ≤ 950 ∧ M.sg am (L.nat l) = z)) :
    Calls Try.prog 28 #[.agg #[.bool am, .slice A a.length c], .agg #[.bool bm, .slice B b.length d]] w (RetNum w z) := by
    have trimC : ∀ (A' : Option Addr) (c' : Nat) (l' : List Nat) (w3 : World), Reads w3 w3.heap.size 1 A' l'.length (cells l') → (L.Bits l' ∧ l'.length ≤ 950 ∧ M.sg am (L.nat l') = z) → Calls Try.prog 36 #[.agg #[.bool am, .slice A' l'.length c']] w3 (RetNum w3 z) := by
      intro A' c' l' w3 hr hP
      have := trim_any am A' c' l' w3 hr hP.1 hP.2.1
      rwa [hP.2.2] at this
    go_enter Try.func28, Try.ntmps28
    go_wp2_with fail
    go_region_held3 (fun w' => w'.cell? ⟨w.heap.size, 0, none⟩ = some (.bool am) ∧ w'.cell? ⟨w.heap.size, 1, none⟩ = some (.slice A a.length c) ∧ w'.cell? ⟨w.heap.size + 1, 0, none⟩ = some (.bool bm) ∧ w'.cell? ⟨w.heap.size + 1, 1, none⟩ = some (.slice B b.length d) ∧ w.heap.size + 1 < w'.heap.size)
      (first | exact keep4 hbB (by assumption) | exact keep4s (by (dsimp only; omega)) (keep4s (by (dsimp only; omega)) (by assumption)) | exact keep4 hbA (by assumption) | go_keep)
      ((first | (go_at_call 42; refine cM.mono ?_; rintro e w3 ⟨A', c', l', rfl, hr, hP, hA, hbA⟩; have zA : w.heap.size + 2 < w3.heap.size := (by (have := hbA.size; (try simp at this); omega)); obtain ⟨hcA, hfA⟩ := bcell hbA) | (go_at_call 36; refine (trimC A' c' l' w3 hr hP).mono ?_; rintro e w4 ⟨A2, c2, l2, rfl, hr2, hC2, hz2, hA2, hbB⟩; have zB : w.heap.size + 2 < w4.heap.size := (by (have := hbB.size; (try simp at this); omega)); obtain ⟨hcB, hfB⟩ := bcell hbB)))
    all_goals go_wp2_with fail
    have K1 := (((((Below.refl _ w).alloc (Nat.le_refl _) _).alloc (by simp) _).alloc (by simp; omega) _).drew).trans (hbA.mono (by simp; omega))
    have K2 := K1.trans (hbB.mono K1.size)
    have E := Lib.hid (end_num (w := w) (R := w.heap.size + 2) (c := c2) hr2 hC2 hz2 (fun ad e => by have := hA2 ad e; omega) (by omega) K2)
    have n0 := three_new w (.bool am) (.slice A a.length c) (.bool bm) (.slice B b.length d) (.bool false) (.slice none 0 0)
    have rc0 : w4.cell? ⟨w.heap.size + 1 + 1, 0, none⟩ = some (.bool false) := (hcB (w.heap.size + 1 + 1) 0 (by omega)).trans ((hcA (w.heap.size + 1 + 1) 0 (by simp)).trans n0.1)
    have rc1 : w4.cell? ⟨w.heap.size + 1 + 1, 1, none⟩ = some (.slice none 0 0) := (hcB (w.heap.size + 1 + 1) 1 (by omega)).trans ((hcA (w.heap.size + 1 + 1) 1 (by simp)).trans n0.2)
    exact bodyPost_ret (v := .agg #[.bool (decide (z < 0)), .slice A2 l2.length c2]) (by simp [results, Try.results28, go_sem, rc0, rc1]) rfl E.out
/-- Above first: sum_ge. -/
theorem sum_ge (am bm : Bool) (A B : Option Addr) (c d : Nat) (a b : List Nat) (w : World) (z g : Int) (hm : (am == bm) = false) (hg : 0 ≤ g)
    (cO : Calls Try.prog 40 #[.slice A a.length c, .slice B b.length d] (((w.alloc (.cells #[.bool am, .slice A a.length c] 50)).alloc (.cells #[.bool bm, .slice B b.length d] 50)).alloc (.cells #[.bool false, .slice none 0 0] 50)) fun e w' => e = .returned (.int .i64 g) ∧ Below ((((w.alloc (.cells #[.bool am, .slice A a.length c] 50)).alloc (.cells #[.bool bm, .slice B b.length d] 50)).alloc (.cells #[.bool false, .slice none 0 0] 50))).heap.size (((w.alloc (.cells #[.bool am, .slice A a.length c] 50)).alloc (.cells #[.bool bm, .slice B b.length d] 50)).alloc (.cells #[.bool false, .slice none 0 0] 50)) w')
    (cM : ∀ w2, Below ((((w.alloc (.cells #[.bool am, .slice A a.length c] 50)).alloc (.cells #[.bool bm, .slice B b.length d] 50)).alloc (.cells #[.bool false, .slice none 0 0] 50))).heap.size (((w.alloc (.cells #[.bool am, .slice A a.length c] 50)).alloc (.cells #[.bool bm, .slice B b.length d] 50)).alloc (.cells #[.bool false, .slice none 0 0] 50)) w2 → Calls Try.prog 37 #[.slice A a.length c, .slice B b.length d] w2.drew (RetSlN w2.drew fun l => L.Bits l ∧ l.length ≤ 950 ∧ M.sg am (L.nat l) = z)) :
    Calls Try.prog 28 #[.agg #[.bool am, .slice A a.length c], .agg #[.bool bm, .slice B b.length d]] w (RetNum w z) := by
  have trimC : ∀ (A' : Option Addr) (c' : Nat) (l' : List Nat) (w3 : World), Reads w3 w3.heap.size 1 A' l'.length (cells l') → (L.Bits l' ∧ l'.length ≤ 950 ∧ M.sg am (L.nat l') = z) → Calls Try.prog 36 #[.agg #[.bool am, .slice A' l'.length c']] w3 (RetNum w3 z) := by
    intro A' c' l' w3 hr hP
    have := trim_any am A' c' l' w3 hr hP.1 hP.2.1
    rwa [hP.2.2] at this
  have n0 := three_new w (.bool am) (.slice A a.length c) (.bool bm) (.slice B b.length d) (.bool false) (.slice none 0 0)
  have n1 := three_cells w (.bool am) (.slice A a.length c) (.bool bm) (.slice B b.length d) (.cells #[.bool false, .slice none 0 0] 50) _ rfl
  have K0 : Below w.heap.size w (((w.alloc (.cells #[.bool am, .slice A a.length c] 50)).alloc (.cells #[.bool bm, .slice B b.length d] 50)).alloc (.cells #[.bool false, .slice none 0 0] 50)) := ((((Below.refl _ w).alloc (Nat.le_refl _) _).alloc (by simp) _).alloc (by simp; omega) _)
  have N0 := Lib.hid n0
  have N1 := Lib.hid n1
  clear n0 n1
  go_enter Try.func28, Try.ntmps28
  go_wp2_with fail
  refine cO.mono ?_
  rintro e w2 ⟨rfl, hbO⟩
  have cM2 := cM w2 hbO
  have hs2 : w.heap.size + 1 + 1 < w2.heap.size := by have := hbO.size; simp at this; omega
  have H2 := keep4 hbO ⟨N1.out.1, N1.out.2.1, N1.out.2.2.1, N1.out.2.2.2.1, by simp⟩
  have m0 := (hbO.cell (p := ⟨w.heap.size + 1 + 1, 0, none⟩) (by simp)).trans N0.out.1
  have m1 := (hbO.cell (p := ⟨w.heap.size + 1 + 1, 1, none⟩) (by simp)).trans N0.out.2
  obtain ⟨hcO, hfO⟩ := bcell hbO
  have p0 : w2.frozen? ⟨w.heap.size + 1 + 1, 0, none⟩ = false := (hfO (w.heap.size + 1 + 1) 0 (by simp)).trans (three_frozen w _ _ _ _ _ _ 0)
  have p1 : w2.frozen? ⟨w.heap.size + 1 + 1, 1, none⟩ = false := (hfO (w.heap.size + 1 + 1) 1 (by simp)).trans (three_frozen w _ _ _ _ _ _ 1)
  have K2' := K0.trans (hbO.mono K0.size)
  clear cM cO hcO hfO
  have HH := H2
  obtain ⟨x1, x2, x3, x4, x5⟩ := H2
  go_wp2_with fail
  clear x1 x2 x3 x4 x5
  go_region_held3 (fun w' => w'.cell? ⟨w.heap.size, 0, none⟩ = some (.bool am) ∧ w'.cell? ⟨w.heap.size, 1, none⟩ = some (.slice A a.length c) ∧ w'.cell? ⟨w.heap.size + 1, 0, none⟩ = some (.bool bm) ∧ w'.cell? ⟨w.heap.size + 1, 1, none⟩ = some (.slice B b.length d) ∧ w.heap.size + 1 < w'.heap.size)
    (first | exact keep4 hbB (by assumption) | exact keep4s (by (dsimp only; omega)) (keep4s (by (dsimp only; omega)) (by assumption)) | exact keep4 hbA (by assumption) | exact HH | go_keep)
    ((first | (go_at_call 37; refine cM2.mono ?_; rintro e w3 ⟨A', c', l', rfl, hr, hP, hA, hbA⟩; have zA : w.heap.size + 1 + 1 < w3.heap.size := (by (have := hbA.size; (try simp at this); omega)); obtain ⟨hcA, hfA⟩ := bcell hbA) | (go_at_call 36; refine (trimC A' c' l' w3 hr hP).mono ?_; rintro e w4 ⟨A2, c2, l2, rfl, hr2, hC2, hz2, hA2, hbB⟩; have zB : w.heap.size + 1 + 1 < w4.heap.size := (by (have := hbB.size; (try simp at this); omega)); obtain ⟨hcB, hfB⟩ := bcell hbB; have rc0 : w4.cell? ⟨w.heap.size + 1 + 1, 0, none⟩ = some (.bool false) := (hcB (w.heap.size + 1 + 1) 0 zA).trans ((hcA (w.heap.size + 1 + 1) 0 hs2).trans m0); have rc1 : w4.cell? ⟨w.heap.size + 1 + 1, 1, none⟩ = some (.slice none 0 0) := (hcB (w.heap.size + 1 + 1) 1 zA).trans ((hcA (w.heap.size + 1 + 1) 1 hs2).trans m1); have rf0 : w4.frozen? ⟨w.heap.size + 1 + 1, 0, none⟩ = false := (hfB (w.heap.size + 1 + 1) 0 zA).trans ((hfA (w.heap.size + 1 + 1) 0 hs2).trans p0); have rf1 : w4.frozen? ⟨w.heap.size + 1 + 1, 1, none⟩ = false := (hfB (w.heap.size + 1 + 1) 1 zA).trans ((hfA (w.heap.size + 1 + 1) 1 hs2).trans p1); clear hcA hfA hcB hfB)))
  all_goals go_wp2_with fail
  have K1 := (K2'.drew).trans (hbA.mono (by simp; omega))
  have K2 := K1.trans (hbB.mono K1.size)
  have E := Lib.hid (end_num (w := w) (R := w.heap.size + 2) (c := c2) hr2 hC2 hz2 (fun ad e => by have := hA2 ad e; omega) (by omega) K2)
  exact bodyPost_ret (v := .agg #[.bool (decide (z < 0)), .slice A2 l2.length c2]) (by simp [results, Try.results28, go_sem, rc0, rc1]) rfl E.out
/-- Above first: sum_lt. -/
theorem sum_lt (am bm : Bool) (A B : Option Addr) (c d : Nat) (a b : List Nat) (w : World) (z g : Int) (hm : (am == bm) = false) (hg : g < 0)
    (cO : Calls Try.prog 40 #[.slice A a.length c, .slice B b.length d] (((w.alloc (.cells #[.bool am, .slice A a.length c] 50)).alloc (.cells #[.bool bm, .slice B b.length d] 50)).alloc (.cells #[.bool false, .slice none 0 0] 50)) fun e w' => e = .returned (.int .i64 g) ∧ Below ((((w.alloc (.cells #[.bool am, .slice A a.length c] 50)).alloc (.cells #[.bool bm, .slice B b.length d] 50)).alloc (.cells #[.bool false, .slice none 0 0] 50))).heap.size (((w.alloc (.cells #[.bool am, .slice A a.length c] 50)).alloc (.cells #[.bool bm, .slice B b.length d] 50)).alloc (.cells #[.bool false, .slice none 0 0] 50)) w')
    (cM : ∀ w2, Below ((((w.alloc (.cells #[.bool am, .slice A a.length c] 50)).alloc (.cells #[.bool bm, .slice B b.length d] 50)).alloc (.cells #[.bool false, .slice none 0 0] 50))).heap.size (((w.alloc (.cells #[.bool am, .slice A a.length c] 50)).alloc (.cells #[.bool bm, .slice B b.length d] 50)).alloc (.cells #[.bool false, .slice none 0 0] 50)) w2 → Calls Try.prog 37 #[.slice B b.length d, .slice A a.length c] w2.drew (RetSlN w2.drew fun l => L.Bits l ∧ l.length ≤ 950 ∧ M.sg bm (L.nat l) = z)) :
    Calls Try.prog 28 #[.agg #[.bool am, .slice A a.length c], .agg #[.bool bm, .slice B b.length d]] w (RetNum w z) := by
  have trimC : ∀ (A' : Option Addr) (c' : Nat) (l' : List Nat) (w3 : World), Reads w3 w3.heap.size 1 A' l'.length (cells l') → (L.Bits l' ∧ l'.length ≤ 950 ∧ M.sg bm (L.nat l') = z) → Calls Try.prog 36 #[.agg #[.bool bm, .slice A' l'.length c']] w3 (RetNum w3 z) := by
    intro A' c' l' w3 hr hP
    have := trim_any bm A' c' l' w3 hr hP.1 hP.2.1
    rwa [hP.2.2] at this
  have n0 := three_new w (.bool am) (.slice A a.length c) (.bool bm) (.slice B b.length d) (.bool false) (.slice none 0 0)
  have n1 := three_cells w (.bool am) (.slice A a.length c) (.bool bm) (.slice B b.length d) (.cells #[.bool false, .slice none 0 0] 50) _ rfl
  have K0 : Below w.heap.size w (((w.alloc (.cells #[.bool am, .slice A a.length c] 50)).alloc (.cells #[.bool bm, .slice B b.length d] 50)).alloc (.cells #[.bool false, .slice none 0 0] 50)) := ((((Below.refl _ w).alloc (Nat.le_refl _) _).alloc (by simp) _).alloc (by simp; omega) _)
  have N0 := Lib.hid n0
  have N1 := Lib.hid n1
  clear n0 n1
  go_enter Try.func28, Try.ntmps28
  go_wp2_with fail
  refine cO.mono ?_
  rintro e w2 ⟨rfl, hbO⟩
  have cM2 := cM w2 hbO
  have hs2 : w.heap.size + 1 + 1 < w2.heap.size := by have := hbO.size; simp at this; omega
  have H2 := keep4 hbO ⟨N1.out.1, N1.out.2.1, N1.out.2.2.1, N1.out.2.2.2.1, by simp⟩
  have m0 := (hbO.cell (p := ⟨w.heap.size + 1 + 1, 0, none⟩) (by simp)).trans N0.out.1
  have m1 := (hbO.cell (p := ⟨w.heap.size + 1 + 1, 1, none⟩) (by simp)).trans N0.out.2
  obtain ⟨hcO, hfO⟩ := bcell hbO
  have p0 : w2.frozen? ⟨w.heap.size + 1 + 1, 0, none⟩ = false := (hfO (w.heap.size + 1 + 1) 0 (by simp)).trans (three_frozen w _ _ _ _ _ _ 0)
  have p1 : w2.frozen? ⟨w.heap.size + 1 + 1, 1, none⟩ = false := (hfO (w.heap.size + 1 + 1) 1 (by simp)).trans (three_frozen w _ _ _ _ _ _ 1)
  have K2' := K0.trans (hbO.mono K0.size)
  clear cM cO hcO hfO
  have HH := H2
  obtain ⟨x1, x2, x3, x4, x5⟩ := H2
  go_wp2_with fail
  clear x1 x2 x3 x4 x5
  go_region_held3 (fun w' => w'.cell? ⟨w.heap.size, 0, none⟩ = some (.bool am) ∧ w'.cell? ⟨w.heap.size, 1, none⟩ = some (.slice A a.length c) ∧ w'.cell? ⟨w.heap.size + 1, 0, none⟩ = some (.bool bm) ∧ w'.cell? ⟨w.heap.size + 1, 1, none⟩ = some (.slice B b.length d) ∧ w.heap.size + 1 < w'.heap.size)
    (first | exact keep4 hbB (by assumption) | exact keep4s (by (dsimp only; omega)) (keep4s (by (dsimp only; omega)) (by assumption)) | exact keep4 hbA (by assumption) | exact HH | go_keep)
    ((first | (go_at_call 37; refine cM2.mono ?_; rintro e w3 ⟨A', c', l', rfl, hr, hP, hA, hbA⟩; have zA : w.heap.size + 1 + 1 < w3.heap.size := (by (have := hbA.size; (try simp at this); omega)); obtain ⟨hcA, hfA⟩ := bcell hbA) | (go_at_call 36; refine (trimC A' c' l' w3 hr hP).mono ?_; rintro e w4 ⟨A2, c2, l2, rfl, hr2, hC2, hz2, hA2, hbB⟩; have zB : w.heap.size + 1 + 1 < w4.heap.size := (by (have := hbB.size; (try simp at this); omega)); obtain ⟨hcB, hfB⟩ := bcell hbB; have rc0 : w4.cell? ⟨w.heap.size + 1 + 1, 0, none⟩ = some (.bool false) := (hcB (w.heap.size + 1 + 1) 0 zA).trans ((hcA (w.heap.size + 1 + 1) 0 hs2).trans m0); have rc1 : w4.cell? ⟨w.heap.size + 1 + 1, 1, none⟩ = some (.slice none 0 0) := (hcB (w.heap.size + 1 + 1) 1 zA).trans ((hcA (w.heap.size + 1 + 1) 1 hs2).trans m1); have rf0 : w4.frozen? ⟨w.heap.size + 1 + 1, 0, none⟩ = false := (hfB (w.heap.size + 1 + 1) 0 zA).trans ((hfA (w.heap.size + 1 + 1) 0 hs2).trans p0); have rf1 : w4.frozen? ⟨w.heap.size + 1 + 1, 1, none⟩ = false := (hfB (w.heap.size + 1 + 1) 1 zA).trans ((hfA (w.heap.size + 1 + 1) 1 hs2).trans p1); clear hcA hfA hcB hfB)))
  all_goals go_wp2_with fail
  have K1 := (K2'.drew).trans (hbA.mono (by simp; omega))
  have K2 := K1.trans (hbB.mono K1.size)
  have E := Lib.hid (end_num (w := w) (R := w.heap.size + 2) (c := c2) hr2 hC2 hz2 (fun ad e => by have := hA2 ad e; omega) (by omega) K2)
  exact bodyPost_ret (v := .agg #[.bool (decide (z < 0)), .slice A2 l2.length c2]) (by simp [results, Try.results28, go_sem, rc0, rc1]) rfl E.out
end Go.Proofs.Ytbjbafhlmcnceaa
