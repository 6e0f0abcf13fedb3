/- The document's Floor: its two variables, in memory. -/
import Derived.Test.YtbjbafhlmcnceaaThinB
import Derived.Test.YtbjbafhlmcnceaaFloorM
import Derived.Test.YtbjbafhlmcnceaaLast
namespace Go.Proofs.Ytbjbafhlmcnceaa
open Go.ChangeShapes Go.WideShapes Go.ChangeAt Go.RowKit
set_option linter.unusedVariables false
set_option linter.unusedSimpArgs false

theorem own_one (x : World) {base : Nat} {v : Value} (h : base ≤ x.heap.size) : (x.alloc (.cells #[v] 5)).ownsRow base 5 1 (.slice (some ⟨x.heap.size, 0, none⟩) 1 1) 1 [v] :=
  ⟨by simp, .inr ⟨x.heap.size, 1, #[v], rfl, h, heap_alloc_new x _, by omega, by simp [maxLen], rfl, rfl⟩⟩
def RetNat (w : World) (x : Nat) (e : Ending) (w' : World) : Prop :=
  ∃ A c l, e = .returned (.agg #[.bool false, .slice A l.length c]) ∧ Reads w' w'.heap.size 1 A l.length (cells l) ∧ L.Can l ∧ L.nat l = x ∧ (∀ ad, A = some ad → w.heap.size ≤ ad.block) ∧ Below w.heap.size w w'
theorem trimN (A : Option Addr) (c : Nat) (l : List Nat) (x : Nat) (w : World) (h : Reads w w.heap.size 1 A l.length (cells l)) (hl : L.Bits l) (hn : l.length ≤ 950) (hx : L.nat l = x) : Calls Try.prog 36 #[.agg #[.bool false, .slice A l.length c]] w (RetNat w x) := by
  subst hx
  refine (trim_any false A c l w h hl hn).mono ?_
  rintro e w' ⟨A', c', l', he, h1, h2, h3, h4, h5⟩
  have e1 : M.sg false (L.nat l : Int) = (L.nat l : Int) := rfl
  rw [e1] at he h3
  exact ⟨A', c', l', by rw [he, decide_eq_false (by omega)], h1, h2, by rw [h3]; simp, h4, h5⟩
/-- A number without a sign in a variable of the call's own. -/
structure NumV (w : World) (g B : Nat) (A : Option Addr) (c : Nat) (l : List Nat) : Prop where
  c0 : w.cell? ⟨g, 0, none⟩ = some (.bool false)
  c1 : w.cell? ⟨g, 1, none⟩ = some (.slice A l.length c)
  f0 : w.frozen? ⟨g, 0, none⟩ = false
  f1 : w.frozen? ⟨g, 1, none⟩ = false
  rd : Reads w w.heap.size 1 A l.length (cells l)
  far : ∀ ad, A = some ad → B < ad.block
section
variable {w w' : World} {g B : Nat} {A : Option Addr} {c : Nat} {l : List Nat}
theorem NumV.below (h : NumV w g B A c l) (hg : g < w.heap.size) (hb : Below w.heap.size w w') : NumV w' g B A c l :=
  ⟨(hb.cell (p := ⟨g, 0, none⟩) hg).trans h.c0, (hb.cell (p := ⟨g, 1, none⟩) hg).trans h.c1, (hb.frozen (p := ⟨g, 0, none⟩) hg).trans h.f0, (hb.frozen (p := ⟨g, 1, none⟩) hg).trans h.f1, h.rd.up hb, h.far⟩
theorem NumV.drew (h : NumV w g B A c l) : NumV w.drew g B A c l := ⟨h.c0, h.c1, h.f0, h.f1, h.rd.drew, h.far⟩
/-- A store elsewhere. -/
theorem NumV.other (h : NumV w g B A c l) {p : Addr} (hp : p.block ≠ g) (hB : p.block ≤ B) (u : Value) : NumV (w.setCell p u) g B A c l :=
  ⟨(World.cell?_setCell_other w p _ u (fun e => hp (by rw [e]))).trans h.c0, (World.cell?_setCell_other w p _ u (fun e => hp (by rw [e]))).trans h.c1, (World.frozen?_setCell _ _ _ _).trans h.f0, (World.frozen?_setCell _ _ _ _).trans h.f1, by
    have := reads_set h.rd (p := p) (fun ad e => Nat.lt_of_le_of_lt hB (h.far ad e)) u
    simpa [World.setCell] using this, h.far⟩
/-- A store of the list. -/
theorem NumV.put (h : NumV w g B A c l) (hB : g ≤ B) {A' : Option Addr} {c' : Nat} {l' : List Nat} (rd : Reads w w.heap.size 1 A' l'.length (cells l')) (far : ∀ ad, A' = some ad → B < ad.block) : NumV (w.setCell ⟨g, 1, none⟩ (.slice A' l'.length c')) g B A' c' l' :=
  ⟨(World.cell?_setCell_other w _ _ _ (by simp)).trans h.c0, World.cell?_setCell_same w _ _ h.c1, (World.frozen?_setCell _ _ _ _).trans h.f0, (World.frozen?_setCell _ _ _ _).trans h.f1, by
    have := reads_set rd (p := ⟨g, 1, none⟩) (fun ad e => Nat.lt_of_le_of_lt hB (far ad e)) (.slice A' l'.length c')
    simpa [World.setCell] using this, far⟩
/-- A store of the whole number. -/
theorem NumV.put2 (h : NumV w g B A c l) (hB : g ≤ B) {A' : Option Addr} {c' : Nat} {l' : List Nat} (rd : Reads w w.heap.size 1 A' l'.length (cells l')) (far : ∀ ad, A' = some ad → B < ad.block) : NumV ((w.setCell ⟨g, 0, none⟩ (.bool false)).setCell ⟨g, 1, none⟩ (.slice A' l'.length c')) g B A' c' l' := by
  have h1 : NumV (w.setCell ⟨g, 0, none⟩ (.bool false)) g B A c l :=
    ⟨World.cell?_setCell_same w _ _ h.c0, (World.cell?_setCell_other w _ _ _ (by simp)).trans h.c1, (World.frozen?_setCell _ _ _ _).trans h.f0, (World.frozen?_setCell _ _ _ _).trans h.f1, by
      have := reads_set h.rd (p := ⟨g, 0, none⟩) (fun ad e => Nat.lt_of_le_of_lt hB (h.far ad e)) (.bool false)
      simpa [World.setCell] using this, h.far⟩
  refine h1.put hB ?_ far
  have := reads_set rd (p := ⟨g, 0, none⟩) (fun ad e => Nat.lt_of_le_of_lt hB (far ad e)) (.bool false)
  simpa [World.setCell] using this
end
/-- Both variables, and the rest as it was. -/
structure St (W1 w : World) (gq gr : Nat) (Ar : Option Addr) (cr : Nat) (lr : List Nat) (Aq : Option Addr) (cq : Nat) (lq : List Nat) : Prop where
  r : NumV w gr gr Ar cr lr
  q : NumV w gq gr Aq cq lq
  b : Below gq W1 w
  s : gr < w.heap.size
  lt : gq < gr
section
variable {W1 w w' : World} {gq gr : Nat} {Ar : Option Addr} {cr : Nat} {lr : List Nat} {Aq : Option Addr} {cq : Nat} {lq : List Nat}
theorem St.below (h : St W1 w gq gr Ar cr lr Aq cq lq) (hb : Below w.heap.size w w') : St W1 w' gq gr Ar cr lr Aq cq lq :=
  ⟨h.r.below h.s hb, h.q.below (Nat.lt_trans h.lt h.s) hb, h.b.trans (hb.mono (Nat.le_of_lt (Nat.lt_trans h.lt h.s))), Nat.lt_of_lt_of_le h.s hb.size, h.lt⟩
theorem St.drew (h : St W1 w gq gr Ar cr lr Aq cq lq) : St W1 w.drew gq gr Ar cr lr Aq cq lq := ⟨h.r.drew, h.q.drew, h.b.drew, h.s, h.lt⟩
theorem St.new (h : St W1 w gq gr Ar cr lr Aq cq lq) (o : Obj) : St W1 (w.alloc o) gq gr Ar cr lr Aq cq lq := h.below ((Below.refl _ w).alloc (Nat.le_refl _) o)
theorem St.setR (h : St W1 w gq gr Ar cr lr Aq cq lq) {A' : Option Addr} {c' : Nat} {l' : List Nat} (rd : Reads w w.heap.size 1 A' l'.length (cells l')) (far : ∀ ad, A' = some ad → gr < ad.block) :
    St W1 ((w.setCell ⟨gr, 0, none⟩ (.bool false)).setCell ⟨gr, 1, none⟩ (.slice A' l'.length c')) gq gr A' c' l' Aq cq lq :=
  have lt := h.lt
  ⟨h.r.put2 (Nat.le_refl _) rd far, (h.q.other (p := ⟨gr, 0, none⟩) (by dsimp only; omega) (Nat.le_refl _) _).other (p := ⟨gr, 1, none⟩) (by dsimp only; omega) (Nat.le_refl _) _, (h.b.setCell (by dsimp only; omega) _).setCell (by dsimp only; omega) _, by simpa [World.setCell] using h.s, lt⟩
theorem St.setQ (h : St W1 w gq gr Ar cr lr Aq cq lq) {A' : Option Addr} {c' : Nat} {l' : List Nat} (rd : Reads w w.heap.size 1 A' l'.length (cells l')) (far : ∀ ad, A' = some ad → gr < ad.block) :
    St W1 (w.setCell ⟨gq, 1, none⟩ (.slice A' l'.length c')) gq gr Ar cr lr A' c' l' :=
  have lt := h.lt
  ⟨h.r.other (p := ⟨gq, 1, none⟩) (by dsimp only; omega) (by dsimp only; omega) _, h.q.put (by omega) rd far, h.b.setCell (Nat.le_refl _) _, by simpa [World.setCell] using h.s, lt⟩
theorem St.setQ2 (h : St W1 w gq gr Ar cr lr Aq cq lq) {A' : Option Addr} {c' : Nat} {l' : List Nat} (rd : Reads w w.heap.size 1 A' l'.length (cells l')) (far : ∀ ad, A' = some ad → gr < ad.block) :
    St W1 ((w.setCell ⟨gq, 0, none⟩ (.bool false)).setCell ⟨gq, 1, none⟩ (.slice A' l'.length c')) gq gr Ar cr lr A' c' l' :=
  have lt := h.lt
  ⟨(h.r.other (p := ⟨gq, 0, none⟩) (by dsimp only; omega) (by dsimp only; omega) _).other (p := ⟨gq, 1, none⟩) (by dsimp only; omega) (by dsimp only; omega) _, h.q.put2 (by omega) rd far, (h.b.setCell (Nat.le_refl _) _).setCell (Nat.le_refl _) _, by simpa [World.setCell] using h.s, lt⟩
end
/-- The world once all variables are made. -/
def W6 (w : World) (x y : Value) (x' y' : Value) : World := (((((w.alloc (.cells #[x, y] 50)).alloc (.cells #[x', y'] 50)).alloc (.cells #[.bool false, .slice none 0 0] 50)).alloc (.cells #[.bool false, .slice none 0 0] 50)).alloc (.cells #[.bool false, .slice none 0 0] 50)).alloc (.cells #[.bool false, .slice none 0 0] 50)
/-- A block that was laid as the k-th. -/
theorem laid_at (w : World) (x y : Value) (t : TypeId) (rest : List Obj) : ((rest.foldl (fun v o => v.alloc o) (w.alloc (.cells #[x, y] t)))).cell? ⟨w.heap.size, 0, none⟩ = some x ∧ (rest.foldl (fun v o => v.alloc o) (w.alloc (.cells #[x, y] t))).cell? ⟨w.heap.size, 1, none⟩ = some y ∧
    (rest.foldl (fun v o => v.alloc o) (w.alloc (.cells #[x, y] t))).frozen? ⟨w.heap.size, 0, none⟩ = false ∧ (rest.foldl (fun v o => v.alloc o) (w.alloc (.cells #[x, y] t))).frozen? ⟨w.heap.size, 1, none⟩ = false ∧
    Below (w.alloc (.cells #[x, y] t)).heap.size (w.alloc (.cells #[x, y] t)) (rest.foldl (fun v o => v.alloc o) (w.alloc (.cells #[x, y] t))) := by
  have K : ∀ (rest : List Obj) (u : World), Below u.heap.size u (rest.foldl (fun v o => v.alloc o) u) := by
    intro rest
    induction rest with
    | nil => intro u; exact Below.refl _ _
    | cons o rest ih => intro u; exact ((Below.refl _ u).alloc (Nat.le_refl _) o).trans ((ih (u.alloc o)).mono (by simp))
  have k := K rest (w.alloc (.cells #[x, y] t))
  refine ⟨(k.cell (p := ⟨w.heap.size, 0, none⟩) (by simp)).trans (by simp), (k.cell (p := ⟨w.heap.size, 1, none⟩) (by simp)).trans (by simp), (k.frozen (p := ⟨w.heap.size, 0, none⟩) (by simp)).trans (World.frozen?_alloc_new _ _ _ _), (k.frozen (p := ⟨w.heap.size, 1, none⟩) (by simp)).trans (World.frozen?_alloc_new _ _ _ _), k⟩
structure Laid (w W1 : World) (n1 n2 n3 gq gr : Nat) (x y x' y' : Value) : Prop where
  a0 : W1.cell? ⟨w.heap.size, 0, none⟩ = some x
  a1 : W1.cell? ⟨w.heap.size, 1, none⟩ = some y
  d0 : W1.cell? ⟨n1, 0, none⟩ = some x'
  d1 : W1.cell? ⟨n1, 1, none⟩ = some y'
  q0 : W1.cell? ⟨n2, 0, none⟩ = some (.bool false)
  q1 : W1.cell? ⟨n2, 1, none⟩ = some (.slice none 0 0)
  qf : W1.frozen? ⟨n2, 0, none⟩ = false ∧ W1.frozen? ⟨n2, 1, none⟩ = false
  r0 : W1.cell? ⟨n3, 0, none⟩ = some (.bool false)
  r1 : W1.cell? ⟨n3, 1, none⟩ = some (.slice none 0 0)
  rf : W1.frozen? ⟨n3, 0, none⟩ = false ∧ W1.frozen? ⟨n3, 1, none⟩ = false
  st : St W1 W1 gq gr none 0 [] none 0 []
  b : Below w.heap.size w W1
  ord : w.heap.size < n1 ∧ n1 < n2 ∧ n2 < n3 ∧ n3 < gq
theorem laid_6 (w : World) (x y x' y' : Value) : Laid w (W6 w x y x' y') (w.heap.size + 1) (w.heap.size + 1 + 1) (w.heap.size + 1 + 1 + 1) (w.heap.size + 1 + 1 + 1 + 1) (w.heap.size + 1 + 1 + 1 + 1 + 1) x y x' y' := by
  have z : Obj := .cells #[.bool false, .slice none 0 0] 50
  have l0 := laid_at w x y 50 [.cells #[x', y'] 50, .cells #[.bool false, .slice none 0 0] 50, .cells #[.bool false, .slice none 0 0] 50, .cells #[.bool false, .slice none 0 0] 50, .cells #[.bool false, .slice none 0 0] 50]
  have l1 := laid_at (w.alloc (.cells #[x, y] 50)) x' y' 50 [.cells #[.bool false, .slice none 0 0] 50, .cells #[.bool false, .slice none 0 0] 50, .cells #[.bool false, .slice none 0 0] 50, .cells #[.bool false, .slice none 0 0] 50]
  have l2 := laid_at ((w.alloc (.cells #[x, y] 50)).alloc (.cells #[x', y'] 50)) (.bool false) (.slice none 0 0) 50 [.cells #[.bool false, .slice none 0 0] 50, .cells #[.bool false, .slice none 0 0] 50, .cells #[.bool false, .slice none 0 0] 50]
  have l3 := laid_at (((w.alloc (.cells #[x, y] 50)).alloc (.cells #[x', y'] 50)).alloc (.cells #[.bool false, .slice none 0 0] 50)) (.bool false) (.slice none 0 0) 50 [.cells #[.bool false, .slice none 0 0] 50, .cells #[.bool false, .slice none 0 0] 50]
  have l4 := laid_at ((((w.alloc (.cells #[x, y] 50)).alloc (.cells #[x', y'] 50)).alloc (.cells #[.bool false, .slice none 0 0] 50)).alloc (.cells #[.bool false, .slice none 0 0] 50)) (.bool false) (.slice none 0 0) 50 [.cells #[.bool false, .slice none 0 0] 50]
  have l5 := laid_at (((((w.alloc (.cells #[x, y] 50)).alloc (.cells #[x', y'] 50)).alloc (.cells #[.bool false, .slice none 0 0] 50)).alloc (.cells #[.bool false, .slice none 0 0] 50)).alloc (.cells #[.bool false, .slice none 0 0] 50)) (.bool false) (.slice none 0 0) 50 []
  simp only [List.foldl, World.size_alloc] at l0 l1 l2 l3 l4 l5
  unfold W6
  exact ⟨l0.1, l0.2.1, l1.1, l1.2.1, l2.1, l2.2.1, l2.2.2.1 |> fun h => ⟨h, l2.2.2.2.1⟩, l3.1, l3.2.1, ⟨l3.2.2.1, l3.2.2.2.1⟩,
    ⟨⟨l5.1, l5.2.1, l5.2.2.1, l5.2.2.2.1, Reads.none_, fun ad e => by cases e⟩, ⟨l4.1, l4.2.1, l4.2.2.1, l4.2.2.2.1, Reads.none_, fun ad e => by cases e⟩, Below.refl _ _, by simp, by omega⟩,
    ((Below.refl _ w).alloc (Nat.le_refl _) _).trans (l0.2.2.2.2.mono (by omega)), by omega⟩
end Go.Proofs.Ytbjbafhlmcnceaa
