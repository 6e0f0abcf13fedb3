/- Contract of the document's Floor. -/
import Derived.Test.YtbjbafhlmcnceaaFloorW
namespace Go.Proofs.Ytbjbafhlmcnceaa
open Go.ChangeShapes Go.WideShapes Go.ChangeAt Go.RowKit
set_option linter.unusedVariables false
set_option linter.unusedSimpArgs false

/-- A call hands back two numbers. -/
def RetTwo (w : World) (zq zr : Int) (e : Ending) (w' : World) : Prop :=
  ∃ Aq cq lq Ar cr lr, e = .returned (.tuple #[.agg #[.bool (decide (zq < 0)), .slice Aq (List.length lq) cq], .agg #[.bool (decide (zr < 0)), .slice Ar (List.length lr) cr]]) ∧ NumR w' zq Aq lq ∧ NumR w' zr Ar lr ∧ Below w.heap.size w w'
/-- What the loads of a round read. -/
abbrev FloorS (w : World) (N gr k : Nat) (ad : Addr) (n c : Nat) (x : Int) (Ar : Option Addr) (m cr : Nat) : Prop :=
  w.cell? ⟨N, 1, none⟩ = some (.slice (some ad) n c) ∧ w.cell? (ad.add k) = some (.int .u8 x) ∧ w.cell? ⟨gr, 0, none⟩ = some (.bool false) ∧ w.cell? ⟨gr, 1, none⟩ = some (.slice Ar m cr) ∧ w.frozen? ⟨gr, 0, none⟩ = false ∧ w.frozen? ⟨gr, 1, none⟩ = false
theorem floorS_up {w w' : World} {N gr k n c m cr : Nat} {ad : Addr} {x : Int} {Ar : Option Addr} (h : FloorS w N gr k ad n c x Ar m cr) (hb : Below w.heap.size w w') (h1 : N < w.heap.size) (h2 : gr < w.heap.size) (h3 : ad.block < w.heap.size) : FloorS w' N gr k ad n c x Ar m cr :=
  ⟨(hb.cell (p := ⟨N, 1, none⟩) h1).trans h.1, (hb.cell (by rw [block_of_add]; exact h3)).trans h.2.1, (hb.cell (p := ⟨gr, 0, none⟩) h2).trans h.2.2.1, (hb.cell (p := ⟨gr, 1, none⟩) h2).trans h.2.2.2.1, (hb.frozen (p := ⟨gr, 0, none⟩) h2).trans h.2.2.2.2.1, (hb.frozen (p := ⟨gr, 1, none⟩) h2).trans h.2.2.2.2.2⟩
theorem far_own {A : Option Addr} {n c g h gr : Nat} (hat : (Value.slice A n c).ownBlock = (Value.slice (some ⟨g, 0, none⟩) 1 1).ownBlock ∨ (Value.slice A n c).ownBlock = some h) (h1 : gr < g) (h2 : gr < h) : ∀ ad, A = some ad → gr < ad.block := by
  intro ad e
  subst e
  rcases hat with e | e
  · have : ad.block = g := by simpa [Value.ownBlock] using e
    omega
  · have : ad.block = h := by simpa [Value.ownBlock] using e
    omega
theorem turnN {w : World} {z : Int} {A : Option Addr} {l : List Nat} (c : Nat) (h : NumR w z A l) (h0 : 0 ≤ z) (hl : l.length ≤ 402) : Calls Try.prog 41 #[.agg #[.bool false, .slice A l.length c]] w (RetNum w (-z)) := by
  have := turn_any false A c l w h.1 h.2.1.1 (by omega)
  have e : M.sg false (L.nat l : Int) = z := by have := h.2.2; show (L.nat l : Int) = z; omega
  rwa [e] at this
theorem sumN {w : World} {z y : Int} {A B : Option Addr} {l m : List Nat} (c d : Nat) (h : NumR w z A l) (g : NumR w y B m) (h0 : 0 ≤ z) (hl : l.length ≤ 402) (hm : m.length ≤ 402) :
    Calls Try.prog 28 #[.agg #[.bool false, .slice A l.length c], .agg #[.bool (decide (y < 0)), .slice B m.length d]] w (RetNum w (z + y)) := by
  have := sum_any false (decide (y < 0)) A B c d l m w h.1 g.1 h.2.1.1 g.2.1.1 (by omega) (by omega)
  have e : M.sg false (L.nat l : Int) = z := by have := h.2.2; show (L.nat l : Int) = z; omega
  rwa [e, sg_dec g.2.2] at this
theorem four_cells {x : World} {a b : Nat} {v0 v1 v2 v3 : Value} (u0 u1 u2 u3 : Value) (hab : a ≠ b) (h0 : x.cell? ⟨a, 0, none⟩ = some v0) (h1 : x.cell? ⟨a, 1, none⟩ = some v1) (h2 : x.cell? ⟨b, 0, none⟩ = some v2) (h3 : x.cell? ⟨b, 1, none⟩ = some v3) :
    ((((x.setCell ⟨a, 0, none⟩ u0).setCell ⟨a, 1, none⟩ u1).setCell ⟨b, 0, none⟩ u2).setCell ⟨b, 1, none⟩ u3).cell? ⟨a, 0, none⟩ = some u0 ∧ ((((x.setCell ⟨a, 0, none⟩ u0).setCell ⟨a, 1, none⟩ u1).setCell ⟨b, 0, none⟩ u2).setCell ⟨b, 1, none⟩ u3).cell? ⟨a, 1, none⟩ = some u1 ∧
    ((((x.setCell ⟨a, 0, none⟩ u0).setCell ⟨a, 1, none⟩ u1).setCell ⟨b, 0, none⟩ u2).setCell ⟨b, 1, none⟩ u3).cell? ⟨b, 0, none⟩ = some u2 ∧ ((((x.setCell ⟨a, 0, none⟩ u0).setCell ⟨a, 1, none⟩ u1).setCell ⟨b, 0, none⟩ u2).setCell ⟨b, 1, none⟩ u3).cell? ⟨b, 1, none⟩ = some u3 := by
  have n : ∀ i j : Nat, (⟨b, i, none⟩ : Addr) ≠ ⟨a, j, none⟩ := fun i j e => hab (by injection e with e; exact e.symm)
  have m : ∀ i j : Nat, (⟨a, i, none⟩ : Addr) ≠ ⟨b, j, none⟩ := fun i j e => hab (by injection e)
  have k : ∀ c : Nat, (⟨c, 0, none⟩ : Addr) ≠ ⟨c, 1, none⟩ := fun c e => by simp at e
  have k' : ∀ c : Nat, (⟨c, 1, none⟩ : Addr) ≠ ⟨c, 0, none⟩ := fun c e => by simp at e
  refine ⟨?_, ?_, ?_, ?_⟩
  · rw [World.cell?_setCell_other _ _ _ _ (n 1 0), World.cell?_setCell_other _ _ _ _ (n 0 0), World.cell?_setCell_other _ _ _ _ (k' a)]; exact World.cell?_setCell_same _ _ _ h0
  · rw [World.cell?_setCell_other _ _ _ _ (n 1 1), World.cell?_setCell_other _ _ _ _ (n 0 1)]
    exact World.cell?_setCell_same _ _ _ ((World.cell?_setCell_other _ _ _ _ (k a)).trans h1)
  · rw [World.cell?_setCell_other _ _ _ _ (k' b)]
    exact World.cell?_setCell_same _ _ _ ((World.cell?_setCell_other _ _ _ _ (m 1 0)).trans ((World.cell?_setCell_other _ _ _ _ (m 0 0)).trans h2))
  · exact World.cell?_setCell_same _ _ _ ((World.cell?_setCell_other _ _ _ _ (k b)).trans ((World.cell?_setCell_other _ _ _ _ (m 1 1)).trans ((World.cell?_setCell_other _ _ _ _ (m 0 1)).trans h3)))
theorem cells_up {x y : World} {a b : Nat} {v0 v1 v2 v3 : Value} (hb : Below x.heap.size x y) (h0 : x.cell? ⟨a, 0, none⟩ = some v0) (h1 : x.cell? ⟨a, 1, none⟩ = some v1) (h2 : x.cell? ⟨b, 0, none⟩ = some v2) (h3 : x.cell? ⟨b, 1, none⟩ = some v3)
    (f0 : x.frozen? ⟨a, 0, none⟩ = false) (f1 : x.frozen? ⟨a, 1, none⟩ = false) (f2 : x.frozen? ⟨b, 0, none⟩ = false) (f3 : x.frozen? ⟨b, 1, none⟩ = false) (ha : a < x.heap.size) (hb' : b < x.heap.size) :
    y.cell? ⟨a, 0, none⟩ = some v0 ∧ y.cell? ⟨a, 1, none⟩ = some v1 ∧ y.cell? ⟨b, 0, none⟩ = some v2 ∧ y.cell? ⟨b, 1, none⟩ = some v3 ∧ y.frozen? ⟨a, 0, none⟩ = false ∧ y.frozen? ⟨a, 1, none⟩ = false ∧ y.frozen? ⟨b, 0, none⟩ = false ∧ y.frozen? ⟨b, 1, none⟩ = false :=
  ⟨(hb.cell (p := ⟨a, 0, none⟩) ha).trans h0, (hb.cell (p := ⟨a, 1, none⟩) ha).trans h1, (hb.cell (p := ⟨b, 0, none⟩) hb').trans h2, (hb.cell (p := ⟨b, 1, none⟩) hb').trans h3, (hb.frozen (p := ⟨a, 0, none⟩) ha).trans f0, (hb.frozen (p := ⟨a, 1, none⟩) ha).trans f1, (hb.frozen (p := ⟨b, 0, none⟩) hb').trans f2, (hb.frozen (p := ⟨b, 1, none⟩) hb').trans f3⟩
theorem ret_drew {w x : World} {zq zr : Int} {e : Ending} (h : RetTwo w zq zr e x) : RetTwo w zq zr e x.drew := by
  obtain ⟨Aq, cq, lq, Ar, cr, lr, he, h1, h2, h3⟩ := h
  exact ⟨Aq, cq, lq, Ar, cr, lr, he, h1.drew, h2.drew, h3.drew⟩
/-- Three variables of two cells. -/
abbrev Held3 (x : World) (a b c : Nat) (v u v' u' v2 u2 : Value) : Prop := x.cell? ⟨a, 0, none⟩ = some v ∧ x.cell? ⟨a, 1, none⟩ = some u ∧ x.cell? ⟨b, 0, none⟩ = some v' ∧ x.cell? ⟨b, 1, none⟩ = some u' ∧ x.cell? ⟨c, 0, none⟩ = some v2 ∧ x.cell? ⟨c, 1, none⟩ = some u2 ∧ a < x.heap.size ∧ b < x.heap.size ∧ c < x.heap.size
theorem held3_up {x y : World} {a b c : Nat} {v u v' u' v2 u2 : Value} (hb : Below x.heap.size x y) (h : Held3 x a b c v u v' u' v2 u2) : Held3 y a b c v u v' u' v2 u2 := by
  obtain ⟨h1, h2, h3, h4, h5, h6, h7, h8, h9⟩ := h
  exact ⟨(hb.cell (p := ⟨a, 0, none⟩) h7).trans h1, (hb.cell (p := ⟨a, 1, none⟩) h7).trans h2, (hb.cell (p := ⟨b, 0, none⟩) h8).trans h3, (hb.cell (p := ⟨b, 1, none⟩) h8).trans h4, (hb.cell (p := ⟨c, 0, none⟩) h9).trans h5, (hb.cell (p := ⟨c, 1, none⟩) h9).trans h6, Nat.lt_of_lt_of_le h7 hb.size, Nat.lt_of_lt_of_le h8 hb.size, Nat.lt_of_lt_of_le h9 hb.size⟩
theorem held3_drew {x : World} {a b c : Nat} {v u v' u' v2 u2 : Value} (h : Held3 x a b c v u v' u' v2 u2) : Held3 x.drew a b c v u v' u' v2 u2 := h
theorem held3_set {x : World} {a b c : Nat} {v u v' u' v2 u2 z : Value} {p : Addr} (h1 : p.block ≠ a) (h2 : p.block ≠ b) (h3 : p.block ≠ c) (h : Held3 x a b c v u v' u' v2 u2) : Held3 (x.setCell p z) a b c v u v' u' v2 u2 := by
  obtain ⟨g1, g2, g3, g4, g5, g6, g7, g8, g9⟩ := h
  have s : ∀ (k i : Nat), p.block ≠ k → (x.setCell p z).cell? ⟨k, i, none⟩ = x.cell? ⟨k, i, none⟩ := fun k i hk => World.cell?_setCell_other x p _ z (fun e => hk (by rw [e]))
  exact ⟨(s a 0 h1).trans g1, (s a 1 h1).trans g2, (s b 0 h2).trans g3, (s b 1 h2).trans g4, (s c 0 h3).trans g5, (s c 1 h3).trans g6, by simpa [World.setCell] using g7, by simpa [World.setCell] using g8, by simpa [World.setCell] using g9⟩
/-- Two numbers, laid into the results' variables. -/
theorem floor_end {w wx : World} {n2 n3 : Nat} {zq zr : Int} {Aq Ar : Option Addr} {lq lr : List Nat} (cq cr : Nat) (hq : NumR wx zq Aq lq) (hr : NumR wx zr Ar lr) (fq : ∀ ad, Aq = some ad → n2 < ad.block ∧ n3 < ad.block) (fr : ∀ ad, Ar = some ad → n2 < ad.block ∧ n3 < ad.block)
    (hb : Below w.heap.size w wx) (h2 : w.heap.size ≤ n2) (h3 : w.heap.size ≤ n3) :
    RetTwo w zq zr (.returned (.tuple #[.agg #[.bool (decide (zq < 0)), .slice Aq lq.length cq], .agg #[.bool (decide (zr < 0)), .slice Ar lr.length cr]]))
      ((((wx.setCell ⟨n2, 0, none⟩ (.bool (decide (zq < 0)))).setCell ⟨n2, 1, none⟩ (.slice Aq lq.length cq)).setCell ⟨n3, 0, none⟩ (.bool (decide (zr < 0)))).setCell ⟨n3, 1, none⟩ (.slice Ar lr.length cr)) := by
  refine ⟨Aq, cq, lq, Ar, cr, lr, rfl, ⟨?_, hq.2⟩, ⟨?_, hr.2⟩, (((hb.setCell h2 _).setCell h2 _).setCell h3 _).setCell h3 _⟩
  · have := reads_set (reads_set (reads_set (reads_set hq.1 (p := ⟨n2, 0, none⟩) (fun ad e => (fq ad e).1) (.bool (decide (zq < 0)))) (p := ⟨n2, 1, none⟩) (fun ad e => (fq ad e).1) (.slice Aq lq.length cq)) (p := ⟨n3, 0, none⟩) (fun ad e => (fq ad e).2) (.bool (decide (zr < 0)))) (p := ⟨n3, 1, none⟩) (fun ad e => (fq ad e).2) (.slice Ar lr.length cr)
    simpa [World.setCell] using this
  · have := reads_set (reads_set (reads_set (reads_set hr.1 (p := ⟨n2, 0, none⟩) (fun ad e => (fr ad e).1) (.bool (decide (zq < 0)))) (p := ⟨n2, 1, none⟩) (fun ad e => (fr ad e).1) (.slice Aq lq.length cq)) (p := ⟨n3, 0, none⟩) (fun ad e => (fr ad e).2) (.bool (decide (zr < 0)))) (p := ⟨n3, 1, none⟩) (fun ad e => (fr ad e).2) (.slice Ar lr.length cr)
    simpa [World.setCell] using this
theorem held_drew {x : World} {a b : Nat} {v u v' u' : Value} (h : x.cell? ⟨a, 0, none⟩ = some v ∧ x.cell? ⟨a, 1, none⟩ = some u ∧ x.cell? ⟨b, 0, none⟩ = some v' ∧ x.cell? ⟨b, 1, none⟩ = some u' ∧ a < x.heap.size ∧ b < x.heap.size) :
    x.drew.cell? ⟨a, 0, none⟩ = some v ∧ x.drew.cell? ⟨a, 1, none⟩ = some u ∧ x.drew.cell? ⟨b, 0, none⟩ = some v' ∧ x.drew.cell? ⟨b, 1, none⟩ = some u' ∧ a < x.drew.heap.size ∧ b < x.drew.heap.size := h
theorem held_set {x : World} {a b : Nat} {v u v' u' z : Value} {p : Addr} (h1 : p.block ≠ a) (h2 : p.block ≠ b) (h : x.cell? ⟨a, 0, none⟩ = some v ∧ x.cell? ⟨a, 1, none⟩ = some u ∧ x.cell? ⟨b, 0, none⟩ = some v' ∧ x.cell? ⟨b, 1, none⟩ = some u' ∧ a < x.heap.size ∧ b < x.heap.size) :
    (x.setCell p z).cell? ⟨a, 0, none⟩ = some v ∧ (x.setCell p z).cell? ⟨a, 1, none⟩ = some u ∧ (x.setCell p z).cell? ⟨b, 0, none⟩ = some v' ∧ (x.setCell p z).cell? ⟨b, 1, none⟩ = some u' ∧ a < (x.setCell p z).heap.size ∧ b < (x.setCell p z).heap.size := by
  obtain ⟨g1, g2, g3, g4, g5, g6⟩ := h
  exact ⟨(World.cell?_setCell_other x p _ z (fun e => h1 (by rw [e]))).trans g1, (World.cell?_setCell_other x p _ z (fun e => h1 (by rw [e]))).trans g2, (World.cell?_setCell_other x p _ z (fun e => h2 (by rw [e]))).trans g3, (World.cell?_setCell_other x p _ z (fun e => h2 (by rw [e]))).trans g4, by simpa [World.setCell] using g5, by simpa [World.setCell] using g6⟩
/-- The four cells that hold both variables, over a call. -/
theorem held22 {x y : World} {a b : Nat} {v u v' u' : Value} (hb : Below x.heap.size x y) (h : x.cell? ⟨a, 0, none⟩ = some v ∧ x.cell? ⟨a, 1, none⟩ = some u ∧ x.cell? ⟨b, 0, none⟩ = some v' ∧ x.cell? ⟨b, 1, none⟩ = some u' ∧ a < x.heap.size ∧ b < x.heap.size) :
    y.cell? ⟨a, 0, none⟩ = some v ∧ y.cell? ⟨a, 1, none⟩ = some u ∧ y.cell? ⟨b, 0, none⟩ = some v' ∧ y.cell? ⟨b, 1, none⟩ = some u' ∧ a < y.heap.size ∧ b < y.heap.size := by
  obtain ⟨h1, h2, h3, h4, h5, h6⟩ := h
  exact ⟨(hb.cell (p := ⟨a, 0, none⟩) h5).trans h1, (hb.cell (p := ⟨a, 1, none⟩) h5).trans h2, (hb.cell (p := ⟨b, 0, none⟩) h6).trans h3, (hb.cell (p := ⟨b, 1, none⟩) h6).trans h4, Nat.lt_of_lt_of_le h5 hb.size, Nat.lt_of_lt_of_le h6 hb.size⟩
set_option maxRecDepth 100000 in
set_option maxHeartbeats 40000000 in
theorem floor_core (am : Bool) (A B : Option Addr) (c d : Nat) (la ld : List Nat) (D : Nat) (w : World) (ha : Reads w w.heap.size 1 A la.length (cells la)) (xa : L.Bits la) (na : la.length ≤ 400)
    (hb : Reads w w.heap.size 1 B ld.length (cells ld)) (xb : L.Can ld) (hD : L.nat ld = D) (pD : 0 < D) (nb : ld.length ≤ 400) :
    Calls Try.prog 27 #[.agg #[.bool am, .slice A la.length c], .agg #[.bool false, .slice B ld.length d]] w (RetTwo w (M.sg am (L.nat la) / (D : Int)) (M.sg am (L.nat la) % (D : Int))) := by
  obtain ⟨i0, hi0, hz0, hz1, hz2⟩ := info_parts u8_info
  go_enter Try.func27, Try.ntmps27
  go_wp2_with fail
  have LD := laid_6 w (.bool am) (.slice A la.length c) (.bool false) (.slice B ld.length d)
  unfold W6 at LD
  generalize ((((((w.alloc (Obj.cells #[Value.bool am, Value.slice A la.length c] 50)).alloc (Obj.cells #[Value.bool false, Value.slice B ld.length d] 50)).alloc (Obj.cells #[Value.bool false, Value.slice none 0 0] 50)).alloc (Obj.cells #[Value.bool false, Value.slice none 0 0] 50)).alloc (Obj.cells #[Value.bool false, Value.slice none 0 0] 50)).alloc (Obj.cells #[Value.bool false, Value.slice none 0 0] 50)) = W1 at *
  generalize w.heap.size + 1 + 1 + 1 + 1 + 1 = gr at *
  generalize w.heap.size + 1 + 1 + 1 + 1 = gq at *
  generalize w.heap.size + 1 + 1 + 1 = n3 at *
  generalize w.heap.size + 1 + 1 = n2 at *
  generalize w.heap.size + 1 = n1 at *
  have ORD := LD.ord
  go_loopw [8] (fun t wr => ∃ (i : Nat) (Ar Aq : Option Addr) (cr cq : Nat) (lr lq : List Nat), t = .int .i64 ((i : Int) - 1) ∧ i ≤ la.length ∧ Hid (L.DivI la D i lq (L.nat lr)) ∧ L.Can lr ∧ Hid (St W1 wr gq gr Ar cr lr Aq cq lq)) (fun t _ => (intOf t + 1).toNat)
  case atStart => exact ⟨la.length, none, none, 0, 0, [], [], rfl, Nat.le_refl _, Lib.hid (L.div_start la D pD), ⟨L.Bits.nil, fun h => absurd rfl h⟩, Lib.hid LD.st⟩
  case round =>
    obtain ⟨i, Ar, Aq, cr, cq, lr, lq, rfl, hi, hI, hC, hS⟩ := hrel
    rcases Nat.eq_zero_or_pos i with z | z
    · subst z
      obtain ⟨eq1, er1⟩ := L.div_end hI.out
      have lql : lq.length ≤ 400 := by have := hI.out.2.1; omega
      have TRq := trimN Aq cq lq (L.nat la / D) wr hS.out.q.rd hI.out.1 (by omega) eq1
      have rl : lr.length ≤ ld.length := L.can_len hC (by have h1 := hI.out.2.2.1; have h2 := L.nat_lt xb.1; omega)
      have c0 := hS.out.q.c0
      have c1 := hS.out.q.c1
      have f0 := hS.out.q.f0
      have f1 := hS.out.q.f1
      obtain ⟨Q, hQ⟩ : ∃ Q, L.nat la / D = Q := ⟨_, rfl⟩
      obtain ⟨Rm, hRm⟩ : ∃ R, L.nat la % D = R := ⟨_, rfl⟩
      have FP := L.floor_pos (L.nat la) D
      have FN := L.floor_neg (A := L.nat la) pD
      rw [hQ] at TRq FP FN
      rw [hRm] at er1 FP FN
      have HFP := Lib.hid FP
      have HFN := Lib.hid FN
      have HER := Lib.hid er1
      clear eq1 er1 hQ hRm FP FN
      go_wp2_with fail
      refine TRq.mono ?_
      rintro e w1 ⟨A1, c1', l1, rfl, rd1, C1, e1, far1, hb1⟩
      have S1 := hS.out.below hb1
      have lt1 := S1.lt
      have S2 := S1.setQ2 (c' := c1') rd1 (fun ad' e' => by have := far1 ad' e'; have := hS.out.s; omega)
      have g0 := S1.q.c0
      have g1 := S1.q.c1
      have h0 := S1.q.f0
      have h1 := S1.q.f1
      have zz1 : w1.heap.size = ((w1.setCell ⟨gq, 0, none⟩ (.bool false)).setCell ⟨gq, 1, none⟩ (.slice A1 l1.length c1')).heap.size := by simp [World.setCell]
      have HE1 := Lib.hid e1
      have HZ1 := Lib.hid zz1
      have HS2 := Lib.hid S2
      clear c0 c1 f0 f1 TRq e1 S1 S2 zz1
      go_upto_region 13 with fail
      generalize (w1.setCell ⟨gq, 0, none⟩ (.bool false)).setCell ⟨gq, 1, none⟩ (.slice A1 l1.length c1') = w2 at *
      clear g0 g1 h0 h1 rd1 far1 hb1
      have a0 : w2.cell? ⟨w.heap.size, 0, none⟩ = some (.bool am) := (HS2.out.b.cell (p := ⟨w.heap.size, 0, none⟩) (by dsimp only; omega)).trans LD.a0
      have s2 := HS2.out.s
      have HF : Hid (w2.cell? ⟨gq, 0, none⟩ = some (.bool false) ∧ w2.cell? ⟨gq, 1, none⟩ = some (.slice A1 l1.length c1') ∧ w2.cell? ⟨gr, 0, none⟩ = some (.bool false) ∧ w2.cell? ⟨gr, 1, none⟩ = some (.slice Ar lr.length cr) ∧ gq < w2.heap.size ∧ gr < w2.heap.size) := Lib.hid ⟨HS2.out.q.c0, HS2.out.q.c1, HS2.out.r.c0, HS2.out.r.c1, by omega, s2⟩
      have p20 := (HS2.out.b.cell (p := ⟨n2, 0, none⟩) (by dsimp only; omega)).trans LD.q0
      have p21 := (HS2.out.b.cell (p := ⟨n2, 1, none⟩) (by dsimp only; omega)).trans LD.q1
      have p30 := (HS2.out.b.cell (p := ⟨n3, 0, none⟩) (by dsimp only; omega)).trans LD.r0
      have p31 := (HS2.out.b.cell (p := ⟨n3, 1, none⟩) (by dsimp only; omega)).trans LD.r1
      have q20 := (HS2.out.b.frozen (p := ⟨n2, 0, none⟩) (by dsimp only; omega)).trans LD.qf.1
      have q21 := (HS2.out.b.frozen (p := ⟨n2, 1, none⟩) (by dsimp only; omega)).trans LD.qf.2
      have q30 := (HS2.out.b.frozen (p := ⟨n3, 0, none⟩) (by dsimp only; omega)).trans LD.rf.1
      have q31 := (HS2.out.b.frozen (p := ⟨n3, 1, none⟩) (by dsimp only; omega)).trans LD.rf.2
      have KB := LD.b.trans (HS2.out.b.mono (by omega))
      have NQ : NumR w2 (Q : Int) A1 l1 := ⟨HS2.out.q.rd, C1, by rw [HE1.out]; omega⟩
      have NR : NumR w2 (Rm : Int) Ar lr := ⟨HS2.out.r.rd, hC, by rw [HER.out]; omega⟩
      have FQ := HS2.out.q.far
      have FR := HS2.out.r.far
      cases am
      · have F := HFP.out
        have HV : Hid (M.sg false (L.nat la : Int) / (D : Int) = (Q : Int) ∧ M.sg false (L.nat la : Int) % (D : Int) = (Rm : Int)) := Lib.hid ⟨F.1.symm, F.2.symm⟩
        have FE := fun (wx : World) (hb : Below w2.heap.size w2 wx) => floor_end (w := w) (n2 := n2) (n3 := n3) c1' cr (NQ.up hb) (NR.up hb) (fun ad e => by have := FQ ad e; omega) (fun ad e => by have := FR ad e; omega) (KB.trans (hb.mono (by omega))) (by omega) (by omega)
        have z0 : decide ((Q : Int) < 0) = false := decide_eq_false (by omega)
        have z1 : decide ((Rm : Int) < 0) = false := decide_eq_false (by omega)
        rw [z0, z1] at FE
        have HFE := Lib.hid FE
        clear FE F z0 z1
        go_wp2_with fail
        go_region_held3 (fun w' => w'.cell? ⟨gq, 0, none⟩ = some (.bool false) ∧ w'.cell? ⟨gq, 1, none⟩ = some (.slice A1 l1.length c1') ∧ w'.cell? ⟨gr, 0, none⟩ = some (.bool false) ∧ w'.cell? ⟨gr, 1, none⟩ = some (.slice Ar lr.length cr) ∧ gq < w'.heap.size ∧ gr < w'.heap.size)
          (first | with_reducible exact held_drew (held_set (by dsimp only; omega) (by dsimp only; omega) (held_set (by dsimp only; omega) (by dsimp only; omega) (HF.out))) | with_reducible exact held_drew (held_set (by dsimp only; omega) (by dsimp only; omega) (held_set (by dsimp only; omega) (by dsimp only; omega) (held_set (by dsimp only; omega) (by dsimp only; omega) (held_set (by dsimp only; omega) (by dsimp only; omega) (HF.out))))) | exact HF.out | go_keep)
          (fail)
        all_goals go_wp2_with fail
        have FC := four_cells (.bool false) (.slice A1 l1.length c1') (.bool false) (.slice Ar lr.length cr) (show n2 ≠ n3 by omega) p20 p21 p30 p31
        obtain ⟨k0, k1, k2, k3⟩ := FC
        clear p20 p21 p30 p31 q20 q21 q30 q31
        exact bodyPost_ret (v := .tuple #[.agg #[.bool false, .slice A1 l1.length c1'], .agg #[.bool false, .slice Ar lr.length cr]]) (by simp [results, Try.results27, go_sem, k0, k1, k2, k3]) rfl (by rw [HV.out.1, HV.out.2]; exact ret_drew (HFE.out w2 (Below.refl _ _)))
      · have en : M.sg true (L.nat la : Int) = -(L.nat la : Int) := rfl
        have cr1 := HS2.out.r.c1
        have l1l : l1.length ≤ 400 := by
          have hq := NQ.2.2
          have h1 := L.nat_lt xa
          have h2 : Q ≤ L.nat la := by
            have := HFP.out.1
            have h3 := Int.ediv_le_self (a := (L.nat la : Int)) (D : Int) (by omega)
            omega
          have := L.can_len C1 (k := la.length) (by omega)
          omega
        by_cases lz : lr.length = 0
        · have rz : Rm = 0 := by
            have hl : lr = [] := List.eq_nil_of_length_eq_zero lz
            have := NR.2.2
            rw [hl] at this
            simp [L.nat] at this
            omega
          have FN := HFN.out.1 rz
          have HV : Hid (M.sg true (L.nat la : Int) / (D : Int) = -(Q : Int) ∧ M.sg true (L.nat la : Int) % (D : Int) = 0) := Lib.hid ⟨FN.1.symm, FN.2.symm⟩
          subst rz
          have tq := turnN (w := w2.drew) c1' NQ.drew (by omega) (by omega)
          have lz' : ((lr.length : Int) == 0) = true := by simp [lz]
          have HLZ := Lib.hid lz
          obtain ⟨y, hy⟩ : ∃ y, -(Q : Int) = y := ⟨_, rfl⟩
          rw [hy] at tq
          have HY := Lib.hid hy
          clear FN lz hy en
          go_wp2_with fail
          go_region_held3 (fun w' => w'.cell? ⟨gq, 0, none⟩ = some (.bool false) ∧ w'.cell? ⟨gq, 1, none⟩ = some (.slice A1 l1.length c1') ∧ w'.cell? ⟨gr, 0, none⟩ = some (.bool false) ∧ w'.cell? ⟨gr, 1, none⟩ = some (.slice Ar lr.length cr) ∧ gq < w'.heap.size ∧ gr < w'.heap.size)
            (first | with_reducible exact held_drew (held_set (by dsimp only; omega) (by dsimp only; omega) (held_set (by dsimp only; omega) (by dsimp only; omega) (by assumption))) | with_reducible exact held_set (by dsimp only; omega) (by dsimp only; omega) (held_set (by dsimp only; omega) (by dsimp only; omega) (by assumption)) | exact held22 hbA (by assumption) | exact HF.out | go_keep)
            ((go_at_call 41; refine tq.mono ?_; rintro e wA ⟨AA, cA, lA, rfl, rdA, CA, eA, farA, hbA⟩; have pA := cells_up hbA p20 p21 p30 p31 q20 q21 q30 q31 (by omega) (by omega); obtain ⟨pA0, pA1, pA2, pA3, fA0, fA1, fA2, fA3⟩ := pA))
          all_goals go_wp2_with fail
          have NA : NumR wA y AA lA := ⟨rdA, CA, eA⟩
          have NR2 : NumR wA 0 Ar lr := NR.drew.up hbA
          have FC := four_cells (.bool (decide (y < 0))) (.slice AA lA.length cA) (.bool false) (.slice Ar lr.length cr) (show n2 ≠ n3 by omega) pA0 pA1 pA2 pA3
          obtain ⟨k0, k1, k2, k3⟩ := FC
          have FE := floor_end (w := w) (n2 := n2) (n3 := n3) cA cr NA NR2 (fun ad e => by have h' : w2.heap.size ≤ ad.block := farA ad e; omega) (fun ad e => by have := FR ad e; omega) ((KB.trans ((Below.refl w2.heap.size w2).drew.mono (by omega))).trans (hbA.mono (show w.heap.size ≤ w2.heap.size by omega))) (by omega) (by omega)
          have z1 : decide ((0 : Int) < 0) = false := rfl
          rw [z1] at FE
          clear p20 p21 p30 p31 q20 q21 q30 q31 pA0 pA1 pA2 pA3 fA0 fA1 fA2 fA3
          exact bodyPost_ret (v := .tuple #[.agg #[.bool (decide (y < 0)), .slice AA lA.length cA], .agg #[.bool false, .slice Ar lr.length cr]]) (by simp [results, Try.results27, go_sem, k0, k1, k2, k3]) rfl (by rw [HV.out.1, HV.out.2, HY.out]; exact FE)
        · have rz : Rm ≠ 0 := by
            intro h
            have := (L.can_zero hC).1 (by have := NR.2.2; omega)
            exact lz (by rw [this]; rfl)
          have FN := HFN.out.2 rz
          have HV : Hid (M.sg true (L.nat la : Int) / (D : Int) = -((Q : Int) + 1) ∧ M.sg true (L.nat la : Int) % (D : Int) = (D : Int) + -(Rm : Int)) := Lib.hid ⟨FN.1.symm, FN.2.symm⟩
          have lz' : ((lr.length : Int) == 0) = false := by simp [lz]
          have cd0 := (HS2.out.b.cell (p := ⟨n1, 0, none⟩) (by dsimp only; omega)).trans LD.d0
          have cd1 := (HS2.out.b.cell (p := ⟨n1, 1, none⟩) (by dsimp only; omega)).trans LD.d1
          have ND : NumR w2 (D : Int) B ld := ⟨((hb.below LD.b).below (HS2.out.b.mono (by omega))).more (by omega), xb, by rw [hD]; omega⟩
          have H3 : Held3 w2 gq gr n1 (.bool false) (.slice A1 l1.length c1') (.bool false) (.slice Ar lr.length cr) (.bool false) (.slice B ld.length d) := ⟨HF.out.1, HF.out.2.1, HF.out.2.2.1, HF.out.2.2.2.1, cd0, cd1, by omega, by omega, by omega⟩
          have hQl : Q + 1 < 2 ^ (la.length + 1) := by
            have h1 := L.nat_lt xa
            have h2 : Q ≤ L.nat la := by
              have := HFP.out.1
              have h3 := Int.ediv_le_self (a := (L.nat la : Int)) (D : Int) (by omega)
              omega
            have h3 := Nat.pow_succ 2 la.length
            have h4 := Nat.two_pow_pos la.length
            omega
          have HQL := Lib.hid hQl
          have KW : Below w2.heap.size w2 (w2.alloc (.cells #[.int .u8 1] 5)).drew := ((Below.refl _ w2).alloc (Nat.le_refl _) _).drew
          have N1 : NumR (w2.alloc (.cells #[.int .u8 1] 5)).drew 1 (some ⟨w2.heap.size, 0, none⟩) [1] := ⟨Reads.of_own (own_one w2 (base := w2.heap.size) (v := .int .u8 1) (Nat.le_refl _)), ⟨L.Bits.nil.cons (by omega), fun _ => rfl⟩, rfl⟩
          have t1 := sumN (y := 1) c1' 1 (NQ.up KW) N1 (by omega) (by omega) (by simp)
          have e1 : decide ((1 : Int) < 0) = false := rfl
          have e2 : ([1] : List Nat).length = 1 := rfl
          rw [e1, e2] at t1
          obtain ⟨y1, hy1⟩ : ∃ y, (Q : Int) + 1 = y := ⟨_, rfl⟩
          obtain ⟨y2, hy2⟩ : ∃ y, -y1 = y := ⟨_, rfl⟩
          obtain ⟨y3, hy3⟩ : ∃ y, -(Rm : Int) = y := ⟨_, rfl⟩
          obtain ⟨y4, hy4⟩ : ∃ y, (D : Int) + y3 = y := ⟨_, rfl⟩
          rw [hy1] at t1
          have turn1 : ∀ (wx : World) (A : Option Addr) (l : List Nat) (c : Nat), NumR wx y1 A l → l.length ≤ 402 → Calls Try.prog 41 #[.agg #[.bool (decide (y1 < 0)), .slice A l.length c]] wx (RetNum wx y2) := by
            intro wx A l c h hl
            have := turn_any (decide (y1 < 0)) A c l wx h.1 h.2.1.1 (by omega)
            rw [sg_dec h.2.2, hy2] at this
            exact this
          have turn2 : ∀ (wx : World), Below w2.heap.size w2 wx → Calls Try.prog 41 #[.agg #[.bool false, .slice Ar lr.length cr]] wx (RetNum wx y3) := by
            intro wx h
            have := turnN cr (NR.up h) (by omega) (by omega)
            rwa [hy3] at this
          have sum2 : ∀ (wx : World) (A : Option Addr) (l : List Nat) (c : Nat), Below w2.heap.size w2 wx → NumR wx y3 A l → l.length ≤ 402 → Calls Try.prog 28 #[.agg #[.bool false, .slice B ld.length d], .agg #[.bool (decide (y3 < 0)), .slice A l.length c]] wx (RetNum wx y4) := by
            intro wx A l c h g hl
            have := sumN d c (ND.up h) g (by omega) (by omega) hl
            rwa [hy4] at this
          have HY1 := Lib.hid hy1
          have HY2 := Lib.hid hy2
          have HY3 := Lib.hid hy3
          have HY4 := Lib.hid hy4
          have HT1 := Lib.hid turn1
          have HT2 := Lib.hid turn2
          have HT3 := Lib.hid sum2
          have HH3 := Lib.hid H3
          have RN := NR.2.2
          have RNH := Lib.hid RN
          have hC3 := NR.2.1
          clear e1 e2
          clear FN lz hy1 hy2 hy3 hy4 en turn1 turn2 sum2 H3 cd0 cd1 hQl RN
          go_wp2_with fail
          go_region_held3 (fun w' => Held3 w' gq gr n1 (.bool false) (.slice A1 l1.length c1') (.bool false) (.slice Ar lr.length cr) (.bool false) (.slice B ld.length d))
            (first | with_reducible exact held3_drew (held3_set (by dsimp only; omega) (by dsimp only; omega) (by dsimp only; omega) (held3_set (by dsimp only; omega) (by dsimp only; omega) (by dsimp only; omega) (by assumption))) | with_reducible exact held3_set (by dsimp only; omega) (by dsimp only; omega) (by dsimp only; omega) (held3_set (by dsimp only; omega) (by dsimp only; omega) (by dsimp only; omega) (by assumption)) | exact held3_up hbD (by assumption) | exact held3_up hbC (by assumption) | exact held3_up hbB (by assumption) | exact held3_up hbA (by assumption) | exact held3_up KW HH3.out | exact HH3.out | go_keep)
            ((first
              | (go_at_call_of 28 (Value.agg #[Value.bool false, Value.slice A1 l1.length c1']); refine t1.mono ?_; rintro e wA ⟨AA, cA, lA, rfl, rdA, CA, eA, farA, hbA⟩; have NA : NumR wA y1 AA lA := ⟨rdA, CA, eA⟩; have LA : lA.length ≤ 401 := Nat.le_trans (L.can_len CA (k := la.length + 1) (by have := HQL.out; have := HY1.out; omega)) (by omega); have KA := KW.trans (hbA.mono (by simp)); clear rdA CA eA farA)
              | (go_at_call_of 41 (Value.agg #[Value.bool (decide (y1 < 0)), Value.slice AA lA.length cA]); refine (HT1.out _ _ _ cA NA (by omega)).mono ?_; rintro e wB ⟨AB, cB, lB, rfl, rdB, CB, eB, farB, hbB⟩; have NB : NumR wB y2 AB lB := ⟨rdB, CB, eB⟩; have KB2 := KA.trans (hbB.mono KA.size); clear rdB CB eB)
              | (go_at_call_of 41 (Value.agg #[Value.bool false, Value.slice Ar lr.length cr]); refine (HT2.out _ KB2).mono ?_; rintro e wC ⟨AC, cC, lC, rfl, rdC, CC, eC, farC, hbC⟩; have NC : NumR wC y3 AC lC := ⟨rdC, CC, eC⟩; have LC : lC.length ≤ 402 := Nat.le_trans (L.can_len CC (k := lr.length) (by rw [eC, ← HY3.out, Int.natAbs_neg, ← RNH.out]; exact L.nat_lt hC3.1)) (by omega); have KC := KB2.trans (hbC.mono KB2.size); clear rdC CC eC farC)
              | (go_at_call_of 28 (Value.agg #[Value.bool false, Value.slice B ld.length d]); refine (HT3.out _ _ _ cC KC NC LC).mono ?_; rintro e wD ⟨AD, cD, lD, rfl, rdD, CD, eD, farD, hbD⟩; have ND2 : NumR wD y4 AD lD := ⟨rdD, CD, eD⟩; have KD := KC.trans (hbD.mono KC.size); have pD := cells_up KD p20 p21 p30 p31 q20 q21 q30 q31 (by omega) (by omega); obtain ⟨pD0, pD1, pD2, pD3, fD0, fD1, fD2, fD3⟩ := pD)))
          all_goals go_wp2_with fail
          have NB2 : NumR wD y2 AB lB := (NB.up hbC).up hbD
          have FC := four_cells (.bool (decide (y2 < 0))) (.slice AB lB.length cB) (.bool (decide (y4 < 0))) (.slice AD lD.length cD) (show n2 ≠ n3 by omega) pD0 pD1 pD2 pD3
          obtain ⟨k0, k1, k2, k3⟩ := FC
          have FE := floor_end (w := w) (n2 := n2) (n3 := n3) cB cD NB2 ND2 (fun ad e => by have := farB ad e; have := KA.size; omega) (fun ad e => by have := farD ad e; have := KC.size; omega) (KB.trans (KD.mono (by omega))) (by omega) (by omega)
          clear p20 p21 p30 p31 q20 q21 q30 q31 pD0 pD1 pD2 pD3 fD0 fD1 fD2 fD3
          exact bodyPost_ret (v := .tuple #[.agg #[.bool (decide (y2 < 0)), .slice AB lB.length cB], .agg #[.bool (decide (y4 < 0)), .slice AD lD.length cD]]) (by simp [results, Try.results27, go_sem, k0, k1, k2, k3]) rfl (by rw [HV.out.1, HV.out.2, HY1.out, HY2.out, HY3.out, HY4.out]; exact FE)
    · obtain ⟨k, rfl⟩ : ∃ k, i = k + 1 := ⟨i - 1, by omega⟩
      have ei : (((k + 1 : Nat) : Int) - 1) = (k : Int) := by omega
      rw [ei]
      have hk : k < la.length := by omega
      have s0 := hS.out.s
      have lt0 := hS.out.lt
      have rA : Reads wr w.heap.size 1 A la.length (cells la) := (ha.below LD.b).below (hS.out.b.mono (by omega))
      obtain ⟨ad, u, hAd, hadb, hx, hcx⟩ := rA.at_ hk
      subst hAd
      rw [cells_at hk] at hx
      obtain rfl := Option.some.inj hx
      have F0 : FloorS wr w.heap.size gr k ad la.length c (L.bit la k : Int) Ar lr.length cr := ⟨(hS.out.b.cell (p := ⟨w.heap.size, 1, none⟩) (by dsimp only; omega)).trans LD.a1, hcx, hS.out.r.c0, hS.out.r.c1, hS.out.r.f0, hS.out.r.f1⟩
      have FS : ∀ wx, Below wr.heap.size wr wx → FloorS wx w.heap.size gr k ad la.length c (L.bit la k : Int) Ar lr.length cr := fun wx hb => floorS_up F0 hb (by omega) s0 (by omega)
      have HFS := Lib.hid FS
      have bl := L.bit_lt xa k
      have rl : lr.length ≤ ld.length := L.can_len hC (by have h1 := hI.out.2.2.1; have h2 := L.nat_lt xb.1; omega)
      have HI := hI
      clear F0 FS rA hcx hx
      obtain ⟨x, hx⟩ : ∃ x, L.bit la k = x := ⟨_, rfl⟩
      rw [hx] at HFS bl
      have q0 : (0 : Int) ≤ (k : Int) := by omega
      have q1 : (k : Int) < (la.length : Int) := by omega
      have q2 : (la.length : Int) ≤ 400 := by omega
      have K1 : Below wr.heap.size wr (wr.alloc (.cells #[.int .u8 (x : Nat)] 5)).drew := ((Below.refl _ wr).alloc (Nat.le_refl _) _).drew
      have own1 : (wr.alloc (.cells #[.int .u8 (x : Nat)] 5)).drew.ownsRow wr.heap.size 5 1 (.slice (some ⟨wr.heap.size, 0, none⟩) 1 1) 1 (cells [x]) := own_one wr (Nat.le_refl _)
      have src1 : Reads (wr.alloc (.cells #[.int .u8 (x : Nat)] 5)).drew (wr.alloc (.cells #[.int .u8 (x : Nat)] 5)).drew.heap.size 1 Ar lr.length (cells lr) := hS.out.r.rd.up K1
      have HX := Lib.hid hx
      have HO1 := Lib.hid own1
      clear hx own1
      go_wp2_with fail
      refine region_L (fun w' => FloorS w' w.heap.size gr k ad la.length c (x : Int) Ar lr.length cr) 11 (by kernel_rfl) ?_
      refine takeL (i := 0) (v := .pointer (some ⟨w.heap.size, 1, none⟩)) rfl (by kernel_rfl) (by kernel_rfl) (by kernel_rfl) (by kernel_rfl) (fun _ _ _ h => h) (by rfl) (fun w' hS => ?_) (HFS.out _ (Below.refl _ wr).drew) ?_
      · obtain ⟨s0, s1, s2, s3, s4, s5⟩ := hS
        go_simp
      try simp only [Act.put, List.setIfInBounds_toArray, List.set_cons_zero, List.set_cons_succ]
      refine takeL (i := 1) (v := .slice (some ad) la.length c) rfl (by kernel_rfl) (by kernel_rfl) (by kernel_rfl) (by kernel_rfl) (fun _ _ _ h => h) (by rfl) (fun w' hS => ?_) (HFS.out _ (Below.refl _ wr).drew) ?_
      · obtain ⟨s0, s1, s2, s3, s4, s5⟩ := hS
        go_simp
      try simp only [Act.put, List.setIfInBounds_toArray, List.set_cons_zero, List.set_cons_succ]
      refine takeL (i := 2) (v := .int .i64 (k : Nat)) rfl (by kernel_rfl) (by kernel_rfl) (by kernel_rfl) (by kernel_rfl) (fun _ _ _ h => h) (by rfl) (fun w' hS => ?_) (HFS.out _ (Below.refl _ wr).drew) ?_
      · obtain ⟨s0, s1, s2, s3, s4, s5⟩ := hS
        go_simp
      try simp only [Act.put, List.setIfInBounds_toArray, List.set_cons_zero, List.set_cons_succ]
      refine takeL (i := 3) (v := .pointer (some (ad.add k))) rfl (by kernel_rfl) (by kernel_rfl) (by kernel_rfl) (by kernel_rfl) (fun _ _ _ h => h) (by rfl) (fun w' hS => ?_) (HFS.out _ (Below.refl _ wr).drew) ?_
      · obtain ⟨s0, s1, s2, s3, s4, s5⟩ := hS
        go_simp
      try simp only [Act.put, List.setIfInBounds_toArray, List.set_cons_zero, List.set_cons_succ]
      refine takeL (i := 4) (v := .int .u8 (x : Nat)) rfl (by kernel_rfl) (by kernel_rfl) (by kernel_rfl) (by kernel_rfl) (fun _ _ _ h => h) (by rfl) (fun w' hS => ?_) (HFS.out _ (Below.refl _ wr).drew) ?_
      · obtain ⟨s0, s1, s2, s3, s4, s5⟩ := hS
        go_simp
      try simp only [Act.put, List.setIfInBounds_toArray, List.set_cons_zero, List.set_cons_succ]
      refine takeL (i := 6) (v := .pointer (some ⟨gr, 1, none⟩)) rfl (by kernel_rfl) (by kernel_rfl) (by kernel_rfl) (by kernel_rfl) (fun _ _ _ h => h) (by rfl) (fun w' hS => ?_) (HFS.out _ (Below.refl _ wr).drew) ?_
      · obtain ⟨s0, s1, s2, s3, s4, s5⟩ := hS
        go_simp
      try simp only [Act.put, List.setIfInBounds_toArray, List.set_cons_zero, List.set_cons_succ]
      refine takeL (i := 7) (v := .slice Ar lr.length cr) rfl (by kernel_rfl) (by kernel_rfl) (by kernel_rfl) (by kernel_rfl) (fun _ _ _ h => h) (by rfl) (fun w' hS => ?_) (HFS.out _ (Below.refl _ wr).drew) ?_
      · obtain ⟨s0, s1, s2, s3, s4, s5⟩ := hS
        go_simp
      try simp only [Act.put, List.setIfInBounds_toArray, List.set_cons_zero, List.set_cons_succ]
      refine nextL (i := 5) (by kernel_rfl) rfl (fun K hK => ?_)
      go_simp
      refine hK _ _ (fun _ => HFS.out _ K1) ?_
      clear hK K
      try simp only [Act.put, List.setIfInBounds_toArray, List.set_cons_zero, List.set_cons_succ]
      refine nextL (i := 8) (by kernel_rfl) rfl (fun K hK => ?_)
      refine step_append_any _ (by rfl) _ _ _ (by rfl) wr.heap.size 5 i0 (.int .u8 0) 1 1 Try.underlying48 hi0 hz0 hz1 hz2 rfl (by omega) (.slice (some ⟨wr.heap.size, 0, none⟩) 1 1) 1 (cells [x]) (by rfl) HO1.out _ Ar lr.length cr (cells lr) (by rfl) src1 (cells_one lr) (by simp only [maxLen]; omega) (by omega) (by simp) ?_
      intro v2 w2 hown2 hg2 hat2
      have K2 : Below wr.heap.size wr w2 := K1.grown hg2 (by simp) (fun j hj => by simp [Value.ownBlock] at hj; omega)
      obtain ⟨A2, c2, rfl, rd2⟩ := own_form (l := x :: lr) (by have := cells_app [x] lr; rw [← this] at hown2; exact hown2) (by simp; omega)
      refine hK _ _ (fun _ => HFS.out _ K2) ?_
      clear hK K hown2 hg2 hat2 HO1 src1
      try simp only [Act.put, List.setIfInBounds_toArray, List.set_cons_zero, List.set_cons_succ]
      refine takeL (i := 9) (v := .agg #[.bool false, .slice A2 (x :: lr).length c2]) rfl (by kernel_rfl) (by kernel_rfl) (by kernel_rfl) (by kernel_rfl) (fun _ _ _ h => h) (by rfl) (fun w' hS => ?_) (HFS.out _ K2) ?_
      · obtain ⟨s0, s1, s2, s3, s4, s5⟩ := hS
        go_simp
      try simp only [Act.put, List.setIfInBounds_toArray, List.set_cons_zero, List.set_cons_succ]
      have TR := trimN A2 c2 (x :: lr) (x + 2 * L.nat lr) w2 rd2 (hC.1.cons bl) (by simp; omega) rfl
      refine nextL (i := 10) (by kernel_rfl) rfl (fun K hK => ?_)
      go_simp
      refine TR.mono ?_
      rintro e w3 ⟨A3, c3, l3, rfl, rd3, C3, e3, far3, hb3⟩
      have K3 : Below wr.heap.size wr w3 := K2.trans (hb3.mono K2.size)
      try dsimp only
      refine hK _ _ (fun _ => HFS.out _ K3) ?_
      clear hK K TR
      try simp only [Act.put, List.setIfInBounds_toArray, List.set_cons_zero, List.set_cons_succ]
      have F3 := HFS.out _ K3
      obtain ⟨s0', s1', s2', s3', s4', s5'⟩ := F3
      refine nextL (i := 11) (by kernel_rfl) rfl (fun K hK => ?_)
      go_simp
      refine hK _ _ (fun h => absurd rfl h) ?_
      clear hK K
      refine doneL (by kernel_rfl) ?_
      have S3 := (hS.out.below K3).setR (c' := c3) rd3 (fun ad' e' => by have := far3 ad' e'; have := K2.size; omega)
      have Z3 : ((w3.setCell ⟨gr, 0, none⟩ (.bool false)).setCell ⟨gr, 1, none⟩ (.slice A3 l3.length c3)).heap.size = w3.heap.size := by simp [World.setCell]
      generalize (w3.setCell ⟨gr, 0, none⟩ (.bool false)).setCell ⟨gr, 1, none⟩ (.slice A3 l3.length c3) = w4 at *
      have l3l : l3.length ≤ 401 := by
        have h2 := L.nat_lt (hC.1.cons bl : L.Bits (x :: lr))
        have h3 : L.nat (x :: lr) = x + 2 * L.nat lr := rfl
        have := L.can_len C3 (k := (x :: lr).length) (by rw [e3, ← h3]; exact h2)
        simp at this; omega
      have rB4 : Reads w4 w4.heap.size 1 B ld.length (cells ld) := ((hb.below LD.b).below (S3.b.mono (by omega))).more (by have := S3.s; omega)
      have cAb := above_any A3 B c3 d l3 ld w4 S3.r.rd rB4 C3.1 xb.1 (by omega) (by omega)
      rw [e3, hD] at cAb
      have SG : M.sgn ((x + 2 * L.nat lr : Nat) : Int) (D : Int) < 0 ∨ 0 ≤ M.sgn ((x + 2 * L.nat lr : Nat) : Int) (D : Int) := by omega
      have SGlt := fun h : x + 2 * L.nat lr < D => M.sgn_lt (m := ((x + 2 * L.nat lr : Nat) : Int)) (n := (D : Int)) (by omega)
      have SGge : D ≤ x + 2 * L.nat lr → 0 ≤ M.sgn ((x + 2 * L.nat lr : Nat) : Int) (D : Int) := by
        intro h
        rcases Nat.eq_or_lt_of_le h with h | h
        · rw [← M.sgn_eq (by omega) (by omega)]; omega
        · rw [← M.sgn_gt (by omega)]; omega
      have HD1 := Lib.hid (fun g => L.div_one HI.out hk (by rw [HX.out]; exact g) (by rw [HX.out]; exact bl))
      have HD0 := Lib.hid (fun g => L.div_nought HI.out hk (by rw [HX.out]; exact g))
      rw [HX.out] at HD1 HD0
      have E3 := Lib.hid e3
      have d4 : w4.cell? ⟨n1, 1, none⟩ = some (.slice B ld.length d) := (S3.b.cell (p := ⟨n1, 1, none⟩) (by dsimp only; omega)).trans LD.d1
      have r4 := S3.r.c1
      have HS3 := Lib.hid S3
      clear e3 s0' s1' s2' s3' s4' s5' S3 SG
      obtain ⟨sg, hsg⟩ : ∃ s, M.sgn ((x + 2 * L.nat lr : Nat) : Int) (D : Int) = s := ⟨_, rfl⟩
      rw [hsg] at cAb SGge SGlt
      clear hsg
      rcases Nat.lt_or_ge (x + 2 * L.nat lr) D with g | g
      · have g1 : sg < 0 := by have := SGlt g; omega
        have gb : decide (0 ≤ sg) = false := decide_eq_false (by omega)
        have HDN := Lib.hid (HD0.out g)
        clear SGge SGlt g1 HD0 HD1
        go_wp2_with fail
        refine cAb.mono ?_
        rintro e w5 ⟨rfl, hb5⟩
        have S5 := HS3.out.below hb5
        have q5 := S5.q.c1
        have f5 := S5.q.f1
        have lt5 := S5.lt
        have z5 := S5.s
        have own9 : (w5.alloc (.cells #[.int .u8 0] 5)).ownsRow w5.heap.size 5 1 (.slice (some ⟨w5.heap.size, 0, none⟩) 1 1) 1 (cells [0]) := own_one w5 (Nat.le_refl _)
        have N9 := S5.new (.cells #[.int .u8 0] 5)
        have src9 := N9.q.rd
        have q9n := N9.q.c1
        have HO9 := Lib.hid own9
        have HN9 := Lib.hid N9
        have lql : lq.length ≤ 400 := by have := HI.out.2.1; omega
        clear own9 N9
        go_wp2_with (at_builtin; refine wpList_append_any _ rfl _ _ 48 (by rfl) w5.heap.size 5 i0 (.int .u8 0) 1 1 Try.underlying48 hi0 hz0 hz1 hz2 rfl (by omega) (.slice (some ⟨w5.heap.size, 0, none⟩) 1 1) 1 (cells [0]) (by rfl) HO9.out _ Aq lq.length cq (cells lq) (by rfl) src9 (cells_one lq) (by simp only [maxLen]; omega) (by omega) (by simp) ?_; intro v9 w9 hown9 hg9 hat9; obtain ⟨A9, c9, rfl, rd9⟩ := own_form (l := 0 :: lq) (by have := cells_app [0] lq; rw [← this] at hown9; exact hown9) (by simp; omega); have K9 : Below w5.heap.size w5 w9 := ((Below.refl _ w5).alloc (Nat.le_refl _) _).grown hg9 (by simp) (fun j hj => by simp [Value.ownBlock] at hj; omega); have S9 := S5.below K9; have q9 := S9.q.c1; have f9 := S9.q.f1)
        clear q5 f5 q9n src9
        have S10 := S9.setQ (c' := c9) rd9 (far_own hat9 (by omega) (by simp; omega))
        exact ⟨⟨k, A3, A9, c3, c9, l3, 0 :: lq, rfl, by omega, Lib.hid (by rw [E3.out]; exact HDN.out), C3, Lib.hid S10⟩, by simp [intOf]⟩
      · have g1 : 0 ≤ sg := SGge g
        have gb : decide (0 ≤ sg) = true := decide_eq_true g1
        have HDN := Lib.hid (HD1.out g)
        clear SGge SGlt g1 HD0 HD1
        go_wp2_with fail
        refine cAb.mono ?_
        rintro e w5 ⟨rfl, hb5⟩
        have S5 := HS3.out.below hb5
        have r5 := S5.r.c1
        have d5 := (hb5.cell (p := ⟨n1, 1, none⟩) (by have := HS3.out.s; dsimp only; omega)).trans d4
        have rB5 : Reads w5 w5.heap.size 1 B ld.length (cells ld) := rB4.up hb5
        have cLs := (less_any A3 B c3 d l3 ld w5 S5.r.rd rB5 C3.1 xb.1 (by omega) (by omega) (by rw [hD, E3.out]; exact g)).mono fun _ _ h => sl_of h
        clear r4 d4 rB4 cAb
        go_wp2_with fail
        refine cLs.mono ?_
        rintro e w6 ⟨A6, c6, l6, rfl, rd6, P6, hb6⟩
        have TR6 := trimN A6 c6 l6 (x + 2 * L.nat lr - D) w6 rd6 P6.1 (by have := P6.2.2; omega) (by rw [P6.2.1, E3.out, hD])
        clear r5 d5 rB5 cLs P6
        go_wp2_with fail
        refine TR6.mono ?_
        rintro e w7 ⟨A7, c7, l7, rfl, rd7, C7, e7, far7, hb7⟩
        have S7 := (S5.below hb6).below hb7
        have s7 := S7.s
        have cc0 := S7.r.c0
        have cc1 := S7.r.c1
        have ff0 := S7.r.f0
        have ff1 := S7.r.f1
        have E7 := Lib.hid e7
        have S8 := S7.setR (c' := c7) rd7 (fun ad' e' => by have := far7 ad' e'; have := S5.s; have := hb6.size; omega)
        have HS8 := Lib.hid S8
        clear TR6 e7 S7 S8
        go_upto_region 10 with fail
        generalize (w7.setCell ⟨gr, 0, none⟩ (.bool false)).setCell ⟨gr, 1, none⟩ (.slice A7 l7.length c7) = w8 at *
        clear cc0 cc1 ff0 ff1
        have S8 := HS8.out
        have q8 := S8.q.c1
        have f8 := S8.q.f1
        have lt8 := S8.lt
        have z8 := S8.s
        have own9 : (w8.alloc (.cells #[.int .u8 1] 5)).ownsRow w8.heap.size 5 1 (.slice (some ⟨w8.heap.size, 0, none⟩) 1 1) 1 (cells [1]) := own_one w8 (Nat.le_refl _)
        have N9 := S8.new (.cells #[.int .u8 1] 5)
        have src9 := N9.q.rd
        have q9n := N9.q.c1
        have HO9 := Lib.hid own9
        have HN9 := Lib.hid N9
        have lql : lq.length ≤ 400 := by have := HI.out.2.1; omega
        clear own9 N9
        go_wp2_with (at_builtin; refine wpList_append_any _ rfl _ _ 48 (by rfl) w8.heap.size 5 i0 (.int .u8 0) 1 1 Try.underlying48 hi0 hz0 hz1 hz2 rfl (by omega) (.slice (some ⟨w8.heap.size, 0, none⟩) 1 1) 1 (cells [1]) (by rfl) HO9.out _ Aq lq.length cq (cells lq) (by rfl) src9 (cells_one lq) (by simp only [maxLen]; omega) (by omega) (by simp) ?_; intro v9 w9 hown9 hg9 hat9; obtain ⟨A9, c9, rfl, rd9⟩ := own_form (l := 1 :: lq) (by have := cells_app [1] lq; rw [← this] at hown9; exact hown9) (by simp; omega); have K9 : Below w8.heap.size w8 w9 := ((Below.refl _ w8).alloc (Nat.le_refl _) _).grown hg9 (by simp) (fun j hj => by simp [Value.ownBlock] at hj; omega); have S9 := S8.below K9; have q9 := S9.q.c1; have f9 := S9.q.f1)
        clear q8 f8 q9n src9
        have S10 := S9.setQ (c' := c9) rd9 (far_own hat9 (by omega) (by simp; omega))
        exact ⟨⟨k, A7, A9, c7, c9, l7, 1 :: lq, rfl, by omega, Lib.hid (by rw [E7.out]; exact HDN.out), C7, Lib.hid S10⟩, by simp [intOf]⟩
end Go.Proofs.Ytbjbafhlmcnceaa
