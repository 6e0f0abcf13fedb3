/- Contract of the document's Prod. -/
import Derived.Test.YtbjbafhlmcnceaaTo
namespace Go.Proofs.Ytbjbafhlmcnceaa
open Go.ChangeShapes Go.WideShapes Go.ChangeAt Go.RowKit
set_option linter.unusedVariables false

theorem L.nat_app : ∀ (a b : List Nat), L.nat (a ++ b) = L.nat a + 2 ^ a.length * L.nat b
  | [], b => by simp [L.nat]
  | x :: a, b => by
    show x + 2 * L.nat (a ++ b) = x + 2 * L.nat a + 2 ^ (a.length + 1) * L.nat b
    rw [L.nat_app a b, Nat.pow_succ, Nat.mul_add, Nat.mul_comm (2 ^ a.length) 2, Nat.mul_assoc]; omega
theorem L.Bits.app {a b : List Nat} (ha : L.Bits a) (hb : L.Bits b) : L.Bits (a ++ b) := by
  intro x hx
  rw [List.mem_append] at hx
  rcases hx with hx | hx
  · exact ha x hx
  · exact hb x hx
theorem cells_app (a b : List Nat) : cells (a ++ b) = cells a ++ cells b := by simp [cells]
theorem own_form {w : World} {base n : Nat} {v : Value} {l : List Nat} (h : w.ownsRow base 5 1 v n (cells l)) (hn : n = l.length) : ∃ A c, v = .slice A l.length c ∧ Reads w w.heap.size 1 A l.length (cells l) := by
  subst hn
  rcases h.2 with ⟨rfl, hz⟩ | ⟨g, cap, cur, rfl, _⟩
  · have : l = [] := List.eq_nil_of_length_eq_zero hz
    subst this
    exact ⟨none, 0, rfl, Reads.none_⟩
  · exact ⟨some ⟨g, 0, none⟩, cap, rfl, Reads.of_own h⟩
/-- The products so far. -/
def L.ProdI (a b o : List Nat) (i : Nat) : Prop := L.Bits o ∧ L.nat o = L.nat (a.take i) * L.nat b
theorem L.prod_skip {a b o : List Nat} {i : Nat} (h : L.ProdI a b o i) (hi : i < a.length) (e : L.bit a i = 0) : L.ProdI a b o (i + 1) := by
  refine ⟨h.1, ?_⟩
  rw [L.take_succ_nat hi, e, Nat.mul_zero, Nat.add_zero]; exact h.2
theorem L.prod_take {a b o o' : List Nat} {i : Nat} (h : L.ProdI a b o i) (hi : i < a.length) (e : L.bit a i = 1) (h1 : L.Bits o') (h2 : L.nat o' = L.nat o + 2 ^ i * L.nat b) : L.ProdI a b o' (i + 1) := by
  refine ⟨h1, ?_⟩
  rw [L.take_succ_nat hi, e, Nat.mul_one, h2, h.2, Nat.add_mul]
set_option maxRecDepth 100000 in
set_option maxHeartbeats 1000000 in
theorem prod_any (am bm : Bool) (A B : Option Addr) (c d : Nat) (a b : List Nat) (w : World) (ha : Reads w w.heap.size 1 A a.length (cells a)) (hb : Reads w w.heap.size 1 B b.length (cells b))
    (xa : L.Bits a) (xb : L.Bits b) (na : a.length ≤ 400) (nb : b.length ≤ 400) :
    Calls Try.prog 38 #[.agg #[.bool am, .slice A a.length c], .agg #[.bool bm, .slice B b.length d]] w (RetNum w (M.sg am (L.nat a) * M.sg bm (L.nat b))) := by
  have K0 : Below w.heap.size w (((w.alloc (.cells #[.bool am, .slice A a.length c] 50)).alloc (.cells #[.bool bm, .slice B b.length d] 50)).alloc (.cells #[.bool false, .slice none 0 0] 50)) := ((((Below.refl _ w).alloc (Nat.le_refl _) _).alloc (by simp) _).alloc (by simp; omega) _)
  have ha0 := ha.up K0
  have hb0 := hb.up K0
  have n1 := three_cells w (.bool am) (.slice A a.length c) (.bool bm) (.slice B b.length d) (.cells #[.bool false, .slice none 0 0] 50) _ rfl
  have n0 := three_new w (.bool am) (.slice A a.length c) (.bool bm) (.slice B b.length d) (.bool false) (.slice none 0 0)
  have f0 := three_frozen w (.bool am) (.slice A a.length c) (.bool bm) (.slice B b.length d) (.bool false) (.slice none 0 0)
  have hs : w.heap.size + 1 + 1 < ((((w.alloc (.cells #[.bool am, .slice A a.length c] 50)).alloc (.cells #[.bool bm, .slice B b.length d] 50)).alloc (.cells #[.bool false, .slice none 0 0] 50))).heap.size := by simp
  obtain ⟨c1, c2, c3, c4, _, _⟩ := n1
  obtain ⟨i0, hi0, hz0, hz1, hz2⟩ := info_parts u8_info
  clear ha hb
  go_enter Try.func38, Try.ntmps38
  go_wp2
  generalize (((w.alloc (.cells #[.bool am, .slice A a.length c] 50)).alloc (.cells #[.bool bm, .slice B b.length d] 50)).alloc (.cells #[.bool false, .slice none 0 0] 50)) = W1 at *
  go_loopw [5, 6] (fun v i wr => ∃ (A0 : Option Addr) (c0 : Nat) (o : List Nat) (k : Nat), v = .slice A0 o.length c0 ∧ i = .int .i64 (k : Nat) ∧ Reads wr wr.heap.size 1 A0 o.length (cells o) ∧ Hid (L.ProdI a b o k) ∧ o.length ≤ k + b.length ∧ k ≤ a.length ∧ Below W1.heap.size W1 wr) (fun _ i _ => a.length - (intOf i).toNat)
  case atStart => exact ⟨none, 0, [], 0, rfl, rfl, Reads.none_, Lib.hid ⟨L.Bits.nil, by simp [L.nat]⟩, by simp, by omega, Below.refl _ _⟩
  case round =>
    obtain ⟨A0, c0, o, k, rfl, rfl, hr, hI, ho, hk, hB⟩ := hrel
    have d1 := (hB.cell (p := ⟨w.heap.size, 0, none⟩) (by dsimp only; omega)).trans c1
    have d2 := (hB.cell (p := ⟨w.heap.size, 1, none⟩) (by dsimp only; omega)).trans c2
    have d3 := (hB.cell (p := ⟨w.heap.size + 1, 0, none⟩) (by dsimp only; omega)).trans c3
    have d4 := (hB.cell (p := ⟨w.heap.size + 1, 1, none⟩) (by dsimp only; omega)).trans c4
    by_cases q : k < a.length
    · have ha' := ha0.up hB
      have hb' := hb0.up hB
      obtain ⟨ad, u, rfl, _, hx, hcell⟩ := ha'.at_ q
      rw [cells_at q] at hx
      obtain rfl := Option.some.inj hx
      have q1 : (k : Int) < (a.length : Int) := by omega
      have q2 : (0 : Int) ≤ (k : Int) := by omega
      have q3 : (a.length : Int) ≤ 400 := by omega
      have hz := hB.size
      have p2 := L.bit_lt xa k
      by_cases e : L.bit a k = 0
      · have N := Lib.hid (L.prod_skip hI.out q e)
        rw [e] at hcell
        have E0 : ((0 : Nat) : Int) = 0 := rfl
        clear c1 c2 c3 c4 n0 f0 hI ha' hb' hx e p2
        go_wp2_with fail
        exact ⟨⟨A0, c0, o, k + 1, rfl, vint (by simp), hr, N, by omega, by omega, hB⟩, by simp [intOf]; omega⟩
      · have e1 : L.bit a k = 1 := by omega
        rw [e1] at hcell
        have E1 : ((1 : Nat) : Int) = 1 := rfl
        obtain ⟨ZR, hZR, hmk⟩ := make_run k (by omega)
        have LZ := Lib.hid (show L.Bits (List.replicate k 0) ∧ L.nat (List.replicate k 0) = 0 ∧ (List.replicate k 0).length = k from ⟨L.bits_rep _, L.nat_rep _, by simp⟩)
        have hown : ((wr.alloc (.cells ZR 5)).drew).ownsRow wr.heap.size 5 1 (.slice (some ⟨wr.heap.size, 0, none⟩) k k) k (cells (List.replicate k 0)) := make_own (x := wr) (base := wr.heap.size) hZR (by omega) (Nat.le_refl _)
        have kB : Below wr.heap.size wr ((wr.alloc (.cells ZR 5)).drew) := ((Below.refl _ wr).alloc (Nat.le_refl _) _).drew
        have hbm : Reads ((wr.alloc (.cells ZR 5)).drew) ((wr.alloc (.cells ZR 5)).drew).heap.size 1 B b.length (cells b) := hb'.up kB
        have h63 : k + b.length ≤ maxLen := by simp only [maxLen]; omega
        have hby : (k + b.length) * 1 ≤ 140737488355328 := by omega
        have hbs : wr.heap.size ≤ ((wr.alloc (.cells ZR 5)).drew).heap.size := by simp
        have HN := Lib.hid (fun o' h1 h2 => L.prod_take (o' := o') hI.out q e1 h1 h2)
        have d4z : w.heap.size + 1 < wr.heap.size := by omega
        clear hZR c1 c2 c3 c4 n0 f0 ha' hx e p2 e1
        generalize List.replicate k 0 = Z0 at *
        have LL := Lib.hid (show L.Bits (Z0 ++ b) ∧ L.nat (Z0 ++ b) = 2 ^ k * L.nat b ∧ (Z0 ++ b).length = k + b.length ∧ cells (Z0 ++ b) = cells Z0 ++ cells b from ⟨LZ.out.1.app xb, by rw [L.nat_app, LZ.out.2.1, LZ.out.2.2, Nat.zero_add], by rw [List.length_append, LZ.out.2.2], cells_app _ _⟩)
        generalize Z0 ++ b = Lz at LL
        go_wp2_with fail
        go_region_held3 (fun w' => w'.cell? ⟨w.heap.size + 1, 1, none⟩ = some (.slice B b.length d) ∧ w.heap.size + 1 < w'.heap.size)
              (first | exact ⟨(hb3.cell (p := ⟨w.heap.size + 1, 1, none⟩) (by dsimp only; have := hgx.size; omega)).trans ((hgx.cell (p := ⟨w.heap.size + 1, 1, none⟩) (by dsimp only; omega)).trans d4), by have := hgx.size; have := hb3.size; omega⟩ | exact ⟨(hgx.cell (p := ⟨w.heap.size + 1, 1, none⟩) (by dsimp only; omega)).trans d4, by have := hgx.size; omega⟩ | exact ⟨(kB.cell (p := ⟨w.heap.size + 1, 1, none⟩) d4z).trans d4, by have := kB.size; omega⟩ | exact ⟨d4, d4z⟩ | go_keep)
              ((first
                | (refine step_append_any _ (by rfl) _ _ _ (by rfl) wr.heap.size 5 i0 (.int .u8 0) 1 1 Try.underlying48 hi0 hz0 hz1 hz2 rfl (by omega) _ k _ (by rfl) hown _ B b.length d (cells b) (by rfl) hbm (cells_one b) h63 hby hbs ?_; intro v1 w1 hown1 hg1 hat1; have hgx := kB.grown hg1 hbs (own_ge hown); obtain ⟨A1, c1', rfl, hr1⟩ := own_form (l := Lz) (by rw [LL.out.2.2.2]; exact hown1) LL.out.2.2.1.symm)
                | (go_at_call 42; refine ((more_any A0 A1 c0 c1' o Lz w1 (hr.up hgx) hr1 hI.out.1 LL.out.1 (by omega) (by have := LL.out.2.2.1; omega)).mono fun _ _ h => sl_of h).mono ?_; rintro e w3 ⟨A2, c2', o', rfl, hr2, hP, hb3⟩)))
        go_wp2_with fail
        have hlen := LL.out.2.2.1
        have N := Lib.hid (HN.out o' hP.1 (by rw [hP.2.1, LL.out.2.1]))
        have hl2 : o'.length ≤ k + 1 + b.length := by have := hP.2.2; omega
        have K3 := hB.trans ((hgx.trans (hb3.mono hgx.size)).mono hB.size)
        exact ⟨⟨A2, c2', o', k + 1, rfl, vint (by simp), hr2, N, hl2, by omega, K3⟩, by simp [intOf]; omega⟩
    · have ek : k = a.length := by omega
      have q1 : ¬ (k : Int) < (a.length : Int) := by omega
      obtain ⟨m, hm⟩ : ∃ m, (!(am == bm)) = m := ⟨_, rfl⟩
      have hV : M.sg m (L.nat o : Int) = M.sg am (L.nat a) * M.sg bm (L.nat b) := by
        have h2 := hI.out.2
        rw [ek, List.take_length] at h2
        rw [← hm, h2, Int.natCast_mul]
        cases am <;> cases bm <;> simp [M.sg, Int.neg_mul, Int.mul_neg]
      have ct := trim_any m A0 c0 o wr hr hI.out.1 (by omega)
      rw [hV] at ct
      have K := K0.trans (hB.mono K0.size)
      have r1 := (hB.cell (p := ⟨w.heap.size + 1 + 1, 0, none⟩) hs).trans n0.1
      have r2 := (hB.cell (p := ⟨w.heap.size + 1 + 1, 1, none⟩) hs).trans n0.2
      have r3 := (hB.frozen (p := ⟨w.heap.size + 1 + 1, 0, none⟩) hs).trans (f0 0)
      have r4 := (hB.frozen (p := ⟨w.heap.size + 1 + 1, 1, none⟩) hs).trans (f0 1)
      have hs' : w.heap.size + 1 + 1 < wr.heap.size := Nat.lt_of_lt_of_le hs hB.size
      generalize M.sg am (L.nat a : Int) * M.sg bm (L.nat b) = z at *
      clear c1 c2 c3 c4 n0 f0 hI hV hB hr ek q
      go_wp2_with fail
      refine ct.mono ?_
      rintro e w5 ⟨A', c', l', rfl, hr', hC, hz', hA, hb⟩
      have E := Lib.hid (end_num (w := w) (R := w.heap.size + 1 + 1) (c := c') hr' hC hz' (fun ad e => by have := hA ad e; omega) (by omega) (K.trans (hb.mono K.size)))
      have p1 := (hb.cell (p := ⟨w.heap.size + 1 + 1, 0, none⟩) hs').trans r1
      have p2 := (hb.cell (p := ⟨w.heap.size + 1 + 1, 1, none⟩) hs').trans r2
      have p3 := (hb.frozen (p := ⟨w.heap.size + 1 + 1, 0, none⟩) hs').trans r3
      have p4 := (hb.frozen (p := ⟨w.heap.size + 1 + 1, 1, none⟩) hs').trans r4
      clear hA hz' hC hr' hb r1 r2 r3 r4 d1 d2 d3 d4
      go_wp2_with fail
      exact bodyPost_ret (v := .agg #[.bool (decide (z < 0)), .slice A' l'.length c']) (by simp [results, Try.results38, go_sem, p1, p2]) rfl E.out
end Go.Proofs.Ytbjbafhlmcnceaa
