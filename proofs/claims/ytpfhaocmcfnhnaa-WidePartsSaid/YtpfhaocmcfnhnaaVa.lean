/- Plain: what stands between two numbers. Types: places in the window, colors, two numbers. Contracts of the document's sums of bits: bit, more, less, above. Contract of the document's trim. Contracts of the document's Turn, Sum and Order. Contracts of the document's Sum, whatever the signs, and of Order. Contract of the document's From: the bits of a number of 128 bits. Contracts of the document's num and To. Contract of the document's Prod. Contracts of the document's Neg, Times, Mul, Sign. Contracts of the document's Add, Sub, Cmp. Contract of the document's Ratio. The document's Floor: its two variables, in memory. Contract of the document's Floor. Contracts of the document's Mul and Div. Contracts: the document's Mid of layer 8, over numbers up to 2^40. Contract: the document's Mid. Contracts: far, near, fits. Contract: the document's both. Contracts: the document's Along and Across. -/
import Derived.Lib.Hide
import Derived.Test.YtpfhaocmcfnhnaaL2
import Derived.Test.YtpfhaocmcfnhnaaTy
import Derived.Test.YtpfhaocmcfnhnaaLa
import Derived.Test.YtpfhaocmcfnhnaaNb
import Derived.Test.YtpfhaocmcfnhnaaL3
import Derived.Test.YtpfhaocmcfnhnaaL1
import Derived.WalkKit
import Derived.ProofKit
import Derived.OpenShut
import Derived.Outline
import Derived.WalkLawsBesides
import Derived.BigQuiet
import Derived.LoopTactic
import Derived.Deep.QuietTactic
import Derived.Deep.RegionHeld3
import Derived.Deep.DeepCutAuto
import Derived.WalkSpells
import Derived.Laws.MakeOwn
namespace Go.Proofs.Ytpfhaocmcfnhnaa
set_option linter.unusedVariables false
namespace VM
/-- n, brought among 0 and d. -/
def cl (n d : Int) : Int := max 0 (min n d)
theorem cl_lim {n d : Int} (hd : 0 ≤ d) : 0 ≤ cl n d ∧ cl n d ≤ d := by unfold cl; omega
/-- p times d less n, and q times n, together. -/
def top (p q n d : Int) : Int := p * (d - n) + q * n
def mid (p q n d : Int) : Int := if d < 1 then p else top p q (cl n d) d / d
theorem mid_between (p q n : Int) {d : Int} : min p q ≤ mid p q n d ∧ mid p q n d ≤ max p q := by
  unfold mid
  by_cases hd : d < 1
  · rw [if_pos hd]
    omega
  · rw [if_neg hd]
    obtain ⟨c0, c1⟩ := @cl_lim n d (by omega)
    generalize cl n d = c at *
    have key : min p q * d ≤ top p q c d ∧ top p q c d ≤ max p q * d := by
      unfold top
      have a1 := Int.mul_le_mul_of_nonneg_right (show min p q ≤ p by omega) (show 0 ≤ d - c by omega)
      have a2 := Int.mul_le_mul_of_nonneg_right (show min p q ≤ q by omega) c0
      have a3 := Int.mul_le_mul_of_nonneg_right (show p ≤ max p q by omega) (show 0 ≤ d - c by omega)
      have a4 := Int.mul_le_mul_of_nonneg_right (show q ≤ max p q by omega) c0
      rw [Int.mul_sub] at a1 a3
      rw [Int.mul_sub (max p q)] at a3
      rw [Int.mul_sub]
      rw [Int.mul_sub] at a1
      omega
    exact ⟨Int.le_ediv_of_mul_le (by omega) key.1, by
      have := Int.ediv_le_ediv (c := d) (by omega) key.2
      rw [Int.mul_ediv_cancel _ (by omega)] at this
      exact this⟩
/-- By the longer way: how far, of how far. -/
def wide (w h : Int) : Bool := decide (max h (0 - h) ≤ max w (0 - w))
def nA (ax ay bx by_ X Y : Int) : Int := if wide (bx - ax) (by_ - ay) then (if bx - ax < 0 then 0 - (256 * X + 128 - ax) else 256 * X + 128 - ax) else (if by_ - ay < 0 then 0 - (256 * Y + 128 - ay) else 256 * Y + 128 - ay)
def dA (ax ay bx by_ : Int) : Int := if wide (bx - ax) (by_ - ay) then (if bx - ax < 0 then 0 - (bx - ax) else bx - ax) else (if by_ - ay < 0 then 0 - (by_ - ay) else by_ - ay)
end VM
end Go.Proofs.Ytpfhaocmcfnhnaa
namespace Go.Proofs.Ytpfhaocmcfnhnaa
open Go.ChangeShapes Go.WideShapes Go.ChangeAt Go.RowKit
set_option linter.unusedVariables false
set_option linter.unusedSimpArgs false

theorem sizeW : (Try.prog.info? 25).map (·.size) = some 7 := by kernel_rfl
theorem sW (a : Nat → Int) : (Try.prog.info? 25).map (·.size) = some (M.mat 7 a).length := by rw [M.mat_len]; exact sizeW
theorem sizeC : (Try.prog.info? 23).map (·.size) = some 4 := by kernel_rfl
theorem sC (a : Nat → Int) : (Try.prog.info? 23).map (·.size) = some (M.mat 4 a).length := by rw [M.mat_len]; exact sizeC
theorem zeroC : (Try.prog.info? 23).map (·.zero) = some (some (.agg (M.mat 4 M.zero).toArray)) := by kernel_rfl
section
variable {ops : Array Oper} {Q : Exit → Act → World → Prop} {a : Act} {w : World} {rest : List Oper} {dst : Option Tmp} {ty : TypeId} {pos : String} {after : Array Edge} {K : Act → World → Prop}
end
end Go.Proofs.Ytpfhaocmcfnhnaa
set_option linter.unusedSimpArgs false
namespace Go.Proofs.Ytpfhaocmcfnhnaa
open Go.ChangeShapes Go.WideShapes Go.ChangeAt Go.RowKit
set_option linter.unusedVariables false

def cells (l : List Nat) : List Value := l.map fun (b : Nat) => Value.int .u8 (b : Int)
end Go.Proofs.Ytpfhaocmcfnhnaa
namespace Go.Proofs.Ytpfhaocmcfnhnaa
open Go.ChangeShapes Go.WideShapes Go.ChangeAt Go.RowKit
set_option linter.unusedVariables false

end Go.Proofs.Ytpfhaocmcfnhnaa
namespace Go.Proofs.Ytpfhaocmcfnhnaa
open Go.ChangeShapes Go.WideShapes Go.ChangeAt Go.RowKit
set_option linter.unusedVariables false

theorem Reads.up {w w' : World} {A : Option Addr} {n : Nat} {xs : List Value} (h : Reads w w.heap.size 1 A n xs) (hb : Below w.heap.size w w') : Reads w' w'.heap.size 1 A n xs := (h.below hb).more hb.size
theorem reads_set {w : World} {B n : Nat} {A : Option Addr} {xs : List Value} (h : Reads w B 1 A n xs) {p : Addr} (hp : ∀ ad, A = some ad → p.block < ad.block) (u : Value) : Reads (w.setCell p u) B 1 A n xs :=
  ⟨h.1, fun hn => by
    obtain ⟨ad, e, hb, hc⟩ := h.2 hn
    refine ⟨ad, e, hb, fun j v hv => ?_⟩
    rw [World.cell?_setCell_other _ _ _ _ (fun q => ?_)]
    · exact hc j v hv
    · have h1 := hp ad e
      have h2 : p.block = (ad.add j).block := congrArg Addr.block q
      rw [block_of_add] at h2
      omega⟩
end Go.Proofs.Ytpfhaocmcfnhnaa
namespace Go.Proofs.Ytpfhaocmcfnhnaa
open Go.ChangeShapes Go.WideShapes Go.ChangeAt Go.RowKit
set_option linter.unusedVariables false

end Go.Proofs.Ytpfhaocmcfnhnaa
namespace Go.Proofs.Ytpfhaocmcfnhnaa
open Go.ChangeShapes Go.WideShapes Go.ChangeAt Go.RowKit
set_option linter.unusedVariables false

end Go.Proofs.Ytpfhaocmcfnhnaa
namespace Go.Proofs.Ytpfhaocmcfnhnaa
open Go.ChangeShapes Go.WideShapes Go.ChangeAt Go.RowKit
set_option linter.unusedVariables false

end Go.Proofs.Ytpfhaocmcfnhnaa
namespace Go.Proofs.Ytpfhaocmcfnhnaa
open Go.ChangeShapes Go.WideShapes Go.ChangeAt Go.RowKit
set_option linter.unusedVariables false

end Go.Proofs.Ytpfhaocmcfnhnaa
namespace Go.Proofs.Ytpfhaocmcfnhnaa
open Go.ChangeShapes Go.WideShapes Go.ChangeAt Go.RowKit
set_option linter.unusedVariables false

/-- A number that lies in memory. -/
def NumR (w : World) (z : Int) (A : Option Addr) (l : List Nat) : Prop := Reads w w.heap.size 1 A l.length (cells l) ∧ L.Can l ∧ L.nat l = z.natAbs
theorem NumR.up {w w' : World} {z : Int} {A : Option Addr} {l : List Nat} (h : NumR w z A l) (hb : Below w.heap.size w w') : NumR w' z A l := ⟨h.1.up hb, h.2⟩
theorem NumR.drew {w : World} {z : Int} {A : Option Addr} {l : List Nat} (h : NumR w z A l) : NumR w.drew z A l := ⟨h.1.drew, h.2⟩
end Go.Proofs.Ytpfhaocmcfnhnaa
namespace Go.Proofs.Ytpfhaocmcfnhnaa
open Go.ChangeShapes Go.WideShapes Go.ChangeAt Go.RowKit
set_option linter.unusedVariables false

end Go.Proofs.Ytpfhaocmcfnhnaa
namespace Go.Proofs.Ytpfhaocmcfnhnaa
open Go.ChangeShapes Go.WideShapes Go.ChangeAt Go.RowKit
set_option linter.unusedVariables false

end Go.Proofs.Ytpfhaocmcfnhnaa
namespace Go.Proofs.Ytpfhaocmcfnhnaa
open Go.ChangeShapes Go.WideShapes Go.ChangeAt Go.RowKit
set_option linter.unusedVariables false
set_option linter.unusedSimpArgs false

/-- A number without a sign in a variable of the call's own. -/
structure NumV (w : World) (g B : Nat) (A : Option Addr) (c : Nat) (l : List Nat) : Prop where
  c0 : w.cell? ⟨g, 0, none⟩ = some (.bool false)
  c1 : w.cell? ⟨g, 1, none⟩ = some (.slice A l.length c)
  f0 : w.frozen? ⟨g, 0, none⟩ = false
  f1 : w.frozen? ⟨g, 1, none⟩ = false
  rd : Reads w w.heap.size 1 A l.length (cells l)
  far : ∀ ad, A = some ad → B < ad.block
section
variable {w w' : World} {g B : Nat} {A : Option Addr} {c : Nat} {l : List Nat}
theorem NumV.below (h : NumV w g B A c l) (hg : g < w.heap.size) (hb : Below w.heap.size w w') : NumV w' g B A c l :=
  ⟨(hb.cell (p := ⟨g, 0, none⟩) hg).trans h.c0, (hb.cell (p := ⟨g, 1, none⟩) hg).trans h.c1, (hb.frozen (p := ⟨g, 0, none⟩) hg).trans h.f0, (hb.frozen (p := ⟨g, 1, none⟩) hg).trans h.f1, h.rd.up hb, h.far⟩
theorem NumV.drew (h : NumV w g B A c l) : NumV w.drew g B A c l := ⟨h.c0, h.c1, h.f0, h.f1, h.rd.drew, h.far⟩
/-- A store of the list. -/
theorem NumV.put (h : NumV w g B A c l) (hB : g ≤ B) {A' : Option Addr} {c' : Nat} {l' : List Nat} (rd : Reads w w.heap.size 1 A' l'.length (cells l')) (far : ∀ ad, A' = some ad → B < ad.block) : NumV (w.setCell ⟨g, 1, none⟩ (.slice A' l'.length c')) g B A' c' l' :=
  ⟨(World.cell?_setCell_other w _ _ _ (by simp)).trans h.c0, World.cell?_setCell_same w _ _ h.c1, (World.frozen?_setCell _ _ _ _).trans h.f0, (World.frozen?_setCell _ _ _ _).trans h.f1, by
    have := reads_set rd (p := ⟨g, 1, none⟩) (fun ad e => Nat.lt_of_le_of_lt hB (far ad e)) (.slice A' l'.length c')
    simpa [World.setCell] using this, far⟩
end
/-- Both variables, and the rest as it was. -/
structure St (W1 w : World) (gq gr : Nat) (Ar : Option Addr) (cr : Nat) (lr : List Nat) (Aq : Option Addr) (cq : Nat) (lq : List Nat) : Prop where
  r : NumV w gr gr Ar cr lr
  q : NumV w gq gr Aq cq lq
  b : Below gq W1 w
  s : gr < w.heap.size
  lt : gq < gr
section
variable {W1 w w' : World} {gq gr : Nat} {Ar : Option Addr} {cr : Nat} {lr : List Nat} {Aq : Option Addr} {cq : Nat} {lq : List Nat}
theorem St.below (h : St W1 w gq gr Ar cr lr Aq cq lq) (hb : Below w.heap.size w w') : St W1 w' gq gr Ar cr lr Aq cq lq :=
  ⟨h.r.below h.s hb, h.q.below (Nat.lt_trans h.lt h.s) hb, h.b.trans (hb.mono (Nat.le_of_lt (Nat.lt_trans h.lt h.s))), Nat.lt_of_lt_of_le h.s hb.size, h.lt⟩
theorem St.drew (h : St W1 w gq gr Ar cr lr Aq cq lq) : St W1 w.drew gq gr Ar cr lr Aq cq lq := ⟨h.r.drew, h.q.drew, h.b.drew, h.s, h.lt⟩
end
end Go.Proofs.Ytpfhaocmcfnhnaa
namespace Go.Proofs.Ytpfhaocmcfnhnaa
open Go.ChangeShapes Go.WideShapes Go.ChangeAt Go.RowKit
set_option linter.unusedVariables false
set_option linter.unusedSimpArgs false

end Go.Proofs.Ytpfhaocmcfnhnaa
namespace Go.Proofs.Ytpfhaocmcfnhnaa
open Go.ChangeShapes Go.WideShapes Go.ChangeAt Go.RowKit
set_option linter.unusedVariables false
set_option linter.unusedSimpArgs false

end Go.Proofs.Ytpfhaocmcfnhnaa
namespace Go.Proofs.Ytpfhaocmcfnhnaa
open Go.ChangeShapes Go.WideShapes Go.ChangeAt Go.RowKit
set_option linter.unusedVariables false
set_option linter.unusedSimpArgs false

theorem size54 : (Try.prog.info? 109).map (·.size) = some 2 := by kernel_rfl
theorem zero54 : (Try.prog.info? 109).map (·.zero) = some (some (.agg #[.int .i64 0, .int .u64 0])) := by kernel_rfl
theorem D.rng {a b n d : Int} (ha : -1099511627776 ≤ a ∧ a ≤ 1099511627776) (hb : -1099511627776 ≤ b ∧ b ≤ 1099511627776) (h0 : 0 ≤ n) (h1 : n ≤ d) (h2 : 1 ≤ d) (h3 : d < 9223372036854775808) :
    M.ok (a * (d - n)) = true ∧ M.ok (b * n) = true ∧ M.ok (a * (d - n) + b * n) = true ∧ M.ok (D.wt a b n d) = true ∧ M.fits (D.wt a b n d) = true := by
  have e1 := M.mul_hi (A := 1099511627776) (B := 9223372036854775808) ha.1 ha.2 (show -9223372036854775808 ≤ d - n by omega) (show d - n ≤ 9223372036854775808 by omega)
  have e2 := M.mul_hi (A := 1099511627776) (B := 9223372036854775808) hb.1 hb.2 (show -9223372036854775808 ≤ n by omega) (show n ≤ 9223372036854775808 by omega)
  have e3 := D.wt_le ha hb ⟨h0, h1⟩ h2
  refine ⟨M.ok_iff.2 ?_, M.ok_iff.2 ?_, M.ok_iff.2 ?_, M.ok_iff.2 ?_, M.fits_iff.2 ?_⟩ <;> omega
theorem addZ {z y : Int} (oz : M.ok z = true) (oy : M.ok y = true) (os : M.ok (z + y) = true) (w : World) :
    Calls Try.prog 69 #[.agg #[.int .i64 (M.oh z), .int .u64 (M.ol z)], .agg #[.int .i64 (M.oh y), .int .u64 (M.ol y)]] w fun e w' => e = .returned (.tuple #[.agg #[.int .i64 (M.oh (z + y)), .int .u64 (M.ol (z + y))], .bool true]) ∧ Below w.heap.size w w' := by
  have := add_any _ _ _ _ (M.b_of z) (M.b_of y) w
  rwa [M.val_of oz, M.val_of oy, os] at this
theorem divZ {z d : Int} (oz : M.ok z = true) (d1 : 1 ≤ d) (d2 : d < 9223372036854775808) (w : World) :
    Calls Try.prog 71 #[.agg #[.int .i64 (M.oh z), .int .u64 (M.ol z)], .int .i64 d] w fun e w' => e = .returned (.tuple #[.agg #[.int .i64 (M.oh (z / d)), .int .u64 (M.ol (z / d))], .int .i64 (z % d), .bool true]) ∧ Below w.heap.size w w' := by
  have := div_yes _ _ d (M.b_of z) d1 d2 w
  rwa [M.val_of oz] at this
theorem smallZ {z : Int} (oz : M.ok z = true) (fz : M.fits z = true) (w : World) :
    Calls Try.prog 72 #[.agg #[.int .i64 (M.oh z), .int .u64 (M.ol z)]] w fun e w' => e = .returned (.tuple #[.int .i64 z, .bool true]) ∧ Below w.heap.size w w' := by
  have := small_any _ _ (M.b_of z) w
  rwa [M.val_of oz, M.smv_yes fz, fz] at this
theorem two_one {a b : Value} (ha : a.oneCell' = true) (hb : b.oneCell' = true) : ∀ v ∈ [a, b], v.oneCell' = true := by
  intro v hv
  simp only [List.mem_cons, List.not_mem_nil, or_false] at hv
  rcases hv with rfl | rfl
  · exact ha
  · exact hb
end Go.Proofs.Ytpfhaocmcfnhnaa
namespace Go.Proofs.Ytpfhaocmcfnhnaa
open Go.ChangeShapes Go.WideShapes Go.ChangeAt Go.RowKit
set_option linter.unusedVariables false
set_option linter.unusedSimpArgs false

theorem VM.mid_wt {p q n d : Int} (hd : 1 ≤ d) : VM.mid p q n d = D.wt p q (VM.cl n d) d := by
  unfold VM.mid VM.top D.wt
  rw [if_neg (by omega)]
end Go.Proofs.Ytpfhaocmcfnhnaa
namespace Go.Proofs.Ytpfhaocmcfnhnaa
open Go.ChangeShapes Go.WideShapes Go.ChangeAt Go.RowKit
set_option linter.unusedVariables false
set_option linter.unusedSimpArgs false

namespace VM
def okc (x : Int) : Bool := decide (0 ≤ x) && decide (x ≤ 255)
theorem okc_iff {x : Int} : okc x = true ↔ 0 ≤ x ∧ x ≤ 255 := by simp [okc]
def okv (x y z : Int) : Bool := decide (-268435456 ≤ x) && (decide (x ≤ 268435456) && (decide (-268435456 ≤ y) && (decide (y ≤ 268435456) && (decide (0 ≤ z) && decide (z ≤ 16777215)))))
def fit (v : Nat → Int) : Bool := okc (v 3) && (okc (v 4) && (okc (v 5) && (okc (v 6) && okv (v 0) (v 1) (v 2))))
theorem fit_lim {v : Nat → Int} (h : fit v = true) : (-268435456 ≤ v 0 ∧ v 0 ≤ 268435456) ∧ (-268435456 ≤ v 1 ∧ v 1 ≤ 268435456) ∧ (0 ≤ v 2 ∧ v 2 ≤ 16777215) ∧ ∀ i, i < 4 → 0 ≤ v (3 + i) ∧ v (3 + i) ≤ 255 := by
  simp only [fit, okv, Bool.and_eq_true, okc_iff, decide_eq_true_eq] at h
  refine ⟨by omega, by omega, by omega, fun i hi => ?_⟩
  rcases (by omega : i = 0 ∨ i = 1 ∨ i = 2 ∨ i = 3) with rfl | rfl | rfl | rfl
  · exact h.1
  · exact h.2.1
  · exact h.2.2.1
  · exact h.2.2.2.1
theorem fit_out {v : Nat → Int} {i : Nat} (hi : i < 4) (h : okc (v (3 + i)) = false) : fit v = false := by
  rcases (by omega : i = 0 ∨ i = 1 ∨ i = 2 ∨ i = 3) with rfl | rfl | rfl | rfl <;> simp only [fit] <;> rw [h] <;> simp
theorem fit_end {v : Nat → Int} (h : ∀ i, i < 4 → okc (v (3 + i)) = true) : fit v = okv (v 0) (v 1) (v 2) := by
  have h0 : okc (v 3) = true := h 0 (by omega)
  have h1 : okc (v 4) = true := h 1 (by omega)
  have h2 : okc (v 5) = true := h 2 (by omega)
  have h3 : okc (v 6) = true := h 3 (by omega)
  rw [fit, h0, h1, h2, h3]
  rfl
end VM
end Go.Proofs.Ytpfhaocmcfnhnaa
namespace Go.Proofs.Ytpfhaocmcfnhnaa
open Go.ChangeShapes Go.WideShapes Go.ChangeAt Go.RowKit
set_option linter.unusedVariables false
set_option linter.unusedSimpArgs false

theorem results_tmp_cell {fn : Func} {p u : Tmp} {ty : TypeId} (h : fn.results = #[.tmp u, .cell p ty]) (tmps : Array Value) (P : Program) (w : World) :
    (results fn tmps).run P w =
      ((asAddr (tmps.getD p undef)).run P w).andThen fun a w₁ => ((loadVar ty a).run P w₁).andThen fun v w₂ => .ok (.tuple #[tmps.getD u undef, v]) w₂ := by
  simp only [results, h]
  simp [Sem.run_bind, Result.andThen]
/-- Two results, the second one an array in a block of its own. -/
theorem res_t2 {w0 w : World} {bs : List (Nat × TypeId × List Value)} {P : Program} {fn : Func} {p u : Tmp} {t : TypeId} (h : fn.results = #[.tmp u, .cell p t]) {tmps : Array Value} (O : Own w0 w bs) (k : Nat) {g : Nat} {t' : TypeId} {cs : List Value} (hk : bs[k]? = some (g, t', cs))
    (hp : tmps.getD p undef = .pointer (some ⟨g, 0, none⟩)) {d : TypeDesc} (hu : P.underlying t = some d) (hd : (match d with | .struct _ | .array _ _ => true | _ => false) = true) (hi : (P.info? t).map (·.size) = some cs.length) {v : Value} (hv : tmps.getD u undef = v) :
    (results fn tmps).run P w = .ok (.tuple #[v, .agg cs.toArray]) w := by
  rw [results_tmp_cell h, hp]
  have := run_loadVar_row (P := P) w g t' t cs.toArray (0, 0) _ (O.blk k hk) hu hd (by simpa using hi)
  simp only [asAddr, Sem.run_pure, Result.andThen_ok, this, hv]
namespace VM
/-- The numbers of a color that stands between two. -/
def col (a b : Nat → Int) (n d : Int) (i : Nat) : Int := mid (a (3 + i)) (b (3 + i)) n d
def colk (a b : Nat → Int) (n d : Int) (k i : Nat) : Int := if i < k then col a b n d i else 0
theorem colk_step {a b : Nat → Int} {n d : Int} {k : Nat} (hk : k < 4) {m : Int} (hm : col a b n d k = m) : (M.mat 4 (colk a b n d k)).set k (.int .i64 m) = M.mat 4 (colk a b n d (k + 1)) := by
  refine M.mat_set_to hk ?_ fun j _ hj => ?_
  · rw [colk, if_pos (by omega), hm]
  · unfold colk
    by_cases h : j < k
    · rw [if_pos h, if_pos (by omega)]
    · rw [if_neg h, if_neg (by omega)]
theorem colk_end (a b : Nat → Int) (n d : Int) : M.mat 4 (colk a b n d 4) = M.mat 4 (col a b n d) := M.mat_ext fun i hi => by rw [colk, if_pos hi]
theorem colk_zero (a b : Nat → Int) (n d : Int) : M.mat 4 (colk a b n d 0) = M.mat 4 M.zero := M.mat_ext fun i hi => by rw [colk, if_neg (by omega)]; rfl
/-- What is asked of a vertex for the middles to be told. -/
def Lim (v : Nat → Int) : Prop := ∀ i, i < 7 → -1099511627776 ≤ v i ∧ v i ≤ 1099511627776
theorem lim_of {v : Nat → Int} (h : fit v = true) : Lim v := fun i hi => by
  obtain ⟨h0, h1, h2, h3⟩ := fit_lim h
  rcases (by omega : i = 0 ∨ i = 1 ∨ i = 2 ∨ 3 ≤ i) with rfl | rfl | rfl | h5
  · omega
  · omega
  · omega
  · have := h3 (i - 3) (by omega)
    rw [show 3 + (i - 3) = i by omega] at this
    omega
end VM
/-- How a depth and a color are handed back. -/
def RetZ (w : World) (z : Int) (c : Nat → Int) (e : Ending) (w' : World) : Prop := e = .returned (.tuple #[.int .i64 z, arr 4 c]) ∧ Below w.heap.size w w'
end Go.Proofs.Ytpfhaocmcfnhnaa
namespace Go.Proofs.Ytpfhaocmcfnhnaa
open Go.ChangeShapes Go.WideShapes Go.ChangeAt Go.RowKit
set_option linter.unusedVariables false
set_option linter.unusedSimpArgs false

end Go.Proofs.Ytpfhaocmcfnhnaa
