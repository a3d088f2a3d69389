/-
  WHAT THE ROWS LIST GIVES A WALK; calls with fixed numbers. Conditions: sizes; the package's errors stand where they were laid.
-/
import Derived.Test.YtjkobbpebnkimaaGreatDoorTell
import Derived.Test.YtjkobbpebnkimaaGreatDoorRows
import Derived.Stop.LaidTwo
import Derived.LaidMore
import Derived.Lib.LaidTab
import Derived.LaidHandle
import Derived.SevenTiedAt
import Derived.Test.YtjkobbpebnkimaaGreatDoorApi
namespace Go.Proofs.YtjkobbpebnkimaaGreatDoor
section
set_option maxRecDepth 100000
open Go.RowKit Go.ChangeShapes Go.WideShapes
set_option linter.unusedVariables false

/-- the powers of ten that a uint64 holds -/
def pow10 : List Int := (List.range 20).map fun i => (10 : Int) ^ i
/-- what the rows list -/
abbrev listed : List (String × DataW Unit) := [("math/bits.deBruijn32tab", Rows.laid_math_bits_deBruijn32tab), ("math/bits.deBruijn64tab", Rows.laid_math_bits_deBruijn64tab), ("internal/strconv.uint64pow10", Rows.laid_internal_strconv_uint64pow10), ("errors.errorType", Rows.laid_errors_errorType), ("tapewright/rat.errForm", Rows.laid_tapewright_rat_errForm), ("tapewright/rat.errZero", Rows.laid_tapewright_rat_errZero)]

theorem door_met (os : Os) (args : Array Value) : laidMetH Tryz.prog listed ((World.doorLaid Tryz.prog 400 os).forCall (fun _ _ => 0) ⟨#[], args, []⟩).memory :=
  laidMetH_of_parts3 (fuel := 8) (laidMet_of_run' 8 (by kernel_rfl) (by kernel_rfl)) (by kernel_rfl) (by kernel_rfl)

theorem door_shaped (os : Os) (args : Array Value) : World.Shaped Tryz.prog ((World.doorLaid Tryz.prog 400 os).forCall (fun _ _ => 0) ⟨#[], args, []⟩) :=
  World.shaped_of_RefB (by kernel_rfl) (by kernel_rfl)
theorem stand9 : Tryz.prog.wantsStandIn 9 = false := by kernel_rfl
theorem stand5 : Tryz.prog.wantsStandIn 5 = false := by kernel_rfl
theorem stand3 : Tryz.prog.wantsStandIn 3 = false := by kernel_rfl

theorem star_is : "*" ++ "errors.errorString" = "*errors.errorString" := by decide
theorem row_ptr (u : TypeId) (h : Tryz.prog.typeName? 3 u = some "*errors.errorString") : u = 208 :=
  typeName_ptr_named (nm := "errors.errorString") (by rw [star_is]; kernel_rfl) (by kernel_rfl) (by decide) u (by rw [star_is]; exact h)

theorem er_of {W : World} (h : laidMetH Tryz.prog listed W) : ∃ aF aZ, Er W aF aZ := by
  have h' : laidMet Tryz.prog [("math/bits.deBruijn32tab", Rows.laid_math_bits_deBruijn32tab), ("math/bits.deBruijn64tab", Rows.laid_math_bits_deBruijn64tab), ("internal/strconv.uint64pow10", Rows.laid_internal_strconv_uint64pow10), ("tapewright/rat.errForm", Rows.laid_tapewright_rat_errForm), ("tapewright/rat.errZero", Rows.laid_tapewright_rat_errZero)] W ∧ handlesMet Tryz.prog [("errors.errorType", Rows.laid_errors_errorType)] W := h
  obtain ⟨hl5, hh⟩ := h'
  have hl3 := hl5.tail.tail
  have hl := hl3.tail
  have gP : Tryz.prog.globalNamed "internal/strconv.uint64pow10" = some 4 := by kernel_rfl
  have tP : (Tryz.prog.globals[4]?).map (·.type) = some 189 := by kernel_rfl
  have c189 : Tryz.prog.cellsOf 189 = 20 := by kernel_rfl
  have cE : Tryz.prog.cellsOf 151 = 1 := by kernel_rfl
  have hP := Lib.tabIs_of_head (k := .u64) (zs := pow10) gP tP Tryz.underlying189 Tryz.underlying151 cE c189 hl3
  have hP0 := hP.cell gP 0 (by decide)
  have gF : Tryz.prog.globalNamed "tapewright/rat.errForm" = some 0 := by kernel_rfl
  have gZ : Tryz.prog.globalNamed "tapewright/rat.errZero" = some 1 := by kernel_rfl
  have gT : Tryz.prog.globalNamed "errors.errorType" = some 2 := by kernel_rfl
  have tF : (Tryz.prog.globals[0]?).map (·.type) = some 85 := by kernel_rfl
  have tZ : (Tryz.prog.globals[1]?).map (·.type) = some 85 := by kernel_rfl
  have c182 : Tryz.prog.cellsOf 226 = 1 := by kernel_rfl
  have c9 : Tryz.prog.cellsOf 9 = 1 := by kernel_rfl
  obtain ⟨a0, a1, s0, s1, c0, c1, t0, t1, hv0, hv1, hc0, hs0, hz0, hc1, hs1, hz1, hne, hb0, hb1⟩ := laid_sentinels2 hl gF tF gZ tZ Tryz.underlying85 row_ptr Tryz.underlying208 Tryz.underlying226 rfl rfl Tryz.underlying9 c182 c9
  obtain ⟨name, u, ty, e1, e2, e3, e4, e5⟩ := hh _ (List.mem_singleton.2 rfl)
  have en : name = [101, 114, 114, 111, 114] := (Option.some.inj e1).symm
  subst en
  obtain rfl := Option.some.inj ((show (Tryz.prog.cutTypes.find? (·.1 == "internal/reflectlite.rtype")).map (·.2) = some 158 by kernel_rfl).symm.trans e2)
  have hsz : Tryz.prog.types.size = 238 := by kernel_rfl
  have hone : ((List.range 238).filter fun t => Tryz.prog.rowNamed t [101, 114, 114, 111, 114]) = [85] := by kernel_rfl
  have hm : ty ∈ (List.range 238).filter fun t => Tryz.prog.rowNamed t [101, 114, 114, 111, 114] := List.mem_filter.2 ⟨List.mem_range.2 (by rw [← hsz]; exact e3), e4⟩
  rw [hone] at hm
  obtain rfl := List.mem_singleton.1 hm
  have hty : typeHandle Tryz.prog 85 = .pointer (some ⟨7, 85, none⟩) := by kernel_rfl
  rw [hty] at e5
  exact ⟨a0, a1, by simpa using World.var?_cell gF hv0 0, by simpa using World.var?_cell gZ hv1 0, by simpa using World.var?_cell gT e5 0, hP0, hne, ⟨c0, t0, hb0⟩, ⟨c1, t1, hb1⟩⟩
end
end Go.Proofs.YtjkobbpebnkimaaGreatDoor
namespace Go.Proofs.YtjkobbpebnkimaaGreatDoor
section
set_option maxRecDepth 100000
open Go.RowKit Nm
set_option linter.unusedVariables false

/-- short enough, and a rational -/
def okr (s : ByteArray) : Bool := decide (s.size ≤ 50) && ra s
theorem okr_R {r : Rat} (h : (R r).size ≤ 50) : okr (R r) = true := by unfold okr; rw [ra_R, decide_eq_true h]; rfl
theorem okr_of {s : ByteArray} (h : okr s = true) : ∃ r, s = R r ∧ (R r).size ≤ 50 := by
  unfold okr at h
  rw [Bool.and_eq_true, decide_eq_true_eq] at h
  obtain ⟨r, rfl⟩ := R_of h.2
  exact ⟨r, rfl, h.1⟩

theorem lit12 : R (1 / 2) = ⟨#[49, 47, 50]⟩ := by decide +kernel
theorem lit13 : R (1 / 3) = ⟨#[49, 47, 51]⟩ := by decide +kernel
theorem lit56 : R (1 / 2 + 1 / 3) = ⟨#[53, 47, 54]⟩ := by decide +kernel
theorem lit46 : R (by' 4 (-6)) = ⟨#[45, 50, 47, 51]⟩ := by decide +kernel
theorem lit73 : R (-7 / 3) = ⟨#[45, 55, 47, 51]⟩ := by decide +kernel
theorem lit4 : W 4 = ⟨#[52]⟩ := by decide +kernel
theorem lit6 : W (-6) = ⟨#[45, 54]⟩ := by decide +kernel
theorem lit24 : ra ⟨#[50, 47, 52]⟩ = false := by decide +kernel

end
end Go.Proofs.YtjkobbpebnkimaaGreatDoor
namespace Go.Proofs.YtjkobbpebnkimaaGreatDoor
section
set_option maxRecDepth 100000
open Go.RowKit Nm
set_option linter.unusedVariables false

theorem sz_of {r : Rat} {n : Nat} (h : Bd r n) (hn : 2 * n + 2 ≤ 50000) : (R r).size ≤ 50000 := by
  have := R_size r; have := h.1; have := h.2; omega
theorem l0 : R 0 = ⟨#[48]⟩ := by decide +kernel
theorem l1 : R 1 = ⟨#[49]⟩ := by decide +kernel
theorem l2 : R 2 = ⟨#[50]⟩ := by decide +kernel
theorem b0 : Bd 0 1 := by constructor <;> decide +kernel
theorem b1 : Bd 1 1 := by constructor <;> decide +kernel
theorem b2 : Bd 2 1 := by constructor <;> decide +kernel
theorem s0 : (R 0).size ≤ 50000 := by rw [l0]; decide
theorem s1' : (R 1).size ≤ 50000 := by rw [l1]; decide
theorem s2' : (R 2).size ≤ 50000 := by rw [l2]; decide
theorem nr0 {x : Rat} (h : x ≠ 0) : ((R x).toList == [48]) = false := by
  have := eqR h; rw [l0, toList_data ⟨#[48]⟩] at this; exact this
theorem two_ne : (2 : Rat) ≠ 0 := by decide +kernel
theorem one_ne : (1 : Rat) ≠ 0 := by decide +kernel
theorem Mul_1 (x : Rat) (w : World) (h : (R x).size ≤ 50000) : Calls Tryz.prog 50 #[.string (R x), .string ⟨#[49]⟩] w fun e w' => e = .returned (.tuple #[.string (R x), .int .i64 0]) ∧ Below w.heap.size w w' := by
  have := Mul_R x 1 w h s1'; rw [l1, Rat.mul_one] at this; exact this
theorem Add_0 (x : Rat) (w : World) (h : (R x).size ≤ 50000) : Calls Tryz.prog 51 #[.string ⟨#[48]⟩, .string (R x)] w fun e w' => e = .returned (.tuple #[.string (R x), .int .i64 0]) ∧ Below w.heap.size w w' := by
  have := Add_R 0 x w s0 h; rw [l0, Rat.zero_add] at this; exact this
theorem Sub_same (x : Rat) (w : World) (h : (R x).size ≤ 50000) : Calls Tryz.prog 67 #[.string (R x), .string (R x)] w fun e w' => e = .returned (.tuple #[.string ⟨#[48]⟩, .int .i64 0]) ∧ Below w.heap.size w w' := by
  have := Sub_R x x w h h; rw [show x - x = 0 from by grind, l0] at this; exact this
theorem u8_mod {n : Int} (h : (Lit.int .u8 n).wf = true) : ∃ i : Nat, i ≤ 3 ∧ wrap64 (n.tmod 4) = (i : Int) := by
  have hn : 0 ≤ n ∧ n ≤ 255 := by
    have h1 : IntKind.u8.min = 0 := by decide
    have h2 : IntKind.u8.max = 255 := by decide
    have h : (decide (IntKind.u8.min ≤ n) && decide (n ≤ IntKind.u8.max)) = true := h
    rw [h1, h2, Bool.and_eq_true, decide_eq_true_eq, decide_eq_true_eq] at h
    exact h
  obtain ⟨m, rfl⟩ : ∃ m : Nat, n = m := ⟨n.toNat, by omega⟩
  refine ⟨m % 4, by omega, ?_⟩
  have e : ((m : Int)).tmod 4 = ((m % 4 : Nat) : Int) := by
    rw [Int.tmod_eq_emod_of_nonneg (by omega)]; omega
  rw [e]
  have : m % 4 ≤ 3 := by omega
  generalize m % 4 = k at *
  unfold wrap64
  omega
theorem bp {x : Rat} (h : (R x).size ≤ 50) (k : Nat) (hk : k ≤ 6) : (R (x ^ k)).size ≤ 50000 := by
  have t1 := tl_pow x.num.natAbs k 50 (Bd.of_size h).1 (by omega)
  have t2 := tl_pow x.den k 50 (Bd.of_size h).2 (by omega)
  have : k * 50 ≤ 6 * 50 := Nat.mul_le_mul_right _ hk
  have := R_size (x ^ k)
  rw [Rat.num_pow, Rat.den_pow, Int.natAbs_pow] at this
  omega
end
end Go.Proofs.YtjkobbpebnkimaaGreatDoor
