/-
  SMALL THINGS OF LISTS AND CELLS. Conditions: each theorem's own.
-/
import Derived.Test.YtadgnafafdfioaaGreatDoorGm
import Derived.Test.YtadgnafafdfioaaGreatDoorRows
import Derived.Test.YtadgnafafdfioaaGreatDoorSp
import Derived.Test.YtadgnafafdfioaaGreatDoorTs
import Derived.Maps.Own
import Derived.Lib.SliceRun
namespace Go.Proofs.YtadgnafafdfioaaGreatDoor.Gr
open Go.Proofs.YtadgnafafdfioaaGreatDoor.Rd
set_option maxRecDepth 100000
open Go.RowKit
set_option linter.unusedVariables false
set_option linter.unusedSimpArgs false

theorem row_s {w : World} {bo : Option Addr} {xs : List ByteArray} (h : Row w bo (txts xs)) {i : Nat} (hi : i < xs.length) : ∃ b off, bo = some ⟨b, off, none⟩ ∧ w.cell? ⟨b, off + i, none⟩ = some (.string (xs.getD i em)) := h i _ (txts_at hi)
theorem all_y {p : ByteArray → Bool} {xs : List ByteArray} (h : ∀ i, i < xs.length → p (xs.getD i em) = true) : xs.all p = true := by
  rw [List.all_eq_true]
  intro x hx
  obtain ⟨i, hi, rfl⟩ := List.getElem_of_mem hx
  have := h i hi
  rw [List.getD_eq_getElem?_getD, List.getElem?_eq_getElem hi] at this
  exact this
theorem all_n {p : ByteArray → Bool} {xs : List ByteArray} {i : Nat} (hi : i < xs.length) (h : p (xs.getD i em) = false) : xs.all p = false := by
  rw [List.all_eq_false]
  rw [List.getD_eq_getElem?_getD, List.getElem?_eq_getElem hi] at h
  have h' : p xs[i] = false := h
  exact ⟨xs[i], List.getElem_mem hi, by rw [h']; decide⟩
/-- what Shape tells -/
def Shp (w' : World) (o : Option (List Int)) (e : Ending) : Prop :=
  match o with
  | some s => ∃ a c, e = .returned (.tuple #[.slice a s.length c, .bool true]) ∧ Sp.Sl w' a s
  | none => ∃ a n c, e = .returned (.tuple #[.slice a n c, .bool false])
/-- a value and true, or nothing and false -/
def Cst (b : Bool) (v : Value) (e : Ending) : Prop :=
  match b with
  | true => e = .returned (.tuple #[v, .bool true])
  | false => ∃ a n c, e = .returned (.tuple #[.slice a n c, .bool false])
theorem Cst.yes {b : Bool} {v : Value} {e : Ending} (hb : b = true) (h : e = .returned (.tuple #[v, .bool true])) : Cst b v e := by subst hb; exact h
theorem Cst.no {b : Bool} {v : Value} {e : Ending} (hb : b = false) (h : ∃ a n c, e = .returned (.tuple #[.slice a n c, .bool false])) : Cst b v e := by subst hb; exact h
theorem bl_n {B : Nat} {w v : World} (h : Below B w v) (n : Nat) : Below B w (v.drewN n) := h.trans ⟨rfl, rfl, rfl, Nat.le_refl _, fun _ _ => rfl⟩
theorem sl_two (v : World) (x y : Int) : Sp.Sl (v.alloc (.cells #[.int .i64 x, .int .i64 y] 3)) (some ⟨v.heap.size, 0, none⟩) [x, y] := by
  refine Sp.Sl.mk fun i hi => ?_
  rw [World.cell?_alloc_new]
  have hi' : i < 2 := hi
  have : i = 0 ∨ i = 1 := by omega
  rcases this with rfl | rfl <;> rfl
end Go.Proofs.YtadgnafafdfioaaGreatDoor.Gr
/-
  SLICES OF NUMBERS: equal, copied. Conditions: each theorem's own.
-/
namespace Go.Proofs.YtadgnafafdfioaaGreatDoor.Sp
section
set_option maxRecDepth 100000
open Go.RowKit
set_option linter.unusedVariables false

set_option maxHeartbeats 1000000 in
theorem equal_any (a1 a2 : Option Addr) (xs ys : List Int) (c1 c2 : Nat) (w : World) (hl1 : xs.length ≤ 1000) (hl2 : ys.length ≤ 1000) (hS : Sl w a1 xs) (hT : Sl w a2 ys) :
    Calls Tryz.prog 34 #[.slice a1 xs.length c1, .slice a2 ys.length c2] w fun e w' => e = .returned (.bool (decide (xs = ys))) ∧ Sm w w' := by
  by_cases h0 : xs.length = ys.length
  · have hb : ((xs.length : Int) != ys.length) = false := by simp [h0]
    obtain ⟨n, hn⟩ : ∃ n, xs.length = n := ⟨_, rfl⟩
    have hm : ys.length = n := by omega
    have HN : Hid (xs.length = n ∧ ys.length = n) := ⟨hn, hm⟩
    have HS : Hid (Sl w a1 xs) := hS
    have HT : Hid (Sl w a2 ys) := hT
    rw [hn] at hl1
    rw [hn, hm]
    clear hn hm hS hT hl2 h0 hb
    go_enter Tryz.func34, Tryz.ntmps34
    go_wp2
    go_loopw [5, 13] (fun _ i wr => ∃ k : Nat, k ≤ n ∧ i = .int .i64 k ∧ (∀ j, j < k → xs.getD j 0 = ys.getD j 0) ∧ Sm w wr) (fun _ i _ => n - (intOf i).toNat)
    case atStart => exact ⟨0, by omega, rfl, fun j hj => by omega, Sm.refl _⟩
    case round =>
      obtain ⟨k, hk, rfl, hj, hs⟩ := hrel
      have HJ : Hid (∀ j, j < k → xs.getD j 0 = ys.getD j 0) := hj
      clear hj
      by_cases h : k < n
      · obtain ⟨b, off, rfl, hc⟩ := HS.out k (by rw [HN.out.1]; exact h)
        obtain ⟨b', off', rfl, hd⟩ := HT.out k (by rw [HN.out.2]; exact h)
        obtain ⟨x, hx⟩ : ∃ z, xs.getD k 0 = z := ⟨_, rfl⟩
        obtain ⟨y, hy⟩ : ∃ z, ys.getD k 0 = z := ⟨_, rfl⟩
        rw [hx, ← hs.cell] at hc
        rw [hy, ← hs.cell] at hd
        have HX : Hid (xs.getD k 0 = x ∧ ys.getD k 0 = y) := ⟨hx, hy⟩
        clear hx hy
        by_cases he : x = y
        · subst he
          go_wp2
          go_region
          go_wp2
          go_roundw
          case rel =>
            refine ⟨k + 1, by omega, by go_num, fun j hj => ?_, hs.trans (Sm.drew _)⟩
            by_cases e : j = k
            · rw [e, HX.out.1, HX.out.2]
            · exact HJ.out j (by omega)
          case measure => simp [intOf]; omega
        · have hne : (x != y) = true := by simp [he]
          go_wp2
          go_region
          go_wp2
          go_ret
          refine ⟨ret_bool ?_, hs.trans (Sm.drew _)⟩
          have : ¬ xs = ys := fun c => he (by rw [← HX.out.1, ← HX.out.2, c])
          simp [this]
      · go_wp2
        go_ret
        refine ⟨ret_bool ?_, hs⟩
        have : xs = ys := getD_ext (by rw [HN.out.1, HN.out.2]) (fun i hi => HJ.out i (by rw [HN.out.1] at hi; omega))
        simp [this]
  · have hb : ((xs.length : Int) != ys.length) = true := by simp; omega
    have hne : ¬ xs = ys := fun c => h0 (by rw [c])
    rw [decide_eq_false hne]
    clear hne h0
    go_enter Tryz.func34, Tryz.ntmps34
    go_wp2
    go_ret
    exact ⟨rfl, Sm.refl _⟩

set_option maxHeartbeats 400000 in
theorem same_any (a1 a2 : Option Addr) (xs ys : List Int) (c1 c2 : Nat) (w : World) (hl1 : xs.length ≤ 1000) (hl2 : ys.length ≤ 1000) (hS : Sl w a1 xs) (hT : Sl w a2 ys) :
    Calls Tryz.prog 17 #[.slice a1 xs.length c1, .slice a2 ys.length c2] w fun e w' => e = .returned (.bool (decide (xs = ys))) ∧ Sm w w' := by
  have hc := equal_any a1 a2 xs ys c1 c2 w hl1 hl2 hS hT
  generalize decide (xs = ys) = d at hc ⊢
  go_enter Tryz.func17, Tryz.ntmps17
  go_wp2_with fail
  refine hc.mono ?_
  rintro e w1 ⟨rfl, hs⟩
  have HS : Hid (Sm w w1) := hs
  clear hs
  go_wp2
  go_ret
  exact ⟨rfl, HS.out⟩

end
end Go.Proofs.YtadgnafafdfioaaGreatDoor.Sp
namespace Go.Proofs.YtadgnafafdfioaaGreatDoor.Tn
section
set_option maxRecDepth 100000
open Go.RowKit Nm
set_option linter.unusedVariables false

/-- an address that was made behind block B -/
def Fresh (B : Nat) (ao : Option Addr) : Prop := ∀ b off sp, ao = some ⟨b, off, sp⟩ → B ≤ b
/-- numbers, as cells -/
def nums (zs : List Int) : List Value := zs.map (Value.int .i64)
theorem nums_len (zs : List Int) : (nums zs).length = zs.length := by simp [nums]
theorem nums_one (zs : List Int) : ∀ u ∈ nums zs, u.oneCell' = true := by
  intro u hu
  obtain ⟨i, _, rfl⟩ := List.mem_map.1 hu
  rfl
theorem row_of_sl {w : World} {ao : Option Addr} {zs : List Int} (h : Sp.Sl w ao zs) : Row w ao (nums zs) := by
  intro i v hi
  have hlt : i < zs.length := by have := (List.getElem?_eq_some_iff.1 hi).1; rwa [nums_len] at this
  obtain ⟨b, off, e, hc⟩ := h i hlt
  refine ⟨b, off, e, ?_⟩
  simp only [nums, List.getElem?_map, List.getElem?_eq_getElem hlt, Option.map_some] at hi
  cases hi
  rw [hc]; simp [List.getD, hlt]
theorem row_sl {w : World} {ao : Option Addr} {zs : List Int} (h : Row w ao (nums zs)) : Sp.Sl w ao zs := by
  intro i hi
  obtain ⟨b, off, e, hc⟩ := h i (.int .i64 (zs.getD i 0)) (by simp [nums, List.getD, hi])
  exact ⟨b, off, e, hc⟩

theorem inf3 : (Tryz.prog.info? 3).map (fun i => (i.zero, i.size, i.bytes)) = some (some (.int .i64 0), 1, 8) := by kernel_rfl

set_option maxHeartbeats 1000000 in
theorem clone_any (ao : Option Addr) (zs : List Int) (c : Nat) (w : World) (hl : zs.length ≤ 1000) (hS : Sp.Sl w ao zs) :
    Calls Tryz.prog 23 #[.slice ao zs.length c] w fun e w' => ∃ a1 c1, e = .returned (.slice a1 zs.length c1) ∧ Sp.Sl w' a1 zs ∧ Fresh w.heap.size a1 ∧ w'.ownsRow w.heap.size 3 1 (.slice a1 zs.length c1) zs.length (nums zs) ∧ Below w.heap.size w w' := by
  obtain ⟨i0, hi, hz0, hz1, hz2⟩ := info_parts inf3
  cases ao with
  | none =>
    have e0 : zs = [] := by
      cases zs with
      | nil => rfl
      | cons a l => obtain ⟨b, off, e, _⟩ := hS 0 (by simp); cases e
    subst e0
    clear hS hl
    have hnil := fun (w : World) => Lib.run_eql_slice_nil (P := Tryz.prog) w 25 3 none 0 c 0 0 Tryz.underlying25
    go_enter Tryz.func23, Tryz.ntmps23
    go_wp2
    go_ret
    exact ⟨none, 0, rfl, Sp.Sl.nil _ _, (fun b off sp h => by cases h), World.ownsRow_nil _ _ 3 1, Below.refl _ _⟩
  | some ad =>
    have hR := row_of_sl hS
    have m2 : (w.alloc (.cells #[] 3)).ownsRow w.heap.size 3 1 (.slice (some ⟨w.heap.size, 0, none⟩) 0 0) 0 [] := World.ownsRow_made w #[] 0 (Nat.le_refl _) (by simp) (by simp)
    have hR2 : Row (w.alloc (.cells #[] 3)) (some ad) (nums zs) := hR.below ((Below.refl _ _).alloc (Nat.le_refl _) _)
    have hnl := nums_len zs
    obtain ⟨n, hn⟩ : ∃ n, zs.length = n := ⟨_, rfl⟩
    rw [hn] at hl hnl ⊢
    clear hS hR
    have hnil := fun (w : World) => Lib.run_eql_slice_nil (P := Tryz.prog) w 25 3 (some ad) n c 0 0 Tryz.underlying25
    go_enter Tryz.func23, Tryz.ntmps23
    go_wp2_with (first | (at_builtin; refine wpList_append_row _ _ 25 rfl w.heap.size 3 i0 (.int .i64 0) 8 Tryz.underlying25 hi hz0 hz1 hz2 rfl _ 0 [] rfl m2 (some ad) n c (nums zs) rfl hnl hR2 (nums_one zs) (fun h => by cases h) (by unfold maxLen; omega) (by omega) (by simp) (by first | rfl | go_simp) ?_))
    intro v w4 hown hgrow
    have hB4 : Below w.heap.size w w4 := ((Below.refl _ _).alloc (Nat.le_refl _) _).grown hgrow (by simp) (fun k h => by simp [Value.ownBlock] at h; omega)
    have hown' : w4.ownsRow w.heap.size 3 1 v n (nums zs) := by simpa using hown
    obtain ⟨a1, c1, rfl, hR4, _, _, _, hfr⟩ := Row.of_own hown'
    have HO : Hid _ := hown'
    have HF : Hid (Fresh w.heap.size a1) := fun b off sp h => (hfr b off sp h).2.1
    have HB : Hid _ := hB4
    have HR : Hid _ := hR4
    clear hB4 hR4 hown hown' hgrow hR2 m2 hfr
    go_wp2
    go_ret
    exact ⟨a1, c1, rfl, row_sl HR.out, HF.out, HO.out, HB.out⟩
theorem inf9s : (Tryz.prog.info? 9).map (fun i => (i.zero, i.size, i.bytes)) = some (some (.string ⟨#[]⟩), 1, 16) := by kernel_rfl
theorem sclone_any (ao : Option Addr) (xs : List ByteArray) (c : Nat) (w : World) (hl : xs.length ≤ 1000000) (hS : Row w ao (txts xs)) :
    Calls Tryz.prog 66 #[.slice ao xs.length c] w fun e w' => ∃ v, e = .returned v ∧ w'.ownsRow w.heap.size 9 1 v xs.length (txts xs) ∧ Below w.heap.size w w' := by
  obtain ⟨i0, hi, hz0, hz1, hz2⟩ := info_parts inf9s
  cases ao with
  | none =>
    have e0 : xs = [] := by
      cases xs with
      | nil => rfl
      | cons a l => obtain ⟨b, off, e, _⟩ := hS 0 (.string a) rfl; cases e
    subst e0
    clear hS hl
    have hnil := fun (w : World) => Lib.run_eql_slice_nil (P := Tryz.prog) w 26 9 none 0 c 0 0 Tryz.underlying26
    go_enter Tryz.func66, Tryz.ntmps66
    go_wp2
    go_ret
    exact ⟨_, rfl, World.ownsRow_nil w _ 9 1, Below.refl _ _⟩
  | some ad =>
    have m2 : (w.alloc (.cells #[] 9)).ownsRow w.heap.size 9 1 (.slice (some ⟨w.heap.size, 0, none⟩) 0 0) 0 [] := World.ownsRow_made w #[] 0 (Nat.le_refl _) (by simp) (by simp)
    have hR2 : Row (w.alloc (.cells #[] 9)) (some ad) (txts xs) := hS.below ((Below.refl _ _).alloc (Nat.le_refl _) _)
    have hnl := txts_len xs
    obtain ⟨n, hn⟩ : ∃ n, xs.length = n := ⟨_, rfl⟩
    rw [hn] at hl hnl ⊢
    clear hS
    have hnil := fun (w : World) => Lib.run_eql_slice_nil (P := Tryz.prog) w 26 9 (some ad) n c 0 0 Tryz.underlying26
    go_enter Tryz.func66, Tryz.ntmps66
    go_wp2_with (first | (at_builtin; refine wpList_append_row _ _ 26 rfl w.heap.size 9 i0 (.string ⟨#[]⟩) 16 Tryz.underlying26 hi hz0 hz1 hz2 rfl _ 0 [] rfl m2 (some ad) n c (txts xs) rfl hnl hR2 (txts_one xs) (fun h => by cases h) (by unfold maxLen; omega) (by omega) (by simp) (by first | rfl | go_simp) ?_))
    intro v w4 hown hgrow
    have hB4 : Below w.heap.size w w4 := ((Below.refl _ _).alloc (Nat.le_refl _) _).grown hgrow (by simp) (fun k h => by simp [Value.ownBlock] at h; omega)
    have hown' : w4.ownsRow w.heap.size 9 1 v n (txts xs) := by simpa using hown
    clear hown hgrow m2 hR2
    go_wp2
    go_ret
    exact ⟨_, rfl, hown', hB4⟩
end
end Go.Proofs.YtadgnafafdfioaaGreatDoor.Tn
