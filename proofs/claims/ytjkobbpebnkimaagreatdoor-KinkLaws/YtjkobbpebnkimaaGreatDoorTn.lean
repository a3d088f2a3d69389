/-
  TENSORS IN MEMORY: slices of numbers copied; the map of operations; one's own rows of texts. Conditions: each theorem's own.
-/
import Derived.Test.YtjkobbpebnkimaaGreatDoorRows
import Derived.Test.YtjkobbpebnkimaaGreatDoorSp
import Derived.Test.YtjkobbpebnkimaaGreatDoorTs
import Derived.Maps.Own
import Derived.Lib.SliceRun
namespace Go.Proofs.YtjkobbpebnkimaaGreatDoor.Tn
section
set_option maxRecDepth 100000
open Go.RowKit Nm
set_option linter.unusedVariables false

/-- an address that was made behind block B -/
def Fresh (B : Nat) (ao : Option Addr) : Prop := ∀ b off sp, ao = some ⟨b, off, sp⟩ → B ≤ b
/-- numbers, as cells -/
def nums (zs : List Int) : List Value := zs.map (Value.int .i64)
theorem nums_len (zs : List Int) : (nums zs).length = zs.length := by simp [nums]
theorem nums_one (zs : List Int) : ∀ u ∈ nums zs, u.oneCell' = true := by
  intro u hu
  obtain ⟨i, _, rfl⟩ := List.mem_map.1 hu
  rfl
theorem row_of_sl {w : World} {ao : Option Addr} {zs : List Int} (h : Sp.Sl w ao zs) : Row w ao (nums zs) := by
  intro i v hi
  have hlt : i < zs.length := by have := (List.getElem?_eq_some_iff.1 hi).1; rwa [nums_len] at this
  obtain ⟨b, off, e, hc⟩ := h i hlt
  refine ⟨b, off, e, ?_⟩
  simp only [nums, List.getElem?_map, List.getElem?_eq_getElem hlt, Option.map_some] at hi
  cases hi
  rw [hc]; simp [List.getD, hlt]
theorem row_sl {w : World} {ao : Option Addr} {zs : List Int} (h : Row w ao (nums zs)) : Sp.Sl w ao zs := by
  intro i hi
  obtain ⟨b, off, e, hc⟩ := h i (.int .i64 (zs.getD i 0)) (by simp [nums, List.getD, hi])
  exact ⟨b, off, e, hc⟩

theorem inf3 : (Tryz.prog.info? 3).map (fun i => (i.zero, i.size, i.bytes)) = some (some (.int .i64 0), 1, 8) := by kernel_rfl

set_option maxHeartbeats 1000000 in
theorem clone_any (ao : Option Addr) (zs : List Int) (c : Nat) (w : World) (hl : zs.length ≤ 1000) (hS : Sp.Sl w ao zs) :
    Calls Tryz.prog 69 #[.slice ao zs.length c] w fun e w' => ∃ a1 c1, e = .returned (.slice a1 zs.length c1) ∧ Sp.Sl w' a1 zs ∧ Fresh w.heap.size a1 ∧ Below w.heap.size w w' := by
  obtain ⟨i0, hi, hz0, hz1, hz2⟩ := info_parts inf3
  cases ao with
  | none =>
    have e0 : zs = [] := by
      cases zs with
      | nil => rfl
      | cons a l => obtain ⟨b, off, e, _⟩ := hS 0 (by simp); cases e
    subst e0
    clear hS hl
    have hnil := fun (w : World) => Lib.run_eql_slice_nil (P := Tryz.prog) w 22 3 none 0 c 0 0 Tryz.underlying22
    go_enter Tryz.func69, Tryz.ntmps69
    go_wp2
    go_ret
    exact ⟨none, 0, rfl, Sp.Sl.nil _ _, (fun b off sp h => by cases h), Below.refl _ _⟩
  | some ad =>
    have hR := row_of_sl hS
    have m2 : (w.alloc (.cells #[] 3)).ownsRow w.heap.size 3 1 (.slice (some ⟨w.heap.size, 0, none⟩) 0 0) 0 [] := World.ownsRow_made w #[] 0 (Nat.le_refl _) (by simp) (by simp)
    have hR2 : Row (w.alloc (.cells #[] 3)) (some ad) (nums zs) := hR.below ((Below.refl _ _).alloc (Nat.le_refl _) _)
    have hnl := nums_len zs
    obtain ⟨n, hn⟩ : ∃ n, zs.length = n := ⟨_, rfl⟩
    rw [hn] at hl hnl ⊢
    clear hS hR
    have hnil := fun (w : World) => Lib.run_eql_slice_nil (P := Tryz.prog) w 22 3 (some ad) n c 0 0 Tryz.underlying22
    go_enter Tryz.func69, Tryz.ntmps69
    go_wp2_with (first | (at_builtin; refine wpList_append_row _ _ 22 rfl w.heap.size 3 i0 (.int .i64 0) 8 Tryz.underlying22 hi hz0 hz1 hz2 rfl _ 0 [] rfl m2 (some ad) n c (nums zs) rfl hnl hR2 (nums_one zs) (fun h => by cases h) (by unfold maxLen; omega) (by omega) (by simp) (by first | rfl | go_simp) ?_))
    intro v w4 hown hgrow
    have hB4 : Below w.heap.size w w4 := ((Below.refl _ _).alloc (Nat.le_refl _) _).grown hgrow (by simp) (fun k h => by simp [Value.ownBlock] at h; omega)
    have hown' : w4.ownsRow w.heap.size 3 1 v n (nums zs) := by simpa using hown
    obtain ⟨a1, c1, rfl, hR4, _, _, _, hfr⟩ := Row.of_own hown'
    have HF : Hid (Fresh w.heap.size a1) := fun b off sp h => (hfr b off sp h).2.1
    have HB : Hid _ := hB4
    have HR : Hid _ := hR4
    clear hB4 hR4 hown hown' hgrow hR2 m2 hfr
    go_wp2
    go_ret
    exact ⟨a1, c1, rfl, row_sl HR.out, HF.out, HB.out⟩
end
end Go.Proofs.YtjkobbpebnkimaaGreatDoor.Tn
namespace Go.Proofs.YtjkobbpebnkimaaGreatDoor.Tn
section
set_option maxRecDepth 100000
open Go.RowKit Nm
set_option linter.unusedVariables false
open Go.Maps Go.ChangeMaps Go.WideMaps

/-- the program's three operations, by their names -/
def opsMap : Array MapEntry := #[⟨.string ⟨#[97, 100, 100]⟩, .func (.func 51) #[] #[], 0⟩, ⟨.string ⟨#[115, 117, 98]⟩, .func (.func 67) #[] #[], 1⟩, ⟨.string ⟨#[109, 117, 108]⟩, .func (.func 50) #[] #[], 2⟩]

theorem find_run {P : Program} {k : TypeId} {x : Value} {es : List MapEntry} {r : Option (Nat × Value)} (w : World) (hk : P.underlying k = some .string) (hn : Instr.findNow .string x es 0 = some r) : (Instr.findKey k x es).run P w = .ok r w := by
  unfold Instr.findKey
  rw [Sem.run_bind, run_underlying hk]
  simp only [Result.andThen, hn]
  rfl
theorem run_put {P : Program} {w : World} {t k e : TypeId} {b : Nat} {es : Array MapEntry} {clock : Nat} {key : ByteArray} {val : Value} (ht : P.underlying t = some (.map k e)) (hk : P.underlying k = some .string)
    (hs : key.size ≤ maxLen) (hb : w.heap[b]? = some (.map es clock)) (hn : Instr.findNow .string (.string key) es.toList 0 = some none) :
    (Instr.mapUpdate t (.map (some b)) (.string key) val).run P w = .ok () (setBlock w b (.map (es.push ⟨.string key, val, clock⟩) (clock + 1))) := by
  have hc := (string_keyed hk).check w false (keyOf_string_mk hk hs)
  have hf := find_run w hk hn
  simp [Instr.mapUpdate, run_underlying ht, MapKept.run_getObj_map hb, hc, hf, MapKept.run_setObj_map _ hb, Result.andThen, setBlock]

theorem run_look {P : Program} {w : World} {t k e : TypeId} {b : Nat} {es : Array MapEntry} {clock : Nat} {key : ByteArray} {i : Nat} {val : Value} (ht : P.underlying t = some (.map k e)) (hk : P.underlying k = some .string)
    (hs : key.size ≤ maxLen) (hb : w.heap[b]? = some (.map es clock)) (hn : Instr.findNow .string (.string key) es.toList 0 = some (some (i, val))) :
    (Instr.lookup t (.map (some b)) (.string key) true).run P w = .ok (.tuple #[val, .bool true]) w := by
  have hc := (string_keyed hk).check w es.isEmpty (keyOf_string_mk hk hs)
  have hf := find_run w hk hn
  simp [Instr.lookup, run_underlying ht, MapKept.run_getObj_map hb, hc, hf, Result.andThen]

theorem run_look_no {P : Program} {w : World} {t k e : TypeId} {b : Nat} {es : Array MapEntry} {clock : Nat} {key : ByteArray} {z : Value} (ht : P.underlying t = some (.map k e)) (hk : P.underlying k = some .string)
    (hs : key.size ≤ maxLen) (hb : w.heap[b]? = some (.map es clock)) (hn : Instr.findNow .string (.string key) es.toList 0 = some none) (hz : (zeroValue e).run P w = .ok z w) :
    (Instr.lookup t (.map (some b)) (.string key) true).run P w = .ok (.tuple #[z, .bool false]) w := by
  have hc := (string_keyed hk).check w es.isEmpty (keyOf_string_mk hk hs)
  have hf := find_run w hk hn
  simp [Instr.lookup, run_underlying ht, MapKept.run_getObj_map hb, hc, hf, hz, Result.andThen]

theorem below_set {B b : Nat} {w w' : World} (h : Below B w w') (hb : B ≤ b) (o : Obj) : Below B w (setBlock w' b o) :=
  ⟨h.os, h.tape, h.output, by simpa [setBlock] using h.size, fun k hk => by
    have : (setBlock w' b o).heap[k]? = w'.heap[k]? := by unfold setBlock; rw [Array.getElem?_setIfInBounds_ne (by omega)]
    rw [this]; exact h.block k hk⟩

theorem ba_ne {a b : ByteArray} (h : a ≠ b) : (a == b) = false := by
  have e : (a == b) = (a.data == b.data) := by cases a; cases b; rfl
  rw [e]
  exact beq_false_of_ne fun c => h (by cases a; cases b; simp at c; rw [c])
theorem find_ops (op : ByteArray) : Instr.findNow .string (.string op) opsMap.toList 0 =
    if op = ⟨#[97, 100, 100]⟩ then some (some (0, .func (.func 51) #[] #[])) else if op = ⟨#[115, 117, 98]⟩ then some (some (1, .func (.func 67) #[] #[])) else if op = ⟨#[109, 117, 108]⟩ then some (some (2, .func (.func 50) #[] #[])) else some none := by
  simp only [opsMap, Instr.findNow, Instr.sameNow]
  by_cases h1 : op = ⟨#[97, 100, 100]⟩
  · subst h1; rfl
  · rw [ba_ne h1, if_neg h1]
    by_cases h2 : op = ⟨#[115, 117, 98]⟩
    · subst h2; rfl
    · rw [ba_ne h2, if_neg h2]
      by_cases h3 : op = ⟨#[109, 117, 108]⟩
      · subst h3; rfl
      · rw [ba_ne h3, if_neg h3]

set_option maxHeartbeats 1000000 in
theorem operations_any (w : World) : Calls Tryz.prog 42 #[] w fun e w' => e = .returned (.map (some w.heap.size)) ∧ w'.heap[w.heap.size]? = some (.map opsMap 3) ∧ Below w.heap.size w w' := by
  have hmm := @run_makeMap Tryz.prog
  have hb0 : (w.alloc (.map #[] 0)).heap[w.heap.size]? = some (.map #[] 0) := heap_alloc_new w _
  have h1 := run_put (P := Tryz.prog) (key := ⟨#[97, 100, 100]⟩) (val := .func (.func 51) #[] #[]) Tryz.underlying64 Tryz.underlying9 (by decide) hb0 rfl
  have hb1 := heap_setBlock_same hb0 (.map (#[].push ⟨.string ⟨#[97, 100, 100]⟩, .func (.func 51) #[] #[], 0⟩) (0 + 1))
  have h2 := run_put (P := Tryz.prog) (key := ⟨#[115, 117, 98]⟩) (val := .func (.func 67) #[] #[]) Tryz.underlying64 Tryz.underlying9 (by decide) hb1 (by kernel_rfl)
  have hb2 := heap_setBlock_same hb1 (.map ((#[].push ⟨.string ⟨#[97, 100, 100]⟩, .func (.func 51) #[] #[], 0⟩).push ⟨.string ⟨#[115, 117, 98]⟩, .func (.func 67) #[] #[], 0 + 1⟩) (0 + 1 + 1))
  have h3 := run_put (P := Tryz.prog) (key := ⟨#[109, 117, 108]⟩) (val := .func (.func 50) #[] #[]) Tryz.underlying64 Tryz.underlying9 (by decide) hb2 (by kernel_rfl)
  have hb3 := heap_setBlock_same hb2 (.map (((#[].push ⟨.string ⟨#[97, 100, 100]⟩, .func (.func 51) #[] #[], 0⟩).push ⟨.string ⟨#[115, 117, 98]⟩, .func (.func 67) #[] #[], 0 + 1⟩).push ⟨.string ⟨#[109, 117, 108]⟩, .func (.func 50) #[] #[], 0 + 1 + 1⟩) (0 + 1 + 1 + 1))
  generalize hw1 : setBlock (w.alloc (.map #[] 0)) w.heap.size (.map (#[].push ⟨.string ⟨#[97, 100, 100]⟩, .func (.func 51) #[] #[], 0⟩) (0 + 1)) = w1 at *
  generalize hw2 : setBlock w1 w.heap.size (.map ((#[].push ⟨.string ⟨#[97, 100, 100]⟩, .func (.func 51) #[] #[], 0⟩).push ⟨.string ⟨#[115, 117, 98]⟩, .func (.func 67) #[] #[], 0 + 1⟩) (0 + 1 + 1)) = w2 at *
  generalize hw3 : setBlock w2 w.heap.size (.map (((#[].push ⟨.string ⟨#[97, 100, 100]⟩, .func (.func 51) #[] #[], 0⟩).push ⟨.string ⟨#[115, 117, 98]⟩, .func (.func 67) #[] #[], 0 + 1⟩).push ⟨.string ⟨#[109, 117, 108]⟩, .func (.func 50) #[] #[], 0 + 1 + 1⟩) (0 + 1 + 1 + 1)) = w3 at *
  have HB : Hid (w3.heap[w.heap.size]? = some (.map opsMap 3)) := hb3
  have HW : Hid (Below w.heap.size w w3) := by
    subst hw3 hw2 hw1
    exact below_set (below_set (below_set ((Below.refl _ _).alloc (Nat.le_refl _) _) (Nat.le_refl _) _) (Nat.le_refl _) _) (Nat.le_refl _) _
  clear hw1 hw2 hw3 hb0 hb1 hb2 hb3
  go_enter Tryz.func42, Tryz.ntmps42
  go_wp2
  go_ret
  exact ⟨rfl, HB.out, HW.out⟩
end
end Go.Proofs.YtjkobbpebnkimaaGreatDoor.Tn
