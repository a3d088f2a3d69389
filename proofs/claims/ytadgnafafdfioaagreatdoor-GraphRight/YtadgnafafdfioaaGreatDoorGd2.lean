/-
  made, OF NODES OF TWO PARTS. Conditions: each theorem's own.
-/
import Derived.Test.YtadgnafafdfioaaGreatDoorGd
namespace Go.Proofs.YtadgnafafdfioaaGreatDoor.Gr
open Go.Proofs.YtadgnafafdfioaaGreatDoor.Rd
set_option maxRecDepth 100000
open Go.RowKit
set_option linter.unusedVariables false
set_option linter.unusedSimpArgs false

set_option maxHeartbeats 4000000 in
theorem made_2n (l : List Nd) (op name K : ByteArray) (A B n : Int) (zs : List Int) (data : List ByteArray) (sc dc c : Nat) (sa da ao : Option Addr) (aF aZ : Addr) (w : World) (hE : Er w aF aZ) (hl : Nl w ao l) (hS : Sp.Sl w sa zs) (hD : Row w da (txts data)) (hb : Nb ⟨op, A, B, name, zs, K, n, data⟩) (hls : ∀ i, i < l.length → (l.getD i zn).shape.length ≤ 1000) (hm : prv op = 2) (hA : inl l.length A = false) :
    Calls Tryz.prog 21 #[.slice ao l.length c, .agg #[.string op, .int .i64 A, .int .i64 B, .string name, .slice sa zs.length sc, .string K, .int .i64 n, .slice da data.length dc]] w fun e w' => (∃ a n c, e = .returned (.tuple #[.slice a n c, .bool false])) ∧ Below w.heap.size w w' := by
  obtain ⟨hzs, hdl, hks, hns, hds⟩ := hb
  simp only at hzs hdl hks hns hds
  have HP : Hid (∀ v, Calls Tryz.prog 35 #[.string op] v fun e w' => e = .returned (.int .i64 (2)) ∧ w' = v) := fun v => hm ▸ parts_any op v
  have HB : Hid (∀ o, Below w.heap.size w (w.alloc o)) := fun o => bl_alloc (Below.refl _ _) o
  have HAA : Hid (∀ v, Calls Tryz.prog 19 #[.slice ao l.length c, .int .i64 A] v fun e w' => e = .returned (.bool false) ∧ w' = v) := fun v => by
    have := ahead_any ao l.length c A v
    rw [hA] at this
    exact this
  clear hm hE hl hS hD hls hA
  generalize zs.length = sl
  generalize data.length = dl
  generalize l.length = ll at HAA ⊢
  go_enter Tryz.func21, Tryz.ntmps21
  go_wp2_with fail
  refine (HP.out _).mono ?_
  rintro e w1 ⟨rfl, rfl⟩
  go_wp2_with fail
  refine (HAA.out _).mono ?_
  rintro e w1 ⟨rfl, rfl⟩
  go_wp2
  go_ret2
  exact ⟨⟨_, _, _, rfl⟩, HB.out _⟩
set_option maxHeartbeats 4000000 in
theorem made_2m (l : List Nd) (op name K : ByteArray) (A B n : Int) (zs : List Int) (data : List ByteArray) (sc dc c : Nat) (sa da ao : Option Addr) (aF aZ : Addr) (w : World) (hE : Er w aF aZ) (hl : Nl w ao l) (hS : Sp.Sl w sa zs) (hD : Row w da (txts data)) (hb : Nb ⟨op, A, B, name, zs, K, n, data⟩) (hls : ∀ i, i < l.length → (l.getD i zn).shape.length ≤ 1000) (hm : prv op = 2) (hA : inl l.length A = true) (hB : inl l.length B = false) :
    Calls Tryz.prog 21 #[.slice ao l.length c, .agg #[.string op, .int .i64 A, .int .i64 B, .string name, .slice sa zs.length sc, .string K, .int .i64 n, .slice da data.length dc]] w fun e w' => (∃ a n c, e = .returned (.tuple #[.slice a n c, .bool false])) ∧ Below w.heap.size w w' := by
  obtain ⟨hzs, hdl, hks, hns, hds⟩ := hb
  simp only at hzs hdl hks hns hds
  have HP : Hid (∀ v, Calls Tryz.prog 35 #[.string op] v fun e w' => e = .returned (.int .i64 (2)) ∧ w' = v) := fun v => hm ▸ parts_any op v
  have HB : Hid (∀ o, Below w.heap.size w (w.alloc o)) := fun o => bl_alloc (Below.refl _ _) o
  have HAA : Hid (∀ v, Calls Tryz.prog 19 #[.slice ao l.length c, .int .i64 A] v fun e w' => e = .returned (.bool true) ∧ w' = v) := fun v => by
    have := ahead_any ao l.length c A v
    rw [hA] at this
    exact this
  have HAB : Hid (∀ v, Calls Tryz.prog 19 #[.slice ao l.length c, .int .i64 B] v fun e w' => e = .returned (.bool false) ∧ w' = v) := fun v => by
    have := ahead_any ao l.length c B v
    rw [hB] at this
    exact this
  clear hm hE hl hS hD hls hA hB
  generalize zs.length = sl
  generalize data.length = dl
  generalize l.length = ll at HAA HAB ⊢
  go_enter Tryz.func21, Tryz.ntmps21
  go_wp2_with fail
  refine (HP.out _).mono ?_
  rintro e w1 ⟨rfl, rfl⟩
  go_wp2_with fail
  refine (HAA.out _).mono ?_
  rintro e w1 ⟨rfl, rfl⟩
  go_wp2_with fail
  refine (HAB.out _).mono ?_
  rintro e w1 ⟨rfl, rfl⟩
  go_wp2
  go_ret2
  exact ⟨⟨_, _, _, rfl⟩, HB.out _⟩
end Go.Proofs.YtadgnafafdfioaaGreatDoor.Gr
