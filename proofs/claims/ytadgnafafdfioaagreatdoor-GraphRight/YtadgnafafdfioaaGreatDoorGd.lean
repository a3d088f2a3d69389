/-
  made: THE SHAPE THAT COMES OF WHAT A NODE HAS. Conditions: each theorem's own.
-/
import Derived.Test.YtadgnafafdfioaaGreatDoorGc1
import Derived.Test.YtadgnafafdfioaaGreatDoorGc2
import Derived.Test.YtadgnafafdfioaaGreatDoorGc3
import Derived.Deep.Cut
import Derived.Deep.RegionWith
namespace Go.Proofs.YtadgnafafdfioaaGreatDoor.Gr
open Go.Proofs.YtadgnafafdfioaaGreatDoor.Rd
set_option maxRecDepth 100000
open Go.RowKit
set_option linter.unusedVariables false
set_option linter.unusedSimpArgs false

theorem cell_newd (w : World) (a : Array Value) (r : TypeId) (i : Nat) : (w.alloc (.cells a r)).drew.cell? ⟨w.heap.size, i, none⟩ = a[i]? := World.cell?_alloc_new w a r i
theorem cell_newn (w : World) (a : Array Value) (r : TypeId) (n i : Nat) : ((w.alloc (.cells a r)).drewN n).cell? ⟨w.heap.size, i, none⟩ = a[i]? := World.cell?_alloc_new w a r i
set_option maxHeartbeats 4000000 in
theorem made_none (l : List Nd) (op name K : ByteArray) (A B n : Int) (zs : List Int) (data : List ByteArray) (sc dc c : Nat) (sa da ao : Option Addr) (aF aZ : Addr) (w : World) (hE : Er w aF aZ) (hl : Nl w ao l) (hS : Sp.Sl w sa zs) (hD : Row w da (txts data)) (hb : Nb ⟨op, A, B, name, zs, K, n, data⟩) (hls : ∀ i, i < l.length → (l.getD i zn).shape.length ≤ 1000) (hm : prv op = -1) :
    Calls Tryz.prog 21 #[.slice ao l.length c, .agg #[.string op, .int .i64 A, .int .i64 B, .string name, .slice sa zs.length sc, .string K, .int .i64 n, .slice da data.length dc]] w fun e w' => (∃ a n c, e = .returned (.tuple #[.slice a n c, .bool false])) ∧ Below w.heap.size w w' := by
  obtain ⟨hzs, hdl, hks, hns, hds⟩ := hb
  simp only at hzs hdl hks hns hds
  have HP : Hid (∀ v, Calls Tryz.prog 35 #[.string op] v fun e w' => e = .returned (.int .i64 (-1)) ∧ w' = v) := fun v => hm ▸ parts_any op v
  have HB : Hid (∀ o, Below w.heap.size w (w.alloc o)) := fun o => bl_alloc (Below.refl _ _) o
  clear hm hE hl hS hD hls
  generalize zs.length = sl
  generalize data.length = dl
  go_enter Tryz.func21, Tryz.ntmps21
  go_wp2_with fail
  refine (HP.out _).mono ?_
  rintro e w1 ⟨rfl, rfl⟩
  go_wp2
  go_ret2
  exact ⟨⟨_, _, _, rfl⟩, HB.out _⟩
set_option maxHeartbeats 4000000 in
theorem made_0 (l : List Nd) (op name K : ByteArray) (A B n : Int) (zs : List Int) (data : List ByteArray) (sc dc c : Nat) (sa da ao : Option Addr) (aF aZ : Addr) (w : World) (hE : Er w aF aZ) (hl : Nl w ao l) (hS : Sp.Sl w sa zs) (hD : Row w da (txts data)) (hb : Nb ⟨op, A, B, name, zs, K, n, data⟩) (hls : ∀ i, i < l.length → (l.getD i zn).shape.length ≤ 1000) (hm : prv op = 0) :
    Calls Tryz.prog 21 #[.slice ao l.length c, .agg #[.string op, .int .i64 A, .int .i64 B, .string name, .slice sa zs.length sc, .string K, .int .i64 n, .slice da data.length dc]] w fun e w' => (∃ a c, e = .returned (.tuple #[.slice a zs.length c, .bool (gvn ⟨op, A, B, name, zs, K, n, data⟩)]) ∧ Sp.Sl w' a zs) ∧ Below w.heap.size w w' := by
  obtain ⟨hzs, hdl, hks, hns, hds⟩ := hb
  simp only at hzs hdl hks hns hds
  have HP : Hid (∀ v, Calls Tryz.prog 35 #[.string op] v fun e w' => e = .returned (.int .i64 (0)) ∧ w' = v) := fun v => hm ▸ parts_any op v
  have HB : Hid (∀ o, Below w.heap.size w (w.alloc o)) := fun o => bl_alloc (Below.refl _ _) o
  have HG : Hid (∀ v, Below w.heap.size w v → Calls Tryz.prog 36 #[.agg #[.string op, .int .i64 A, .int .i64 B, .string name, .slice sa zs.length sc, .string K, .int .i64 n, .slice da data.length dc]] v fun e w' => e = .returned (.bool (gvn ⟨op, A, B, name, zs, K, n, data⟩)) ∧ Below v.heap.size v w') := fun v hv => given_any op name K A B n zs data sc dc sa da aF aZ v (hE.below hv) (sl_below hS hv) (Row.below hD hv) hzs hdl hds
  have HS : Hid (∀ v, Below w.heap.size w v → Sp.Sl v sa zs) := fun v hv => sl_below hS hv
  obtain ⟨g, hg⟩ : ∃ b, gvn ⟨op, A, B, name, zs, K, n, data⟩ = b := ⟨_, rfl⟩
  rw [hg] at HG ⊢
  clear hm hE hl hS hD hls hg
  obtain ⟨sl, hsl⟩ : ∃ m, zs.length = m := ⟨_, rfl⟩
  rw [hsl] at HG ⊢
  clear hsl
  generalize data.length = dl at HG ⊢
  go_enter Tryz.func21, Tryz.ntmps21
  go_wp2_with fail
  refine (HP.out _).mono ?_
  rintro e w1 ⟨rfl, rfl⟩
  go_upto_region 3 with fail
  go_region_with (go_at_call 36; refine (HG.out _ (bl_drew (HB.out _))).mono ?_; rintro e w1 ⟨rfl, h1⟩; have q4 : w1.cell? ⟨w.heap.size, 4, none⟩ = some (.slice sa sl sc) := cell_below h1 (cell_newd _ _ _ _); have H1 : Hid _ := (bl_drew (HB.out (.cells #[.string op, .int .i64 A, .int .i64 B, .string name, .slice sa sl sc, .string K, .int .i64 n, .slice da dl dc] 28))).trans (h1.mono (bl_drew (HB.out _)).size); clear h1)
  all_goals go_wp2
  all_goals go_ret2
  all_goals exact ⟨⟨_, _, rfl, HS.out _ (by first | exact H1.out | exact bl_drew H1.out | exact bl_n H1.out _)⟩, by first | exact H1.out | exact bl_drew H1.out | exact bl_n H1.out _⟩
set_option maxHeartbeats 4000000 in
theorem made_1n (l : List Nd) (op name K : ByteArray) (A B n : Int) (zs : List Int) (data : List ByteArray) (sc dc c : Nat) (sa da ao : Option Addr) (aF aZ : Addr) (w : World) (hE : Er w aF aZ) (hl : Nl w ao l) (hS : Sp.Sl w sa zs) (hD : Row w da (txts data)) (hb : Nb ⟨op, A, B, name, zs, K, n, data⟩) (hls : ∀ i, i < l.length → (l.getD i zn).shape.length ≤ 1000) (hm : prv op = 1) (hA : inl l.length A = false) :
    Calls Tryz.prog 21 #[.slice ao l.length c, .agg #[.string op, .int .i64 A, .int .i64 B, .string name, .slice sa zs.length sc, .string K, .int .i64 n, .slice da data.length dc]] w fun e w' => (∃ a n c, e = .returned (.tuple #[.slice a n c, .bool false])) ∧ Below w.heap.size w w' := by
  obtain ⟨hzs, hdl, hks, hns, hds⟩ := hb
  simp only at hzs hdl hks hns hds
  have HP : Hid (∀ v, Calls Tryz.prog 35 #[.string op] v fun e w' => e = .returned (.int .i64 (1)) ∧ w' = v) := fun v => hm ▸ parts_any op v
  have HB : Hid (∀ o, Below w.heap.size w (w.alloc o)) := fun o => bl_alloc (Below.refl _ _) o
  have HA : Hid (∀ v, Calls Tryz.prog 19 #[.slice ao l.length c, .int .i64 A] v fun e w' => e = .returned (.bool false) ∧ w' = v) := fun v => by
    have := ahead_any ao l.length c A v
    rw [hA] at this
    exact this
  clear hm hE hl hS hD hls hA
  generalize zs.length = sl
  generalize data.length = dl
  generalize l.length = ll at HA ⊢
  go_enter Tryz.func21, Tryz.ntmps21
  go_wp2_with fail
  refine (HP.out _).mono ?_
  rintro e w1 ⟨rfl, rfl⟩
  go_wp2_with fail
  refine (HA.out _).mono ?_
  rintro e w1 ⟨rfl, rfl⟩
  go_wp2
  go_ret2
  exact ⟨⟨_, _, _, rfl⟩, HB.out _⟩
end Go.Proofs.YtadgnafafdfioaaGreatDoor.Gr
