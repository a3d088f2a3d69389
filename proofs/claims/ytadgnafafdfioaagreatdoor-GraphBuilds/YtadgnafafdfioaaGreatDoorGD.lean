/-
  made: THE SHAPE THAT COMES OF WHAT A NODE HAS. Conditions: each theorem's own.
-/
import Derived.Test.YtadgnafafdfioaaGreatDoorGC
import Derived.Deep.Cut
import Derived.Deep.RegionWith
import Derived.Test.YtadgnafafdfioaaGreatDoorSb
namespace Go.Proofs.YtadgnafafdfioaaGreatDoor.Gr
open Go.Proofs.YtadgnafafdfioaaGreatDoor.Rd
set_option maxRecDepth 100000
open Go.RowKit
set_option linter.unusedVariables false
set_option linter.unusedSimpArgs false

theorem cell_newd (w : World) (a : Array Value) (r : TypeId) (i : Nat) : (w.alloc (.cells a r)).drew.cell? ⟨w.heap.size, i, none⟩ = a[i]? := World.cell?_alloc_new w a r i
theorem cell_newn (w : World) (a : Array Value) (r : TypeId) (n i : Nat) : ((w.alloc (.cells a r)).drewN n).cell? ⟨w.heap.size, i, none⟩ = a[i]? := World.cell?_alloc_new w a r i
set_option maxHeartbeats 4000000 in
theorem made_none (l : List Nd) (op name K : ByteArray) (A B n : Int) (zs : List Int) (data : List ByteArray) (sc dc c : Nat) (sa da ao : Option Addr) (aF aZ : Addr) (w : World) (hE : Er w aF aZ) (hl : Nl w ao l) (hS : Sp.Sl w sa zs) (hD : Row w da (txts data)) (hb : Nb ⟨op, A, B, name, zs, K, n, data⟩) (hls : ∀ i, i < l.length → (l.getD i zn).shape.length ≤ 1000) (hm : prv op = -1) :
    Calls Tryz.prog 21 #[.slice ao l.length c, .agg #[.string op, .int .i64 A, .int .i64 B, .string name, .slice sa zs.length sc, .string K, .int .i64 n, .slice da data.length dc]] w fun e w' => (∃ a n c, e = .returned (.tuple #[.slice a n c, .bool false])) ∧ Below w.heap.size w w' := by
  obtain ⟨hzs, hdl, hks, hns, hds⟩ := hb
  simp only at hzs hdl hks hns hds
  have HP : Hid (∀ v, Calls Tryz.prog 35 #[.string op] v fun e w' => e = .returned (.int .i64 (-1)) ∧ w' = v) := fun v => hm ▸ parts_any op v
  have HB : Hid (∀ o, Below w.heap.size w (w.alloc o)) := fun o => bl_alloc (Below.refl _ _) o
  clear hm hE hl hS hD hls
  generalize zs.length = sl
  generalize data.length = dl
  go_enter Tryz.func21, Tryz.ntmps21
  go_wp2_with fail
  refine (HP.out _).mono ?_
  rintro e w1 ⟨rfl, rfl⟩
  go_wp2
  go_ret2
  exact ⟨⟨_, _, _, rfl⟩, HB.out _⟩
set_option maxHeartbeats 4000000 in
theorem made_0 (l : List Nd) (op name K : ByteArray) (A B n : Int) (zs : List Int) (data : List ByteArray) (sc dc c : Nat) (sa da ao : Option Addr) (aF aZ : Addr) (w : World) (hE : Er w aF aZ) (hl : Nl w ao l) (hS : Sp.Sl w sa zs) (hD : Row w da (txts data)) (hb : Nb ⟨op, A, B, name, zs, K, n, data⟩) (hls : ∀ i, i < l.length → (l.getD i zn).shape.length ≤ 1000) (hm : prv op = 0) :
    Calls Tryz.prog 21 #[.slice ao l.length c, .agg #[.string op, .int .i64 A, .int .i64 B, .string name, .slice sa zs.length sc, .string K, .int .i64 n, .slice da data.length dc]] w fun e w' => (∃ a c, e = .returned (.tuple #[.slice a zs.length c, .bool (gvn ⟨op, A, B, name, zs, K, n, data⟩)]) ∧ Sp.Sl w' a zs) ∧ Below w.heap.size w w' := by
  obtain ⟨hzs, hdl, hks, hns, hds⟩ := hb
  simp only at hzs hdl hks hns hds
  have HP : Hid (∀ v, Calls Tryz.prog 35 #[.string op] v fun e w' => e = .returned (.int .i64 (0)) ∧ w' = v) := fun v => hm ▸ parts_any op v
  have HB : Hid (∀ o, Below w.heap.size w (w.alloc o)) := fun o => bl_alloc (Below.refl _ _) o
  have HG : Hid (∀ v, Below w.heap.size w v → Calls Tryz.prog 36 #[.agg #[.string op, .int .i64 A, .int .i64 B, .string name, .slice sa zs.length sc, .string K, .int .i64 n, .slice da data.length dc]] v fun e w' => e = .returned (.bool (gvn ⟨op, A, B, name, zs, K, n, data⟩)) ∧ Below v.heap.size v w') := fun v hv => given_any op name K A B n zs data sc dc sa da aF aZ v (hE.below hv) (sl_below hS hv) (Row.below hD hv) hzs hdl hds
  have HS : Hid (∀ v, Below w.heap.size w v → Sp.Sl v sa zs) := fun v hv => sl_below hS hv
  obtain ⟨g, hg⟩ : ∃ b, gvn ⟨op, A, B, name, zs, K, n, data⟩ = b := ⟨_, rfl⟩
  rw [hg] at HG ⊢
  clear hm hE hl hS hD hls hg
  obtain ⟨sl, hsl⟩ : ∃ m, zs.length = m := ⟨_, rfl⟩
  rw [hsl] at HG ⊢
  clear hsl
  generalize data.length = dl at HG ⊢
  go_enter Tryz.func21, Tryz.ntmps21
  go_wp2_with fail
  refine (HP.out _).mono ?_
  rintro e w1 ⟨rfl, rfl⟩
  go_upto_region 3 with fail
  go_region_with (go_at_call 36; refine (HG.out _ (bl_drew (HB.out _))).mono ?_; rintro e w1 ⟨rfl, h1⟩; have q4 : w1.cell? ⟨w.heap.size, 4, none⟩ = some (.slice sa sl sc) := cell_below h1 (cell_newd _ _ _ _); have H1 : Hid _ := (bl_drew (HB.out (.cells #[.string op, .int .i64 A, .int .i64 B, .string name, .slice sa sl sc, .string K, .int .i64 n, .slice da dl dc] 28))).trans (h1.mono (bl_drew (HB.out _)).size); clear h1)
  all_goals go_wp2
  all_goals go_ret2
  all_goals exact ⟨⟨_, _, rfl, HS.out _ (by first | exact H1.out | exact bl_drew H1.out | exact bl_n H1.out _)⟩, by first | exact H1.out | exact bl_drew H1.out | exact bl_n H1.out _⟩
set_option maxHeartbeats 4000000 in
theorem made_1n (l : List Nd) (op name K : ByteArray) (A B n : Int) (zs : List Int) (data : List ByteArray) (sc dc c : Nat) (sa da ao : Option Addr) (aF aZ : Addr) (w : World) (hE : Er w aF aZ) (hl : Nl w ao l) (hS : Sp.Sl w sa zs) (hD : Row w da (txts data)) (hb : Nb ⟨op, A, B, name, zs, K, n, data⟩) (hls : ∀ i, i < l.length → (l.getD i zn).shape.length ≤ 1000) (hm : prv op = 1) (hA : inl l.length A = false) :
    Calls Tryz.prog 21 #[.slice ao l.length c, .agg #[.string op, .int .i64 A, .int .i64 B, .string name, .slice sa zs.length sc, .string K, .int .i64 n, .slice da data.length dc]] w fun e w' => (∃ a n c, e = .returned (.tuple #[.slice a n c, .bool false])) ∧ Below w.heap.size w w' := by
  obtain ⟨hzs, hdl, hks, hns, hds⟩ := hb
  simp only at hzs hdl hks hns hds
  have HP : Hid (∀ v, Calls Tryz.prog 35 #[.string op] v fun e w' => e = .returned (.int .i64 (1)) ∧ w' = v) := fun v => hm ▸ parts_any op v
  have HB : Hid (∀ o, Below w.heap.size w (w.alloc o)) := fun o => bl_alloc (Below.refl _ _) o
  have HA : Hid (∀ v, Calls Tryz.prog 19 #[.slice ao l.length c, .int .i64 A] v fun e w' => e = .returned (.bool false) ∧ w' = v) := fun v => by
    have := ahead_any ao l.length c A v
    rw [hA] at this
    exact this
  clear hm hE hl hS hD hls hA
  generalize zs.length = sl
  generalize data.length = dl
  generalize l.length = ll at HA ⊢
  go_enter Tryz.func21, Tryz.ntmps21
  go_wp2_with fail
  refine (HP.out _).mono ?_
  rintro e w1 ⟨rfl, rfl⟩
  go_wp2_with fail
  refine (HA.out _).mono ?_
  rintro e w1 ⟨rfl, rfl⟩
  go_wp2
  go_ret2
  exact ⟨⟨_, _, _, rfl⟩, HB.out _⟩
end Go.Proofs.YtadgnafafdfioaaGreatDoor.Gr
/-
  made, OF NODES OF ONE PART. Conditions: each theorem's own.
-/
namespace Go.Proofs.YtadgnafafdfioaaGreatDoor.Gr
open Go.Proofs.YtadgnafafdfioaaGreatDoor.Rd
set_option maxRecDepth 100000
open Go.RowKit
set_option linter.unusedVariables false
set_option linter.unusedSimpArgs false

set_option maxHeartbeats 4000000 in
theorem made_1y (l : List Nd) (op name K : ByteArray) (A B n : Int) (zs : List Int) (data : List ByteArray) (sc dc c : Nat) (sa da ao : Option Addr) (aF aZ : Addr) (w : World) (hE : Er w aF aZ) (hl : Nl w ao l) (hS : Sp.Sl w sa zs) (hD : Row w da (txts data)) (hb : Nb ⟨op, A, B, name, zs, K, n, data⟩) (hls : ∀ i, i < l.length → (l.getD i zn).shape.length ≤ 1000) (s : List Int) (hm : prv op = 1) (hA : inl l.length A = true) (ho : sgl ⟨op, A, B, name, zs, K, n, data⟩ (sha l A) = some s) :
    Calls Tryz.prog 21 #[.slice ao l.length c, .agg #[.string op, .int .i64 A, .int .i64 B, .string name, .slice sa zs.length sc, .string K, .int .i64 n, .slice da data.length dc]] w fun e w' => (∃ a c, e = .returned (.tuple #[.slice a s.length c, .bool true]) ∧ Sp.Sl w' a s) ∧ Below w.heap.size w w' := by
  obtain ⟨hzs, hdl, hks, hns, hds⟩ := hb
  simp only at hzs hdl hks hns hds
  have HP : Hid (∀ v, Calls Tryz.prog 35 #[.string op] v fun e w' => e = .returned (.int .i64 (1)) ∧ w' = v) := fun v => hm ▸ parts_any op v
  have HB : Hid (∀ o, Below w.heap.size w (w.alloc o)) := fun o => bl_alloc (Below.refl _ _) o
  have HA : Hid (∀ v, Calls Tryz.prog 19 #[.slice ao l.length c, .int .i64 A] v fun e w' => e = .returned (.bool true) ∧ w' = v) := fun v => by
    have := ahead_any ao l.length c A v
    rw [hA] at this
    exact this
  obtain ⟨i, rfl⟩ : ∃ i : Nat, A = i := ⟨A.toNat, by have := inl_iff.1 hA; omega⟩
  have hi : i < l.length := by have := inl_iff.1 hA; omega
  obtain ⟨bl, ol, aa, ac, rfl, hC, hT⟩ := hl.shape hi
  have es : sha l (i : Int) = (l.getD i zn).shape := rfl
  rw [es] at ho
  have hxs := hls i hi
  obtain ⟨xs, hxsE⟩ : ∃ z, (l.getD i zn).shape = z := ⟨_, rfl⟩
  rw [hxsE] at ho hC hT hxs
  have HG : Hid (∀ v, Below w.heap.size w v → Calls Tryz.prog 37 #[.agg #[.string op, .int .i64 (i : Int), .int .i64 B, .string name, .slice sa zs.length sc, .string K, .int .i64 n, .slice da data.length dc], .slice aa xs.length ac] v fun e w' => (∃ a c, e = .returned (.tuple #[.slice a s.length c, .bool true]) ∧ Sp.Sl w' a s) ∧ Below v.heap.size v w') := fun v hv => by
    have := single_any op name K i B n zs data xs sc dc ac sa da aa aF aZ v (hE.below hv) (sl_below hS hv) (sl_below hT hv) hzs hxs hks
    rw [ho] at this
    exact this
  have hCv : ∀ v, Below w.heap.size w v → v.cell? ⟨bl, ol + i * 8 + 4, none⟩ = some (.slice aa xs.length ac) := fun v hv => cell_below hv hC
  have cA : ∀ o, (w.alloc o).cell? ⟨bl, ol + i * 8 + 4, none⟩ = some (.slice aa xs.length ac) := fun o => hCv _ (HB.out o)
  clear hm hE hl hS hD hls hA hCv hC hT ho es hxsE hxs
  generalize xs.length = xl at HG cA
  generalize zs.length = sl at HG ⊢
  generalize data.length = dl at HG ⊢
  generalize l.length = ll at HA hi ⊢
  go_enter Tryz.func21, Tryz.ntmps21
  go_wp2_with fail
  refine (HP.out _).mono ?_
  rintro e w1 ⟨rfl, rfl⟩
  go_wp2_with fail
  refine (HA.out _).mono ?_
  rintro e w1 ⟨rfl, rfl⟩
  go_upto_region 6 with fail
  go_region_with (go_at_call 37; refine (HG.out _ (by first | exact bl_drew (HB.out _) | exact bl_n (HB.out _) _)).mono ?_; rintro e w1 ⟨⟨a2, c2, rfl, hs⟩, h1⟩; have H1 : Hid _ := (bl_drew (HB.out (.cells #[.string op, .int .i64 (i : Int), .int .i64 B, .string name, .slice sa sl sc, .string K, .int .i64 n, .slice da dl dc] 28))).trans (h1.mono (bl_drew (HB.out _)).size); clear h1)
  all_goals go_wp2
  all_goals go_ret2
  all_goals exact ⟨⟨_, _, rfl, hs⟩, H1.out⟩
set_option maxHeartbeats 4000000 in
theorem made_1o (l : List Nd) (op name K : ByteArray) (A B n : Int) (zs : List Int) (data : List ByteArray) (sc dc c : Nat) (sa da ao : Option Addr) (aF aZ : Addr) (w : World) (hE : Er w aF aZ) (hl : Nl w ao l) (hS : Sp.Sl w sa zs) (hD : Row w da (txts data)) (hb : Nb ⟨op, A, B, name, zs, K, n, data⟩) (hls : ∀ i, i < l.length → (l.getD i zn).shape.length ≤ 1000) (hm : prv op = 1) (hA : inl l.length A = true) (ho : sgl ⟨op, A, B, name, zs, K, n, data⟩ (sha l A) = none) :
    Calls Tryz.prog 21 #[.slice ao l.length c, .agg #[.string op, .int .i64 A, .int .i64 B, .string name, .slice sa zs.length sc, .string K, .int .i64 n, .slice da data.length dc]] w fun e w' => (∃ a n c, e = .returned (.tuple #[.slice a n c, .bool false])) ∧ Below w.heap.size w w' := by
  obtain ⟨hzs, hdl, hks, hns, hds⟩ := hb
  simp only at hzs hdl hks hns hds
  have HP : Hid (∀ v, Calls Tryz.prog 35 #[.string op] v fun e w' => e = .returned (.int .i64 (1)) ∧ w' = v) := fun v => hm ▸ parts_any op v
  have HB : Hid (∀ o, Below w.heap.size w (w.alloc o)) := fun o => bl_alloc (Below.refl _ _) o
  have HA : Hid (∀ v, Calls Tryz.prog 19 #[.slice ao l.length c, .int .i64 A] v fun e w' => e = .returned (.bool true) ∧ w' = v) := fun v => by
    have := ahead_any ao l.length c A v
    rw [hA] at this
    exact this
  obtain ⟨i, rfl⟩ : ∃ i : Nat, A = i := ⟨A.toNat, by have := inl_iff.1 hA; omega⟩
  have hi : i < l.length := by have := inl_iff.1 hA; omega
  obtain ⟨bl, ol, aa, ac, rfl, hC, hT⟩ := hl.shape hi
  have es : sha l (i : Int) = (l.getD i zn).shape := rfl
  rw [es] at ho
  have hxs := hls i hi
  obtain ⟨xs, hxsE⟩ : ∃ z, (l.getD i zn).shape = z := ⟨_, rfl⟩
  rw [hxsE] at ho hC hT hxs
  have HG : Hid (∀ v, Below w.heap.size w v → Calls Tryz.prog 37 #[.agg #[.string op, .int .i64 (i : Int), .int .i64 B, .string name, .slice sa zs.length sc, .string K, .int .i64 n, .slice da data.length dc], .slice aa xs.length ac] v fun e w' => (∃ a n c, e = .returned (.tuple #[.slice a n c, .bool false])) ∧ Below v.heap.size v w') := fun v hv => by
    have := single_any op name K i B n zs data xs sc dc ac sa da aa aF aZ v (hE.below hv) (sl_below hS hv) (sl_below hT hv) hzs hxs hks
    rw [ho] at this
    exact this
  have hCv : ∀ v, Below w.heap.size w v → v.cell? ⟨bl, ol + i * 8 + 4, none⟩ = some (.slice aa xs.length ac) := fun v hv => cell_below hv hC
  have cA : ∀ o, (w.alloc o).cell? ⟨bl, ol + i * 8 + 4, none⟩ = some (.slice aa xs.length ac) := fun o => hCv _ (HB.out o)
  clear hm hE hl hS hD hls hA hCv hC hT ho es hxsE hxs
  generalize xs.length = xl at HG cA
  generalize zs.length = sl at HG ⊢
  generalize data.length = dl at HG ⊢
  generalize l.length = ll at HA hi ⊢
  go_enter Tryz.func21, Tryz.ntmps21
  go_wp2_with fail
  refine (HP.out _).mono ?_
  rintro e w1 ⟨rfl, rfl⟩
  go_wp2_with fail
  refine (HA.out _).mono ?_
  rintro e w1 ⟨rfl, rfl⟩
  go_upto_region 6 with fail
  go_region_with (go_at_call 37; refine (HG.out _ (by first | exact bl_drew (HB.out _) | exact bl_n (HB.out _) _)).mono ?_; rintro e w1 ⟨⟨a2, n2, c2, rfl⟩, h1⟩; have H1 : Hid _ := (bl_drew (HB.out (.cells #[.string op, .int .i64 (i : Int), .int .i64 B, .string name, .slice sa sl sc, .string K, .int .i64 n, .slice da dl dc] 28))).trans (h1.mono (bl_drew (HB.out _)).size); clear h1)
  all_goals go_wp2
  all_goals go_ret2
  all_goals exact ⟨⟨_, _, _, rfl⟩, H1.out⟩
end Go.Proofs.YtadgnafafdfioaaGreatDoor.Gr
/-
  made, OF NODES OF TWO PARTS. Conditions: each theorem's own.
-/
namespace Go.Proofs.YtadgnafafdfioaaGreatDoor.Gr
open Go.Proofs.YtadgnafafdfioaaGreatDoor.Rd
set_option maxRecDepth 100000
open Go.RowKit
set_option linter.unusedVariables false
set_option linter.unusedSimpArgs false

set_option maxHeartbeats 4000000 in
theorem made_2n (l : List Nd) (op name K : ByteArray) (A B n : Int) (zs : List Int) (data : List ByteArray) (sc dc c : Nat) (sa da ao : Option Addr) (aF aZ : Addr) (w : World) (hE : Er w aF aZ) (hl : Nl w ao l) (hS : Sp.Sl w sa zs) (hD : Row w da (txts data)) (hb : Nb ⟨op, A, B, name, zs, K, n, data⟩) (hls : ∀ i, i < l.length → (l.getD i zn).shape.length ≤ 1000) (hm : prv op = 2) (hA : inl l.length A = false) :
    Calls Tryz.prog 21 #[.slice ao l.length c, .agg #[.string op, .int .i64 A, .int .i64 B, .string name, .slice sa zs.length sc, .string K, .int .i64 n, .slice da data.length dc]] w fun e w' => (∃ a n c, e = .returned (.tuple #[.slice a n c, .bool false])) ∧ Below w.heap.size w w' := by
  obtain ⟨hzs, hdl, hks, hns, hds⟩ := hb
  simp only at hzs hdl hks hns hds
  have HP : Hid (∀ v, Calls Tryz.prog 35 #[.string op] v fun e w' => e = .returned (.int .i64 (2)) ∧ w' = v) := fun v => hm ▸ parts_any op v
  have HB : Hid (∀ o, Below w.heap.size w (w.alloc o)) := fun o => bl_alloc (Below.refl _ _) o
  have HAA : Hid (∀ v, Calls Tryz.prog 19 #[.slice ao l.length c, .int .i64 A] v fun e w' => e = .returned (.bool false) ∧ w' = v) := fun v => by
    have := ahead_any ao l.length c A v
    rw [hA] at this
    exact this
  clear hm hE hl hS hD hls hA
  generalize zs.length = sl
  generalize data.length = dl
  generalize l.length = ll at HAA ⊢
  go_enter Tryz.func21, Tryz.ntmps21
  go_wp2_with fail
  refine (HP.out _).mono ?_
  rintro e w1 ⟨rfl, rfl⟩
  go_wp2_with fail
  refine (HAA.out _).mono ?_
  rintro e w1 ⟨rfl, rfl⟩
  go_wp2
  go_ret2
  exact ⟨⟨_, _, _, rfl⟩, HB.out _⟩
set_option maxHeartbeats 4000000 in
theorem made_2m (l : List Nd) (op name K : ByteArray) (A B n : Int) (zs : List Int) (data : List ByteArray) (sc dc c : Nat) (sa da ao : Option Addr) (aF aZ : Addr) (w : World) (hE : Er w aF aZ) (hl : Nl w ao l) (hS : Sp.Sl w sa zs) (hD : Row w da (txts data)) (hb : Nb ⟨op, A, B, name, zs, K, n, data⟩) (hls : ∀ i, i < l.length → (l.getD i zn).shape.length ≤ 1000) (hm : prv op = 2) (hA : inl l.length A = true) (hB : inl l.length B = false) :
    Calls Tryz.prog 21 #[.slice ao l.length c, .agg #[.string op, .int .i64 A, .int .i64 B, .string name, .slice sa zs.length sc, .string K, .int .i64 n, .slice da data.length dc]] w fun e w' => (∃ a n c, e = .returned (.tuple #[.slice a n c, .bool false])) ∧ Below w.heap.size w w' := by
  obtain ⟨hzs, hdl, hks, hns, hds⟩ := hb
  simp only at hzs hdl hks hns hds
  have HP : Hid (∀ v, Calls Tryz.prog 35 #[.string op] v fun e w' => e = .returned (.int .i64 (2)) ∧ w' = v) := fun v => hm ▸ parts_any op v
  have HB : Hid (∀ o, Below w.heap.size w (w.alloc o)) := fun o => bl_alloc (Below.refl _ _) o
  have HAA : Hid (∀ v, Calls Tryz.prog 19 #[.slice ao l.length c, .int .i64 A] v fun e w' => e = .returned (.bool true) ∧ w' = v) := fun v => by
    have := ahead_any ao l.length c A v
    rw [hA] at this
    exact this
  have HAB : Hid (∀ v, Calls Tryz.prog 19 #[.slice ao l.length c, .int .i64 B] v fun e w' => e = .returned (.bool false) ∧ w' = v) := fun v => by
    have := ahead_any ao l.length c B v
    rw [hB] at this
    exact this
  clear hm hE hl hS hD hls hA hB
  generalize zs.length = sl
  generalize data.length = dl
  generalize l.length = ll at HAA HAB ⊢
  go_enter Tryz.func21, Tryz.ntmps21
  go_wp2_with fail
  refine (HP.out _).mono ?_
  rintro e w1 ⟨rfl, rfl⟩
  go_wp2_with fail
  refine (HAA.out _).mono ?_
  rintro e w1 ⟨rfl, rfl⟩
  go_wp2_with fail
  refine (HAB.out _).mono ?_
  rintro e w1 ⟨rfl, rfl⟩
  go_wp2
  go_ret2
  exact ⟨⟨_, _, _, rfl⟩, HB.out _⟩
end Go.Proofs.YtadgnafafdfioaaGreatDoor.Gr
/-
  made, OF NODES OF TWO PARTS, BOTH THERE. Conditions: each theorem's own.
-/
namespace Go.Proofs.YtadgnafafdfioaaGreatDoor.Gr
open Go.Proofs.YtadgnafafdfioaaGreatDoor.Rd
set_option maxRecDepth 100000
open Go.RowKit
set_option linter.unusedVariables false
set_option linter.unusedSimpArgs false

set_option maxHeartbeats 4000000 in
theorem made_2y (l : List Nd) (op name K : ByteArray) (A B n : Int) (zs : List Int) (data : List ByteArray) (sc dc c : Nat) (sa da ao : Option Addr) (aF aZ : Addr) (w : World) (hE : Er w aF aZ) (hl : Nl w ao l) (hS : Sp.Sl w sa zs) (hD : Row w da (txts data)) (hb : Nb ⟨op, A, B, name, zs, K, n, data⟩) (hls : ∀ i, i < l.length → (l.getD i zn).shape.length ≤ 1000) (s : List Int) (hm : prv op = 2) (hA : inl l.length A = true) (hB : inl l.length B = true) (ho : pai op (sha l A) (sha l B) = some s) :
    Calls Tryz.prog 21 #[.slice ao l.length c, .agg #[.string op, .int .i64 A, .int .i64 B, .string name, .slice sa zs.length sc, .string K, .int .i64 n, .slice da data.length dc]] w fun e w' => (∃ a c, e = .returned (.tuple #[.slice a s.length c, .bool true]) ∧ Sp.Sl w' a s) ∧ Below w.heap.size w w' := by
  obtain ⟨hzs, hdl, hks, hns, hds⟩ := hb
  simp only at hzs hdl hks hns hds
  have HP : Hid (∀ v, Calls Tryz.prog 35 #[.string op] v fun e w' => e = .returned (.int .i64 (2)) ∧ w' = v) := fun v => hm ▸ parts_any op v
  have HB : Hid (∀ o, Below w.heap.size w (w.alloc o)) := fun o => bl_alloc (Below.refl _ _) o
  have HAA : Hid (∀ v, Calls Tryz.prog 19 #[.slice ao l.length c, .int .i64 A] v fun e w' => e = .returned (.bool true) ∧ w' = v) := fun v => by
    have := ahead_any ao l.length c A v
    rw [hA] at this
    exact this
  have HAB : Hid (∀ v, Calls Tryz.prog 19 #[.slice ao l.length c, .int .i64 B] v fun e w' => e = .returned (.bool true) ∧ w' = v) := fun v => by
    have := ahead_any ao l.length c B v
    rw [hB] at this
    exact this
  obtain ⟨i, rfl⟩ : ∃ i : Nat, A = i := ⟨A.toNat, by have := inl_iff.1 hA; omega⟩
  obtain ⟨j, rfl⟩ : ∃ j : Nat, B = j := ⟨B.toNat, by have := inl_iff.1 hB; omega⟩
  have hi : i < l.length := by have := inl_iff.1 hA; omega
  have hj : j < l.length := by have := inl_iff.1 hB; omega
  obtain ⟨bl, ol, aa, ac, rfl, hC, hT⟩ := hl.shape hi
  obtain ⟨bl', ol', ba, bc, e', hC', hT'⟩ := hl.shape hj
  simp only [Option.some.injEq, Addr.mk.injEq, and_true] at e'
  obtain ⟨rfl, rfl⟩ := e'
  have es : sha l (i : Int) = (l.getD i zn).shape := rfl
  have es' : sha l (j : Int) = (l.getD j zn).shape := rfl
  rw [es, es'] at ho
  have hxs := hls i hi
  have hys := hls j hj
  obtain ⟨xs, hxsE⟩ : ∃ z, (l.getD i zn).shape = z := ⟨_, rfl⟩
  rw [hxsE] at ho hC hT hxs
  obtain ⟨ys, hysE⟩ : ∃ z, (l.getD j zn).shape = z := ⟨_, rfl⟩
  rw [hysE] at ho hC' hT' hys
  have HG : Hid (∀ v, Below w.heap.size w v → Calls Tryz.prog 38 #[.string op, .slice aa xs.length ac, .slice ba ys.length bc] v fun e w' => (∃ a c, e = .returned (.tuple #[.slice a s.length c, .bool true]) ∧ Sp.Sl w' a s) ∧ Below v.heap.size v w') := fun v hv => by
    have := pair_any op xs ys ac bc aa ba v (sl_below hT hv) (sl_below hT' hv) hxs hys
    rw [ho] at this
    exact this
  have cA : ∀ o, (w.alloc o).cell? ⟨bl, ol + i * 8 + 4, none⟩ = some (.slice aa xs.length ac) := fun o => cell_below (HB.out o) hC
  have cB : ∀ o, (w.alloc o).cell? ⟨bl, ol + j * 8 + 4, none⟩ = some (.slice ba ys.length bc) := fun o => cell_below (HB.out o) hC'
  clear hm hE hl hS hD hls hA hB hC hC' hT hT' ho es es' hxsE hysE hxs hys hks hds
  generalize xs.length = xl at HG cA
  generalize ys.length = yl at HG cB
  generalize zs.length = sl at hzs ⊢
  generalize data.length = dl at hdl ⊢
  generalize l.length = ll at HAA HAB hi hj ⊢
  go_enter Tryz.func21, Tryz.ntmps21
  go_wp2_with fail
  refine (HP.out _).mono ?_
  rintro e w1 ⟨rfl, rfl⟩
  go_wp2_with fail
  refine (HAA.out _).mono ?_
  rintro e w1 ⟨rfl, rfl⟩
  go_wp2_with fail
  refine (HAB.out _).mono ?_
  rintro e w1 ⟨rfl, rfl⟩
  go_upto_region 9 with fail
  refine region_bar 14 (fun v => ∃ nq, v = (w.alloc (.cells #[.string op, .int .i64 (i : Int), .int .i64 (j : Int), .string name, .slice sa sl sc, .string K, .int .i64 n, .slice da dl dc] 28)).drewN nq) (by kernel_rfl) (by kernel_rfl) (by kernel_rfl) ⟨1, rfl⟩ ?_
  simp only [List.take_succ_cons, List.take_zero]
  repeat (go_big_quiet_step (fail))
  refine wpQuiet_nil ?_
  rintro _ ⟨nq, rfl⟩
  have H0 : Hid _ := bl_n (HB.out (.cells #[.string op, .int .i64 (i : Int), .int .i64 (j : Int), .string name, .slice sa sl sc, .string K, .int .i64 n, .slice da dl dc] 28)) nq
  generalize (w.alloc (.cells #[.string op, .int .i64 (i : Int), .int .i64 (j : Int), .string name, .slice sa sl sc, .string K, .int .i64 n, .slice da dl dc] 28)).drewN nq = w0 at H0 ⊢
  refine any_one 14 _ (by kernel_rfl) rfl (fun K hK => ?_)
  go_simp
  refine (HG.out _ H0.out).mono ?_
  rintro e w1 ⟨⟨a2, c2, rfl, hs⟩, h1⟩
  have H1 : Hid _ := H0.out.trans (h1.mono H0.out.size)
  clear h1
  go_simp
  refine hK _ _ ?_
  clear hK K
  refine any_two 15 16 _ (by kernel_rfl) (by kernel_rfl) (by kernel_rfl) rfl rfl (fun K hK => ?_)
  refine ⟨?_, ?_⟩
  · refine op_step 15 _ rfl (fun K1 hK1 => ?_)
    go_simp
    refine hK1 _ _ ?_
    clear hK1 K1
    refine op_step 16 _ rfl (fun K1 hK1 => ?_)
    go_simp
    refine hK1 _ _ (hK _ _ ?_)
    clear hK1 K1 hK K
    refine any_one 17 _ (by kernel_rfl) rfl (fun K hK => ?_)
    go_simp
    refine hK _ _ ?_
    clear hK K
    refine any_one 18 _ (by kernel_rfl) rfl (fun K hK => ?_)
    go_simp
    refine hK _ _ ?_
    clear hK K
    refine any_end (by kernel_rfl) ?_
    go_wp2
    go_ret2
    exact ⟨⟨_, _, rfl, hs⟩, H1.out⟩
  · refine op_step 16 _ rfl (fun K1 hK1 => ?_)
    go_simp
    refine hK1 _ _ ?_
    clear hK1 K1
    refine op_step 15 _ rfl (fun K1 hK1 => ?_)
    go_simp
    refine hK1 _ _ (hK _ _ ?_)
    clear hK1 K1 hK K
    refine any_one 17 _ (by kernel_rfl) rfl (fun K hK => ?_)
    go_simp
    refine hK _ _ ?_
    clear hK K
    refine any_one 18 _ (by kernel_rfl) rfl (fun K hK => ?_)
    go_simp
    refine hK _ _ ?_
    clear hK K
    refine any_end (by kernel_rfl) ?_
    go_wp2
    go_ret2
    exact ⟨⟨_, _, rfl, hs⟩, H1.out⟩
set_option maxHeartbeats 4000000 in
theorem made_2o (l : List Nd) (op name K : ByteArray) (A B n : Int) (zs : List Int) (data : List ByteArray) (sc dc c : Nat) (sa da ao : Option Addr) (aF aZ : Addr) (w : World) (hE : Er w aF aZ) (hl : Nl w ao l) (hS : Sp.Sl w sa zs) (hD : Row w da (txts data)) (hb : Nb ⟨op, A, B, name, zs, K, n, data⟩) (hls : ∀ i, i < l.length → (l.getD i zn).shape.length ≤ 1000) (hm : prv op = 2) (hA : inl l.length A = true) (hB : inl l.length B = true) (ho : pai op (sha l A) (sha l B) = none) :
    Calls Tryz.prog 21 #[.slice ao l.length c, .agg #[.string op, .int .i64 A, .int .i64 B, .string name, .slice sa zs.length sc, .string K, .int .i64 n, .slice da data.length dc]] w fun e w' => (∃ a n c, e = .returned (.tuple #[.slice a n c, .bool false])) ∧ Below w.heap.size w w' := by
  obtain ⟨hzs, hdl, hks, hns, hds⟩ := hb
  simp only at hzs hdl hks hns hds
  have HP : Hid (∀ v, Calls Tryz.prog 35 #[.string op] v fun e w' => e = .returned (.int .i64 (2)) ∧ w' = v) := fun v => hm ▸ parts_any op v
  have HB : Hid (∀ o, Below w.heap.size w (w.alloc o)) := fun o => bl_alloc (Below.refl _ _) o
  have HAA : Hid (∀ v, Calls Tryz.prog 19 #[.slice ao l.length c, .int .i64 A] v fun e w' => e = .returned (.bool true) ∧ w' = v) := fun v => by
    have := ahead_any ao l.length c A v
    rw [hA] at this
    exact this
  have HAB : Hid (∀ v, Calls Tryz.prog 19 #[.slice ao l.length c, .int .i64 B] v fun e w' => e = .returned (.bool true) ∧ w' = v) := fun v => by
    have := ahead_any ao l.length c B v
    rw [hB] at this
    exact this
  obtain ⟨i, rfl⟩ : ∃ i : Nat, A = i := ⟨A.toNat, by have := inl_iff.1 hA; omega⟩
  obtain ⟨j, rfl⟩ : ∃ j : Nat, B = j := ⟨B.toNat, by have := inl_iff.1 hB; omega⟩
  have hi : i < l.length := by have := inl_iff.1 hA; omega
  have hj : j < l.length := by have := inl_iff.1 hB; omega
  obtain ⟨bl, ol, aa, ac, rfl, hC, hT⟩ := hl.shape hi
  obtain ⟨bl', ol', ba, bc, e', hC', hT'⟩ := hl.shape hj
  simp only [Option.some.injEq, Addr.mk.injEq, and_true] at e'
  obtain ⟨rfl, rfl⟩ := e'
  have es : sha l (i : Int) = (l.getD i zn).shape := rfl
  have es' : sha l (j : Int) = (l.getD j zn).shape := rfl
  rw [es, es'] at ho
  have hxs := hls i hi
  have hys := hls j hj
  obtain ⟨xs, hxsE⟩ : ∃ z, (l.getD i zn).shape = z := ⟨_, rfl⟩
  rw [hxsE] at ho hC hT hxs
  obtain ⟨ys, hysE⟩ : ∃ z, (l.getD j zn).shape = z := ⟨_, rfl⟩
  rw [hysE] at ho hC' hT' hys
  have HG : Hid (∀ v, Below w.heap.size w v → Calls Tryz.prog 38 #[.string op, .slice aa xs.length ac, .slice ba ys.length bc] v fun e w' => (∃ a n c, e = .returned (.tuple #[.slice a n c, .bool false])) ∧ Below v.heap.size v w') := fun v hv => by
    have := pair_any op xs ys ac bc aa ba v (sl_below hT hv) (sl_below hT' hv) hxs hys
    rw [ho] at this
    exact this
  have cA : ∀ o, (w.alloc o).cell? ⟨bl, ol + i * 8 + 4, none⟩ = some (.slice aa xs.length ac) := fun o => cell_below (HB.out o) hC
  have cB : ∀ o, (w.alloc o).cell? ⟨bl, ol + j * 8 + 4, none⟩ = some (.slice ba ys.length bc) := fun o => cell_below (HB.out o) hC'
  clear hm hE hl hS hD hls hA hB hC hC' hT hT' ho es es' hxsE hysE hxs hys hks hds
  generalize xs.length = xl at HG cA
  generalize ys.length = yl at HG cB
  generalize zs.length = sl at hzs ⊢
  generalize data.length = dl at hdl ⊢
  generalize l.length = ll at HAA HAB hi hj ⊢
  go_enter Tryz.func21, Tryz.ntmps21
  go_wp2_with fail
  refine (HP.out _).mono ?_
  rintro e w1 ⟨rfl, rfl⟩
  go_wp2_with fail
  refine (HAA.out _).mono ?_
  rintro e w1 ⟨rfl, rfl⟩
  go_wp2_with fail
  refine (HAB.out _).mono ?_
  rintro e w1 ⟨rfl, rfl⟩
  go_upto_region 9 with fail
  refine region_bar 14 (fun v => ∃ nq, v = (w.alloc (.cells #[.string op, .int .i64 (i : Int), .int .i64 (j : Int), .string name, .slice sa sl sc, .string K, .int .i64 n, .slice da dl dc] 28)).drewN nq) (by kernel_rfl) (by kernel_rfl) (by kernel_rfl) ⟨1, rfl⟩ ?_
  simp only [List.take_succ_cons, List.take_zero]
  repeat (go_big_quiet_step (fail))
  refine wpQuiet_nil ?_
  rintro _ ⟨nq, rfl⟩
  have H0 : Hid _ := bl_n (HB.out (.cells #[.string op, .int .i64 (i : Int), .int .i64 (j : Int), .string name, .slice sa sl sc, .string K, .int .i64 n, .slice da dl dc] 28)) nq
  generalize (w.alloc (.cells #[.string op, .int .i64 (i : Int), .int .i64 (j : Int), .string name, .slice sa sl sc, .string K, .int .i64 n, .slice da dl dc] 28)).drewN nq = w0 at H0 ⊢
  refine any_one 14 _ (by kernel_rfl) rfl (fun K hK => ?_)
  go_simp
  refine (HG.out _ H0.out).mono ?_
  rintro e w1 ⟨⟨a2, n2, c2, rfl⟩, h1⟩
  have H1 : Hid _ := H0.out.trans (h1.mono H0.out.size)
  clear h1
  go_simp
  refine hK _ _ ?_
  clear hK K
  refine any_two 15 16 _ (by kernel_rfl) (by kernel_rfl) (by kernel_rfl) rfl rfl (fun K hK => ?_)
  refine ⟨?_, ?_⟩
  · refine op_step 15 _ rfl (fun K1 hK1 => ?_)
    go_simp
    refine hK1 _ _ ?_
    clear hK1 K1
    refine op_step 16 _ rfl (fun K1 hK1 => ?_)
    go_simp
    refine hK1 _ _ (hK _ _ ?_)
    clear hK1 K1 hK K
    refine any_one 17 _ (by kernel_rfl) rfl (fun K hK => ?_)
    go_simp
    refine hK _ _ ?_
    clear hK K
    refine any_one 18 _ (by kernel_rfl) rfl (fun K hK => ?_)
    go_simp
    refine hK _ _ ?_
    clear hK K
    refine any_end (by kernel_rfl) ?_
    go_wp2
    go_ret2
    exact ⟨⟨_, _, _, rfl⟩, H1.out⟩
  · refine op_step 16 _ rfl (fun K1 hK1 => ?_)
    go_simp
    refine hK1 _ _ ?_
    clear hK1 K1
    refine op_step 15 _ rfl (fun K1 hK1 => ?_)
    go_simp
    refine hK1 _ _ (hK _ _ ?_)
    clear hK1 K1 hK K
    refine any_one 17 _ (by kernel_rfl) rfl (fun K hK => ?_)
    go_simp
    refine hK _ _ ?_
    clear hK K
    refine any_one 18 _ (by kernel_rfl) rfl (fun K hK => ?_)
    go_simp
    refine hK _ _ ?_
    clear hK K
    refine any_end (by kernel_rfl) ?_
    go_wp2
    go_ret2
    exact ⟨⟨_, _, _, rfl⟩, H1.out⟩
end Go.Proofs.YtadgnafafdfioaaGreatDoor.Gr
