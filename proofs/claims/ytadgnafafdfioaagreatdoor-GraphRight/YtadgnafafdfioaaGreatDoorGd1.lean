/-
  made, OF NODES OF ONE PART. Conditions: each theorem's own.
-/
import Derived.Test.YtadgnafafdfioaaGreatDoorGd
namespace Go.Proofs.YtadgnafafdfioaaGreatDoor.Gr
open Go.Proofs.YtadgnafafdfioaaGreatDoor.Rd
set_option maxRecDepth 100000
open Go.RowKit
set_option linter.unusedVariables false
set_option linter.unusedSimpArgs false

set_option maxHeartbeats 4000000 in
theorem made_1y (l : List Nd) (op name K : ByteArray) (A B n : Int) (zs : List Int) (data : List ByteArray) (sc dc c : Nat) (sa da ao : Option Addr) (aF aZ : Addr) (w : World) (hE : Er w aF aZ) (hl : Nl w ao l) (hS : Sp.Sl w sa zs) (hD : Row w da (txts data)) (hb : Nb ⟨op, A, B, name, zs, K, n, data⟩) (hls : ∀ i, i < l.length → (l.getD i zn).shape.length ≤ 1000) (s : List Int) (hm : prv op = 1) (hA : inl l.length A = true) (ho : sgl ⟨op, A, B, name, zs, K, n, data⟩ (sha l A) = some s) :
    Calls Tryz.prog 21 #[.slice ao l.length c, .agg #[.string op, .int .i64 A, .int .i64 B, .string name, .slice sa zs.length sc, .string K, .int .i64 n, .slice da data.length dc]] w fun e w' => (∃ a c, e = .returned (.tuple #[.slice a s.length c, .bool true]) ∧ Sp.Sl w' a s) ∧ Below w.heap.size w w' := by
  obtain ⟨hzs, hdl, hks, hns, hds⟩ := hb
  simp only at hzs hdl hks hns hds
  have HP : Hid (∀ v, Calls Tryz.prog 35 #[.string op] v fun e w' => e = .returned (.int .i64 (1)) ∧ w' = v) := fun v => hm ▸ parts_any op v
  have HB : Hid (∀ o, Below w.heap.size w (w.alloc o)) := fun o => bl_alloc (Below.refl _ _) o
  have HA : Hid (∀ v, Calls Tryz.prog 19 #[.slice ao l.length c, .int .i64 A] v fun e w' => e = .returned (.bool true) ∧ w' = v) := fun v => by
    have := ahead_any ao l.length c A v
    rw [hA] at this
    exact this
  obtain ⟨i, rfl⟩ : ∃ i : Nat, A = i := ⟨A.toNat, by have := inl_iff.1 hA; omega⟩
  have hi : i < l.length := by have := inl_iff.1 hA; omega
  obtain ⟨bl, ol, aa, ac, rfl, hC, hT⟩ := hl.shape hi
  have es : sha l (i : Int) = (l.getD i zn).shape := rfl
  rw [es] at ho
  have hxs := hls i hi
  obtain ⟨xs, hxsE⟩ : ∃ z, (l.getD i zn).shape = z := ⟨_, rfl⟩
  rw [hxsE] at ho hC hT hxs
  have HG : Hid (∀ v, Below w.heap.size w v → Calls Tryz.prog 37 #[.agg #[.string op, .int .i64 (i : Int), .int .i64 B, .string name, .slice sa zs.length sc, .string K, .int .i64 n, .slice da data.length dc], .slice aa xs.length ac] v fun e w' => (∃ a c, e = .returned (.tuple #[.slice a s.length c, .bool true]) ∧ Sp.Sl w' a s) ∧ Below v.heap.size v w') := fun v hv => by
    have := single_any op name K i B n zs data xs sc dc ac sa da aa aF aZ v (hE.below hv) (sl_below hS hv) (sl_below hT hv) hzs hxs hks
    rw [ho] at this
    exact this
  have hCv : ∀ v, Below w.heap.size w v → v.cell? ⟨bl, ol + i * 8 + 4, none⟩ = some (.slice aa xs.length ac) := fun v hv => cell_below hv hC
  have cA : ∀ o, (w.alloc o).cell? ⟨bl, ol + i * 8 + 4, none⟩ = some (.slice aa xs.length ac) := fun o => hCv _ (HB.out o)
  clear hm hE hl hS hD hls hA hCv hC hT ho es hxsE hxs
  generalize xs.length = xl at HG cA
  generalize zs.length = sl at HG ⊢
  generalize data.length = dl at HG ⊢
  generalize l.length = ll at HA hi ⊢
  go_enter Tryz.func21, Tryz.ntmps21
  go_wp2_with fail
  refine (HP.out _).mono ?_
  rintro e w1 ⟨rfl, rfl⟩
  go_wp2_with fail
  refine (HA.out _).mono ?_
  rintro e w1 ⟨rfl, rfl⟩
  go_upto_region 6 with fail
  go_region_with (go_at_call 37; refine (HG.out _ (by first | exact bl_drew (HB.out _) | exact bl_n (HB.out _) _)).mono ?_; rintro e w1 ⟨⟨a2, c2, rfl, hs⟩, h1⟩; have H1 : Hid _ := (bl_drew (HB.out (.cells #[.string op, .int .i64 (i : Int), .int .i64 B, .string name, .slice sa sl sc, .string K, .int .i64 n, .slice da dl dc] 28))).trans (h1.mono (bl_drew (HB.out _)).size); clear h1)
  all_goals go_wp2
  all_goals go_ret2
  all_goals exact ⟨⟨_, _, rfl, hs⟩, H1.out⟩
set_option maxHeartbeats 4000000 in
theorem made_1o (l : List Nd) (op name K : ByteArray) (A B n : Int) (zs : List Int) (data : List ByteArray) (sc dc c : Nat) (sa da ao : Option Addr) (aF aZ : Addr) (w : World) (hE : Er w aF aZ) (hl : Nl w ao l) (hS : Sp.Sl w sa zs) (hD : Row w da (txts data)) (hb : Nb ⟨op, A, B, name, zs, K, n, data⟩) (hls : ∀ i, i < l.length → (l.getD i zn).shape.length ≤ 1000) (hm : prv op = 1) (hA : inl l.length A = true) (ho : sgl ⟨op, A, B, name, zs, K, n, data⟩ (sha l A) = none) :
    Calls Tryz.prog 21 #[.slice ao l.length c, .agg #[.string op, .int .i64 A, .int .i64 B, .string name, .slice sa zs.length sc, .string K, .int .i64 n, .slice da data.length dc]] w fun e w' => (∃ a n c, e = .returned (.tuple #[.slice a n c, .bool false])) ∧ Below w.heap.size w w' := by
  obtain ⟨hzs, hdl, hks, hns, hds⟩ := hb
  simp only at hzs hdl hks hns hds
  have HP : Hid (∀ v, Calls Tryz.prog 35 #[.string op] v fun e w' => e = .returned (.int .i64 (1)) ∧ w' = v) := fun v => hm ▸ parts_any op v
  have HB : Hid (∀ o, Below w.heap.size w (w.alloc o)) := fun o => bl_alloc (Below.refl _ _) o
  have HA : Hid (∀ v, Calls Tryz.prog 19 #[.slice ao l.length c, .int .i64 A] v fun e w' => e = .returned (.bool true) ∧ w' = v) := fun v => by
    have := ahead_any ao l.length c A v
    rw [hA] at this
    exact this
  obtain ⟨i, rfl⟩ : ∃ i : Nat, A = i := ⟨A.toNat, by have := inl_iff.1 hA; omega⟩
  have hi : i < l.length := by have := inl_iff.1 hA; omega
  obtain ⟨bl, ol, aa, ac, rfl, hC, hT⟩ := hl.shape hi
  have es : sha l (i : Int) = (l.getD i zn).shape := rfl
  rw [es] at ho
  have hxs := hls i hi
  obtain ⟨xs, hxsE⟩ : ∃ z, (l.getD i zn).shape = z := ⟨_, rfl⟩
  rw [hxsE] at ho hC hT hxs
  have HG : Hid (∀ v, Below w.heap.size w v → Calls Tryz.prog 37 #[.agg #[.string op, .int .i64 (i : Int), .int .i64 B, .string name, .slice sa zs.length sc, .string K, .int .i64 n, .slice da data.length dc], .slice aa xs.length ac] v fun e w' => (∃ a n c, e = .returned (.tuple #[.slice a n c, .bool false])) ∧ Below v.heap.size v w') := fun v hv => by
    have := single_any op name K i B n zs data xs sc dc ac sa da aa aF aZ v (hE.below hv) (sl_below hS hv) (sl_below hT hv) hzs hxs hks
    rw [ho] at this
    exact this
  have hCv : ∀ v, Below w.heap.size w v → v.cell? ⟨bl, ol + i * 8 + 4, none⟩ = some (.slice aa xs.length ac) := fun v hv => cell_below hv hC
  have cA : ∀ o, (w.alloc o).cell? ⟨bl, ol + i * 8 + 4, none⟩ = some (.slice aa xs.length ac) := fun o => hCv _ (HB.out o)
  clear hm hE hl hS hD hls hA hCv hC hT ho es hxsE hxs
  generalize xs.length = xl at HG cA
  generalize zs.length = sl at HG ⊢
  generalize data.length = dl at HG ⊢
  generalize l.length = ll at HA hi ⊢
  go_enter Tryz.func21, Tryz.ntmps21
  go_wp2_with fail
  refine (HP.out _).mono ?_
  rintro e w1 ⟨rfl, rfl⟩
  go_wp2_with fail
  refine (HA.out _).mono ?_
  rintro e w1 ⟨rfl, rfl⟩
  go_upto_region 6 with fail
  go_region_with (go_at_call 37; refine (HG.out _ (by first | exact bl_drew (HB.out _) | exact bl_n (HB.out _) _)).mono ?_; rintro e w1 ⟨⟨a2, n2, c2, rfl⟩, h1⟩; have H1 : Hid _ := (bl_drew (HB.out (.cells #[.string op, .int .i64 (i : Int), .int .i64 B, .string name, .slice sa sl sc, .string K, .int .i64 n, .slice da dl dc] 28))).trans (h1.mono (bl_drew (HB.out _)).size); clear h1)
  all_goals go_wp2
  all_goals go_ret2
  all_goals exact ⟨⟨_, _, _, rfl⟩, H1.out⟩
end Go.Proofs.YtadgnafafdfioaaGreatDoor.Gr
