/-
  THE WALK OF ArrayRows. Conditions: what the argument holds.
-/
import Derived.Test.YtbfboippaejnmaaGreatDoorGz
namespace Go.Proofs.YtbfboippaejnmaaGreatDoor.Tn
set_option maxRecDepth 100000
open Go.RowKit Nm
set_option linter.unusedVariables false

set_option maxHeartbeats 4000000 in
theorem rows_long1 (a1 b1 : Option Addr) (c1 d1 m1 n1 : Nat) (aF aZ : Addr) (w : World) (hE : Er w aF aZ)
    (hS1 : ∀ v, Below w.heap.size w v → Calls Tryz.prog 12 #[.agg #[.slice a1 m1 c1, .slice b1 n1 d1]] v fun e w' => e = .returned (.bool false) ∧ Below v.heap.size v w') :
    Calls Tryz.prog 11 #[.agg #[.slice a1 m1 c1, .slice b1 n1 d1]] w fun e w' => e = .returned (.bool true) ∧ Below w.heap.size w w' := by
  have HE : Hid _ := hE
  clear hE
  have HB : Hid (Below w.heap.size w w) := Below.refl _ _
  have hu := bl_alloc (Below.refl w.heap.size w) (.cells #[.slice a1 m1 c1, .slice b1 n1 d1] 25)
  replace HB : Hid _ := bl_trans HB.out hu
  clear hu
  have K10 : (w.alloc (.cells #[.slice a1 m1 c1, .slice b1 n1 d1] 25)).cell? ⟨w.heap.size, 0, none⟩ = some (.slice a1 m1 c1) := by first | rw [World.cell?_alloc_at _ _ _ _ (by simp)]; rfl | simp
  have K11 : (w.alloc (.cells #[.slice a1 m1 c1, .slice b1 n1 d1] 25)).cell? ⟨w.heap.size, 1, none⟩ = some (.slice b1 n1 d1) := by first | rw [World.cell?_alloc_at _ _ _ _ (by simp)]; rfl | simp
  go_enter Tryz.func11, Tryz.ntmps11
  go_wp2_with fail
  refine (hS1 _ HB.out).mono ?_
  rintro e w1 ⟨rfl, hb⟩
  have hu := hb
  replace HB : Hid _ := bl_trans HB.out hu
  replace K10 := cell_below hu K10
  replace K11 := cell_below hu K11
  clear hu
  clear hb
  go_wp2_with fail
  refine (awake_any aF aZ _ (HE.out.below HB.out)).mono ?_
  rintro e w2 ⟨rfl, hb⟩
  have hu := hb
  replace HB : Hid _ := bl_trans HB.out hu
  replace K10 := cell_below hu K10
  replace K11 := cell_below hu K11
  clear hu
  clear hb
  go_wp2
  go_ret
  exact ⟨rfl, HB.out⟩

set_option maxHeartbeats 4000000 in
theorem rows_bad (a1 b1 : Option Addr) (c1 d1 m1 n1 : Nat) (aF aZ : Addr) (w : World) (hE : Er w aF aZ)
    (hS1 : ∀ v, Below w.heap.size w v → Calls Tryz.prog 12 #[.agg #[.slice a1 m1 c1, .slice b1 n1 d1]] v fun e w' => e = .returned (.bool true) ∧ Below v.heap.size v w')
    (hR1 : ∀ v, Below w.heap.size w v → Calls Tryz.prog 16 #[.agg #[.slice a1 m1 c1, .slice b1 n1 d1]] v fun e w' => e = .returned (.bool false) ∧ Below v.heap.size v w') :
    Calls Tryz.prog 11 #[.agg #[.slice a1 m1 c1, .slice b1 n1 d1]] w fun e w' => e = .returned (.bool true) ∧ Below w.heap.size w w' := by
  have HE : Hid _ := hE
  clear hE
  have HB : Hid (Below w.heap.size w w) := Below.refl _ _
  have hu := bl_alloc (Below.refl w.heap.size w) (.cells #[.slice a1 m1 c1, .slice b1 n1 d1] 25)
  replace HB : Hid _ := bl_trans HB.out hu
  clear hu
  have K10 : (w.alloc (.cells #[.slice a1 m1 c1, .slice b1 n1 d1] 25)).cell? ⟨w.heap.size, 0, none⟩ = some (.slice a1 m1 c1) := by first | rw [World.cell?_alloc_at _ _ _ _ (by simp)]; rfl | simp
  have K11 : (w.alloc (.cells #[.slice a1 m1 c1, .slice b1 n1 d1] 25)).cell? ⟨w.heap.size, 1, none⟩ = some (.slice b1 n1 d1) := by first | rw [World.cell?_alloc_at _ _ _ _ (by simp)]; rfl | simp
  go_enter Tryz.func11, Tryz.ntmps11
  go_wp2_with fail
  refine (hS1 _ HB.out).mono ?_
  rintro e w1 ⟨rfl, hb⟩
  have hu := hb
  replace HB : Hid _ := bl_trans HB.out hu
  replace K10 := cell_below hu K10
  replace K11 := cell_below hu K11
  clear hu
  clear hb
  go_wp2_with fail
  refine (hR1 _ HB.out).mono ?_
  rintro e w2 ⟨rfl, hb⟩
  have hu := hb
  replace HB : Hid _ := bl_trans HB.out hu
  replace K10 := cell_below hu K10
  replace K11 := cell_below hu K11
  clear hu
  clear hb
  go_wp2_with fail
  refine (awake_any aF aZ _ (HE.out.below HB.out)).mono ?_
  rintro e w3 ⟨rfl, hb⟩
  have hu := hb
  replace HB : Hid _ := bl_trans HB.out hu
  replace K10 := cell_below hu K10
  replace K11 := cell_below hu K11
  clear hu
  clear hb
  go_wp2
  go_ret
  exact ⟨rfl, HB.out⟩

set_option maxHeartbeats 4000000 in
theorem rows_flat (a1 b1 : Option Addr) (c1 d1 m1 n1 : Nat) (aF aZ : Addr) (w : World) (hE : Er w aF aZ)
    (hS1 : ∀ v, Below w.heap.size w v → Calls Tryz.prog 12 #[.agg #[.slice a1 m1 c1, .slice b1 n1 d1]] v fun e w' => e = .returned (.bool true) ∧ Below v.heap.size v w')
    (hR1 : ∀ v, Below w.heap.size w v → Calls Tryz.prog 16 #[.agg #[.slice a1 m1 c1, .slice b1 n1 d1]] v fun e w' => e = .returned (.bool true) ∧ Below v.heap.size v w')
    (hm1 : ((m1 : Int) != 2) = true) (hm2 : ((m1 : Int) == 2) = false) :
    Calls Tryz.prog 11 #[.agg #[.slice a1 m1 c1, .slice b1 n1 d1]] w fun e w' => e = .returned (.bool true) ∧ Below w.heap.size w w' := by
  have HE : Hid _ := hE
  clear hE
  have HB : Hid (Below w.heap.size w w) := Below.refl _ _
  have hu := bl_alloc (Below.refl w.heap.size w) (.cells #[.slice a1 m1 c1, .slice b1 n1 d1] 25)
  replace HB : Hid _ := bl_trans HB.out hu
  clear hu
  have K10 : (w.alloc (.cells #[.slice a1 m1 c1, .slice b1 n1 d1] 25)).cell? ⟨w.heap.size, 0, none⟩ = some (.slice a1 m1 c1) := by first | rw [World.cell?_alloc_at _ _ _ _ (by simp)]; rfl | simp
  have K11 : (w.alloc (.cells #[.slice a1 m1 c1, .slice b1 n1 d1] 25)).cell? ⟨w.heap.size, 1, none⟩ = some (.slice b1 n1 d1) := by first | rw [World.cell?_alloc_at _ _ _ _ (by simp)]; rfl | simp
  go_enter Tryz.func11, Tryz.ntmps11
  go_wp2_with fail
  refine (hS1 _ HB.out).mono ?_
  rintro e w1 ⟨rfl, hb⟩
  have hu := hb
  replace HB : Hid _ := bl_trans HB.out hu
  replace K10 := cell_below hu K10
  replace K11 := cell_below hu K11
  clear hu
  clear hb
  go_wp2_with fail
  refine (hR1 _ HB.out).mono ?_
  rintro e w2 ⟨rfl, hb⟩
  have hu := hb
  replace HB : Hid _ := bl_trans HB.out hu
  replace K10 := cell_below hu K10
  replace K11 := cell_below hu K11
  clear hu
  clear hb
  go_wp2_with fail
  refine (awake_any aF aZ _ (HE.out.below HB.out)).mono ?_
  rintro e w3 ⟨rfl, hb⟩
  have hu := hb
  replace HB : Hid _ := bl_trans HB.out hu
  replace K10 := cell_below hu K10
  replace K11 := cell_below hu K11
  clear hu
  clear hb
  go_wp2
  go_ret
  exact ⟨rfl, HB.out⟩

set_option maxHeartbeats 4000000 in
theorem rows_good (x y : Nat) (b1 : Option Addr) (c1 d1 n1 : Nat) (p q : Nat) (qs : List Rat) (aF aZ : Addr) (w : World) (hE : Er w aF aZ)
    (hS1 : ∀ v, Below w.heap.size w v → Calls Tryz.prog 12 #[.agg #[.slice (some ⟨x, y, none⟩) 2 c1, .slice b1 n1 d1]] v fun e w' => e = .returned (.bool true) ∧ Below v.heap.size v w')
    (hR1 : ∀ v, Below w.heap.size w v → Calls Tryz.prog 16 #[.agg #[.slice (some ⟨x, y, none⟩) 2 c1, .slice b1 n1 d1]] v fun e w' => e = .returned (.bool true) ∧ Below v.heap.size v w')
    (hT : Tt w 0 (some ⟨x, y, none⟩) b1 [(p : Int), (q : Int)] 2 n1 qs 40)
    (KX0 : w.cell? ⟨x, y, none⟩ = some (.int .i64 (p : Int))) (KX1 : w.cell? ⟨x, y + 1, none⟩ = some (.int .i64 (q : Int))) :
    Calls Tryz.prog 11 #[.agg #[.slice (some ⟨x, y, none⟩) 2 c1, .slice b1 n1 d1]] w fun e w' => e = .returned (.bool true) ∧ Below w.heap.size w w' := by
  have HE : Hid _ := hE
  clear hE
  have HB : Hid (Below w.heap.size w w) := Below.refl _ _
  have HT0 : Hid _ := hT
  clear hT
  have hu := bl_alloc (Below.refl w.heap.size w) (.cells #[.slice (some ⟨x, y, none⟩) 2 c1, .slice b1 n1 d1] 25)
  replace HB : Hid _ := bl_trans HB.out hu
  replace KX0 := cell_below hu KX0
  replace KX1 := cell_below hu KX1
  clear hu
  have K10 : (w.alloc (.cells #[.slice (some ⟨x, y, none⟩) 2 c1, .slice b1 n1 d1] 25)).cell? ⟨w.heap.size, 0, none⟩ = some (.slice (some ⟨x, y, none⟩) 2 c1) := by first | rw [World.cell?_alloc_at _ _ _ _ (by simp)]; rfl | simp
  have K11 : (w.alloc (.cells #[.slice (some ⟨x, y, none⟩) 2 c1, .slice b1 n1 d1] 25)).cell? ⟨w.heap.size, 1, none⟩ = some (.slice b1 n1 d1) := by first | rw [World.cell?_alloc_at _ _ _ _ (by simp)]; rfl | simp
  go_enter Tryz.func11, Tryz.ntmps11
  go_wp2_with fail
  refine (hS1 _ HB.out).mono ?_
  rintro e w1 ⟨rfl, hb⟩
  have hu := hb
  replace HB : Hid _ := bl_trans HB.out hu
  replace KX0 := cell_below hu KX0
  replace KX1 := cell_below hu KX1
  replace K10 := cell_below hu K10
  replace K11 := cell_below hu K11
  clear hu
  clear hb
  go_wp2_with fail
  refine (hR1 _ HB.out).mono ?_
  rintro e w2 ⟨rfl, hb⟩
  have hu := hb
  replace HB : Hid _ := bl_trans HB.out hu
  replace KX0 := cell_below hu KX0
  replace KX1 := cell_below hu KX1
  replace K10 := cell_below hu K10
  replace K11 := cell_below hu K11
  clear hu
  have hb9 := HB.out
  clear hb
  obtain ⟨i0, hi, hz0, hz1, hz2⟩ := info_parts inf9
  have hp := (two_le ⟨HT0.out.two.2.2.1, HT0.out.two.2.2.2.1, HT0.out.two.2.2.2.2⟩).1
  have hq := (two_le ⟨HT0.out.two.2.2.1, HT0.out.two.2.2.2.1, HT0.out.two.2.2.2.2⟩).2
  have u1 := bl_alloc (bl_alloc (Below.refl w2.heap.size w2) (.cells #[.int .i64 1, .int .i64 (p : Int)] 3)) (.cells #[.slice (some ⟨w2.heap.size, 0, none⟩) 2 2, .slice none 0 0] 25)
  have k10 := cell_below u1 K10
  have kx1 := cell_below u1 KX1
  have u2 := bl_alloc (bl_alloc u1 (.cells #[.int .i64 (q : Int), .int .i64 1] 3)) (.cells #[.slice (some ⟨w2.heap.size + 1 + 1, 0, none⟩) 2 2, .slice none 0 0] 25)
  replace HB : Hid _ := bl_trans HB.out u2
  have l10 := cell_below u2 K10
  have l11 := cell_below u2 K11
  have lx0 := cell_below u2 KX0
  have lx1 := cell_below u2 KX1
  have hlo : w.heap.size ≤ w2.heap.size := hb9.size
  have hxs := row_lt KX0
  clear u1 hb9
  go_wp2_with fail
  obtain ⟨g0, g1, g2, g3⟩ := four_blocks (w := w2) (v := ((((w2.alloc (.cells #[.int .i64 1, .int .i64 (p : Int)] 3)).alloc (.cells #[.slice (some ⟨w2.heap.size, 0, none⟩) 2 2, .slice none 0 0] 25)).alloc (.cells #[.int .i64 (q : Int), .int .i64 1] 3)).alloc (.cells #[.slice (some ⟨w2.heap.size + 1 + 1, 0, none⟩) 2 2, .slice none 0 0] 25))) rfl
  have s0 := blk_cell g0 0
  have s1 := blk_cell g0 1
  have r0 := blk_cell g1 0
  have r1 := blk_cell g1 1
  have t0 := blk_cell g2 0
  have t1 := blk_cell g2 1
  have q0 := blk_cell g3 0
  have q1 := blk_cell g3 1
  have fr := blk_froz g1 1
  have fq := blk_froz g3 1
  have HSZ : Hid (w.heap.size ≤ w2.heap.size ∧ x < w2.heap.size ∧ ((((w2.alloc (.cells #[.int .i64 1, .int .i64 (p : Int)] 3)).alloc (.cells #[.slice (some ⟨w2.heap.size, 0, none⟩) 2 2, .slice none 0 0] 25)).alloc (.cells #[.int .i64 (q : Int), .int .i64 1] 3)).alloc (.cells #[.slice (some ⟨w2.heap.size + 1 + 1, 0, none⟩) 2 2, .slice none 0 0] 25)).heap.size = w2.heap.size + 1 + 1 + 1 + 1) := ⟨hlo, hxs, by simp⟩
  clear g0 g1 g2 g3 k10 kx1 u2 K10 K11 KX0 KX1 hlo hxs
  generalize ((((w2.alloc (.cells #[.int .i64 1, .int .i64 (p : Int)] 3)).alloc (.cells #[.slice (some ⟨w2.heap.size, 0, none⟩) 2 2, .slice none 0 0] 25)).alloc (.cells #[.int .i64 (q : Int), .int .i64 1] 3)).alloc (.cells #[.slice (some ⟨w2.heap.size + 1 + 1, 0, none⟩) 2 2, .slice none 0 0] 25)) = u at *
  go_loopw [42] (fun i wr => ∃ (k : Nat) (v : Value), k ≤ p ∧ i = .int .i64 k ∧ Gz u wr (w2.heap.size + 1) (.slice (some ⟨w2.heap.size, 0, none⟩) 2 2) v k (txts (List.replicate k ⟨#[49]⟩))) (fun i _ => p - (intOf i).toNat)
  case atStart => exact ⟨0, .slice none 0 0, by omega, rfl, Gz.start r0 r1 fr⟩
  case round =>
  obtain ⟨k, v, hk, rfl, hG⟩ := hrel
  by_cases h : k < p
  · have hown : (wr.alloc (.cells #[.string ⟨#[49]⟩] 9)).ownsRow u.heap.size 9 1 v k (txts (List.replicate k ⟨#[49]⟩)) := World.ownsRow.alloc hG.ow _
    have z1 := hG.c1
    have hnw : Row (wr.alloc (.cells #[.string ⟨#[49]⟩] 9)) (some ⟨wr.heap.size, 0, none⟩) [.string ⟨#[49]⟩] := Row.one (by simp)
    have HG : Hid _ := hG
    have HOW : Hid _ := hown
    have HNW : Hid _ := hnw
    have HZ9 : Hid (u.heap.size ≤ (wr.alloc (.cells #[.string ⟨#[49]⟩] 9)).heap.size) := by have := hG.sz; simp [Hid]; omega
    clear hG hown hnw
    go_wp2_with (first | (at_builtin; refine wpList_append_row _ _ 23 rfl u.heap.size 9 i0 (.string ByteArray.empty) 16 Tryz.underlying23 hi hz0 hz1 hz2 rfl _ k (txts (List.replicate k ⟨#[49]⟩)) rfl HOW.out (some ⟨wr.heap.size, 0, none⟩) 1 1 [.string ⟨#[49]⟩] rfl rfl HNW.out (by simp [Value.oneCell']) (fun h => by cases h) (by unfold maxLen; omega) (by omega) HZ9.out (by first | rfl | go_simp) ?_))
    intro v' w4 hown4 hgrow4
    have hbl : w4.heap[w2.heap.size + 1]? = wr.heap[w2.heap.size + 1]? := HG.out.block (bl_alloc (Below.refl wr.heap.size wr) _) hgrow4 HG.out.hi
    have hc4 : w4.cell? ⟨w2.heap.size + 1, 1, none⟩ = some v := by rw [World.cell?_of_block (w := wr) hbl]; exact HG.out.c1
    have hf4 : w4.frozen? ⟨w2.heap.size + 1, 1, none⟩ = false := by rw [World.frozen?_of_block (w := wr) hbl]; exact HG.out.f1
    obtain ⟨a4, c4, ev, _⟩ := Row.of_own hown4
    subst ev
    have HF : Hid _ := HG.out.next (bl_alloc (Below.refl wr.heap.size wr) _) hgrow4 hown4
    clear hown4 hgrow4 hbl HG HOW HNW z1
    go_wp2
    go_roundw
    case rel => exact ⟨k + 1, .slice a4 (k + 1) c4, by omega, by go_num, by rw [txts_reps]; exact HF.out⟩
    case measure => simp [intOf]; omega
  obtain rfl : p = k := by omega
  clear h hk

  obtain ⟨br, dr, ev, hrow, hfar⟩ := hG.far
  subst ev
  replace l10 := hG.cell l10 (by have := HSZ.out; omega)
  replace l11 := hG.cell l11 (by have := HSZ.out; omega)
  replace lx0 := hG.cell lx0 (by have := HSZ.out; omega)
  replace lx1 := hG.cell lx1 (by have := HSZ.out; omega)
  replace s0 := hG.cell s0 (by have := HSZ.out; omega)
  replace s1 := hG.cell s1 (by have := HSZ.out; omega)
  replace t0 := hG.cell t0 (by have := HSZ.out; omega)
  replace t1 := hG.cell t1 (by have := HSZ.out; omega)
  replace q0 := hG.cell q0 (by have := HSZ.out; omega)
  replace q1 := hG.cell q1 (by have := HSZ.out; omega)
  replace fq := hG.froz fq (by have := HSZ.out; omega) (by have := HSZ.out; omega)
  have HSZ2 : Hid (u.heap.size ≤ wr.heap.size) := hG.sz
  replace HB : Hid _ := hG.below HB.out (by have := HSZ.out; omega)
  clear r0 r1 fr
  have r0 := hG.c0
  have r1 := hG.c1
  have HROW : Hid _ := hrow
  have HFAR : Hid _ := hfar
  clear hG hrow hfar
  obtain ⟨u2, hu2⟩ : ∃ u2, u2 = wr := ⟨_, rfl⟩
  subst hu2
  go_wp2_with fail
  go_loopw [54] (fun i wr => ∃ (k : Nat) (v : Value), k ≤ q ∧ i = .int .i64 k ∧ Gz u2 wr (w2.heap.size + 1 + 1 + 1) (.slice (some ⟨w2.heap.size + 1 + 1, 0, none⟩) 2 2) v k (txts (List.replicate k ⟨#[49]⟩))) (fun i _ => q - (intOf i).toNat)
  case atStart => exact ⟨0, .slice none 0 0, by omega, rfl, Gz.start q0 q1 fq⟩
  case round =>
  obtain ⟨k, v, hk, rfl, hG⟩ := hrel
  by_cases h : k < q
  · have hown : (wr.alloc (.cells #[.string ⟨#[49]⟩] 9)).ownsRow u2.heap.size 9 1 v k (txts (List.replicate k ⟨#[49]⟩)) := World.ownsRow.alloc hG.ow _
    have z1 := hG.c1
    have hnw : Row (wr.alloc (.cells #[.string ⟨#[49]⟩] 9)) (some ⟨wr.heap.size, 0, none⟩) [.string ⟨#[49]⟩] := Row.one (by simp)
    have HG : Hid _ := hG
    have HOW : Hid _ := hown
    have HNW : Hid _ := hnw
    have HZ9 : Hid (u2.heap.size ≤ (wr.alloc (.cells #[.string ⟨#[49]⟩] 9)).heap.size) := by have := hG.sz; simp [Hid]; omega
    clear hG hown hnw
    go_wp2_with (first | (at_builtin; refine wpList_append_row _ _ 23 rfl u2.heap.size 9 i0 (.string ByteArray.empty) 16 Tryz.underlying23 hi hz0 hz1 hz2 rfl _ k (txts (List.replicate k ⟨#[49]⟩)) rfl HOW.out (some ⟨wr.heap.size, 0, none⟩) 1 1 [.string ⟨#[49]⟩] rfl rfl HNW.out (by simp [Value.oneCell']) (fun h => by cases h) (by unfold maxLen; omega) (by omega) HZ9.out (by first | rfl | go_simp) ?_))
    intro v' w4 hown4 hgrow4
    have hbl : w4.heap[w2.heap.size + 1 + 1 + 1]? = wr.heap[w2.heap.size + 1 + 1 + 1]? := HG.out.block (bl_alloc (Below.refl wr.heap.size wr) _) hgrow4 HG.out.hi
    have hc4 : w4.cell? ⟨w2.heap.size + 1 + 1 + 1, 1, none⟩ = some v := by rw [World.cell?_of_block (w := wr) hbl]; exact HG.out.c1
    have hf4 : w4.frozen? ⟨w2.heap.size + 1 + 1 + 1, 1, none⟩ = false := by rw [World.frozen?_of_block (w := wr) hbl]; exact HG.out.f1
    obtain ⟨a4, c4, ev, _⟩ := Row.of_own hown4
    subst ev
    have HF : Hid _ := HG.out.next (bl_alloc (Below.refl wr.heap.size wr) _) hgrow4 hown4
    clear hown4 hgrow4 hbl HG HOW HNW z1
    go_wp2
    go_roundw
    case rel => exact ⟨k + 1, .slice a4 (k + 1) c4, by omega, by go_num, by rw [txts_reps]; exact HF.out⟩
    case measure => simp [intOf]; omega
  obtain rfl : q = k := by omega
  clear h hk

  obtain ⟨bc, dc, ev, hrow, hfar⟩ := hG.far
  subst ev
  replace l10 := hG.cell l10 (by have := HSZ.out; omega)
  replace l11 := hG.cell l11 (by have := HSZ.out; omega)
  replace lx0 := hG.cell lx0 (by have := HSZ.out; omega)
  replace lx1 := hG.cell lx1 (by have := HSZ.out; omega)
  replace s0 := hG.cell s0 (by have := HSZ.out; omega)
  replace s1 := hG.cell s1 (by have := HSZ.out; omega)
  replace t0 := hG.cell t0 (by have := HSZ.out; omega)
  replace t1 := hG.cell t1 (by have := HSZ.out; omega)
  replace r0 := hG.cell r0 (by have := HSZ.out; omega)
  replace r1 := hG.cell r1 (by have := HSZ.out; omega)
  replace HROW : Hid _ := hG.row HROW.out (fun b off sp e => by have := HFAR.out b off sp e; have := HSZ.out; omega)
  replace HB : Hid _ := hG.below HB.out (by have := HSZ.out; omega)
  have q0' := hG.c0
  have q1' := hG.c1
  have HROW2 : Hid _ := hrow
  clear q0 q1 fq hG hrow hfar
  have hp1 := HT0.out.two.2.2.1
  have hq1 := HT0.out.two.2.2.2.1
  have hpq := HT0.out.two.2.2.2.2
  have rr := (rgt_two 1 p).2 (by omega)
  have rc := (rgt_two q 1).2 (by omega)
  have HTr : Hid (Tt wr 0 (some ⟨w2.heap.size, 0, none⟩) br [((1 : Nat) : Int), (p : Int)] 2 p (List.replicate p 1) 40) := tt_of ⟨sl_of_two s0 s1, by rw [List.map_replicate, R1]; exact HROW.out, fun _ _ _ _ => Nat.zero_le _, fun _ _ _ _ => Nat.zero_le _⟩ rr (by rw [sz_two rr]; simp) (fun t ht => by rw [(List.mem_replicate.1 ht).2]; exact bd_one) rfl (by simp)
  have HTc : Hid (Tt wr 0 (some ⟨w2.heap.size + 1 + 1, 0, none⟩) bc [(q : Int), ((1 : Nat) : Int)] 2 q (List.replicate q 1) 40) := tt_of ⟨sl_of_two t0 t1, by rw [List.map_replicate, R1]; exact HROW2.out, fun _ _ _ _ => Nat.zero_le _, fun _ _ _ _ => Nat.zero_le _⟩ rc (by rw [sz_two rc]; simp) (fun t ht => by rw [(List.mem_replicate.1 ht).2]; exact bd_one) rfl (by simp)
  have HTa : Hid _ := HT0.out.below HB.out
  have hbb := row_bound hpq hp hq
  have K10 := l10
  have K11 := l11
  have Kr0 := r0
  have Kr1 := r1
  have Kc0 := q0'
  have Kc1 := q1'
  clear l10 l11 lx0 lx1 s0 s1 t0 t1 r0 r1 q0' q1' HROW HROW2 HFAR rr rc HSZ HSZ2
  go_wp2_with fail
  refine (zmm (p := 1) 2 dr c1 d1 (HE.out.below HB.out) HTr.out HTa.out (by omega) (Nat.one_mul q) (by omega)).mono ?_
  rintro e w4 ⟨a4', c4', b4', d4', rfl, hT, hb⟩
  have hu := bl_alloc hb (.cells #[.slice a4' 2 c4', .slice b4' q d4'] 25)
  replace HB : Hid _ := bl_trans HB.out hu
  replace HTr : Hid _ := HTr.out.below hu
  replace HTc : Hid _ := HTc.out.below hu
  replace HTa : Hid _ := HTa.out.below hu
  replace K10 := cell_below hu K10
  replace K11 := cell_below hu K11
  replace Kr0 := cell_below hu Kr0
  replace Kr1 := cell_below hu Kr1
  replace Kc0 := cell_below hu Kc0
  replace Kc1 := cell_below hu Kc1
  clear hu
  have HTm : Hid _ := hT.below (bl_alloc (Below.refl w4.heap.size w4) (.cells #[.slice a4' 2 c4', .slice b4' q d4'] 25))
  have Km0 : (w4.alloc (.cells #[.slice a4' 2 c4', .slice b4' q d4'] 25)).cell? ⟨w4.heap.size, 0, none⟩ = some (.slice a4' 2 c4') := by simp
  have Km1 : (w4.alloc (.cells #[.slice a4' 2 c4', .slice b4' q d4'] 25)).cell? ⟨w4.heap.size, 1, none⟩ = some (.slice b4' q d4') := by simp
  clear hb hT
  go_wp2_with fail
  refine (zmm (p := 1) c4' d4' 2 dc (HE.out.below HB.out) HTm.out HTc.out (by omega) rfl hbb).mono ?_
  rintro e w5 ⟨a5', c5', b5', d5', rfl, hT, hb⟩
  have hu := bl_alloc hb (.cells #[.slice a5' 2 c5', .slice b5' 1 d5'] 25)
  replace HB : Hid _ := bl_trans HB.out hu
  replace HTr : Hid _ := HTr.out.below hu
  replace HTc : Hid _ := HTc.out.below hu
  replace HTa : Hid _ := HTa.out.below hu
  replace HTm : Hid _ := HTm.out.below hu
  replace K10 := cell_below hu K10
  replace K11 := cell_below hu K11
  replace Kr0 := cell_below hu Kr0
  replace Kr1 := cell_below hu Kr1
  replace Kc0 := cell_below hu Kc0
  replace Kc1 := cell_below hu Kc1
  replace Km0 := cell_below hu Km0
  replace Km1 := cell_below hu Km1
  clear hu
  have HTn : Hid _ := hT.below (bl_alloc (Below.refl w5.heap.size w5) (.cells #[.slice a5' 2 c5', .slice b5' 1 d5'] 25))
  have Kn0 : (w5.alloc (.cells #[.slice a5' 2 c5', .slice b5' 1 d5'] 25)).cell? ⟨w5.heap.size, 0, none⟩ = some (.slice a5' 2 c5') := by simp
  have Kn1 : (w5.alloc (.cells #[.slice a5' 2 c5', .slice b5' 1 d5'] 25)).cell? ⟨w5.heap.size, 1, none⟩ = some (.slice b5' 1 d5') := by simp
  clear hb hT
  go_wp2_with fail
  refine (ztotal c1 d1 (HE.out.below HB.out) HTa.out (by omega)).mono ?_
  rintro e w6 ⟨a6', c6', b6', d6', rfl, hT, hb⟩
  have hu := bl_alloc hb (.cells #[.slice a6' 0 c6', .slice b6' 1 d6'] 25)
  replace HB : Hid _ := bl_trans HB.out hu
  replace HTr : Hid _ := HTr.out.below hu
  replace HTc : Hid _ := HTc.out.below hu
  replace HTa : Hid _ := HTa.out.below hu
  replace HTm : Hid _ := HTm.out.below hu
  replace HTn : Hid _ := HTn.out.below hu
  replace K10 := cell_below hu K10
  replace K11 := cell_below hu K11
  replace Kr0 := cell_below hu Kr0
  replace Kr1 := cell_below hu Kr1
  replace Kc0 := cell_below hu Kc0
  replace Kc1 := cell_below hu Kc1
  replace Km0 := cell_below hu Km0
  replace Km1 := cell_below hu Km1
  replace Kn0 := cell_below hu Kn0
  replace Kn1 := cell_below hu Kn1
  clear hu
  have HTt : Hid _ := hT.below (bl_alloc (Below.refl w6.heap.size w6) (.cells #[.slice a6' 0 c6', .slice b6' 1 d6'] 25))
  have Kt0 : (w6.alloc (.cells #[.slice a6' 0 c6', .slice b6' 1 d6'] 25)).cell? ⟨w6.heap.size, 0, none⟩ = some (.slice a6' 0 c6') := by simp
  have Kt1 : (w6.alloc (.cells #[.slice a6' 0 c6', .slice b6' 1 d6'] 25)).cell? ⟨w6.heap.size, 1, none⟩ = some (.slice b6' 1 d6') := by simp
  clear hb hT
  have HTn' := HTn.out.eqv (ones_both HT0.out.two.1)
  obtain ⟨b7, o7, e7, x7⟩ := row_str HTn'.tm.r (i := 0) (by simp)
  obtain ⟨b8, o8, e8, x8⟩ := row_str HTt.out.tm.r (i := 0) (by simp)
  subst e7 e8
  simp only [List.map_cons, List.map_nil, List.getD, List.getElem?_cons_zero, Option.getD_some, Nat.add_zero] at x7 x8
  clear HTn'
  go_wp2_with fail
  obtain ⟨C, hC⟩ : ∃ C : World → Prop, C = fun v => Below (w6.alloc (.cells #[.slice a6' 0 c6', .slice (some ⟨b8, o8, none⟩) 1 d6'] 25)).heap.size (w6.alloc (.cells #[.slice a6' 0 c6', .slice (some ⟨b8, o8, none⟩) 1 d6'] 25)) v := ⟨_, rfl⟩
  have en1 : ∀ v, C v → v.cell? ⟨w5.heap.size, 1, none⟩ = some (.slice (some ⟨b7, o7, none⟩) 1 d5') := fun v h => by subst hC; exact cell_below h Kn1
  have et1 : ∀ v, C v → v.cell? ⟨w6.heap.size, 1, none⟩ = some (.slice (some ⟨b8, o8, none⟩) 1 d6') := fun v h => by subst hC; exact cell_below h Kt1
  have en : ∀ v, C v → v.cell? ⟨b7, o7, none⟩ = some (.string (R (tot qs))) := fun v h => by subst hC; exact cell_below h x7
  have et : ∀ v, C v → v.cell? ⟨b8, o8, none⟩ = some (.string (R (tot qs))) := fun v h => by subst hC; exact cell_below h x8
  have cB : ∀ v, C v → Below w.heap.size w v := fun v h => by subst hC; exact bl_trans HB.out h
  have cT : ∀ u v, C u → Below u.heap.size u v → C v := fun u v h k => by subst hC; exact bl_trans h k
  have cI : C (w6.alloc (.cells #[.slice a6' 0 c6', .slice (some ⟨b8, o8, none⟩) 1 d6'] 25)).drew := by subst hC; exact bl_drew (Below.refl _ _)
  clear hC
  refine region_calm C (by kernel_rfl) (by kernel_rfl) cI ?_
  clear cI
  with_reducible refine wpQuiet_step (fun K hK => ?_)
  go_simp
  refine ⟨_, fun v hv => rfl, hK _ ?_⟩
  clear hK K
  with_reducible refine wpQuiet_step (fun K hK => ?_)
  go_simp
  refine ⟨_, fun v hv => rfl, hK _ ?_⟩
  clear hK K
  with_reducible refine wpQuiet_step (fun K hK => ?_)
  go_simp
  refine ⟨_, fun v hv => rfl, hK _ ?_⟩
  clear hK K
  with_reducible refine wpQuiet_step (fun K hK => ?_)
  go_simp
  refine ⟨_, fun v hv => rfl, hK _ ?_⟩
  clear hK K
  with_reducible refine wpQuiet_step (fun K hK => ?_)
  go_simp
  refine ⟨_, fun v hv => rfl, hK _ ?_⟩
  clear hK K
  with_reducible refine wpQuiet_step (fun K hK => ?_)
  go_simp
  refine ⟨_, fun v hv => rfl, hK _ ?_⟩
  clear hK K
  with_reducible refine wpQuiet_step (fun K hK => ?_)
  go_simp
  refine ⟨_, fun v hv => rfl, hK _ ?_⟩
  clear hK K
  with_reducible refine wpQuiet_step (fun K hK => ?_)
  go_simp
  refine ⟨_, fun v hv => rfl, hK _ ?_⟩
  clear hK K
  with_reducible refine wpQuiet_step (fun K hK => ?_)
  go_simp
  refine ⟨_, fun v hv => rfl, hK _ ?_⟩
  clear hK K
  with_reducible refine wpQuiet_step (fun K hK => ?_)
  go_simp
  refine ⟨_, fun v hv => rfl, hK _ ?_⟩
  clear hK K
  with_reducible refine wpQuiet_step (fun K hK => ?_)
  go_simp
  refine ⟨_, fun v hv => rfl, hK _ ?_⟩
  clear hK K
  with_reducible refine wpQuiet_step (fun K hK => ?_)
  go_simp
  refine ⟨_, fun v hv => rfl, hK _ ?_⟩
  clear hK K
  with_reducible refine wpQuiet_step (fun K hK => ?_)
  go_simp
  refine ⟨.slice (some ⟨b7, o7, none⟩) 1 d5', fun v hv => ?_, hK _ ?_⟩
  · simp [en1 v hv]
  clear hK K
  with_reducible refine wpQuiet_step (fun K hK => ?_)
  go_simp
  refine ⟨_, fun v hv => rfl, hK _ ?_⟩
  clear hK K
  with_reducible refine wpQuiet_step (fun K hK => ?_)
  go_simp
  refine ⟨_, fun v hv => rfl, hK _ ?_⟩
  clear hK K
  with_reducible refine wpQuiet_step (fun K hK => ?_)
  go_simp
  refine ⟨_, fun v hv => rfl, hK _ ?_⟩
  clear hK K
  with_reducible refine wpQuiet_step (fun K hK => ?_)
  go_simp
  refine ⟨_, fun v hv => rfl, hK _ ?_⟩
  clear hK K
  with_reducible refine wpQuiet_step (fun K hK => ?_)
  go_simp
  refine ⟨_, fun v hv => rfl, hK _ ?_⟩
  clear hK K
  with_reducible refine wpQuiet_step (fun K hK => ?_)
  go_simp
  refine ⟨.slice (some ⟨b8, o8, none⟩) 1 d6', fun v hv => ?_, hK _ ?_⟩
  · simp [et1 v hv]
  clear hK K
  with_reducible refine wpQuiet_step (fun K hK => ?_)
  go_simp
  refine ⟨_, fun v hv => rfl, hK _ ?_⟩
  clear hK K
  with_reducible refine wpQuiet_step (fun K hK => ?_)
  go_simp
  refine ⟨_, fun v hv => rfl, hK _ ?_⟩
  clear hK K
  with_reducible refine wpQuiet_step (fun K hK => ?_)
  go_simp
  refine ⟨_, fun v hv => rfl, hK _ ?_⟩
  clear hK K
  with_reducible refine wpQuiet_step (fun K hK => ?_)
  go_simp
  refine ⟨_, fun v hv => rfl, hK _ ?_⟩
  clear hK K
  with_reducible refine wpQuiet_step (fun K hK => ?_)
  go_simp
  refine ⟨_, fun v hv => rfl, hK _ ?_⟩
  clear hK K
  with_reducible refine wpQuiet_step (fun K hK => ?_)
  go_simp
  refine ⟨.slice (some ⟨b7, o7, none⟩) 1 d5', fun v hv => ?_, hK _ ?_⟩
  · simp [en1 v hv]
  clear hK K
  with_reducible refine wpQuiet_step (fun K hK => ?_)
  go_simp
  refine ⟨_, fun v hv => rfl, hK _ ?_⟩
  clear hK K
  with_reducible refine wpQuiet_step (fun K hK => ?_)
  go_simp
  refine ⟨.string (R (tot qs)), fun v hv => ?_, hK _ ?_⟩
  · simp [en v hv]
  clear hK K
  with_reducible refine wpQuiet_step (fun K hK => ?_)
  go_simp
  refine ⟨_, fun v hv => rfl, hK _ ?_⟩
  clear hK K
  with_reducible refine wpQuiet_step (fun K hK => ?_)
  go_simp
  refine ⟨.slice (some ⟨b8, o8, none⟩) 1 d6', fun v hv => ?_, hK _ ?_⟩
  · simp [et1 v hv]
  clear hK K
  with_reducible refine wpQuiet_step (fun K hK => ?_)
  go_simp
  refine ⟨_, fun v hv => rfl, hK _ ?_⟩
  clear hK K
  with_reducible refine wpQuiet_step (fun K hK => ?_)
  go_simp
  refine ⟨.string (R (tot qs)), fun v hv => ?_, hK _ ?_⟩
  · simp [et v hv]
  clear hK K
  with_reducible refine wpQuiet_step (fun K hK => ?_)
  go_simp
  refine ⟨_, fun v hv => rfl, hK _ ?_⟩
  clear hK K
  with_reducible refine wpQuiet_step (fun K hK => ?_)
  go_simp
  refine ⟨_, fun v hv => rfl, hK _ ?_⟩
  clear hK K
  with_reducible refine wpQuiet_step (fun K hK => ?_)
  go_simp
  refine ⟨_, fun v hv => rfl, hK _ ?_⟩
  clear hK K
  with_reducible refine wpQuiet_step (fun K hK => ?_)
  go_simp
  refine ⟨.bool true, fun v hv => ?_, hK _ ?_⟩
  · exact calm_call cT hv (awake_any aF aZ v (HE.out.below (cB v hv)))
  clear hK K
  with_reducible refine wpQuiet_step (fun K hK => ?_)
  go_simp
  refine ⟨_, fun v hv => rfl, hK _ ?_⟩
  clear hK K
  with_reducible refine wpQuiet_step (fun K hK => ?_)
  go_simp
  refine ⟨_, fun v hv => rfl, hK _ ?_⟩
  clear hK K
  refine wpQuiet_nil ?_
  intro w9 C1
  have HC := cB _ C1
  clear C1 cT cB en1 et1 en et
  go_wp2
  go_ret
  exact ⟨rfl, HC⟩
end Go.Proofs.YtbfboippaejnmaaGreatDoor.Tn
