/-
  THE NODE THAT A STATEMENT TELLS. Conditions: each theorem's own.
-/
import Derived.Test.YtadgnafafdfioaaGreatDoorB2
import Derived.Test.YtadgnafafdfioaaGreatDoorGb
namespace Go.Proofs.YtadgnafafdfioaaGreatDoor.Gr
open Go.Proofs.YtadgnafafdfioaaGreatDoor.Rd
set_option maxRecDepth 100000
open Go.RowKit
set_option linter.unusedVariables false
set_option linter.unusedSimpArgs false

set_option maxHeartbeats 4000000 in
theorem node_any (name op K : ByteArray) (n : Int) (ks : List Nat) (na ca nz cz nt ct rc : Nat) (aa sa da ra : Option Addr) (w : World) (hp : prv op = (ks.length : Int)) (hR : Sp.Sl w ra (ints ks)) :
    Calls Tryz.prog 65 #[.agg #[.string name, .string op, .slice aa na ca, .slice sa nz cz, .string K, .int .i64 n, .slice da nt ct], .slice ra ks.length rc] w fun e w' => e = .returned (.tuple #[.agg #[.string op, .int .i64 (pA ks), .int .i64 (pB ks), .string (if nmd op = true then name else em), .slice sa nz cz, .string K, .int .i64 n, .slice da nt ct], .bool true]) ∧ Below w.heap.size w w' := by
  obtain ⟨q, hq⟩ : ∃ b, nmd op = b := ⟨_, rfl⟩
  have HN : Hid (∀ v, Calls Tryz.prog 18 #[.string op] v fun e w' => e = .returned (.bool q) ∧ w' = v) := fun v => hq ▸ named_any op v
  have HP : Hid (∀ v, Calls Tryz.prog 35 #[.string op] v fun e w' => e = .returned (.int .i64 (ks.length : Int)) ∧ w' = v) := fun v => hp ▸ parts_any op v
  have HB1 : Hid (Below w.heap.size w w) := Below.refl _ _
  have hk2 : ks.length ≤ 2 := by
    rcases prv_cases op with ⟨_, h⟩ | ⟨_, h⟩ | ⟨_, h⟩ | ⟨_, h⟩ <;> omega
  rw [hq]
  have hRv : ∀ (v : World), Below w.heap.size w v → Sp.Sl v ra (ints ks) := fun v hv => sl_below hR hv
  clear hp hq hR
  match ks, hk2, hRv, HP with
  | [], hk2, hRv, HP =>
    have HRv : Hid _ := hRv
    clear hRv hk2
    simp only [pA, pB, List.length_cons, List.length_nil, Nat.zero_add, Nat.reduceAdd] at HP ⊢
    cases q with
    | true =>
      go_enter Tryz.func65, Tryz.ntmps65
      go_wp2_with fail
      refine (HP.out _).mono ?_
      rintro e w1 ⟨rfl, rfl⟩
      go_wp2_with fail
      refine (HN.out _).mono ?_
      rintro e w1 ⟨rfl, rfl⟩
      go_wp2
      refine bodyPost_ret (v := .tuple #[.agg #[.string op, .int .i64 0, .int .i64 0, .string name, .slice sa nz cz, .string K, .int .i64 n, .slice da nt ct], .bool true]) (by simp [results, Tryz.results65, go_sem]) rfl ⟨by simp, ?_⟩
      exact bl_alloc (bl_alloc (bl_alloc HB1.out _) _) _
    | false =>
      go_enter Tryz.func65, Tryz.ntmps65
      go_wp2_with fail
      refine (HP.out _).mono ?_
      rintro e w1 ⟨rfl, rfl⟩
      go_wp2_with fail
      refine (HN.out _).mono ?_
      rintro e w1 ⟨rfl, rfl⟩
      go_wp2
      refine bodyPost_ret (v := .tuple #[.agg #[.string op, .int .i64 0, .int .i64 0, .string em, .slice sa nz cz, .string K, .int .i64 n, .slice da nt ct], .bool true]) (by simp [results, Tryz.results65, go_sem]) rfl ⟨by simp, ?_⟩
      exact bl_alloc (bl_alloc (bl_alloc HB1.out _) _) _
  | [x], hk2, hRv, HP =>
    have HRv : Hid _ := hRv
    clear hRv hk2
    simp only [pA, pB, List.length_cons, List.length_nil, Nat.zero_add, Nat.reduceAdd] at HP ⊢
    obtain ⟨rb, ro, rfl, r0⟩ := HRv.out w (Below.refl _ _) 0 (by simp [ints])
    have r0' : w.cell? ⟨rb, ro, none⟩ = some (.int .i64 (x : Int)) := r0
    have r3 : ∀ o1 o2 o3, (((w.alloc o1).alloc o2).alloc o3).cell? ⟨rb, ro, none⟩ = some (.int .i64 (x : Int)) := fun o1 o2 o3 => cell_below (bl_alloc (bl_alloc (bl_alloc (Below.refl _ _) o1) o2) o3) r0'
    clear r0
    cases q with
    | true =>
      go_enter Tryz.func65, Tryz.ntmps65
      go_wp2_with fail
      refine (HP.out _).mono ?_
      rintro e w1 ⟨rfl, rfl⟩
      go_wp2_with fail
      refine (HN.out _).mono ?_
      rintro e w1 ⟨rfl, rfl⟩
      go_wp2
      refine bodyPost_ret (v := .tuple #[.agg #[.string op, .int .i64 (x : Int), .int .i64 0, .string name, .slice sa nz cz, .string K, .int .i64 n, .slice da nt ct], .bool true]) (by simp [results, Tryz.results65, go_sem]) rfl ⟨by simp, ?_⟩
      exact bl_alloc (bl_alloc (bl_alloc HB1.out _) _) _
    | false =>
      go_enter Tryz.func65, Tryz.ntmps65
      go_wp2_with fail
      refine (HP.out _).mono ?_
      rintro e w1 ⟨rfl, rfl⟩
      go_wp2_with fail
      refine (HN.out _).mono ?_
      rintro e w1 ⟨rfl, rfl⟩
      go_wp2
      refine bodyPost_ret (v := .tuple #[.agg #[.string op, .int .i64 (x : Int), .int .i64 0, .string em, .slice sa nz cz, .string K, .int .i64 n, .slice da nt ct], .bool true]) (by simp [results, Tryz.results65, go_sem]) rfl ⟨by simp, ?_⟩
      exact bl_alloc (bl_alloc (bl_alloc HB1.out _) _) _
  | [x, y], hk2, hRv, HP =>
    have HRv : Hid _ := hRv
    clear hRv hk2
    simp only [pA, pB, List.length_cons, List.length_nil, Nat.zero_add, Nat.reduceAdd] at HP ⊢
    obtain ⟨rb, ro, rfl, r0⟩ := HRv.out w (Below.refl _ _) 0 (by simp [ints])
    obtain ⟨rb', ro', e', r1⟩ := HRv.out w (Below.refl _ _) 1 (by simp [ints])
    simp only [Option.some.injEq, Addr.mk.injEq, and_true] at e'
    obtain ⟨rfl, rfl⟩ := e'
    have r0' : w.cell? ⟨rb, ro, none⟩ = some (.int .i64 (x : Int)) := r0
    have r1' : w.cell? ⟨rb, ro + 1, none⟩ = some (.int .i64 (y : Int)) := r1
    have r3 : ∀ o1 o2 o3, (((w.alloc o1).alloc o2).alloc o3).cell? ⟨rb, ro, none⟩ = some (.int .i64 (x : Int)) := fun o1 o2 o3 => cell_below (bl_alloc (bl_alloc (bl_alloc (Below.refl _ _) o1) o2) o3) r0'
    have r4 : ∀ o1 o2 o3, (((w.alloc o1).alloc o2).alloc o3).cell? ⟨rb, ro + 1, none⟩ = some (.int .i64 (y : Int)) := fun o1 o2 o3 => cell_below (bl_alloc (bl_alloc (bl_alloc (Below.refl _ _) o1) o2) o3) r1'
    clear r0 r1
    cases q with
    | true =>
      go_enter Tryz.func65, Tryz.ntmps65
      go_wp2_with fail
      refine (HP.out _).mono ?_
      rintro e w1 ⟨rfl, rfl⟩
      go_wp2_with fail
      refine (HN.out _).mono ?_
      rintro e w1 ⟨rfl, rfl⟩
      go_wp2
      refine bodyPost_ret (v := .tuple #[.agg #[.string op, .int .i64 (x : Int), .int .i64 (y : Int), .string name, .slice sa nz cz, .string K, .int .i64 n, .slice da nt ct], .bool true]) (by simp [results, Tryz.results65, go_sem]) rfl ⟨by simp, ?_⟩
      exact bl_alloc (bl_alloc (bl_alloc HB1.out _) _) _
    | false =>
      go_enter Tryz.func65, Tryz.ntmps65
      go_wp2_with fail
      refine (HP.out _).mono ?_
      rintro e w1 ⟨rfl, rfl⟩
      go_wp2_with fail
      refine (HN.out _).mono ?_
      rintro e w1 ⟨rfl, rfl⟩
      go_wp2
      refine bodyPost_ret (v := .tuple #[.agg #[.string op, .int .i64 (x : Int), .int .i64 (y : Int), .string em, .slice sa nz cz, .string K, .int .i64 n, .slice da nt ct], .bool true]) (by simp [results, Tryz.results65, go_sem]) rfl ⟨by simp, ?_⟩
      exact bl_alloc (bl_alloc (bl_alloc HB1.out _) _) _
end Go.Proofs.YtadgnafafdfioaaGreatDoor.Gr
