/-
  THE WORDS BEHIND =. Conditions: each theorem's own.
-/
import Derived.Test.YtadgnafafdfioaaGreatDoorRf9
import Derived.Deep.RegionWith
namespace Go.Proofs.YtadgnafafdfioaaGreatDoor.Rd
set_option maxRecDepth 100000
open Go.RowKit Nm
set_option linter.unusedVariables false
set_option linter.unusedSimpArgs false

/-- the data: of one's own; nothing, if there are names -/
def Ot (w : World) (B : Nat) (v : Value) (s : Sm) : Prop := Ob w B v s.data ∧ (s.args = [] ∨ v = .slice none 0 0)
theorem Ot.below {w w' : World} {B : Nat} {v : Value} {s : Sm} (h : Ot w B v s) (hb : Below w.heap.size w w') : Ot w' B v s := ⟨h.1.below hb, h.2⟩
theorem Ot.mono {w : World} {B B' : Nat} {v : Value} {s : Sm} (h : Ot w B v s) (hb : B' ≤ B) : Ot w B' v s := ⟨h.1.mono hb, h.2⟩
/-- a statement in memory of one's own -/
def So (w : World) (B : Nat) (v : Value) (s : Sm) : Prop := ∃ ua ud ut, v = sv s.name s.op ua ud s.k s.n ut ∧ Ob w B ua s.args ∧ Od w B ud s.dims ∧ Ot w B ut s
theorem So.below {w w' : World} {B : Nat} {v : Value} {s : Sm} (h : So w B v s) (hb : Below w.heap.size w w') : So w' B v s := by
  obtain ⟨ua, ud, ut, e, h1, h2, h3⟩ := h
  exact ⟨ua, ud, ut, e, h1.below hb, h2.below hb, h3.below hb⟩
theorem So.mono {w : World} {B B' : Nat} {v : Value} {s : Sm} (h : So w B v s) (hb : B' ≤ B) : So w B' v s := by
  obtain ⟨ua, ud, ut, e, h1, h2, h3⟩ := h
  exact ⟨ua, ud, ut, e, h1.mono hb, h2.mono hb, h3.mono hb⟩
/-- what is told of words -/
def Fo (w' : World) (B : Nat) (o : Option Sm) (e : Ending) : Prop :=
  match o with
  | none => e = .returned (.tuple #[zv, .bool false])
  | some s => ∃ v, e = .returned (.tuple #[v, .bool true]) ∧ So w' B v s

theorem Row.drop' {w : World} {b off : Nat} {vs : List Value} (h : Row w (some ⟨b, off, none⟩) vs) (k : Nat) : Row w (some ⟨b, off + k, none⟩) (vs.drop k) := by
  intro i v hi
  rw [List.getElem?_drop] at hi
  obtain ⟨b', off', e, hc⟩ := h (k + i) v hi
  cases e
  exact ⟨b, off + k, rfl, by rw [Nat.add_assoc]; exact hc⟩
theorem Row.take' {w : World} {ao : Option Addr} {vs : List Value} (h : Row w ao vs) (k : Nat) : Row w ao (vs.take k) := by
  intro i v hi
  rw [List.getElem?_take] at hi
  split at hi
  · exact h i v hi
  · cases hi
theorem txts_drop (l : List ByteArray) (k : Nat) : (txts l).drop k = txts (l.drop k) := by simp [txts]
theorem txts_take (l : List ByteArray) (k : Nat) : (txts l).take k = txts (l.take k) := by simp [txts]

theorem op_name (name : ByteArray) (ao : Option Addr) (n c : Nat) (w : World) (hn : nmb name = false) :
    Calls Tryz.prog 60 #[.string name, .slice ao n c] w fun e w' => e = .returned (.tuple #[zv, .bool false]) ∧ Below w.heap.size w w' := by
  have hN := Lx.name_any name
  unfold nmb at hn
  rw [hn] at hN
  go_enter Tryz.func60, Tryz.ntmps60
  go_wp2_with fail
  refine (hN _).mono ?_
  rintro e w1 ⟨rfl, rfl⟩
  go_wp2
  refine bodyPost_ret (v := .tuple #[zv, .bool false]) ?_ rfl ⟨rfl, ?_⟩
  · simp [results, Tryz.results60, go_sem]
  · exact (Below.refl _ _).alloc (Nat.le_refl _) _
theorem op_empty (name : ByteArray) (ao : Option Addr) (c : Nat) (w : World) (hn : nmb name = true) :
    Calls Tryz.prog 60 #[.string name, .slice ao 0 c] w fun e w' => e = .returned (.tuple #[zv, .bool false]) ∧ Below w.heap.size w w' := by
  have hN := Lx.name_any name
  unfold nmb at hn
  rw [hn] at hN
  go_enter Tryz.func60, Tryz.ntmps60
  go_wp2_with fail
  refine (hN _).mono ?_
  rintro e w1 ⟨rfl, rfl⟩
  go_wp2
  refine bodyPost_ret (v := .tuple #[zv, .bool false]) ?_ rfl ⟨rfl, ?_⟩
  · simp [results, Tryz.results60, go_sem]
  · exact (Below.refl _ _).alloc (Nat.le_refl _) _
/-- where the words behind the first one stand -/
def Ad (b off c : Nat) (A : Addr) : Prop := (if c = 1 then some (⟨b, off, none⟩ : Addr) else some ⟨b, off + 1, none⟩) = some A
set_option maxHeartbeats 1000000 in
theorem op_none (name op : ByteArray) (b off n c : Nat) (w : World) (hn : nmb name = true) (hl : n ≤ 1000000) (hcap : n + 1 ≤ c) (hcm : c ≤ maxLen) (hc : w.cell? ⟨b, off, none⟩ = some (.string op)) (ha : ari op = 0) :
    Calls Tryz.prog 60 #[.string name, .slice (some ⟨b, off, none⟩) (n + 1) c] w fun e w' => e = .returned (.tuple #[zv, .bool false]) ∧ Below w.heap.size w w' := by
  have hN := Lx.name_any name
  unfold nmb at hn
  rw [hn] at hN
  have hA := arity_any op
  rw [ha] at hA
  have hlt : b < w.heap.size := row_lt hc
  obtain ⟨o1, ho1⟩ : ∃ o1, (if c = 1 then some (⟨b, off, none⟩ : Addr) else some ⟨b, off + 1, none⟩) = some ⟨b, o1, none⟩ := by
    by_cases q : c = 1
    · exact ⟨off, if_pos q⟩
    · exact ⟨off + 1, if_neg q⟩
  go_enter Tryz.func60, Tryz.ntmps60
  go_wp2_with fail
  refine (hN _).mono ?_
  rintro e w1 ⟨rfl, rfl⟩
  go_wp2_with fail
  go_region
  clear hc hN ho1
  go_wp2_with fail
  refine (hA _).mono ?_
  rintro e w1 ⟨rfl, rfl⟩
  clear hA
  simp only [Int.natCast_zero]
  clear hcap hcm
  go_wp2
  refine bodyPost_ret (v := .tuple #[zv, .bool false]) ?_ rfl ⟨rfl, ?_⟩
  · simp [results, Tryz.results60, go_sem]
  · exact ((Below.refl _ _).alloc (Nat.le_refl _) _).drew
set_option maxHeartbeats 1000000 in
theorem op_short1 (name op : ByteArray) (b off n c : Nat) (w : World) (hn : nmb name = true) (hl : n ≤ 1000000) (hcap : n + 1 ≤ c) (hcm : c ≤ maxLen) (hc : w.cell? ⟨b, off, none⟩ = some (.string op)) (ha : ari op = 1) (hs : n < 1) :
    Calls Tryz.prog 60 #[.string name, .slice (some ⟨b, off, none⟩) (n + 1) c] w fun e w' => e = .returned (.tuple #[zv, .bool false]) ∧ Below w.heap.size w w' := by
  have hN := Lx.name_any name
  unfold nmb at hn
  rw [hn] at hN
  have hA := arity_any op
  rw [ha] at hA
  have hlt : b < w.heap.size := row_lt hc
  obtain ⟨o1, ho1⟩ : ∃ o1, (if c = 1 then some (⟨b, off, none⟩ : Addr) else some ⟨b, off + 1, none⟩) = some ⟨b, o1, none⟩ := by
    by_cases q : c = 1
    · exact ⟨off, if_pos q⟩
    · exact ⟨off + 1, if_neg q⟩
  go_enter Tryz.func60, Tryz.ntmps60
  go_wp2_with fail
  refine (hN _).mono ?_
  rintro e w1 ⟨rfl, rfl⟩
  go_wp2_with fail
  go_region
  clear hc hN ho1
  go_wp2_with fail
  refine (hA _).mono ?_
  rintro e w1 ⟨rfl, rfl⟩
  clear hA
  simp only [Int.natCast_one]
  clear hcap hcm
  go_wp2
  refine bodyPost_ret (v := .tuple #[zv, .bool false]) ?_ rfl ⟨rfl, ?_⟩
  · simp [results, Tryz.results60, go_sem]
  · exact ((Below.refl _ _).alloc (Nat.le_refl _) _).drew
set_option maxHeartbeats 1000000 in
theorem op_names1 (name op : ByteArray) (b off n c : Nat) (w : World) (hn : nmb name = true) (hl : n ≤ 1000000) (hcap : n + 1 ≤ c) (hcm : c ≤ maxLen) (hc : w.cell? ⟨b, off, none⟩ = some (.string op)) (ha : ari op = 1) (hs : 1 ≤ n) (hM : ∀ A, Ad b off c A → ∀ v, Below w.heap.size w v → Calls Tryz.prog 77 #[.slice (some A) 1 (c - 1), .func (.func 49) #[] #[]] v fun e w' => e = .returned (.bool false) ∧ w' = v) :
    Calls Tryz.prog 60 #[.string name, .slice (some ⟨b, off, none⟩) (n + 1) c] w fun e w' => e = .returned (.tuple #[zv, .bool false]) ∧ Below w.heap.size w w' := by
  have hN := Lx.name_any name
  unfold nmb at hn
  rw [hn] at hN
  have hA := arity_any op
  rw [ha] at hA
  have hlt : b < w.heap.size := row_lt hc
  obtain ⟨o1, ho1⟩ : ∃ o1, (if c = 1 then some (⟨b, off, none⟩ : Addr) else some ⟨b, off + 1, none⟩) = some ⟨b, o1, none⟩ := by
    by_cases q : c = 1
    · exact ⟨off, if_pos q⟩
    · exact ⟨off + 1, if_neg q⟩
  have hM1 := hM ⟨b, o1, none⟩ ho1
  clear hM
  go_enter Tryz.func60, Tryz.ntmps60
  go_wp2_with fail
  refine (hN _).mono ?_
  rintro e w1 ⟨rfl, rfl⟩
  go_wp2_with fail
  go_region
  clear hc hN ho1
  go_wp2_with fail
  refine (hA _).mono ?_
  rintro e w1 ⟨rfl, rfl⟩
  clear hA
  simp only [Int.natCast_one]
  go_wp2_with fail

  refine (hM1 _ (((Below.refl _ _).alloc (Nat.le_refl _) _).drew)).mono ?_
  rintro e w1 ⟨rfl, rfl⟩
  clear hcap hcm
  go_wp2
  refine bodyPost_ret (v := .tuple #[zv, .bool false]) ?_ rfl ⟨rfl, ?_⟩
  · simp [results, Tryz.results60, go_sem]
  · exact ((Below.refl _ _).alloc (Nat.le_refl _) _).drew
set_option maxHeartbeats 1000000 in
theorem op_short2 (name op : ByteArray) (b off n c : Nat) (w : World) (hn : nmb name = true) (hl : n ≤ 1000000) (hcap : n + 1 ≤ c) (hcm : c ≤ maxLen) (hc : w.cell? ⟨b, off, none⟩ = some (.string op)) (ha : ari op = 2) (hs : n < 2) :
    Calls Tryz.prog 60 #[.string name, .slice (some ⟨b, off, none⟩) (n + 1) c] w fun e w' => e = .returned (.tuple #[zv, .bool false]) ∧ Below w.heap.size w w' := by
  have hN := Lx.name_any name
  unfold nmb at hn
  rw [hn] at hN
  have hA := arity_any op
  rw [ha] at hA
  have hlt : b < w.heap.size := row_lt hc
  obtain ⟨o1, ho1⟩ : ∃ o1, (if c = 1 then some (⟨b, off, none⟩ : Addr) else some ⟨b, off + 1, none⟩) = some ⟨b, o1, none⟩ := by
    by_cases q : c = 1
    · exact ⟨off, if_pos q⟩
    · exact ⟨off + 1, if_neg q⟩
  go_enter Tryz.func60, Tryz.ntmps60
  go_wp2_with fail
  refine (hN _).mono ?_
  rintro e w1 ⟨rfl, rfl⟩
  go_wp2_with fail
  go_region
  clear hc hN ho1
  go_wp2_with fail
  refine (hA _).mono ?_
  rintro e w1 ⟨rfl, rfl⟩
  clear hA
  simp only [Int.cast_ofNat_Int]
  clear hcap hcm
  go_wp2
  refine bodyPost_ret (v := .tuple #[zv, .bool false]) ?_ rfl ⟨rfl, ?_⟩
  · simp [results, Tryz.results60, go_sem]
  · exact ((Below.refl _ _).alloc (Nat.le_refl _) _).drew
set_option maxHeartbeats 1000000 in
theorem op_names2 (name op : ByteArray) (b off n c : Nat) (w : World) (hn : nmb name = true) (hl : n ≤ 1000000) (hcap : n + 1 ≤ c) (hcm : c ≤ maxLen) (hc : w.cell? ⟨b, off, none⟩ = some (.string op)) (ha : ari op = 2) (hs : 2 ≤ n) (hM : ∀ A, Ad b off c A → ∀ v, Below w.heap.size w v → Calls Tryz.prog 77 #[.slice (some A) 2 (c - 1), .func (.func 49) #[] #[]] v fun e w' => e = .returned (.bool false) ∧ w' = v) :
    Calls Tryz.prog 60 #[.string name, .slice (some ⟨b, off, none⟩) (n + 1) c] w fun e w' => e = .returned (.tuple #[zv, .bool false]) ∧ Below w.heap.size w w' := by
  have hN := Lx.name_any name
  unfold nmb at hn
  rw [hn] at hN
  have hA := arity_any op
  rw [ha] at hA
  have hlt : b < w.heap.size := row_lt hc
  obtain ⟨o1, ho1⟩ : ∃ o1, (if c = 1 then some (⟨b, off, none⟩ : Addr) else some ⟨b, off + 1, none⟩) = some ⟨b, o1, none⟩ := by
    by_cases q : c = 1
    · exact ⟨off, if_pos q⟩
    · exact ⟨off + 1, if_neg q⟩
  have hM1 := hM ⟨b, o1, none⟩ ho1
  clear hM
  go_enter Tryz.func60, Tryz.ntmps60
  go_wp2_with fail
  refine (hN _).mono ?_
  rintro e w1 ⟨rfl, rfl⟩
  go_wp2_with fail
  go_region
  clear hc hN ho1
  go_wp2_with fail
  refine (hA _).mono ?_
  rintro e w1 ⟨rfl, rfl⟩
  clear hA
  simp only [Int.cast_ofNat_Int]
  go_wp2_with fail

  refine (hM1 _ (((Below.refl _ _).alloc (Nat.le_refl _) _).drew)).mono ?_
  rintro e w1 ⟨rfl, rfl⟩
  clear hcap hcm
  go_wp2
  refine bodyPost_ret (v := .tuple #[zv, .bool false]) ?_ rfl ⟨rfl, ?_⟩
  · simp [results, Tryz.results60, go_sem]
  · exact ((Below.refl _ _).alloc (Nat.le_refl _) _).drew
end Go.Proofs.YtadgnafafdfioaaGreatDoor.Rd
