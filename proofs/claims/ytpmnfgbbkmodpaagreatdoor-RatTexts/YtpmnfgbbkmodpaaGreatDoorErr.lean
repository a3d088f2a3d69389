/-
  WRAPPED ERRORS: what errors.Is and errors.As answer at the errors of package rat, and what number tells of them. Conditions: the two errors of the package stand where they were laid, apart from each other (Er).
-/
import Derived.Test.YtpmnfgbbkmodpaaGreatDoorLeaf
import Derived.LaidEql
import Derived.Stop.Asserts
import Derived.RowKitTokens
namespace Go.Proofs.YtpmnfgbbkmodpaaGreatDoor
set_option maxRecDepth 100000
open Go.RowKit Go.Extern.Stop Go.Stop Go.Extern Nm
set_option linter.unusedVariables false

/-- an error of the package, at its address -/
abbrev sentinel (a : Addr) : Value := .iface 164 (.pointer (some a))
/-- a text and what is wrong with it -/
abbrev fault (s : ByteArray) (a : Addr) : Value := .iface 78 (.agg #[.string s, sentinel a])
/-- a power out of bounds -/
abbrev beyond (n : Int) : Value := .iface 73 (.agg #[.int .i64 n])

/-! what the entries for types answer at these types -/
/-- the entry that answers whether a type's values can be compared -/
def cmpEntry (t : TypeId) : Sem Value := do Rtype.noPackHeld "Comparable" t; pure (.bool (← typeInfo t).comparable)
theorem e_typeOf (v : Value) (w : World) : (ReflectliteType.typeOf #[.iface 164 v]).run Tryz.prog w = .ok (.iface 121 (.agg #[.pointer (some ⟨4, 164, none⟩)])) w := by kernel_rfl
theorem e_comparable (w : World) : (ReflectliteType.method cmpEntry #[.agg #[.pointer (some ⟨4, 164, none⟩)]]).run Tryz.prog w = .ok (.bool true) w := by kernel_rfl
theorem e_method (v : Value) (w : World) : (Go.method 294 121 v "Comparable").run Tryz.prog w = .ok (178, v) w := by kernel_rfl
theorem e_unwrap (v : Value) (w : World) : (Go.method 294 78 v "Unwrap").run Tryz.prog w = .ok (172, v) w := by kernel_rfl
theorem e_comp : (Tryz.prog.info? 164).map (·.comparable) = some true := by kernel_rfl
theorem e_one : (Tryz.prog.info? 182).map (·.size) = some 1 := by kernel_rfl
theorem s_is (v : Value) (x : TypeId) (w : World) : (Instr.typeAssert (.iface 164 v) x 123 true).run Tryz.prog w = .ok (.tuple #[.nilIface, .bool false]) w := run_typeAssert_lacksB Tryz.underlying123 (by kernel_rfl) (by kernel_rfl) v x w
theorem s_un (v : Value) (x : TypeId) (w : World) : (Instr.typeAssert (.iface 164 v) x 126 true).run Tryz.prog w = .ok (.tuple #[.nilIface, .bool false]) w := run_typeAssert_lacksB Tryz.underlying126 (by kernel_rfl) (by kernel_rfl) v x w
theorem s_uns (v : Value) (x : TypeId) (w : World) : (Instr.typeAssert (.iface 164 v) x 128 true).run Tryz.prog w = .ok (.tuple #[.nilIface, .bool false]) w := run_typeAssert_lacksB Tryz.underlying128 (by kernel_rfl) (by kernel_rfl) v x w
theorem p_is (v : Value) (x : TypeId) (w : World) : (Instr.typeAssert (.iface 73 v) x 123 true).run Tryz.prog w = .ok (.tuple #[.nilIface, .bool false]) w := run_typeAssert_lacksB Tryz.underlying123 (by kernel_rfl) (by kernel_rfl) v x w
theorem p_un (v : Value) (x : TypeId) (w : World) : (Instr.typeAssert (.iface 73 v) x 126 true).run Tryz.prog w = .ok (.tuple #[.nilIface, .bool false]) w := run_typeAssert_lacksB Tryz.underlying126 (by kernel_rfl) (by kernel_rfl) v x w
theorem p_uns (v : Value) (x : TypeId) (w : World) : (Instr.typeAssert (.iface 73 v) x 128 true).run Tryz.prog w = .ok (.tuple #[.nilIface, .bool false]) w := run_typeAssert_lacksB Tryz.underlying128 (by kernel_rfl) (by kernel_rfl) v x w
theorem f_is (v : Value) (x : TypeId) (w : World) : (Instr.typeAssert (.iface 78 v) x 123 true).run Tryz.prog w = .ok (.tuple #[.nilIface, .bool false]) w := run_typeAssert_lacksB Tryz.underlying123 (by kernel_rfl) (by kernel_rfl) v x w
theorem f_un (v : Value) (x : TypeId) (w : World) : (Instr.typeAssert (.iface 78 v) x 126 true).run Tryz.prog w = .ok (.tuple #[.iface 78 v, .bool true]) w := run_typeAssert_hasB Tryz.underlying126 (by kernel_rfl) v x w

/-- a fault's cause -/
theorem cause_any (s : ByteArray) (a : Addr) (w : World) :
    Calls Tryz.prog 172 #[.agg #[.string s, sentinel a]] w fun e w' => e = .returned (sentinel a) ∧ w' = w.alloc (.cells #[.string s, sentinel a] 78) := by
  go_enter Tryz.func172, Tryz.ntmps172
  go_wp2
  go_ret
  exact ⟨rfl, rfl⟩

set_option maxHeartbeats 4000000 in
theorem is_fault (s : ByteArray) (a : Addr) (w : World) :
    Calls Tryz.prog 65 #[fault s a, sentinel a] w fun e w' => e = .returned (.bool true) ∧ w' = w.alloc (.cells #[.string s, sentinel a] 78) := by
  obtain ⟨i, hi, hcmp⟩ := Option.map_eq_some_iff.1 e_comp
  obtain ⟨j, hj, hjs⟩ := Option.map_eq_some_iff.1 e_one
  have h8 := @run_callFunc_extern Tryz.prog 86 _ ReflectliteType.typeOf Tryz.func86 (by kernel_rfl) (by kernel_rfl) (by kernel_rfl) (by kernel_rfl)
  have h32 := @run_callFunc_extern Tryz.prog 178 _ (ReflectliteType.method cmpEntry) Tryz.func178 (by kernel_rfl) (by kernel_rfl) (by kernel_rfl) (by kernel_rfl)
  have tT := e_typeOf
  have cT := e_comparable
  have mR := e_method
  have mU := e_unwrap
  have nF := f_is
  have uF := f_un
  have heq := run_eql_iface_ptr_same (P := Tryz.prog) (w.alloc (.cells #[.string s, sentinel a] 78)) a Tryz.underlying54 Tryz.underlying164 hi hcmp hj
  have hty := run_eql_iface_types (P := Tryz.prog) 78 164 (.agg #[.string s, sentinel a]) (.pointer (some a)) Tryz.underlying54 (by decide) w
  go_enter Tryz.func65, Tryz.ntmps65
  go_wp2
  refine wp_loop_rounds 2 ?_
  rw [rounds_succ]
  go_wp2
  rw [rounds_succ]
  go_wp2
  go_ret
  exact ⟨rfl, rfl⟩

set_option maxHeartbeats 4000000 in
theorem is_fault_not (s : ByteArray) (a b : Addr) (ca cb : Array Value) (ta tb : TypeId) (w : World) (hne : a ≠ b) (ha : w.heap[a.block]? = some (.cells ca ta (0, 0))) (hb : w.heap[b.block]? = some (.cells cb tb (0, 0))) :
    Calls Tryz.prog 65 #[fault s a, sentinel b] w fun e w' => e = .returned (.bool false) ∧ w' = w.alloc (.cells #[.string s, sentinel a] 78) := by
  obtain ⟨i, hi, hcmp⟩ := Option.map_eq_some_iff.1 e_comp
  obtain ⟨j, hj, hjs⟩ := Option.map_eq_some_iff.1 e_one
  have h8 := @run_callFunc_extern Tryz.prog 86 _ ReflectliteType.typeOf Tryz.func86 (by kernel_rfl) (by kernel_rfl) (by kernel_rfl) (by kernel_rfl)
  have h32 := @run_callFunc_extern Tryz.prog 178 _ (ReflectliteType.method cmpEntry) Tryz.func178 (by kernel_rfl) (by kernel_rfl) (by kernel_rfl) (by kernel_rfl)
  have tT := e_typeOf
  have cT := e_comparable
  have mR := e_method
  have mU := e_unwrap
  have nF := f_is
  have uF := f_un
  have nS := s_is
  have uS := s_un
  have vS := s_uns
  have old : ∀ (k : Nat) (o : Obj), w.heap[k]? = some o → (w.alloc (.cells #[.string s, sentinel a] 78)).heap[k]? = some o := by
    intro k o h
    have hk : k < w.heap.size := by
      rcases Nat.lt_or_ge k w.heap.size with h1 | h1
      · exact h1
      · rw [Array.getElem?_eq_none h1] at h; cases h
    have : (w.alloc (.cells #[.string s, sentinel a] 78)).heap = w.heap.push (.cells #[.string s, sentinel a] 78) := rfl
    rw [this, Array.getElem?_push_lt hk, ← h, Array.getElem?_eq_getElem hk]
  have heq := run_eql_iface_ptr_other (P := Tryz.prog) (w.alloc (.cells #[.string s, sentinel a] 78)) Tryz.underlying54 Tryz.underlying164 hi hcmp hj (by rw [hjs]; decide) hne (old _ _ ha) (old _ _ hb)
  have hty := run_eql_iface_types (P := Tryz.prog) 78 164 (.agg #[.string s, sentinel a]) (.pointer (some b)) Tryz.underlying54 (by decide) w
  clear old
  go_enter Tryz.func65, Tryz.ntmps65
  go_wp2
  refine wp_loop_rounds 2 ?_
  rw [rounds_succ]
  go_wp2
  rw [rounds_succ]
  go_wp2
  go_ret
  exact ⟨rfl, rfl⟩

set_option maxHeartbeats 4000000 in
theorem is_beyond (n : Int) (b : Addr) (w : World) :
    Calls Tryz.prog 65 #[beyond n, sentinel b] w fun e w' => e = .returned (.bool false) ∧ w' = w := by
  obtain ⟨i, hi, hcmp⟩ := Option.map_eq_some_iff.1 e_comp
  obtain ⟨j, hj, hjs⟩ := Option.map_eq_some_iff.1 e_one
  have h8 := @run_callFunc_extern Tryz.prog 86 _ ReflectliteType.typeOf Tryz.func86 (by kernel_rfl) (by kernel_rfl) (by kernel_rfl) (by kernel_rfl)
  have h32 := @run_callFunc_extern Tryz.prog 178 _ (ReflectliteType.method cmpEntry) Tryz.func178 (by kernel_rfl) (by kernel_rfl) (by kernel_rfl) (by kernel_rfl)
  have tT := e_typeOf
  have cT := e_comparable
  have mR := e_method
  have nP := p_is
  have uP := p_un
  have vP := p_uns
  have hty := run_eql_iface_types (P := Tryz.prog) 73 164 (.agg #[.int .i64 n]) (.pointer (some b)) Tryz.underlying54 (by decide) w
  go_enter Tryz.func65, Tryz.ntmps65
  go_wp2
  refine wp_loop_rounds 1 ?_
  rw [rounds_succ]
  go_wp2
  go_ret
  exact ⟨rfl, rfl⟩

end Go.Proofs.YtpmnfgbbkmodpaaGreatDoor
