/-
  WRAPPED ERRORS: what errors.Is and errors.As answer at the errors of package rat, and what number tells of them. Conditions: the two errors of the package stand where they were laid, apart from each other (Er).
-/
import Derived.Test.YtjkobbpebnkimaaGreatDoorLeaf
import Derived.LaidEql
import Derived.Stop.Asserts
import Derived.RowKitTokens
import Derived.Test.YtjkobbpebnkimaaGreatDoorWhole
namespace Go.Proofs.YtjkobbpebnkimaaGreatDoor
section
set_option maxRecDepth 100000
open Go.RowKit Go.Extern.Stop Go.Stop Go.Extern Nm
set_option linter.unusedVariables false

/-- an error of the package, at its address -/
abbrev sentinel (a : Addr) : Value := .iface 208 (.pointer (some a))
/-- a text and what is wrong with it -/
abbrev fault (s : ByteArray) (a : Addr) : Value := .iface 103 (.agg #[.string s, sentinel a])
/-- a power out of bounds -/
abbrev beyond (n : Int) : Value := .iface 109 (.agg #[.int .i64 n])

/-! what the entries for types answer at these types -/
/-- the entry that answers whether a type's values can be compared -/
def cmpEntry (t : TypeId) : Sem Value := do Rtype.noPackHeld "Comparable" t; pure (.bool (← typeInfo t).comparable)
theorem e_typeOf (v : Value) (w : World) : (ReflectliteType.typeOf #[.iface 208 v]).run Tryz.prog w = .ok (.iface 158 (.agg #[.pointer (some ⟨7, 208, none⟩)])) w := by kernel_rfl
theorem e_comparable (w : World) : (ReflectliteType.method cmpEntry #[.agg #[.pointer (some ⟨7, 208, none⟩)]]).run Tryz.prog w = .ok (.bool true) w := by kernel_rfl
theorem e_method (v : Value) (w : World) : (Go.method 338 158 v "Comparable").run Tryz.prog w = .ok (223, v) w := by kernel_rfl
theorem e_unwrap (v : Value) (w : World) : (Go.method 338 103 v "Unwrap").run Tryz.prog w = .ok (216, v) w := by kernel_rfl
theorem e_comp : (Tryz.prog.info? 208).map (·.comparable) = some true := by kernel_rfl
theorem e_one : (Tryz.prog.info? 226).map (·.size) = some 1 := by kernel_rfl
theorem s_is (v : Value) (x : TypeId) (w : World) : (Instr.typeAssert (.iface 208 v) x 160 true).run Tryz.prog w = .ok (.tuple #[.nilIface, .bool false]) w := run_typeAssert_lacksB Tryz.underlying160 (by kernel_rfl) (by kernel_rfl) v x w
theorem s_un (v : Value) (x : TypeId) (w : World) : (Instr.typeAssert (.iface 208 v) x 163 true).run Tryz.prog w = .ok (.tuple #[.nilIface, .bool false]) w := run_typeAssert_lacksB Tryz.underlying163 (by kernel_rfl) (by kernel_rfl) v x w
theorem s_uns (v : Value) (x : TypeId) (w : World) : (Instr.typeAssert (.iface 208 v) x 165 true).run Tryz.prog w = .ok (.tuple #[.nilIface, .bool false]) w := run_typeAssert_lacksB Tryz.underlying165 (by kernel_rfl) (by kernel_rfl) v x w
theorem p_is (v : Value) (x : TypeId) (w : World) : (Instr.typeAssert (.iface 109 v) x 160 true).run Tryz.prog w = .ok (.tuple #[.nilIface, .bool false]) w := run_typeAssert_lacksB Tryz.underlying160 (by kernel_rfl) (by kernel_rfl) v x w
theorem p_un (v : Value) (x : TypeId) (w : World) : (Instr.typeAssert (.iface 109 v) x 163 true).run Tryz.prog w = .ok (.tuple #[.nilIface, .bool false]) w := run_typeAssert_lacksB Tryz.underlying163 (by kernel_rfl) (by kernel_rfl) v x w
theorem p_uns (v : Value) (x : TypeId) (w : World) : (Instr.typeAssert (.iface 109 v) x 165 true).run Tryz.prog w = .ok (.tuple #[.nilIface, .bool false]) w := run_typeAssert_lacksB Tryz.underlying165 (by kernel_rfl) (by kernel_rfl) v x w
theorem f_is (v : Value) (x : TypeId) (w : World) : (Instr.typeAssert (.iface 103 v) x 160 true).run Tryz.prog w = .ok (.tuple #[.nilIface, .bool false]) w := run_typeAssert_lacksB Tryz.underlying160 (by kernel_rfl) (by kernel_rfl) v x w
theorem f_un (v : Value) (x : TypeId) (w : World) : (Instr.typeAssert (.iface 103 v) x 163 true).run Tryz.prog w = .ok (.tuple #[.iface 103 v, .bool true]) w := run_typeAssert_hasB Tryz.underlying163 (by kernel_rfl) v x w

/-- a fault's cause -/
theorem cause_any (s : ByteArray) (a : Addr) (w : World) :
    Calls Tryz.prog 216 #[.agg #[.string s, sentinel a]] w fun e w' => e = .returned (sentinel a) ∧ w' = w.alloc (.cells #[.string s, sentinel a] 103) := by
  go_enter Tryz.func216, Tryz.ntmps216
  go_wp2
  go_ret
  exact ⟨rfl, rfl⟩

set_option maxHeartbeats 4000000 in
theorem is_fault (s : ByteArray) (a : Addr) (w : World) :
    Calls Tryz.prog 103 #[fault s a, sentinel a] w fun e w' => e = .returned (.bool true) ∧ w' = w.alloc (.cells #[.string s, sentinel a] 103) := by
  obtain ⟨i, hi, hcmp⟩ := Option.map_eq_some_iff.1 e_comp
  obtain ⟨j, hj, hjs⟩ := Option.map_eq_some_iff.1 e_one
  have h8 := @run_callFunc_extern Tryz.prog 122 _ ReflectliteType.typeOf Tryz.func122 (by kernel_rfl) (by kernel_rfl) (by kernel_rfl) (by kernel_rfl)
  have h32 := @run_callFunc_extern Tryz.prog 223 _ (ReflectliteType.method cmpEntry) Tryz.func223 (by kernel_rfl) (by kernel_rfl) (by kernel_rfl) (by kernel_rfl)
  have tT := e_typeOf
  have cT := e_comparable
  have mR := e_method
  have mU := e_unwrap
  have nF := f_is
  have uF := f_un
  have heq := run_eql_iface_ptr_same (P := Tryz.prog) (w.alloc (.cells #[.string s, sentinel a] 103)) a Tryz.underlying85 Tryz.underlying208 hi hcmp hj
  have hty := run_eql_iface_types (P := Tryz.prog) 103 208 (.agg #[.string s, sentinel a]) (.pointer (some a)) Tryz.underlying85 (by decide) w
  go_enter Tryz.func103, Tryz.ntmps103
  go_wp2
  refine wp_loop_rounds 2 ?_
  rw [rounds_succ]
  go_wp2
  rw [rounds_succ]
  go_wp2
  go_ret
  exact ⟨rfl, rfl⟩

set_option maxHeartbeats 4000000 in
theorem is_fault_not (s : ByteArray) (a b : Addr) (ca cb : Array Value) (ta tb : TypeId) (w : World) (hne : a ≠ b) (ha : w.heap[a.block]? = some (.cells ca ta (0, 0))) (hb : w.heap[b.block]? = some (.cells cb tb (0, 0))) :
    Calls Tryz.prog 103 #[fault s a, sentinel b] w fun e w' => e = .returned (.bool false) ∧ w' = w.alloc (.cells #[.string s, sentinel a] 103) := by
  obtain ⟨i, hi, hcmp⟩ := Option.map_eq_some_iff.1 e_comp
  obtain ⟨j, hj, hjs⟩ := Option.map_eq_some_iff.1 e_one
  have h8 := @run_callFunc_extern Tryz.prog 122 _ ReflectliteType.typeOf Tryz.func122 (by kernel_rfl) (by kernel_rfl) (by kernel_rfl) (by kernel_rfl)
  have h32 := @run_callFunc_extern Tryz.prog 223 _ (ReflectliteType.method cmpEntry) Tryz.func223 (by kernel_rfl) (by kernel_rfl) (by kernel_rfl) (by kernel_rfl)
  have tT := e_typeOf
  have cT := e_comparable
  have mR := e_method
  have mU := e_unwrap
  have nF := f_is
  have uF := f_un
  have nS := s_is
  have uS := s_un
  have vS := s_uns
  have old : ∀ (k : Nat) (o : Obj), w.heap[k]? = some o → (w.alloc (.cells #[.string s, sentinel a] 103)).heap[k]? = some o := by
    intro k o h
    have hk : k < w.heap.size := by
      rcases Nat.lt_or_ge k w.heap.size with h1 | h1
      · exact h1
      · rw [Array.getElem?_eq_none h1] at h; cases h
    have : (w.alloc (.cells #[.string s, sentinel a] 103)).heap = w.heap.push (.cells #[.string s, sentinel a] 103) := rfl
    rw [this, Array.getElem?_push_lt hk, ← h, Array.getElem?_eq_getElem hk]
  have heq := run_eql_iface_ptr_other (P := Tryz.prog) (w.alloc (.cells #[.string s, sentinel a] 103)) Tryz.underlying85 Tryz.underlying208 hi hcmp hj (by rw [hjs]; decide) hne (old _ _ ha) (old _ _ hb)
  have hty := run_eql_iface_types (P := Tryz.prog) 103 208 (.agg #[.string s, sentinel a]) (.pointer (some b)) Tryz.underlying85 (by decide) w
  clear old
  go_enter Tryz.func103, Tryz.ntmps103
  go_wp2
  refine wp_loop_rounds 2 ?_
  rw [rounds_succ]
  go_wp2
  rw [rounds_succ]
  go_wp2
  go_ret
  exact ⟨rfl, rfl⟩

set_option maxHeartbeats 4000000 in
theorem is_beyond (n : Int) (b : Addr) (w : World) :
    Calls Tryz.prog 103 #[beyond n, sentinel b] w fun e w' => e = .returned (.bool false) ∧ w' = w := by
  obtain ⟨i, hi, hcmp⟩ := Option.map_eq_some_iff.1 e_comp
  obtain ⟨j, hj, hjs⟩ := Option.map_eq_some_iff.1 e_one
  have h8 := @run_callFunc_extern Tryz.prog 122 _ ReflectliteType.typeOf Tryz.func122 (by kernel_rfl) (by kernel_rfl) (by kernel_rfl) (by kernel_rfl)
  have h32 := @run_callFunc_extern Tryz.prog 223 _ (ReflectliteType.method cmpEntry) Tryz.func223 (by kernel_rfl) (by kernel_rfl) (by kernel_rfl) (by kernel_rfl)
  have tT := e_typeOf
  have cT := e_comparable
  have mR := e_method
  have nP := p_is
  have uP := p_un
  have vP := p_uns
  have hty := run_eql_iface_types (P := Tryz.prog) 109 208 (.agg #[.int .i64 n]) (.pointer (some b)) Tryz.underlying85 (by decide) w
  go_enter Tryz.func103, Tryz.ntmps103
  go_wp2
  refine wp_loop_rounds 1 ?_
  rw [rounds_succ]
  go_wp2
  go_ret
  exact ⟨rfl, rfl⟩
end
end Go.Proofs.YtjkobbpebnkimaaGreatDoor
namespace Go.Proofs.YtjkobbpebnkimaaGreatDoor
section
set_option maxRecDepth 100000
open Go.RowKit Go.Extern.Stop Go.Stop Go.Extern Nm
set_option linter.unusedVariables false

/-- the two errors of the package, each in its variable, and what errors.As asks a type for -/
structure Er (w : World) (aF aZ : Addr) : Prop where
  f : w.cell? ⟨0, 0, none⟩ = some (sentinel aF)
  z : w.cell? ⟨1, 0, none⟩ = some (sentinel aZ)
  t : w.cell? ⟨2, 0, none⟩ = some (.iface 158 (.agg #[.pointer (some ⟨7, 85, none⟩)]))
  tb : w.cell? ⟨4, 0, none⟩ = some (.int .u64 1)
  ne : aF ≠ aZ
  hf : ∃ c t, w.heap[aF.block]? = some (.cells c t (0, 0))
  hz : ∃ c t, w.heap[aZ.block]? = some (.cells c t (0, 0))

theorem lt_of_some {w : World} {k : Nat} {o : Obj} (h : w.heap[k]? = some o) : k < w.heap.size := by
  rcases Nat.lt_or_ge k w.heap.size with h1 | h1
  · exact h1
  · rw [Array.getElem?_eq_none h1] at h; cases h
theorem lt_of_cell {w : World} {a : Addr} {v : Value} (h : w.cell? a = some v) : a.block < w.heap.size := by
  rcases Nat.lt_or_ge a.block w.heap.size with h1 | h1
  · exact h1
  · simp [World.cell?, Array.getElem?_eq_none h1] at h
theorem cell_below {w v : World} (h : Below w.heap.size w v) {a : Addr} {x : Value} (e : w.cell? a = some x) : v.cell? a = some x := by
  have := h.block a.block (lt_of_cell e)
  rw [← e]; unfold World.cell?; rw [this]
theorem Er.below {w v : World} {aF aZ : Addr} (e : Er w aF aZ) (h : Below w.heap.size w v) : Er v aF aZ := by
  obtain ⟨c1, t1, h1⟩ := e.hf
  obtain ⟨c2, t2, h2⟩ := e.hz
  exact ⟨cell_below h e.f, cell_below h e.z, cell_below h e.t, cell_below h e.tb, e.ne, ⟨c1, t1, by rw [h.block _ (lt_of_some h1)]; exact h1⟩, ⟨c2, t2, by rw [h.block _ (lt_of_some h2)]; exact h2⟩⟩
theorem Er.more {w : World} {aF aZ : Addr} (e : Er w aF aZ) (o : Obj) : Er (w.alloc o) aF aZ := e.below (bl_alloc (Below.refl _ _) o)

/-! errors.As at a power out of bounds -/
theorem t_valueOf (t : Addr) (w : World) : (ReflectliteValue.unpack (.iface 112 (.pointer (some t)))).run Tryz.prog w = .ok (.agg #[.pointer (some ⟨7, 112, none⟩), .pointer (some ⟨w.heap.size, 0, none⟩), .int .u64 150]) (w.alloc (.cells #[.pointer (some t)] 112)) := by kernel_rfl
theorem t_type (a : Addr) (w : World) : (ReflectliteValue.methodAny (ReflectliteValue.valueError "reflectlite.Value.Type" 0) (fun t _ _ _ => ReflectliteType.toType t) #[.agg #[.pointer (some ⟨7, 112, none⟩), .pointer (some a), .int .u64 150]]).run Tryz.prog w = .ok (.iface 158 (.agg #[.pointer (some ⟨7, 112, none⟩)])) w := by kernel_rfl
theorem m_kind (h : Value) (w : World) : (Go.method 338 158 (.agg #[h]) "Kind").run Tryz.prog w = .ok (212, h) w := by kernel_rfl
theorem m_elem (h : Value) (w : World) : (Go.method 338 158 (.agg #[h]) "Elem").run Tryz.prog w = .ok (224, .agg #[h]) w := by kernel_rfl
theorem m_impl (h : Value) (w : World) : (Go.method 338 158 (.agg #[h]) "Implements").run Tryz.prog w = .ok (225, .agg #[h]) w := by kernel_rfl
theorem m_assign (h : Value) (w : World) : (Go.method 338 158 (.agg #[h]) "AssignableTo").run Tryz.prog w = .ok (222, .agg #[h]) w := by kernel_rfl
theorem t_kind76 (w : World) : ((ReflectliteType.abiMethod fun t => Functor.map (fun a : Nat => Value.int .u8 (a: Int)) (Rtype.kind t)) #[.pointer (some ⟨7, 112, none⟩)]).run Tryz.prog w = .ok (.int .u8 22) w := by kernel_rfl
theorem t_kind73 (w : World) : ((ReflectliteType.abiMethod fun t => Functor.map (fun a : Nat => Value.int .u8 (a: Int)) (Rtype.kind t)) #[.pointer (some ⟨7, 109, none⟩)]).run Tryz.prog w = .ok (.int .u8 25) w := by kernel_rfl
theorem t_elem (w : World) : (ReflectliteType.method ReflectliteType.elem #[.agg #[.pointer (some ⟨7, 112, none⟩)]]).run Tryz.prog w = .ok (.iface 158 (.agg #[.pointer (some ⟨7, 109, none⟩)])) w := by kernel_rfl
theorem t_impl (w : World) : (ReflectliteType.relation "Implements" ReflectliteType.implements_ #[.agg #[.pointer (some ⟨7, 109, none⟩)], .iface 158 (.agg #[.pointer (some ⟨7, 85, none⟩)])]).run Tryz.prog w = .ok (.bool true) w := by kernel_rfl
theorem t_typeOf (v : Value) (w : World) : (ReflectliteType.typeOf #[.iface 109 v]).run Tryz.prog w = .ok (.iface 158 (.agg #[.pointer (some ⟨7, 109, none⟩)])) w := by kernel_rfl
theorem t_assign (w : World) : (ReflectliteType.relation "AssignableTo" ReflectliteType.assignableTo #[.agg #[.pointer (some ⟨7, 109, none⟩)], .iface 158 (.agg #[.pointer (some ⟨7, 109, none⟩)])]).run Tryz.prog w = .ok (.bool true) w := by kernel_rfl
theorem t_valueOf73 (n : Int) (w : World) : (ReflectliteValue.unpack (.iface 109 (.agg #[.int .i64 n]))).run Tryz.prog w = .ok (.agg #[.pointer (some ⟨7, 109, none⟩), .pointer (some ⟨w.heap.size, 0, none⟩), .int .u64 153]) (w.alloc (.cells #[.int .i64 n] 109)) := by kernel_rfl
theorem t_parts (a : Addr) (w : World) : (ReflectliteValue.parts (.agg #[.pointer (some ⟨7, 112, none⟩), .pointer (some a), .int .u64 150])).run Tryz.prog w = .ok (some (112, a, 150)) w := by kernel_rfl
theorem t_parts_a (a : Addr) (w : World) : (ReflectliteValue.parts (.agg #[.pointer (some ⟨7, 109, none⟩), .pointer (some a), .int .u64 409])).run Tryz.prog w = .ok (some (109, a, 409)) w := by kernel_rfl
theorem t_parts_b (a : Addr) (w : World) : (ReflectliteValue.parts (.agg #[.pointer (some ⟨7, 109, none⟩), .pointer (some a), .int .u64 153])).run Tryz.prog w = .ok (some (109, a, 153)) w := by kernel_rfl
theorem t_elemOf (w : World) : (Rtype.elem? 112).run Tryz.prog w = .ok (some 109) w := by kernel_rfl
theorem t_mk (p : Addr) (w : World) : (ReflectliteValue.mk 109 p ReflectliteValue.flagAddr).run Tryz.prog w = .ok (.agg #[.pointer (some ⟨7, 109, none⟩), .pointer (some p), .int .u64 409]) w := by kernel_rfl
theorem t_direct (w : World) : (Rtype.directlyAssignable 109 109).run Tryz.prog w = .ok true w := by kernel_rfl
theorem t_nil (a p : Addr) (V : World) (ha : V.cell? a = some (.pointer (some p))) :
    (ReflectliteValue.method (ReflectliteValue.valueError "reflectlite.Value.IsNil" 0) ReflectliteValue.isNil #[.agg #[.pointer (some ⟨7, 112, none⟩), .pointer (some a), .int .u64 150]]).run Tryz.prog V = .ok (.bool false) V := by
  change Sem.run Tryz.prog (ReflectliteValue.parts _ >>= _) V = _
  simp only [Array.getLit, List.getElem_toArray, List.getElem_cons_zero, Sem.run_bind, t_parts, Result.andThen]
  simp [ReflectliteValue.isNil, loadVar, isAgg, underlying, Tryz.underlying112, ha, Result.andThen]
theorem t_elemV (a p : Addr) (V : World) (ha : V.cell? a = some (.pointer (some p))) :
    (ReflectliteValue.method (ReflectliteValue.valueError "reflectlite.Value.Elem" 0) ReflectliteValue.elem #[.agg #[.pointer (some ⟨7, 112, none⟩), .pointer (some a), .int .u64 150]]).run Tryz.prog V
      = .ok (.agg #[.pointer (some ⟨7, 109, none⟩), .pointer (some p), .int .u64 409]) V := by
  change Sem.run Tryz.prog (ReflectliteValue.parts _ >>= _) V = _
  simp only [Array.getLit, List.getElem_toArray, List.getElem_cons_zero, Sem.run_bind, t_parts, Result.andThen]
  simp [ReflectliteValue.elem, loadVar, isAgg, underlying, Tryz.underlying112, ha, Result.andThen, t_elemOf, t_mk]
theorem t_load (b : Addr) (n : Int) (V : World) (hb : V.cell? b = some (.int .i64 n)) : (loadVar 109 b).run Tryz.prog V = .ok (.agg #[.int .i64 n]) V := by
  obtain ⟨i, hi, hs⟩ := Option.map_eq_some_iff.1 (show (Tryz.prog.info? 109).map (·.size) = some 1 by kernel_rfl)
  simp [loadVar, isAgg, underlying, Tryz.underlying109, loadCells, loadCellsFrom, Addr.add, hb, Result.andThen, sizeOf, typeInfo, hi, hs]
theorem t_store (a : Addr) (n : Int) (old : Value) (V : World) (ht : V.cell? a = some old) (hf : V.frozen? a = false) : (storeVar 109 a (.agg #[.int .i64 n])).run Tryz.prog V = .ok () (V.setCell a (.int .i64 n)) := by
  obtain ⟨i, hi, hs⟩ := Option.map_eq_some_iff.1 (show (Tryz.prog.info? 109).map (·.size) = some 1 by kernel_rfl)
  have hst : Sem.run Tryz.prog (store a (.int .i64 n)) V = .ok () (V.setCell a (.int .i64 n)) := by
    rw [run_store Tryz.prog V a _ _ (by rfl)]
    simp [ht, hf]
  simp [storeVar, Value.cells, storeCells, Addr.add, Result.andThen, sizeOf, typeInfo, hi, hs, hst]
theorem t_set (ta b : Addr) (n : Int) (old : Value) (V : World) (hb : V.cell? b = some (.int .i64 n)) (ht : V.cell? ta = some old) (hf : V.frozen? ta = false) :
    (ReflectliteValue.set #[.agg #[.pointer (some ⟨7, 109, none⟩), .pointer (some ta), .int .u64 409], .agg #[.pointer (some ⟨7, 109, none⟩), .pointer (some b), .int .u64 153]]).run Tryz.prog V
      = .ok (.tuple #[]) (V.setCell ta (.int .i64 n)) := by
  have h1 := t_load b n V hb
  have h2 := t_store ta n old V ht hf
  change Sem.run Tryz.prog (ReflectliteValue.parts _ >>= _) V = _
  simp only [Array.getLit, List.getElem_toArray, List.getElem_cons_zero, List.getElem_cons_succ, Sem.run_bind, t_parts_a, t_parts_b, Result.andThen]
  simp [ReflectliteValue.flagAddr, Result.andThen, t_direct, h1, h2]

set_option maxHeartbeats 4000000 in
/-- errors.As at a power out of bounds -/
theorem as_beyond (n : Int) (t : Addr) (old : Value) (w : World) (hg : w.cell? ⟨2, 0, none⟩ = some (.iface 158 (.agg #[.pointer (some ⟨7, 85, none⟩)]))) (ht0 : w.cell? t = some old) (hf0 : w.frozen? t = false) :
    Calls Tryz.prog 104 #[beyond n, .iface 112 (.pointer (some t))] w fun ev w' => ev = .returned (.bool true) ∧ Below t.block w w' := by
  have h88 := @run_callFunc_extern Tryz.prog 124 _ (fun args => ReflectliteValue.unpack (args.getD 0 (.tuple #[]))) Tryz.func124 (by kernel_rfl) (by kernel_rfl) (by kernel_rfl) (by kernel_rfl)
  have h89 := @run_callFunc_extern Tryz.prog 125 _ (ReflectliteValue.methodAny (ReflectliteValue.valueError "reflectlite.Value.Type" 0) (fun t _ _ _ => ReflectliteType.toType t)) Tryz.func125 (by kernel_rfl) (by kernel_rfl) (by kernel_rfl) (by kernel_rfl)
  have h90 := @run_callFunc_extern Tryz.prog 126 _ (ReflectliteValue.method (ReflectliteValue.valueError "reflectlite.Value.IsNil" 0) ReflectliteValue.isNil) Tryz.func126 (by kernel_rfl) (by kernel_rfl) (by kernel_rfl) (by kernel_rfl)
  have h167 := @run_callFunc_extern Tryz.prog 212 _ (ReflectliteType.abiMethod fun t => do pure (.int .u8 (← Rtype.kind t))) Tryz.func212 (by kernel_rfl) (by kernel_rfl) (by kernel_rfl) (by kernel_rfl)
  have h179 := @run_callFunc_extern Tryz.prog 224 _ (ReflectliteType.method ReflectliteType.elem) Tryz.func224 (by kernel_rfl) (by kernel_rfl) (by kernel_rfl) (by kernel_rfl)
  have h180 := @run_callFunc_extern Tryz.prog 225 _ (ReflectliteType.relation "Implements" ReflectliteType.implements_) Tryz.func225 (by kernel_rfl) (by kernel_rfl) (by kernel_rfl) (by kernel_rfl)
  have h86 := @run_callFunc_extern Tryz.prog 122 _ ReflectliteType.typeOf Tryz.func122 (by kernel_rfl) (by kernel_rfl) (by kernel_rfl) (by kernel_rfl)
  have h177 := @run_callFunc_extern Tryz.prog 222 _ (ReflectliteType.relation "AssignableTo" ReflectliteType.assignableTo) Tryz.func222 (by kernel_rfl) (by kernel_rfl) (by kernel_rfl) (by kernel_rfl)
  have h110 := @run_callFunc_extern Tryz.prog 150 _ (ReflectliteValue.method (ReflectliteValue.valueError "reflectlite.Value.Elem" 0) ReflectliteValue.elem) Tryz.func150 (by kernel_rfl) (by kernel_rfl) (by kernel_rfl) (by kernel_rfl)
  have h111 := @run_callFunc_extern Tryz.prog 151 _ ReflectliteValue.set Tryz.func151 (by kernel_rfl) (by kernel_rfl) (by kernel_rfl) (by kernel_rfl)
  have f1 := t_valueOf
  have f2 := t_type
  have f3 := m_kind
  have f4 := m_elem
  have f5 := m_impl
  have f6 := m_assign
  have f7 := t_kind76
  have f8 := t_kind73
  have f9 := t_elem
  have f10 := t_impl
  have f11 := t_typeOf
  have f12 := t_assign
  have f13 := t_valueOf73
  have htl := lt_of_cell ht0
  have hlt : 2 < w.heap.size := lt_of_cell hg
  obtain ⟨A, hA⟩ : ∃ A : Obj, A = .cells #[.pointer (some t)] 112 := ⟨_, rfl⟩
  obtain ⟨Bv, hBv⟩ : ∃ Bv : Obj, Bv = .cells #[.pointer (some ⟨7, 112, none⟩), .pointer (some ⟨w.heap.size, 0, none⟩), .int .u64 150] 130 := ⟨_, rfl⟩
  have n8 := t_nil ⟨w.heap.size, 0, none⟩ t ((w.alloc A).alloc Bv) (by subst hA; subst hBv; simp)
  have hg2 : ((w.alloc A).alloc Bv).cell? ⟨2, 0, none⟩ = some (.iface 158 (.agg #[.pointer (some ⟨7, 85, none⟩)])) := by
    rw [World.cell?_alloc_lt _ _ ⟨2, 0, none⟩ (by simp; omega), World.cell?_alloc_lt _ _ ⟨2, 0, none⟩ hlt]; exact hg
  have el := t_elemV ⟨w.heap.size, 0, none⟩ t (((w.alloc A).alloc Bv).alloc Bv) (by rw [World.cell?_alloc_lt _ _ ⟨w.heap.size, 0, none⟩ (by simp; omega)]; subst hA; subst hBv; simp)
  have st := t_set t ⟨w.heap.size + 1 + 1 + 1, 0, none⟩ n old ((((w.alloc A).alloc Bv).alloc Bv).alloc (.cells #[.int .i64 n] 109))
    (by rw [World.cell?_alloc_at _ _ _ _ (by simp)]; rfl)
    (by rw [World.cell?_alloc_lt _ _ t (by simp; omega), World.cell?_alloc_lt _ _ t (by simp; omega), World.cell?_alloc_lt _ _ t (by simp; omega), World.cell?_alloc_lt _ _ t htl]; exact ht0)
    (by rw [World.frozen?_alloc_old _ _ t (by simp; omega), World.frozen?_alloc_old _ _ t (by simp; omega), World.frozen?_alloc_old _ _ t (by simp; omega), World.frozen?_alloc_old _ _ t (Nat.ne_of_lt htl)]; exact hf0)
  have HB : Hid (Below t.block w (((((w.alloc A).alloc Bv).alloc Bv).alloc (.cells #[.int .i64 n] 109)).setCell t (.int .i64 n))) :=
    ((((((Below.refl _ w).alloc (by omega) _).alloc (by simp; omega) _).alloc (by simp; omega) _).alloc (by simp; omega) _)).setCell (Nat.le_refl _) _
  subst hA
  subst hBv
  go_enter Tryz.func104, Tryz.ntmps104
  go_wp2
  refine wp_loop_rounds 1 ?_
  rw [rounds_succ]
  go_wp2
  go_ret
  exact ⟨rfl, HB.out⟩

set_option maxHeartbeats 2000000 in
theorem number_form (s : ByteArray) (aF aZ : Addr) (w : World) (hE : Er w aF aZ) :
    Calls Tryz.prog 82 #[fault s aF] w fun e w' => e = .returned (.int .i64 2) ∧ Below w.heap.size w w' := by
  have hF := (hE.more (.cells #[.int .i64 0] 109)).f
  have HB : Hid _ := Below.refl w.heap.size w
  clear hE
  go_enter Tryz.func82, Tryz.ntmps82
  go_wp2_with fail
  refine (is_fault s aF _).mono ?_
  rintro e w1 ⟨rfl, rfl⟩
  go_wp2
  go_ret
  exact ⟨rfl, bl_alloc (bl_alloc HB.out _) _⟩

set_option maxHeartbeats 2000000 in
theorem number_zero (s : ByteArray) (aF aZ : Addr) (w : World) (hE : Er w aF aZ) :
    Calls Tryz.prog 82 #[fault s aZ] w fun e w' => e = .returned (.int .i64 3) ∧ Below w.heap.size w w' := by
  have hE1 := hE.more (.cells #[.int .i64 0] 109)
  have hE2 := hE1.more (.cells #[.string s, sentinel aZ] 103)
  have hF := hE1.f
  have hZ := hE2.z
  obtain ⟨c1, t1, h1⟩ := hE1.hf
  obtain ⟨c2, t2, h2⟩ := hE1.hz
  have hne : aZ ≠ aF := fun h => hE.ne h.symm
  have HB : Hid _ := Below.refl w.heap.size w
  have H1 : Hid _ := h1
  have H2 : Hid _ := h2
  clear hE hE1 hE2 h1 h2
  go_enter Tryz.func82, Tryz.ntmps82
  go_wp2_with fail
  refine (is_fault_not s aZ aF _ _ _ _ _ hne H2.out H1.out).mono ?_
  rintro e w1 ⟨rfl, rfl⟩
  go_wp2_with fail
  refine (is_fault s aZ _).mono ?_
  rintro e w1 ⟨rfl, rfl⟩
  go_wp2
  go_ret
  exact ⟨rfl, bl_alloc (bl_alloc (bl_alloc HB.out _) _) _⟩

set_option maxHeartbeats 2000000 in
theorem number_beyond (n : Int) (aF aZ : Addr) (w : World) (hE : Er w aF aZ) :
    Calls Tryz.prog 82 #[beyond n] w fun e w' => e = .returned (.int .i64 1) ∧ Below w.heap.size w w' := by
  have hE1 := hE.more (.cells #[.int .i64 0] 109)
  have hF := hE1.f
  have hZ := hE1.z
  have HT : Hid _ := hE1.t
  have HB : Hid _ := bl_alloc (Below.refl w.heap.size w) (.cells #[.int .i64 0] 109)
  clear hE hE1
  go_enter Tryz.func82, Tryz.ntmps82
  go_wp2_with fail
  refine (is_beyond n aF _).mono ?_
  rintro e w1 ⟨rfl, rfl⟩
  go_wp2_with fail
  refine (is_beyond n aZ _).mono ?_
  rintro e w1 ⟨rfl, rfl⟩
  go_wp2_with fail
  refine (as_beyond n ⟨w.heap.size, 0, none⟩ (.int .i64 0) _ HT.out (by simp) (by simp)).mono ?_
  rintro e w1 ⟨rfl, h1⟩
  have H1 : Hid _ := h1
  clear h1
  go_wp2
  go_ret
  exact ⟨rfl, HB.out.trans H1.out⟩
end
end Go.Proofs.YtjkobbpebnkimaaGreatDoor
