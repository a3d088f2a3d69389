/-
  THE DOCUMENT'S TRANSPOSE: rows are columns. Conditions: what the argument holds.
-/
import Derived.Test.YtbfboippaejnmaaGreatDoorGz
import Derived.Test.YtbfboippaejnmaaGreatDoorRl
import Derived.BigRegion
namespace Go.Proofs.YtbfboippaejnmaaGreatDoor.Tn
set_option maxRecDepth 100000
open Go.RowKit Nm
set_option linter.unusedVariables false

/-- the number that comes to stand at place t -/
def turned (p q : Nat) (qs : List Rat) (t : Nat) : ByteArray := R (qs.getD (t % p * q + t / p) 0)
theorem turned_all (p q : Nat) (qs : List Rat) : (List.range (q * p)).map (turned p q qs) = (tr p q qs).map R := by
  unfold tr
  rw [grid_map]
  rfl
theorem turned_next (p q : Nat) (qs : List Rat) (k : Nat) : txts ((List.range (k + 1)).map (turned p q qs)) = txts ((List.range k).map (turned p q qs)) ++ [.string (turned p q qs k)] := by
  rw [List.range_succ, List.map_append, txts_app]; rfl
theorem new_one {v : World} {b : Nat} {x : Value} (h : v.cell? ⟨b, 0, none⟩ = some x) : ∀ (j : Nat) (y : Value), ([x] : List Value)[j]? = some y → v.cell? ((⟨b, 0, none⟩ : Addr).add j) = some y := by
  intro j y hj
  match j, hj with
  | 0, hj => simp at hj; subst hj; rw [row_add]; exact h
  | j + 1, hj => simp at hj
structure Gt (wr : World) (o : Option Nat) (OW : World → Prop) (OA : World → Value → Prop) (P1 V0 A1 DT KV A0 SH PX PV MV PY QV MQV DV IV PD XV : Value) (L : Array Bool) (v : World) (s22 s23 s24 s25 s26 s27 s28 s29 s30 s31 s32 s33 s34 s35 s36 s37 s38 s39 s40 s41 s42 s43 s44 s45 s46 s47 s48 : Value) : Prop where
  sz : L.size = 27
  gb : wr.grownBy v o
  kw : ∀ u x, OW u → OW (u.alloc x)
  ow : ¬ on L 25 → OW v
  oa : on L 25 → OA v s47
  h0 : on L 0 → s22 = P1
  h1 : on L 1 → s23 = V0
  h2 : on L 2 → s24 = A1
  h3 : on L 3 → s25 = DT
  h4 : on L 4 → s26 = KV
  h5 : on L 5 → s27 = A0
  h6 : on L 6 → s28 = SH
  h7 : on L 7 → s29 = PX
  h8 : on L 8 → s30 = PV
  h9 : on L 9 → s31 = MV
  h10 : on L 10 → s32 = A0
  h11 : on L 11 → s33 = SH
  h12 : on L 12 → s34 = PY
  h13 : on L 13 → s35 = QV
  h14 : on L 14 → s36 = MQV
  h15 : on L 15 → s37 = KV
  h16 : on L 16 → s38 = A0
  h17 : on L 17 → s39 = SH
  h18 : on L 18 → s40 = PX
  h19 : on L 19 → s41 = PV
  h20 : on L 20 → s42 = DV
  h21 : on L 21 → s43 = IV
  h22 : on L 22 → s44 = PD
  h23 : on L 23 → s45 = XV
  h24 : on L 24 → s46 = .slice (some ⟨wr.heap.size, 0, none⟩) 1 1
  h26 : on L 26 → s48 = P1
  n0 : ¬ on L 25 → ¬ on L 24 → v.heap.size = wr.heap.size
  n1 : ¬ on L 25 → on L 24 → v.heap.size = wr.heap.size + 1
  c0_0 : ¬ on L 25 → on L 24 → v.cell? ⟨wr.heap.size, 0, none⟩ = some (XV)
  r25_24 : on L 25 → on L 24
section
variable {wr : World} {o : Option Nat} {OW : World → Prop} {OA : World → Value → Prop} {P1 V0 A1 DT KV A0 SH PX PV MV PY QV MQV DV IV PD XV : Value} {L : Array Bool} {v v' : World} {s22 s23 s24 s25 s26 s27 s28 s29 s30 s31 s32 s33 s34 s35 s36 s37 s38 s39 s40 s41 s42 s43 s44 s45 s46 s47 s48 : Value}
theorem Gt.t0 (h : Gt wr o OW OA P1 V0 A1 DT KV A0 SH PX PV MV PY QV MQV DV IV PD XV L v s22 s23 s24 s25 s26 s27 s28 s29 s30 s31 s32 s33 s34 s35 s36 s37 s38 s39 s40 s41 s42 s43 s44 s45 s46 s47 s48) : Gt wr o OW OA P1 V0 A1 DT KV A0 SH PX PV MV PY QV MQV DV IV PD XV (L.setIfInBounds 0 true) v (P1) s23 s24 s25 s26 s27 s28 s29 s30 s31 s32 s33 s34 s35 s36 s37 s38 s39 s40 s41 s42 s43 s44 s45 s46 s47 s48 :=
  ⟨by simp [h.sz], h.gb, h.kw, fun g => h.ow (fun c => g (on_up c)) , fun g => h.oa (on_set g (by decide)), fun _ => rfl, fun g => h.h1 (on_set g (by decide)), fun g => h.h2 (on_set g (by decide)), fun g => h.h3 (on_set g (by decide)), fun g => h.h4 (on_set g (by decide)), fun g => h.h5 (on_set g (by decide)), fun g => h.h6 (on_set g (by decide)), fun g => h.h7 (on_set g (by decide)), fun g => h.h8 (on_set g (by decide)), fun g => h.h9 (on_set g (by decide)), fun g => h.h10 (on_set g (by decide)), fun g => h.h11 (on_set g (by decide)), fun g => h.h12 (on_set g (by decide)), fun g => h.h13 (on_set g (by decide)), fun g => h.h14 (on_set g (by decide)), fun g => h.h15 (on_set g (by decide)), fun g => h.h16 (on_set g (by decide)), fun g => h.h17 (on_set g (by decide)), fun g => h.h18 (on_set g (by decide)), fun g => h.h19 (on_set g (by decide)), fun g => h.h20 (on_set g (by decide)), fun g => h.h21 (on_set g (by decide)), fun g => h.h22 (on_set g (by decide)), fun g => h.h23 (on_set g (by decide)), fun g => h.h24 (on_set g (by decide)), fun g => h.h26 (on_set g (by decide)), fun a q => h.n0 (fun c => a (on_up c)) (fun c => q (on_up c)), fun a p => h.n1 (fun c => a (on_up c)) (on_set p (by decide)), fun a p => h.c0_0 (fun c => a (on_up c)) (on_set p (by decide)), fun g => on_up (h.r25_24 (on_set g (by decide)))⟩
theorem Gt.t1 (h : Gt wr o OW OA P1 V0 A1 DT KV A0 SH PX PV MV PY QV MQV DV IV PD XV L v s22 s23 s24 s25 s26 s27 s28 s29 s30 s31 s32 s33 s34 s35 s36 s37 s38 s39 s40 s41 s42 s43 s44 s45 s46 s47 s48) (g0 : on L 0) : Gt wr o OW OA P1 V0 A1 DT KV A0 SH PX PV MV PY QV MQV DV IV PD XV (L.setIfInBounds 1 true) v s22 (V0) s24 s25 s26 s27 s28 s29 s30 s31 s32 s33 s34 s35 s36 s37 s38 s39 s40 s41 s42 s43 s44 s45 s46 s47 s48 :=
  ⟨by simp [h.sz], h.gb, h.kw, fun g => h.ow (fun c => g (on_up c)) , fun g => h.oa (on_set g (by decide)), fun g => h.h0 (on_set g (by decide)), fun _ => rfl, fun g => h.h2 (on_set g (by decide)), fun g => h.h3 (on_set g (by decide)), fun g => h.h4 (on_set g (by decide)), fun g => h.h5 (on_set g (by decide)), fun g => h.h6 (on_set g (by decide)), fun g => h.h7 (on_set g (by decide)), fun g => h.h8 (on_set g (by decide)), fun g => h.h9 (on_set g (by decide)), fun g => h.h10 (on_set g (by decide)), fun g => h.h11 (on_set g (by decide)), fun g => h.h12 (on_set g (by decide)), fun g => h.h13 (on_set g (by decide)), fun g => h.h14 (on_set g (by decide)), fun g => h.h15 (on_set g (by decide)), fun g => h.h16 (on_set g (by decide)), fun g => h.h17 (on_set g (by decide)), fun g => h.h18 (on_set g (by decide)), fun g => h.h19 (on_set g (by decide)), fun g => h.h20 (on_set g (by decide)), fun g => h.h21 (on_set g (by decide)), fun g => h.h22 (on_set g (by decide)), fun g => h.h23 (on_set g (by decide)), fun g => h.h24 (on_set g (by decide)), fun g => h.h26 (on_set g (by decide)), fun a q => h.n0 (fun c => a (on_up c)) (fun c => q (on_up c)), fun a p => h.n1 (fun c => a (on_up c)) (on_set p (by decide)), fun a p => h.c0_0 (fun c => a (on_up c)) (on_set p (by decide)), fun g => on_up (h.r25_24 (on_set g (by decide)))⟩
theorem Gt.t2 (h : Gt wr o OW OA P1 V0 A1 DT KV A0 SH PX PV MV PY QV MQV DV IV PD XV L v s22 s23 s24 s25 s26 s27 s28 s29 s30 s31 s32 s33 s34 s35 s36 s37 s38 s39 s40 s41 s42 s43 s44 s45 s46 s47 s48) : Gt wr o OW OA P1 V0 A1 DT KV A0 SH PX PV MV PY QV MQV DV IV PD XV (L.setIfInBounds 2 true) v s22 s23 (A1) s25 s26 s27 s28 s29 s30 s31 s32 s33 s34 s35 s36 s37 s38 s39 s40 s41 s42 s43 s44 s45 s46 s47 s48 :=
  ⟨by simp [h.sz], h.gb, h.kw, fun g => h.ow (fun c => g (on_up c)) , fun g => h.oa (on_set g (by decide)), fun g => h.h0 (on_set g (by decide)), fun g => h.h1 (on_set g (by decide)), fun _ => rfl, fun g => h.h3 (on_set g (by decide)), fun g => h.h4 (on_set g (by decide)), fun g => h.h5 (on_set g (by decide)), fun g => h.h6 (on_set g (by decide)), fun g => h.h7 (on_set g (by decide)), fun g => h.h8 (on_set g (by decide)), fun g => h.h9 (on_set g (by decide)), fun g => h.h10 (on_set g (by decide)), fun g => h.h11 (on_set g (by decide)), fun g => h.h12 (on_set g (by decide)), fun g => h.h13 (on_set g (by decide)), fun g => h.h14 (on_set g (by decide)), fun g => h.h15 (on_set g (by decide)), fun g => h.h16 (on_set g (by decide)), fun g => h.h17 (on_set g (by decide)), fun g => h.h18 (on_set g (by decide)), fun g => h.h19 (on_set g (by decide)), fun g => h.h20 (on_set g (by decide)), fun g => h.h21 (on_set g (by decide)), fun g => h.h22 (on_set g (by decide)), fun g => h.h23 (on_set g (by decide)), fun g => h.h24 (on_set g (by decide)), fun g => h.h26 (on_set g (by decide)), fun a q => h.n0 (fun c => a (on_up c)) (fun c => q (on_up c)), fun a p => h.n1 (fun c => a (on_up c)) (on_set p (by decide)), fun a p => h.c0_0 (fun c => a (on_up c)) (on_set p (by decide)), fun g => on_up (h.r25_24 (on_set g (by decide)))⟩
theorem Gt.t3 (h : Gt wr o OW OA P1 V0 A1 DT KV A0 SH PX PV MV PY QV MQV DV IV PD XV L v s22 s23 s24 s25 s26 s27 s28 s29 s30 s31 s32 s33 s34 s35 s36 s37 s38 s39 s40 s41 s42 s43 s44 s45 s46 s47 s48) (g2 : on L 2) : Gt wr o OW OA P1 V0 A1 DT KV A0 SH PX PV MV PY QV MQV DV IV PD XV (L.setIfInBounds 3 true) v s22 s23 s24 (DT) s26 s27 s28 s29 s30 s31 s32 s33 s34 s35 s36 s37 s38 s39 s40 s41 s42 s43 s44 s45 s46 s47 s48 :=
  ⟨by simp [h.sz], h.gb, h.kw, fun g => h.ow (fun c => g (on_up c)) , fun g => h.oa (on_set g (by decide)), fun g => h.h0 (on_set g (by decide)), fun g => h.h1 (on_set g (by decide)), fun g => h.h2 (on_set g (by decide)), fun _ => rfl, fun g => h.h4 (on_set g (by decide)), fun g => h.h5 (on_set g (by decide)), fun g => h.h6 (on_set g (by decide)), fun g => h.h7 (on_set g (by decide)), fun g => h.h8 (on_set g (by decide)), fun g => h.h9 (on_set g (by decide)), fun g => h.h10 (on_set g (by decide)), fun g => h.h11 (on_set g (by decide)), fun g => h.h12 (on_set g (by decide)), fun g => h.h13 (on_set g (by decide)), fun g => h.h14 (on_set g (by decide)), fun g => h.h15 (on_set g (by decide)), fun g => h.h16 (on_set g (by decide)), fun g => h.h17 (on_set g (by decide)), fun g => h.h18 (on_set g (by decide)), fun g => h.h19 (on_set g (by decide)), fun g => h.h20 (on_set g (by decide)), fun g => h.h21 (on_set g (by decide)), fun g => h.h22 (on_set g (by decide)), fun g => h.h23 (on_set g (by decide)), fun g => h.h24 (on_set g (by decide)), fun g => h.h26 (on_set g (by decide)), fun a q => h.n0 (fun c => a (on_up c)) (fun c => q (on_up c)), fun a p => h.n1 (fun c => a (on_up c)) (on_set p (by decide)), fun a p => h.c0_0 (fun c => a (on_up c)) (on_set p (by decide)), fun g => on_up (h.r25_24 (on_set g (by decide)))⟩
theorem Gt.t4 (h : Gt wr o OW OA P1 V0 A1 DT KV A0 SH PX PV MV PY QV MQV DV IV PD XV L v s22 s23 s24 s25 s26 s27 s28 s29 s30 s31 s32 s33 s34 s35 s36 s37 s38 s39 s40 s41 s42 s43 s44 s45 s46 s47 s48) : Gt wr o OW OA P1 V0 A1 DT KV A0 SH PX PV MV PY QV MQV DV IV PD XV (L.setIfInBounds 4 true) v s22 s23 s24 s25 (KV) s27 s28 s29 s30 s31 s32 s33 s34 s35 s36 s37 s38 s39 s40 s41 s42 s43 s44 s45 s46 s47 s48 :=
  ⟨by simp [h.sz], h.gb, h.kw, fun g => h.ow (fun c => g (on_up c)) , fun g => h.oa (on_set g (by decide)), fun g => h.h0 (on_set g (by decide)), fun g => h.h1 (on_set g (by decide)), fun g => h.h2 (on_set g (by decide)), fun g => h.h3 (on_set g (by decide)), fun _ => rfl, fun g => h.h5 (on_set g (by decide)), fun g => h.h6 (on_set g (by decide)), fun g => h.h7 (on_set g (by decide)), fun g => h.h8 (on_set g (by decide)), fun g => h.h9 (on_set g (by decide)), fun g => h.h10 (on_set g (by decide)), fun g => h.h11 (on_set g (by decide)), fun g => h.h12 (on_set g (by decide)), fun g => h.h13 (on_set g (by decide)), fun g => h.h14 (on_set g (by decide)), fun g => h.h15 (on_set g (by decide)), fun g => h.h16 (on_set g (by decide)), fun g => h.h17 (on_set g (by decide)), fun g => h.h18 (on_set g (by decide)), fun g => h.h19 (on_set g (by decide)), fun g => h.h20 (on_set g (by decide)), fun g => h.h21 (on_set g (by decide)), fun g => h.h22 (on_set g (by decide)), fun g => h.h23 (on_set g (by decide)), fun g => h.h24 (on_set g (by decide)), fun g => h.h26 (on_set g (by decide)), fun a q => h.n0 (fun c => a (on_up c)) (fun c => q (on_up c)), fun a p => h.n1 (fun c => a (on_up c)) (on_set p (by decide)), fun a p => h.c0_0 (fun c => a (on_up c)) (on_set p (by decide)), fun g => on_up (h.r25_24 (on_set g (by decide)))⟩
theorem Gt.t5 (h : Gt wr o OW OA P1 V0 A1 DT KV A0 SH PX PV MV PY QV MQV DV IV PD XV L v s22 s23 s24 s25 s26 s27 s28 s29 s30 s31 s32 s33 s34 s35 s36 s37 s38 s39 s40 s41 s42 s43 s44 s45 s46 s47 s48) : Gt wr o OW OA P1 V0 A1 DT KV A0 SH PX PV MV PY QV MQV DV IV PD XV (L.setIfInBounds 5 true) v s22 s23 s24 s25 s26 (A0) s28 s29 s30 s31 s32 s33 s34 s35 s36 s37 s38 s39 s40 s41 s42 s43 s44 s45 s46 s47 s48 :=
  ⟨by simp [h.sz], h.gb, h.kw, fun g => h.ow (fun c => g (on_up c)) , fun g => h.oa (on_set g (by decide)), fun g => h.h0 (on_set g (by decide)), fun g => h.h1 (on_set g (by decide)), fun g => h.h2 (on_set g (by decide)), fun g => h.h3 (on_set g (by decide)), fun g => h.h4 (on_set g (by decide)), fun _ => rfl, fun g => h.h6 (on_set g (by decide)), fun g => h.h7 (on_set g (by decide)), fun g => h.h8 (on_set g (by decide)), fun g => h.h9 (on_set g (by decide)), fun g => h.h10 (on_set g (by decide)), fun g => h.h11 (on_set g (by decide)), fun g => h.h12 (on_set g (by decide)), fun g => h.h13 (on_set g (by decide)), fun g => h.h14 (on_set g (by decide)), fun g => h.h15 (on_set g (by decide)), fun g => h.h16 (on_set g (by decide)), fun g => h.h17 (on_set g (by decide)), fun g => h.h18 (on_set g (by decide)), fun g => h.h19 (on_set g (by decide)), fun g => h.h20 (on_set g (by decide)), fun g => h.h21 (on_set g (by decide)), fun g => h.h22 (on_set g (by decide)), fun g => h.h23 (on_set g (by decide)), fun g => h.h24 (on_set g (by decide)), fun g => h.h26 (on_set g (by decide)), fun a q => h.n0 (fun c => a (on_up c)) (fun c => q (on_up c)), fun a p => h.n1 (fun c => a (on_up c)) (on_set p (by decide)), fun a p => h.c0_0 (fun c => a (on_up c)) (on_set p (by decide)), fun g => on_up (h.r25_24 (on_set g (by decide)))⟩
theorem Gt.t6 (h : Gt wr o OW OA P1 V0 A1 DT KV A0 SH PX PV MV PY QV MQV DV IV PD XV L v s22 s23 s24 s25 s26 s27 s28 s29 s30 s31 s32 s33 s34 s35 s36 s37 s38 s39 s40 s41 s42 s43 s44 s45 s46 s47 s48) (g5 : on L 5) : Gt wr o OW OA P1 V0 A1 DT KV A0 SH PX PV MV PY QV MQV DV IV PD XV (L.setIfInBounds 6 true) v s22 s23 s24 s25 s26 s27 (SH) s29 s30 s31 s32 s33 s34 s35 s36 s37 s38 s39 s40 s41 s42 s43 s44 s45 s46 s47 s48 :=
  ⟨by simp [h.sz], h.gb, h.kw, fun g => h.ow (fun c => g (on_up c)) , fun g => h.oa (on_set g (by decide)), fun g => h.h0 (on_set g (by decide)), fun g => h.h1 (on_set g (by decide)), fun g => h.h2 (on_set g (by decide)), fun g => h.h3 (on_set g (by decide)), fun g => h.h4 (on_set g (by decide)), fun g => h.h5 (on_set g (by decide)), fun _ => rfl, fun g => h.h7 (on_set g (by decide)), fun g => h.h8 (on_set g (by decide)), fun g => h.h9 (on_set g (by decide)), fun g => h.h10 (on_set g (by decide)), fun g => h.h11 (on_set g (by decide)), fun g => h.h12 (on_set g (by decide)), fun g => h.h13 (on_set g (by decide)), fun g => h.h14 (on_set g (by decide)), fun g => h.h15 (on_set g (by decide)), fun g => h.h16 (on_set g (by decide)), fun g => h.h17 (on_set g (by decide)), fun g => h.h18 (on_set g (by decide)), fun g => h.h19 (on_set g (by decide)), fun g => h.h20 (on_set g (by decide)), fun g => h.h21 (on_set g (by decide)), fun g => h.h22 (on_set g (by decide)), fun g => h.h23 (on_set g (by decide)), fun g => h.h24 (on_set g (by decide)), fun g => h.h26 (on_set g (by decide)), fun a q => h.n0 (fun c => a (on_up c)) (fun c => q (on_up c)), fun a p => h.n1 (fun c => a (on_up c)) (on_set p (by decide)), fun a p => h.c0_0 (fun c => a (on_up c)) (on_set p (by decide)), fun g => on_up (h.r25_24 (on_set g (by decide)))⟩
theorem Gt.t7 (h : Gt wr o OW OA P1 V0 A1 DT KV A0 SH PX PV MV PY QV MQV DV IV PD XV L v s22 s23 s24 s25 s26 s27 s28 s29 s30 s31 s32 s33 s34 s35 s36 s37 s38 s39 s40 s41 s42 s43 s44 s45 s46 s47 s48) (g6 : on L 6) : Gt wr o OW OA P1 V0 A1 DT KV A0 SH PX PV MV PY QV MQV DV IV PD XV (L.setIfInBounds 7 true) v s22 s23 s24 s25 s26 s27 s28 (PX) s30 s31 s32 s33 s34 s35 s36 s37 s38 s39 s40 s41 s42 s43 s44 s45 s46 s47 s48 :=
  ⟨by simp [h.sz], h.gb, h.kw, fun g => h.ow (fun c => g (on_up c)) , fun g => h.oa (on_set g (by decide)), fun g => h.h0 (on_set g (by decide)), fun g => h.h1 (on_set g (by decide)), fun g => h.h2 (on_set g (by decide)), fun g => h.h3 (on_set g (by decide)), fun g => h.h4 (on_set g (by decide)), fun g => h.h5 (on_set g (by decide)), fun g => h.h6 (on_set g (by decide)), fun _ => rfl, fun g => h.h8 (on_set g (by decide)), fun g => h.h9 (on_set g (by decide)), fun g => h.h10 (on_set g (by decide)), fun g => h.h11 (on_set g (by decide)), fun g => h.h12 (on_set g (by decide)), fun g => h.h13 (on_set g (by decide)), fun g => h.h14 (on_set g (by decide)), fun g => h.h15 (on_set g (by decide)), fun g => h.h16 (on_set g (by decide)), fun g => h.h17 (on_set g (by decide)), fun g => h.h18 (on_set g (by decide)), fun g => h.h19 (on_set g (by decide)), fun g => h.h20 (on_set g (by decide)), fun g => h.h21 (on_set g (by decide)), fun g => h.h22 (on_set g (by decide)), fun g => h.h23 (on_set g (by decide)), fun g => h.h24 (on_set g (by decide)), fun g => h.h26 (on_set g (by decide)), fun a q => h.n0 (fun c => a (on_up c)) (fun c => q (on_up c)), fun a p => h.n1 (fun c => a (on_up c)) (on_set p (by decide)), fun a p => h.c0_0 (fun c => a (on_up c)) (on_set p (by decide)), fun g => on_up (h.r25_24 (on_set g (by decide)))⟩
theorem Gt.t8 (h : Gt wr o OW OA P1 V0 A1 DT KV A0 SH PX PV MV PY QV MQV DV IV PD XV L v s22 s23 s24 s25 s26 s27 s28 s29 s30 s31 s32 s33 s34 s35 s36 s37 s38 s39 s40 s41 s42 s43 s44 s45 s46 s47 s48) (g7 : on L 7) : Gt wr o OW OA P1 V0 A1 DT KV A0 SH PX PV MV PY QV MQV DV IV PD XV (L.setIfInBounds 8 true) v s22 s23 s24 s25 s26 s27 s28 s29 (PV) s31 s32 s33 s34 s35 s36 s37 s38 s39 s40 s41 s42 s43 s44 s45 s46 s47 s48 :=
  ⟨by simp [h.sz], h.gb, h.kw, fun g => h.ow (fun c => g (on_up c)) , fun g => h.oa (on_set g (by decide)), fun g => h.h0 (on_set g (by decide)), fun g => h.h1 (on_set g (by decide)), fun g => h.h2 (on_set g (by decide)), fun g => h.h3 (on_set g (by decide)), fun g => h.h4 (on_set g (by decide)), fun g => h.h5 (on_set g (by decide)), fun g => h.h6 (on_set g (by decide)), fun g => h.h7 (on_set g (by decide)), fun _ => rfl, fun g => h.h9 (on_set g (by decide)), fun g => h.h10 (on_set g (by decide)), fun g => h.h11 (on_set g (by decide)), fun g => h.h12 (on_set g (by decide)), fun g => h.h13 (on_set g (by decide)), fun g => h.h14 (on_set g (by decide)), fun g => h.h15 (on_set g (by decide)), fun g => h.h16 (on_set g (by decide)), fun g => h.h17 (on_set g (by decide)), fun g => h.h18 (on_set g (by decide)), fun g => h.h19 (on_set g (by decide)), fun g => h.h20 (on_set g (by decide)), fun g => h.h21 (on_set g (by decide)), fun g => h.h22 (on_set g (by decide)), fun g => h.h23 (on_set g (by decide)), fun g => h.h24 (on_set g (by decide)), fun g => h.h26 (on_set g (by decide)), fun a q => h.n0 (fun c => a (on_up c)) (fun c => q (on_up c)), fun a p => h.n1 (fun c => a (on_up c)) (on_set p (by decide)), fun a p => h.c0_0 (fun c => a (on_up c)) (on_set p (by decide)), fun g => on_up (h.r25_24 (on_set g (by decide)))⟩
theorem Gt.t9 (h : Gt wr o OW OA P1 V0 A1 DT KV A0 SH PX PV MV PY QV MQV DV IV PD XV L v s22 s23 s24 s25 s26 s27 s28 s29 s30 s31 s32 s33 s34 s35 s36 s37 s38 s39 s40 s41 s42 s43 s44 s45 s46 s47 s48) (g4 : on L 4) (g8 : on L 8) : Gt wr o OW OA P1 V0 A1 DT KV A0 SH PX PV MV PY QV MQV DV IV PD XV (L.setIfInBounds 9 true) v s22 s23 s24 s25 s26 s27 s28 s29 s30 (MV) s32 s33 s34 s35 s36 s37 s38 s39 s40 s41 s42 s43 s44 s45 s46 s47 s48 :=
  ⟨by simp [h.sz], h.gb, h.kw, fun g => h.ow (fun c => g (on_up c)) , fun g => h.oa (on_set g (by decide)), fun g => h.h0 (on_set g (by decide)), fun g => h.h1 (on_set g (by decide)), fun g => h.h2 (on_set g (by decide)), fun g => h.h3 (on_set g (by decide)), fun g => h.h4 (on_set g (by decide)), fun g => h.h5 (on_set g (by decide)), fun g => h.h6 (on_set g (by decide)), fun g => h.h7 (on_set g (by decide)), fun g => h.h8 (on_set g (by decide)), fun _ => rfl, fun g => h.h10 (on_set g (by decide)), fun g => h.h11 (on_set g (by decide)), fun g => h.h12 (on_set g (by decide)), fun g => h.h13 (on_set g (by decide)), fun g => h.h14 (on_set g (by decide)), fun g => h.h15 (on_set g (by decide)), fun g => h.h16 (on_set g (by decide)), fun g => h.h17 (on_set g (by decide)), fun g => h.h18 (on_set g (by decide)), fun g => h.h19 (on_set g (by decide)), fun g => h.h20 (on_set g (by decide)), fun g => h.h21 (on_set g (by decide)), fun g => h.h22 (on_set g (by decide)), fun g => h.h23 (on_set g (by decide)), fun g => h.h24 (on_set g (by decide)), fun g => h.h26 (on_set g (by decide)), fun a q => h.n0 (fun c => a (on_up c)) (fun c => q (on_up c)), fun a p => h.n1 (fun c => a (on_up c)) (on_set p (by decide)), fun a p => h.c0_0 (fun c => a (on_up c)) (on_set p (by decide)), fun g => on_up (h.r25_24 (on_set g (by decide)))⟩
theorem Gt.t10 (h : Gt wr o OW OA P1 V0 A1 DT KV A0 SH PX PV MV PY QV MQV DV IV PD XV L v s22 s23 s24 s25 s26 s27 s28 s29 s30 s31 s32 s33 s34 s35 s36 s37 s38 s39 s40 s41 s42 s43 s44 s45 s46 s47 s48) : Gt wr o OW OA P1 V0 A1 DT KV A0 SH PX PV MV PY QV MQV DV IV PD XV (L.setIfInBounds 10 true) v s22 s23 s24 s25 s26 s27 s28 s29 s30 s31 (A0) s33 s34 s35 s36 s37 s38 s39 s40 s41 s42 s43 s44 s45 s46 s47 s48 :=
  ⟨by simp [h.sz], h.gb, h.kw, fun g => h.ow (fun c => g (on_up c)) , fun g => h.oa (on_set g (by decide)), fun g => h.h0 (on_set g (by decide)), fun g => h.h1 (on_set g (by decide)), fun g => h.h2 (on_set g (by decide)), fun g => h.h3 (on_set g (by decide)), fun g => h.h4 (on_set g (by decide)), fun g => h.h5 (on_set g (by decide)), fun g => h.h6 (on_set g (by decide)), fun g => h.h7 (on_set g (by decide)), fun g => h.h8 (on_set g (by decide)), fun g => h.h9 (on_set g (by decide)), fun _ => rfl, fun g => h.h11 (on_set g (by decide)), fun g => h.h12 (on_set g (by decide)), fun g => h.h13 (on_set g (by decide)), fun g => h.h14 (on_set g (by decide)), fun g => h.h15 (on_set g (by decide)), fun g => h.h16 (on_set g (by decide)), fun g => h.h17 (on_set g (by decide)), fun g => h.h18 (on_set g (by decide)), fun g => h.h19 (on_set g (by decide)), fun g => h.h20 (on_set g (by decide)), fun g => h.h21 (on_set g (by decide)), fun g => h.h22 (on_set g (by decide)), fun g => h.h23 (on_set g (by decide)), fun g => h.h24 (on_set g (by decide)), fun g => h.h26 (on_set g (by decide)), fun a q => h.n0 (fun c => a (on_up c)) (fun c => q (on_up c)), fun a p => h.n1 (fun c => a (on_up c)) (on_set p (by decide)), fun a p => h.c0_0 (fun c => a (on_up c)) (on_set p (by decide)), fun g => on_up (h.r25_24 (on_set g (by decide)))⟩
theorem Gt.t11 (h : Gt wr o OW OA P1 V0 A1 DT KV A0 SH PX PV MV PY QV MQV DV IV PD XV L v s22 s23 s24 s25 s26 s27 s28 s29 s30 s31 s32 s33 s34 s35 s36 s37 s38 s39 s40 s41 s42 s43 s44 s45 s46 s47 s48) (g10 : on L 10) : Gt wr o OW OA P1 V0 A1 DT KV A0 SH PX PV MV PY QV MQV DV IV PD XV (L.setIfInBounds 11 true) v s22 s23 s24 s25 s26 s27 s28 s29 s30 s31 s32 (SH) s34 s35 s36 s37 s38 s39 s40 s41 s42 s43 s44 s45 s46 s47 s48 :=
  ⟨by simp [h.sz], h.gb, h.kw, fun g => h.ow (fun c => g (on_up c)) , fun g => h.oa (on_set g (by decide)), fun g => h.h0 (on_set g (by decide)), fun g => h.h1 (on_set g (by decide)), fun g => h.h2 (on_set g (by decide)), fun g => h.h3 (on_set g (by decide)), fun g => h.h4 (on_set g (by decide)), fun g => h.h5 (on_set g (by decide)), fun g => h.h6 (on_set g (by decide)), fun g => h.h7 (on_set g (by decide)), fun g => h.h8 (on_set g (by decide)), fun g => h.h9 (on_set g (by decide)), fun g => h.h10 (on_set g (by decide)), fun _ => rfl, fun g => h.h12 (on_set g (by decide)), fun g => h.h13 (on_set g (by decide)), fun g => h.h14 (on_set g (by decide)), fun g => h.h15 (on_set g (by decide)), fun g => h.h16 (on_set g (by decide)), fun g => h.h17 (on_set g (by decide)), fun g => h.h18 (on_set g (by decide)), fun g => h.h19 (on_set g (by decide)), fun g => h.h20 (on_set g (by decide)), fun g => h.h21 (on_set g (by decide)), fun g => h.h22 (on_set g (by decide)), fun g => h.h23 (on_set g (by decide)), fun g => h.h24 (on_set g (by decide)), fun g => h.h26 (on_set g (by decide)), fun a q => h.n0 (fun c => a (on_up c)) (fun c => q (on_up c)), fun a p => h.n1 (fun c => a (on_up c)) (on_set p (by decide)), fun a p => h.c0_0 (fun c => a (on_up c)) (on_set p (by decide)), fun g => on_up (h.r25_24 (on_set g (by decide)))⟩
theorem Gt.t12 (h : Gt wr o OW OA P1 V0 A1 DT KV A0 SH PX PV MV PY QV MQV DV IV PD XV L v s22 s23 s24 s25 s26 s27 s28 s29 s30 s31 s32 s33 s34 s35 s36 s37 s38 s39 s40 s41 s42 s43 s44 s45 s46 s47 s48) (g11 : on L 11) : Gt wr o OW OA P1 V0 A1 DT KV A0 SH PX PV MV PY QV MQV DV IV PD XV (L.setIfInBounds 12 true) v s22 s23 s24 s25 s26 s27 s28 s29 s30 s31 s32 s33 (PY) s35 s36 s37 s38 s39 s40 s41 s42 s43 s44 s45 s46 s47 s48 :=
  ⟨by simp [h.sz], h.gb, h.kw, fun g => h.ow (fun c => g (on_up c)) , fun g => h.oa (on_set g (by decide)), fun g => h.h0 (on_set g (by decide)), fun g => h.h1 (on_set g (by decide)), fun g => h.h2 (on_set g (by decide)), fun g => h.h3 (on_set g (by decide)), fun g => h.h4 (on_set g (by decide)), fun g => h.h5 (on_set g (by decide)), fun g => h.h6 (on_set g (by decide)), fun g => h.h7 (on_set g (by decide)), fun g => h.h8 (on_set g (by decide)), fun g => h.h9 (on_set g (by decide)), fun g => h.h10 (on_set g (by decide)), fun g => h.h11 (on_set g (by decide)), fun _ => rfl, fun g => h.h13 (on_set g (by decide)), fun g => h.h14 (on_set g (by decide)), fun g => h.h15 (on_set g (by decide)), fun g => h.h16 (on_set g (by decide)), fun g => h.h17 (on_set g (by decide)), fun g => h.h18 (on_set g (by decide)), fun g => h.h19 (on_set g (by decide)), fun g => h.h20 (on_set g (by decide)), fun g => h.h21 (on_set g (by decide)), fun g => h.h22 (on_set g (by decide)), fun g => h.h23 (on_set g (by decide)), fun g => h.h24 (on_set g (by decide)), fun g => h.h26 (on_set g (by decide)), fun a q => h.n0 (fun c => a (on_up c)) (fun c => q (on_up c)), fun a p => h.n1 (fun c => a (on_up c)) (on_set p (by decide)), fun a p => h.c0_0 (fun c => a (on_up c)) (on_set p (by decide)), fun g => on_up (h.r25_24 (on_set g (by decide)))⟩
theorem Gt.t13 (h : Gt wr o OW OA P1 V0 A1 DT KV A0 SH PX PV MV PY QV MQV DV IV PD XV L v s22 s23 s24 s25 s26 s27 s28 s29 s30 s31 s32 s33 s34 s35 s36 s37 s38 s39 s40 s41 s42 s43 s44 s45 s46 s47 s48) (g12 : on L 12) : Gt wr o OW OA P1 V0 A1 DT KV A0 SH PX PV MV PY QV MQV DV IV PD XV (L.setIfInBounds 13 true) v s22 s23 s24 s25 s26 s27 s28 s29 s30 s31 s32 s33 s34 (QV) s36 s37 s38 s39 s40 s41 s42 s43 s44 s45 s46 s47 s48 :=
  ⟨by simp [h.sz], h.gb, h.kw, fun g => h.ow (fun c => g (on_up c)) , fun g => h.oa (on_set g (by decide)), fun g => h.h0 (on_set g (by decide)), fun g => h.h1 (on_set g (by decide)), fun g => h.h2 (on_set g (by decide)), fun g => h.h3 (on_set g (by decide)), fun g => h.h4 (on_set g (by decide)), fun g => h.h5 (on_set g (by decide)), fun g => h.h6 (on_set g (by decide)), fun g => h.h7 (on_set g (by decide)), fun g => h.h8 (on_set g (by decide)), fun g => h.h9 (on_set g (by decide)), fun g => h.h10 (on_set g (by decide)), fun g => h.h11 (on_set g (by decide)), fun g => h.h12 (on_set g (by decide)), fun _ => rfl, fun g => h.h14 (on_set g (by decide)), fun g => h.h15 (on_set g (by decide)), fun g => h.h16 (on_set g (by decide)), fun g => h.h17 (on_set g (by decide)), fun g => h.h18 (on_set g (by decide)), fun g => h.h19 (on_set g (by decide)), fun g => h.h20 (on_set g (by decide)), fun g => h.h21 (on_set g (by decide)), fun g => h.h22 (on_set g (by decide)), fun g => h.h23 (on_set g (by decide)), fun g => h.h24 (on_set g (by decide)), fun g => h.h26 (on_set g (by decide)), fun a q => h.n0 (fun c => a (on_up c)) (fun c => q (on_up c)), fun a p => h.n1 (fun c => a (on_up c)) (on_set p (by decide)), fun a p => h.c0_0 (fun c => a (on_up c)) (on_set p (by decide)), fun g => on_up (h.r25_24 (on_set g (by decide)))⟩
theorem Gt.t14 (h : Gt wr o OW OA P1 V0 A1 DT KV A0 SH PX PV MV PY QV MQV DV IV PD XV L v s22 s23 s24 s25 s26 s27 s28 s29 s30 s31 s32 s33 s34 s35 s36 s37 s38 s39 s40 s41 s42 s43 s44 s45 s46 s47 s48) (g9 : on L 9) (g13 : on L 13) : Gt wr o OW OA P1 V0 A1 DT KV A0 SH PX PV MV PY QV MQV DV IV PD XV (L.setIfInBounds 14 true) v s22 s23 s24 s25 s26 s27 s28 s29 s30 s31 s32 s33 s34 s35 (MQV) s37 s38 s39 s40 s41 s42 s43 s44 s45 s46 s47 s48 :=
  ⟨by simp [h.sz], h.gb, h.kw, fun g => h.ow (fun c => g (on_up c)) , fun g => h.oa (on_set g (by decide)), fun g => h.h0 (on_set g (by decide)), fun g => h.h1 (on_set g (by decide)), fun g => h.h2 (on_set g (by decide)), fun g => h.h3 (on_set g (by decide)), fun g => h.h4 (on_set g (by decide)), fun g => h.h5 (on_set g (by decide)), fun g => h.h6 (on_set g (by decide)), fun g => h.h7 (on_set g (by decide)), fun g => h.h8 (on_set g (by decide)), fun g => h.h9 (on_set g (by decide)), fun g => h.h10 (on_set g (by decide)), fun g => h.h11 (on_set g (by decide)), fun g => h.h12 (on_set g (by decide)), fun g => h.h13 (on_set g (by decide)), fun _ => rfl, fun g => h.h15 (on_set g (by decide)), fun g => h.h16 (on_set g (by decide)), fun g => h.h17 (on_set g (by decide)), fun g => h.h18 (on_set g (by decide)), fun g => h.h19 (on_set g (by decide)), fun g => h.h20 (on_set g (by decide)), fun g => h.h21 (on_set g (by decide)), fun g => h.h22 (on_set g (by decide)), fun g => h.h23 (on_set g (by decide)), fun g => h.h24 (on_set g (by decide)), fun g => h.h26 (on_set g (by decide)), fun a q => h.n0 (fun c => a (on_up c)) (fun c => q (on_up c)), fun a p => h.n1 (fun c => a (on_up c)) (on_set p (by decide)), fun a p => h.c0_0 (fun c => a (on_up c)) (on_set p (by decide)), fun g => on_up (h.r25_24 (on_set g (by decide)))⟩
theorem Gt.t15 (h : Gt wr o OW OA P1 V0 A1 DT KV A0 SH PX PV MV PY QV MQV DV IV PD XV L v s22 s23 s24 s25 s26 s27 s28 s29 s30 s31 s32 s33 s34 s35 s36 s37 s38 s39 s40 s41 s42 s43 s44 s45 s46 s47 s48) : Gt wr o OW OA P1 V0 A1 DT KV A0 SH PX PV MV PY QV MQV DV IV PD XV (L.setIfInBounds 15 true) v s22 s23 s24 s25 s26 s27 s28 s29 s30 s31 s32 s33 s34 s35 s36 (KV) s38 s39 s40 s41 s42 s43 s44 s45 s46 s47 s48 :=
  ⟨by simp [h.sz], h.gb, h.kw, fun g => h.ow (fun c => g (on_up c)) , fun g => h.oa (on_set g (by decide)), fun g => h.h0 (on_set g (by decide)), fun g => h.h1 (on_set g (by decide)), fun g => h.h2 (on_set g (by decide)), fun g => h.h3 (on_set g (by decide)), fun g => h.h4 (on_set g (by decide)), fun g => h.h5 (on_set g (by decide)), fun g => h.h6 (on_set g (by decide)), fun g => h.h7 (on_set g (by decide)), fun g => h.h8 (on_set g (by decide)), fun g => h.h9 (on_set g (by decide)), fun g => h.h10 (on_set g (by decide)), fun g => h.h11 (on_set g (by decide)), fun g => h.h12 (on_set g (by decide)), fun g => h.h13 (on_set g (by decide)), fun g => h.h14 (on_set g (by decide)), fun _ => rfl, fun g => h.h16 (on_set g (by decide)), fun g => h.h17 (on_set g (by decide)), fun g => h.h18 (on_set g (by decide)), fun g => h.h19 (on_set g (by decide)), fun g => h.h20 (on_set g (by decide)), fun g => h.h21 (on_set g (by decide)), fun g => h.h22 (on_set g (by decide)), fun g => h.h23 (on_set g (by decide)), fun g => h.h24 (on_set g (by decide)), fun g => h.h26 (on_set g (by decide)), fun a q => h.n0 (fun c => a (on_up c)) (fun c => q (on_up c)), fun a p => h.n1 (fun c => a (on_up c)) (on_set p (by decide)), fun a p => h.c0_0 (fun c => a (on_up c)) (on_set p (by decide)), fun g => on_up (h.r25_24 (on_set g (by decide)))⟩
theorem Gt.t16 (h : Gt wr o OW OA P1 V0 A1 DT KV A0 SH PX PV MV PY QV MQV DV IV PD XV L v s22 s23 s24 s25 s26 s27 s28 s29 s30 s31 s32 s33 s34 s35 s36 s37 s38 s39 s40 s41 s42 s43 s44 s45 s46 s47 s48) : Gt wr o OW OA P1 V0 A1 DT KV A0 SH PX PV MV PY QV MQV DV IV PD XV (L.setIfInBounds 16 true) v s22 s23 s24 s25 s26 s27 s28 s29 s30 s31 s32 s33 s34 s35 s36 s37 (A0) s39 s40 s41 s42 s43 s44 s45 s46 s47 s48 :=
  ⟨by simp [h.sz], h.gb, h.kw, fun g => h.ow (fun c => g (on_up c)) , fun g => h.oa (on_set g (by decide)), fun g => h.h0 (on_set g (by decide)), fun g => h.h1 (on_set g (by decide)), fun g => h.h2 (on_set g (by decide)), fun g => h.h3 (on_set g (by decide)), fun g => h.h4 (on_set g (by decide)), fun g => h.h5 (on_set g (by decide)), fun g => h.h6 (on_set g (by decide)), fun g => h.h7 (on_set g (by decide)), fun g => h.h8 (on_set g (by decide)), fun g => h.h9 (on_set g (by decide)), fun g => h.h10 (on_set g (by decide)), fun g => h.h11 (on_set g (by decide)), fun g => h.h12 (on_set g (by decide)), fun g => h.h13 (on_set g (by decide)), fun g => h.h14 (on_set g (by decide)), fun g => h.h15 (on_set g (by decide)), fun _ => rfl, fun g => h.h17 (on_set g (by decide)), fun g => h.h18 (on_set g (by decide)), fun g => h.h19 (on_set g (by decide)), fun g => h.h20 (on_set g (by decide)), fun g => h.h21 (on_set g (by decide)), fun g => h.h22 (on_set g (by decide)), fun g => h.h23 (on_set g (by decide)), fun g => h.h24 (on_set g (by decide)), fun g => h.h26 (on_set g (by decide)), fun a q => h.n0 (fun c => a (on_up c)) (fun c => q (on_up c)), fun a p => h.n1 (fun c => a (on_up c)) (on_set p (by decide)), fun a p => h.c0_0 (fun c => a (on_up c)) (on_set p (by decide)), fun g => on_up (h.r25_24 (on_set g (by decide)))⟩
theorem Gt.t17 (h : Gt wr o OW OA P1 V0 A1 DT KV A0 SH PX PV MV PY QV MQV DV IV PD XV L v s22 s23 s24 s25 s26 s27 s28 s29 s30 s31 s32 s33 s34 s35 s36 s37 s38 s39 s40 s41 s42 s43 s44 s45 s46 s47 s48) (g16 : on L 16) : Gt wr o OW OA P1 V0 A1 DT KV A0 SH PX PV MV PY QV MQV DV IV PD XV (L.setIfInBounds 17 true) v s22 s23 s24 s25 s26 s27 s28 s29 s30 s31 s32 s33 s34 s35 s36 s37 s38 (SH) s40 s41 s42 s43 s44 s45 s46 s47 s48 :=
  ⟨by simp [h.sz], h.gb, h.kw, fun g => h.ow (fun c => g (on_up c)) , fun g => h.oa (on_set g (by decide)), fun g => h.h0 (on_set g (by decide)), fun g => h.h1 (on_set g (by decide)), fun g => h.h2 (on_set g (by decide)), fun g => h.h3 (on_set g (by decide)), fun g => h.h4 (on_set g (by decide)), fun g => h.h5 (on_set g (by decide)), fun g => h.h6 (on_set g (by decide)), fun g => h.h7 (on_set g (by decide)), fun g => h.h8 (on_set g (by decide)), fun g => h.h9 (on_set g (by decide)), fun g => h.h10 (on_set g (by decide)), fun g => h.h11 (on_set g (by decide)), fun g => h.h12 (on_set g (by decide)), fun g => h.h13 (on_set g (by decide)), fun g => h.h14 (on_set g (by decide)), fun g => h.h15 (on_set g (by decide)), fun g => h.h16 (on_set g (by decide)), fun _ => rfl, fun g => h.h18 (on_set g (by decide)), fun g => h.h19 (on_set g (by decide)), fun g => h.h20 (on_set g (by decide)), fun g => h.h21 (on_set g (by decide)), fun g => h.h22 (on_set g (by decide)), fun g => h.h23 (on_set g (by decide)), fun g => h.h24 (on_set g (by decide)), fun g => h.h26 (on_set g (by decide)), fun a q => h.n0 (fun c => a (on_up c)) (fun c => q (on_up c)), fun a p => h.n1 (fun c => a (on_up c)) (on_set p (by decide)), fun a p => h.c0_0 (fun c => a (on_up c)) (on_set p (by decide)), fun g => on_up (h.r25_24 (on_set g (by decide)))⟩
theorem Gt.t18 (h : Gt wr o OW OA P1 V0 A1 DT KV A0 SH PX PV MV PY QV MQV DV IV PD XV L v s22 s23 s24 s25 s26 s27 s28 s29 s30 s31 s32 s33 s34 s35 s36 s37 s38 s39 s40 s41 s42 s43 s44 s45 s46 s47 s48) (g17 : on L 17) : Gt wr o OW OA P1 V0 A1 DT KV A0 SH PX PV MV PY QV MQV DV IV PD XV (L.setIfInBounds 18 true) v s22 s23 s24 s25 s26 s27 s28 s29 s30 s31 s32 s33 s34 s35 s36 s37 s38 s39 (PX) s41 s42 s43 s44 s45 s46 s47 s48 :=
  ⟨by simp [h.sz], h.gb, h.kw, fun g => h.ow (fun c => g (on_up c)) , fun g => h.oa (on_set g (by decide)), fun g => h.h0 (on_set g (by decide)), fun g => h.h1 (on_set g (by decide)), fun g => h.h2 (on_set g (by decide)), fun g => h.h3 (on_set g (by decide)), fun g => h.h4 (on_set g (by decide)), fun g => h.h5 (on_set g (by decide)), fun g => h.h6 (on_set g (by decide)), fun g => h.h7 (on_set g (by decide)), fun g => h.h8 (on_set g (by decide)), fun g => h.h9 (on_set g (by decide)), fun g => h.h10 (on_set g (by decide)), fun g => h.h11 (on_set g (by decide)), fun g => h.h12 (on_set g (by decide)), fun g => h.h13 (on_set g (by decide)), fun g => h.h14 (on_set g (by decide)), fun g => h.h15 (on_set g (by decide)), fun g => h.h16 (on_set g (by decide)), fun g => h.h17 (on_set g (by decide)), fun _ => rfl, fun g => h.h19 (on_set g (by decide)), fun g => h.h20 (on_set g (by decide)), fun g => h.h21 (on_set g (by decide)), fun g => h.h22 (on_set g (by decide)), fun g => h.h23 (on_set g (by decide)), fun g => h.h24 (on_set g (by decide)), fun g => h.h26 (on_set g (by decide)), fun a q => h.n0 (fun c => a (on_up c)) (fun c => q (on_up c)), fun a p => h.n1 (fun c => a (on_up c)) (on_set p (by decide)), fun a p => h.c0_0 (fun c => a (on_up c)) (on_set p (by decide)), fun g => on_up (h.r25_24 (on_set g (by decide)))⟩
theorem Gt.t19 (h : Gt wr o OW OA P1 V0 A1 DT KV A0 SH PX PV MV PY QV MQV DV IV PD XV L v s22 s23 s24 s25 s26 s27 s28 s29 s30 s31 s32 s33 s34 s35 s36 s37 s38 s39 s40 s41 s42 s43 s44 s45 s46 s47 s48) (g18 : on L 18) : Gt wr o OW OA P1 V0 A1 DT KV A0 SH PX PV MV PY QV MQV DV IV PD XV (L.setIfInBounds 19 true) v s22 s23 s24 s25 s26 s27 s28 s29 s30 s31 s32 s33 s34 s35 s36 s37 s38 s39 s40 (PV) s42 s43 s44 s45 s46 s47 s48 :=
  ⟨by simp [h.sz], h.gb, h.kw, fun g => h.ow (fun c => g (on_up c)) , fun g => h.oa (on_set g (by decide)), fun g => h.h0 (on_set g (by decide)), fun g => h.h1 (on_set g (by decide)), fun g => h.h2 (on_set g (by decide)), fun g => h.h3 (on_set g (by decide)), fun g => h.h4 (on_set g (by decide)), fun g => h.h5 (on_set g (by decide)), fun g => h.h6 (on_set g (by decide)), fun g => h.h7 (on_set g (by decide)), fun g => h.h8 (on_set g (by decide)), fun g => h.h9 (on_set g (by decide)), fun g => h.h10 (on_set g (by decide)), fun g => h.h11 (on_set g (by decide)), fun g => h.h12 (on_set g (by decide)), fun g => h.h13 (on_set g (by decide)), fun g => h.h14 (on_set g (by decide)), fun g => h.h15 (on_set g (by decide)), fun g => h.h16 (on_set g (by decide)), fun g => h.h17 (on_set g (by decide)), fun g => h.h18 (on_set g (by decide)), fun _ => rfl, fun g => h.h20 (on_set g (by decide)), fun g => h.h21 (on_set g (by decide)), fun g => h.h22 (on_set g (by decide)), fun g => h.h23 (on_set g (by decide)), fun g => h.h24 (on_set g (by decide)), fun g => h.h26 (on_set g (by decide)), fun a q => h.n0 (fun c => a (on_up c)) (fun c => q (on_up c)), fun a p => h.n1 (fun c => a (on_up c)) (on_set p (by decide)), fun a p => h.c0_0 (fun c => a (on_up c)) (on_set p (by decide)), fun g => on_up (h.r25_24 (on_set g (by decide)))⟩
theorem Gt.t20 (h : Gt wr o OW OA P1 V0 A1 DT KV A0 SH PX PV MV PY QV MQV DV IV PD XV L v s22 s23 s24 s25 s26 s27 s28 s29 s30 s31 s32 s33 s34 s35 s36 s37 s38 s39 s40 s41 s42 s43 s44 s45 s46 s47 s48) (g15 : on L 15) (g19 : on L 19) : Gt wr o OW OA P1 V0 A1 DT KV A0 SH PX PV MV PY QV MQV DV IV PD XV (L.setIfInBounds 20 true) v s22 s23 s24 s25 s26 s27 s28 s29 s30 s31 s32 s33 s34 s35 s36 s37 s38 s39 s40 s41 (DV) s43 s44 s45 s46 s47 s48 :=
  ⟨by simp [h.sz], h.gb, h.kw, fun g => h.ow (fun c => g (on_up c)) , fun g => h.oa (on_set g (by decide)), fun g => h.h0 (on_set g (by decide)), fun g => h.h1 (on_set g (by decide)), fun g => h.h2 (on_set g (by decide)), fun g => h.h3 (on_set g (by decide)), fun g => h.h4 (on_set g (by decide)), fun g => h.h5 (on_set g (by decide)), fun g => h.h6 (on_set g (by decide)), fun g => h.h7 (on_set g (by decide)), fun g => h.h8 (on_set g (by decide)), fun g => h.h9 (on_set g (by decide)), fun g => h.h10 (on_set g (by decide)), fun g => h.h11 (on_set g (by decide)), fun g => h.h12 (on_set g (by decide)), fun g => h.h13 (on_set g (by decide)), fun g => h.h14 (on_set g (by decide)), fun g => h.h15 (on_set g (by decide)), fun g => h.h16 (on_set g (by decide)), fun g => h.h17 (on_set g (by decide)), fun g => h.h18 (on_set g (by decide)), fun g => h.h19 (on_set g (by decide)), fun _ => rfl, fun g => h.h21 (on_set g (by decide)), fun g => h.h22 (on_set g (by decide)), fun g => h.h23 (on_set g (by decide)), fun g => h.h24 (on_set g (by decide)), fun g => h.h26 (on_set g (by decide)), fun a q => h.n0 (fun c => a (on_up c)) (fun c => q (on_up c)), fun a p => h.n1 (fun c => a (on_up c)) (on_set p (by decide)), fun a p => h.c0_0 (fun c => a (on_up c)) (on_set p (by decide)), fun g => on_up (h.r25_24 (on_set g (by decide)))⟩
theorem Gt.t21 (h : Gt wr o OW OA P1 V0 A1 DT KV A0 SH PX PV MV PY QV MQV DV IV PD XV L v s22 s23 s24 s25 s26 s27 s28 s29 s30 s31 s32 s33 s34 s35 s36 s37 s38 s39 s40 s41 s42 s43 s44 s45 s46 s47 s48) (g14 : on L 14) (g20 : on L 20) : Gt wr o OW OA P1 V0 A1 DT KV A0 SH PX PV MV PY QV MQV DV IV PD XV (L.setIfInBounds 21 true) v s22 s23 s24 s25 s26 s27 s28 s29 s30 s31 s32 s33 s34 s35 s36 s37 s38 s39 s40 s41 s42 (IV) s44 s45 s46 s47 s48 :=
  ⟨by simp [h.sz], h.gb, h.kw, fun g => h.ow (fun c => g (on_up c)) , fun g => h.oa (on_set g (by decide)), fun g => h.h0 (on_set g (by decide)), fun g => h.h1 (on_set g (by decide)), fun g => h.h2 (on_set g (by decide)), fun g => h.h3 (on_set g (by decide)), fun g => h.h4 (on_set g (by decide)), fun g => h.h5 (on_set g (by decide)), fun g => h.h6 (on_set g (by decide)), fun g => h.h7 (on_set g (by decide)), fun g => h.h8 (on_set g (by decide)), fun g => h.h9 (on_set g (by decide)), fun g => h.h10 (on_set g (by decide)), fun g => h.h11 (on_set g (by decide)), fun g => h.h12 (on_set g (by decide)), fun g => h.h13 (on_set g (by decide)), fun g => h.h14 (on_set g (by decide)), fun g => h.h15 (on_set g (by decide)), fun g => h.h16 (on_set g (by decide)), fun g => h.h17 (on_set g (by decide)), fun g => h.h18 (on_set g (by decide)), fun g => h.h19 (on_set g (by decide)), fun g => h.h20 (on_set g (by decide)), fun _ => rfl, fun g => h.h22 (on_set g (by decide)), fun g => h.h23 (on_set g (by decide)), fun g => h.h24 (on_set g (by decide)), fun g => h.h26 (on_set g (by decide)), fun a q => h.n0 (fun c => a (on_up c)) (fun c => q (on_up c)), fun a p => h.n1 (fun c => a (on_up c)) (on_set p (by decide)), fun a p => h.c0_0 (fun c => a (on_up c)) (on_set p (by decide)), fun g => on_up (h.r25_24 (on_set g (by decide)))⟩
theorem Gt.t22 (h : Gt wr o OW OA P1 V0 A1 DT KV A0 SH PX PV MV PY QV MQV DV IV PD XV L v s22 s23 s24 s25 s26 s27 s28 s29 s30 s31 s32 s33 s34 s35 s36 s37 s38 s39 s40 s41 s42 s43 s44 s45 s46 s47 s48) (g3 : on L 3) (g21 : on L 21) : Gt wr o OW OA P1 V0 A1 DT KV A0 SH PX PV MV PY QV MQV DV IV PD XV (L.setIfInBounds 22 true) v s22 s23 s24 s25 s26 s27 s28 s29 s30 s31 s32 s33 s34 s35 s36 s37 s38 s39 s40 s41 s42 s43 (PD) s45 s46 s47 s48 :=
  ⟨by simp [h.sz], h.gb, h.kw, fun g => h.ow (fun c => g (on_up c)) , fun g => h.oa (on_set g (by decide)), fun g => h.h0 (on_set g (by decide)), fun g => h.h1 (on_set g (by decide)), fun g => h.h2 (on_set g (by decide)), fun g => h.h3 (on_set g (by decide)), fun g => h.h4 (on_set g (by decide)), fun g => h.h5 (on_set g (by decide)), fun g => h.h6 (on_set g (by decide)), fun g => h.h7 (on_set g (by decide)), fun g => h.h8 (on_set g (by decide)), fun g => h.h9 (on_set g (by decide)), fun g => h.h10 (on_set g (by decide)), fun g => h.h11 (on_set g (by decide)), fun g => h.h12 (on_set g (by decide)), fun g => h.h13 (on_set g (by decide)), fun g => h.h14 (on_set g (by decide)), fun g => h.h15 (on_set g (by decide)), fun g => h.h16 (on_set g (by decide)), fun g => h.h17 (on_set g (by decide)), fun g => h.h18 (on_set g (by decide)), fun g => h.h19 (on_set g (by decide)), fun g => h.h20 (on_set g (by decide)), fun g => h.h21 (on_set g (by decide)), fun _ => rfl, fun g => h.h23 (on_set g (by decide)), fun g => h.h24 (on_set g (by decide)), fun g => h.h26 (on_set g (by decide)), fun a q => h.n0 (fun c => a (on_up c)) (fun c => q (on_up c)), fun a p => h.n1 (fun c => a (on_up c)) (on_set p (by decide)), fun a p => h.c0_0 (fun c => a (on_up c)) (on_set p (by decide)), fun g => on_up (h.r25_24 (on_set g (by decide)))⟩
theorem Gt.t23 (h : Gt wr o OW OA P1 V0 A1 DT KV A0 SH PX PV MV PY QV MQV DV IV PD XV L v s22 s23 s24 s25 s26 s27 s28 s29 s30 s31 s32 s33 s34 s35 s36 s37 s38 s39 s40 s41 s42 s43 s44 s45 s46 s47 s48) (g22 : on L 22) : Gt wr o OW OA P1 V0 A1 DT KV A0 SH PX PV MV PY QV MQV DV IV PD XV (L.setIfInBounds 23 true) v s22 s23 s24 s25 s26 s27 s28 s29 s30 s31 s32 s33 s34 s35 s36 s37 s38 s39 s40 s41 s42 s43 s44 (XV) s46 s47 s48 :=
  ⟨by simp [h.sz], h.gb, h.kw, fun g => h.ow (fun c => g (on_up c)) , fun g => h.oa (on_set g (by decide)), fun g => h.h0 (on_set g (by decide)), fun g => h.h1 (on_set g (by decide)), fun g => h.h2 (on_set g (by decide)), fun g => h.h3 (on_set g (by decide)), fun g => h.h4 (on_set g (by decide)), fun g => h.h5 (on_set g (by decide)), fun g => h.h6 (on_set g (by decide)), fun g => h.h7 (on_set g (by decide)), fun g => h.h8 (on_set g (by decide)), fun g => h.h9 (on_set g (by decide)), fun g => h.h10 (on_set g (by decide)), fun g => h.h11 (on_set g (by decide)), fun g => h.h12 (on_set g (by decide)), fun g => h.h13 (on_set g (by decide)), fun g => h.h14 (on_set g (by decide)), fun g => h.h15 (on_set g (by decide)), fun g => h.h16 (on_set g (by decide)), fun g => h.h17 (on_set g (by decide)), fun g => h.h18 (on_set g (by decide)), fun g => h.h19 (on_set g (by decide)), fun g => h.h20 (on_set g (by decide)), fun g => h.h21 (on_set g (by decide)), fun g => h.h22 (on_set g (by decide)), fun _ => rfl, fun g => h.h24 (on_set g (by decide)), fun g => h.h26 (on_set g (by decide)), fun a q => h.n0 (fun c => a (on_up c)) (fun c => q (on_up c)), fun a p => h.n1 (fun c => a (on_up c)) (on_set p (by decide)), fun a p => h.c0_0 (fun c => a (on_up c)) (on_set p (by decide)), fun g => on_up (h.r25_24 (on_set g (by decide)))⟩
theorem Gt.t24 (h : Gt wr o OW OA P1 V0 A1 DT KV A0 SH PX PV MV PY QV MQV DV IV PD XV L v s22 s23 s24 s25 s26 s27 s28 s29 s30 s31 s32 s33 s34 s35 s36 s37 s38 s39 s40 s41 s42 s43 s44 s45 s46 s47 s48) (g23 : on L 23) (hu : ¬ on L 24) (ha : ¬ on L 25) : Gt wr o OW OA P1 V0 A1 DT KV A0 SH PX PV MV PY QV MQV DV IV PD XV (L.setIfInBounds 24 true) (v.alloc (.cells #[XV] 9)) s22 s23 s24 s25 s26 s27 s28 s29 s30 s31 s32 s33 s34 s35 s36 s37 s38 s39 s40 s41 s42 s43 s44 s45 (.slice (some ⟨v.heap.size, 0, none⟩) 1 1) s47 s48 :=
  ⟨by simp [h.sz], grown_alloc h.gb _, h.kw, fun g => h.kw _ _ (h.ow ha ), fun g => absurd (h.r25_24 (on_set g (by decide))) hu, fun g => h.h0 (on_set g (by decide)), fun g => h.h1 (on_set g (by decide)), fun g => h.h2 (on_set g (by decide)), fun g => h.h3 (on_set g (by decide)), fun g => h.h4 (on_set g (by decide)), fun g => h.h5 (on_set g (by decide)), fun g => h.h6 (on_set g (by decide)), fun g => h.h7 (on_set g (by decide)), fun g => h.h8 (on_set g (by decide)), fun g => h.h9 (on_set g (by decide)), fun g => h.h10 (on_set g (by decide)), fun g => h.h11 (on_set g (by decide)), fun g => h.h12 (on_set g (by decide)), fun g => h.h13 (on_set g (by decide)), fun g => h.h14 (on_set g (by decide)), fun g => h.h15 (on_set g (by decide)), fun g => h.h16 (on_set g (by decide)), fun g => h.h17 (on_set g (by decide)), fun g => h.h18 (on_set g (by decide)), fun g => h.h19 (on_set g (by decide)), fun g => h.h20 (on_set g (by decide)), fun g => h.h21 (on_set g (by decide)), fun g => h.h22 (on_set g (by decide)), fun g => h.h23 (on_set g (by decide)), fun _ => by rw [h.n0 ha hu], fun g => h.h26 (on_set g (by decide)), fun a q => absurd (on_self (by rw [h.sz]; decide)) q, fun a p => by rw [World.size_alloc, h.n0 ha hu], fun a p => by rw [← h.n0 ha hu]; simp, fun _ => on_self (by rw [h.sz]; decide)⟩
theorem Gt.t25 (h : Gt wr o OW OA P1 V0 A1 DT KV A0 SH PX PV MV PY QV MQV DV IV PD XV L v s22 s23 s24 s25 s26 s27 s28 s29 s30 s31 s32 s33 s34 s35 s36 s37 s38 s39 s40 s41 s42 s43 s44 s45 s46 s47 s48) (g1 : on L 1) (g24 : on L 24) {x : Value} (hg : v.grownBy v' o) (hy : OA v' x) : Gt wr o OW OA P1 V0 A1 DT KV A0 SH PX PV MV PY QV MQV DV IV PD XV (L.setIfInBounds 25 true) v' s22 s23 s24 s25 s26 s27 s28 s29 s30 s31 s32 s33 s34 s35 s36 s37 s38 s39 s40 s41 s42 s43 s44 s45 s46 x s48 :=
  ⟨by simp [h.sz], grown_trans h.gb hg, h.kw, fun g => absurd (on_self (by rw [h.sz]; decide)) g, fun _ => hy, fun g => h.h0 (on_set g (by decide)), fun g => h.h1 (on_set g (by decide)), fun g => h.h2 (on_set g (by decide)), fun g => h.h3 (on_set g (by decide)), fun g => h.h4 (on_set g (by decide)), fun g => h.h5 (on_set g (by decide)), fun g => h.h6 (on_set g (by decide)), fun g => h.h7 (on_set g (by decide)), fun g => h.h8 (on_set g (by decide)), fun g => h.h9 (on_set g (by decide)), fun g => h.h10 (on_set g (by decide)), fun g => h.h11 (on_set g (by decide)), fun g => h.h12 (on_set g (by decide)), fun g => h.h13 (on_set g (by decide)), fun g => h.h14 (on_set g (by decide)), fun g => h.h15 (on_set g (by decide)), fun g => h.h16 (on_set g (by decide)), fun g => h.h17 (on_set g (by decide)), fun g => h.h18 (on_set g (by decide)), fun g => h.h19 (on_set g (by decide)), fun g => h.h20 (on_set g (by decide)), fun g => h.h21 (on_set g (by decide)), fun g => h.h22 (on_set g (by decide)), fun g => h.h23 (on_set g (by decide)), fun g => h.h24 (on_set g (by decide)), fun g => h.h26 (on_set g (by decide)), fun a q => absurd (on_self (by rw [h.sz]; decide)) a, fun a p => absurd (on_self (by rw [h.sz]; decide)) a, fun a p => absurd (on_self (by rw [h.sz]; decide)) a, fun _ => on_up g24⟩
theorem Gt.t26 (h : Gt wr o OW OA P1 V0 A1 DT KV A0 SH PX PV MV PY QV MQV DV IV PD XV L v s22 s23 s24 s25 s26 s27 s28 s29 s30 s31 s32 s33 s34 s35 s36 s37 s38 s39 s40 s41 s42 s43 s44 s45 s46 s47 s48) : Gt wr o OW OA P1 V0 A1 DT KV A0 SH PX PV MV PY QV MQV DV IV PD XV (L.setIfInBounds 26 true) v s22 s23 s24 s25 s26 s27 s28 s29 s30 s31 s32 s33 s34 s35 s36 s37 s38 s39 s40 s41 s42 s43 s44 s45 s46 s47 (P1) :=
  ⟨by simp [h.sz], h.gb, h.kw, fun g => h.ow (fun c => g (on_up c)) , fun g => h.oa (on_set g (by decide)), fun g => h.h0 (on_set g (by decide)), fun g => h.h1 (on_set g (by decide)), fun g => h.h2 (on_set g (by decide)), fun g => h.h3 (on_set g (by decide)), fun g => h.h4 (on_set g (by decide)), fun g => h.h5 (on_set g (by decide)), fun g => h.h6 (on_set g (by decide)), fun g => h.h7 (on_set g (by decide)), fun g => h.h8 (on_set g (by decide)), fun g => h.h9 (on_set g (by decide)), fun g => h.h10 (on_set g (by decide)), fun g => h.h11 (on_set g (by decide)), fun g => h.h12 (on_set g (by decide)), fun g => h.h13 (on_set g (by decide)), fun g => h.h14 (on_set g (by decide)), fun g => h.h15 (on_set g (by decide)), fun g => h.h16 (on_set g (by decide)), fun g => h.h17 (on_set g (by decide)), fun g => h.h18 (on_set g (by decide)), fun g => h.h19 (on_set g (by decide)), fun g => h.h20 (on_set g (by decide)), fun g => h.h21 (on_set g (by decide)), fun g => h.h22 (on_set g (by decide)), fun g => h.h23 (on_set g (by decide)), fun g => h.h24 (on_set g (by decide)), fun _ => rfl, fun a q => h.n0 (fun c => a (on_up c)) (fun c => q (on_up c)), fun a p => h.n1 (fun c => a (on_up c)) (on_set p (by decide)), fun a p => h.c0_0 (fun c => a (on_up c)) (on_set p (by decide)), fun g => on_up (h.r25_24 (on_set g (by decide)))⟩
end

set_option maxHeartbeats 8000000 in
theorem rtr_any (x y g f : Nat) (c1 d1 n1 p q k1 : Nat) (qs : List Rat) (w : World) (hT : Tt w 0 (some ⟨x, y, none⟩) (some ⟨g, f, none⟩) [(p : Int), (q : Int)] 2 n1 qs k1)
    (x0 : w.cell? ⟨x, y, none⟩ = some (.int .i64 (p : Int))) (x1 : w.cell? ⟨x, y + 1, none⟩ = some (.int .i64 (q : Int))) :
    Calls Tryz.prog 18 #[.agg #[.slice (some ⟨x, y, none⟩) 2 c1, .slice (some ⟨g, f, none⟩) n1 d1]] w fun e w' => ∃ z, e = .returned z ∧ Nt [(q : Int), (p : Int)] 2 n1 (tr p q qs) k1 w' z ∧ Below w.heap.size w w' := by
  obtain ⟨i0, hi, hz0, hz1, hz2⟩ := info_parts inf9
  obtain ⟨u0, hu0⟩ : ∃ u0, u0 = (w.alloc (.cells #[.slice (some ⟨x, y, none⟩) 2 c1, .slice (some ⟨g, f, none⟩) n1 d1] 25)).alloc (.cells #[.slice none 0 0, .slice none 0 0] 25) := ⟨_, rfl⟩
  have hb0 : Below w.heap.size w u0 := by subst hu0; exact bl_alloc (bl_alloc (Below.refl _ _) _) _
  have k0 : u0.cell? ⟨w.heap.size, 0, none⟩ = some (.slice (some ⟨x, y, none⟩) 2 c1) := by subst hu0; exact cell_below (bl_alloc (Below.refl _ _) _) (by simp)
  have k1' : u0.cell? ⟨w.heap.size, 1, none⟩ = some (.slice (some ⟨g, f, none⟩) n1 d1) := by subst hu0; exact cell_below (bl_alloc (Below.refl _ _) _) (by simp)
  have bx : Bx u0 (w.heap.size + 1) := by subst hu0; exact ⟨by simp, by simp, by simp, by simp⟩
  have hsz : u0.heap.size = w.heap.size + 1 + 1 := by subst hu0; simp
  have HT : Hid _ := hT
  have l0 := cell_below hb0 x0
  have l1 := cell_below hb0 x1
  have ez := bl_alloc (Below.refl u0.heap.size u0) (.cells #[.slice none 0 0, .slice none 0 0] 25)
  have k0a := cell_below ez k0
  have l0a := cell_below ez l0
  have l1a := cell_below ez l1
  have HZ : Hid (Bx u0 (w.heap.size + 1) ∧ Below w.heap.size w u0 ∧ u0.heap.size = w.heap.size + 1 + 1) := ⟨bx, hb0, hsz⟩
  have HXS : Hid (x < w.heap.size) := row_lt x0
  clear hT x0 x1 hb0 bx hsz ez
  go_enter Tryz.func18, Tryz.ntmps18
  go_upto_region 1 with fail
  rw [← hu0]
  clear hu0
  rename_i K aK
  have key : ∀ (u : World) (S9 T9 : Nat) (fS0 : u.cell? ⟨S9, 0, none⟩ = some (.int .i64 (q : Int))) (fS1 : u.cell? ⟨S9, 1, none⟩ = some (.int .i64 (p : Int))) (fT0 : u.cell? ⟨T9, 0, none⟩ = some (.slice (some ⟨S9, 0, none⟩) 2 2)) (fT1 : u.cell? ⟨T9, 1, none⟩ = some (.slice none 0 0)) (fF : u.frozen? ⟨T9, 1, none⟩ = false) (hb : Below u0.heap.size u0 u) (HSZ : Hid (S9 ≠ T9 ∧ w.heap.size + 1 + 1 ≤ S9 ∧ w.heap.size + 1 + 1 ≤ T9 ∧ S9 < u.heap.size ∧ x < w.heap.size)), K ⟨#[Value.agg #[Value.slice (some { block := x, off := y }) 2 c1, Value.slice (some { block := g, off := f }) n1 d1], Value.pointer (some { block := w.heap.size, off := 0 }), Value.pointer (some { block := w.heap.size + 1, off := 0 }), Value.pointer (some { block := T9, off := 0 }), undef, Value.pointer (some { block := w.heap.size, off := 0 }), Value.slice (some { block := x, off := y }) 2 c1, Value.pointer (some { block := x, off := y + 1 }), Value.int IntKind.i64 (q : Int), Value.pointer (some { block := w.heap.size, off := 0 }), Value.slice (some { block := x, off := y }) 2 c1, Value.pointer (some { block := x, off := y }), Value.int IntKind.i64 (p : Int), Value.slice (some { block := S9, off := 0 }) 2 2, Value.agg #[Value.slice (some { block := S9, off := 0 }) 2 2, Value.slice none 0 0], undef, undef, undef, undef, undef, undef, undef, undef, undef, undef, undef, undef, undef, undef, undef, undef, undef, undef, undef, undef, undef, undef, undef, undef, undef, undef, undef, undef, undef, undef, undef, undef, undef, undef, undef], []⟩ u := by
    intro u S9 T9 fS0 fS1 fT0 fT1 fF hb HSZ
    refine aK _ _ ?_
    replace k0 := cell_below hb k0
    replace k1' := cell_below hb k1'
    replace l0 := cell_below hb l0
    replace l1 := cell_below hb l1
    have HW : Hid (Bx u (w.heap.size + 1) ∧ Below w.heap.size w u) := ⟨HZ.out.1.below hb, bl_trans HZ.out.2.1 hb⟩
    clear hb HZ k0a l0a l1a aK
    go_wp2_with fail
    go_loopw [4] (fun i wr => ∃ (k : Nat) (v : Value), k ≤ n1 ∧ i = .int .i64 k ∧ Gz u wr T9 (.slice (some ⟨S9, 0, none⟩) 2 2) v k (txts ((List.range k).map (turned p q qs)))) (fun i _ => n1 - (intOf i).toNat)
    case atStart => exact ⟨0, .slice none 0 0, by omega, rfl, Gz.start fT0 fT1 fF⟩
    case round =>
    obtain ⟨k, v0, hk, rfl, hG⟩ := hrel
    have hbl := hG.below HW.out.2 (by have := HSZ.out; omega)
    have k0' := hG.cell k0 (by have := HSZ.out; omega)
    have k1'' := hG.cell k1' (by have := HSZ.out; omega)
    by_cases h : k < n1
    · have two := HT.out.two
      have hp0 : 0 < p := two.2.2.1
      have hM := Nat.mod_lt k hp0
      have hD : k / p < q := Nat.div_lt_of_lt_mul (by rw [← two.2.1]; exact h)
      have hI := in_grid hM hD
      have h64 := two.2.2.2.2
      have hk64 : k ≤ 64 := by have := two.2.1; omega
      obtain ⟨b', o', e', hc⟩ := row_str ((HT.out.below hbl).tm.r) (i := k % p * q + k / p) (by rw [mapR_len, two.1]; exact hI)
      cases e'
      rw [mapR_at qs (by rw [two.1]; exact hI)] at hc
      have HX9 : Hid _ := turned_next p q qs k
      have hX : R (qs.getD (k % p * q + k / p) 0) = turned p q qs k := rfl
      rw [hX] at hc
      generalize turned p q qs k = X at *
      clear hX
      have l0' := hG.cell l0 (by have := HSZ.out; omega)
      have l1' := hG.cell l1 (by have := HSZ.out; omega)
      have z1 := hG.c1
      have q1 : ((p : Int) == 0) = false := by simp; omega
      have q2 : ¬ ((p : Int) = 0) := by omega
      have q3 : ¬ (p = 0) := by omega
      have e1 : ((k : Int) % (p : Int)) = ((k % p : Nat) : Int) := by simp
      have e2 : ((k : Int) / (p : Int)) = ((k / p : Nat) : Int) := by simp
      have e3 : (k : Int).tmod (p : Int) = ((k % p : Nat) : Int) := by rw [Int.tmod_eq_emod_of_nonneg (by omega)]; simp
      have e4 : (k : Int).tdiv (p : Int) = ((k / p : Nat) : Int) := by rw [Int.tdiv_eq_ediv_of_nonneg (by omega)]; simp
      have hmq : k % p * q ≤ 64 := Nat.le_trans (Nat.mul_le_mul_right q (Nat.le_of_lt hM)) h64
      have hdq : k / p ≤ 64 := Nat.le_trans (Nat.div_le_self _ _) hk64
      have hn1 : k % p * q + k / p < n1 := by rw [two.2.1]; exact hI
      obtain ⟨M, hM'⟩ : ∃ M, k % p = M := ⟨_, rfl⟩
      obtain ⟨D, hD'⟩ : ∃ D, k / p = D := ⟨_, rfl⟩
      rw [hM'] at e1 e3 hmq hn1 hc
      rw [hD'] at e2 e4 hdq hn1 hc
      obtain ⟨MQ, hMQ⟩ : ∃ MQ, M * q = MQ := ⟨_, rfl⟩
      rw [hMQ] at hmq hn1 hc
      obtain ⟨IX, hIX⟩ : ∃ IX, MQ + D = IX := ⟨_, rfl⟩
      rw [hIX] at hn1 hc
      have e5 : IntKind.i64.wrap ((M : Int) * (q : Int)) = (MQ : Int) := by rw [← Int.natCast_mul, hMQ, IntKind.wrap_i64]; omega
      have e6 : IntKind.i64.wrap ((MQ : Int) + (D : Int)) = (IX : Int) := by rw [← Int.natCast_add, hIX, IntKind.wrap_i64]; omega
      have e7 : IntKind.i64.wrap (M : Int) = (M : Int) := by rw [IntKind.wrap_i64]; have := Nat.mod_le k p; omega
      have e8 : IntKind.i64.wrap (D : Int) = (D : Int) := by rw [IntKind.wrap_i64]; omega
      generalize (txts ((List.range k).map (turned p q qs))) = L0 at *
      have HG : Hid _ := hG
      have HBL : Hid _ := hbl
      clear hG hbl hM hD hI two hM' hD' hMQ hIX
      obtain ⟨_, _, e0, hc0⟩ := row_str HT.out.tm.r (i := 0) (by rw [mapR_len, HT.out.two.1]; have := HT.out.two; omega)
      cases e0
      have HGU : Hid (g < u.heap.size) := Nat.lt_of_lt_of_le (row_lt hc0) HW.out.2.size
      have HZ1 : Hid (wr.cell? ⟨T9, 1, none⟩ = some v0) := z1
      have HNE : Hid (∀ b, b < u.heap.size → some b ≠ v0.ownBlock) := fun b hb e => by have := (World.ownsRow.lt HG.out.ow _ e.symm).1; omega
      have HC : Hid _ := hc
      go_upto_region 5 with fail
      have HK0 : Hid _ := k0'
      have HK1 : Hid _ := k1''
      have HL0 : Hid _ := l0'
      have HL1 : Hid _ := l1'
      clear hc0 hc z1 k0' k1'' l0' l1'
      refine region_inv_last 27 (by kernel_rfl) (by kernel_rfl) (fun L a v => ∃ s22 s23 s24 s25 s26 s27 s28 s29 s30 s31 s32 s33 s34 s35 s36 s37 s38 s39 s40 s41 s42 s43 s44 s45 s46 s47 s48, a = ⟨#[Value.agg #[Value.slice (some { block := x, off := y }) 2 c1, Value.slice (some { block := g, off := f }) n1 d1], Value.pointer (some { block := w.heap.size, off := 0 }), Value.pointer (some { block := w.heap.size + 1, off := 0 }), Value.pointer (some { block := T9, off := 0 }), Value.int IntKind.i64 (k : Int), Value.pointer (some { block := w.heap.size, off := 0 }), Value.slice (some { block := x, off := y }) 2 c1, Value.pointer (some { block := x, off := y + 1 }), Value.int IntKind.i64 (q : Int), Value.pointer (some { block := w.heap.size, off := 0 }), Value.slice (some { block := x, off := y }) 2 c1, Value.pointer (some { block := x, off := y }), Value.int IntKind.i64 (p : Int), Value.slice (some { block := S9, off := 0 }) 2 2, Value.agg #[Value.slice (some { block := S9, off := 0 }) 2 2, Value.slice none 0 0], Value.int IntKind.i64 (k : Int), Value.pointer (some { block := w.heap.size, off := 1 }), Value.slice (some { block := g, off := f }) n1 d1, Value.int IntKind.i64 (n1 : Int), Value.bool true, u20, u21, s22, s23, s24, s25, s26, s27, s28, s29, s30, s31, s32, s33, s34, s35, s36, s37, s38, s39, s40, s41, s42, s43, s44, s45, s46, s47, s48, undef], []⟩ ∧ Gt wr (v0.ownBlock) (fun v => v.ownsRow u.heap.size 9 1 v0 k L0) (fun v x => v.ownsRow u.heap.size 9 1 x (k + 1) (L0 ++ [.string X])) (.pointer (some ⟨T9, 1, none⟩)) (v0) (.pointer (some ⟨w.heap.size, 1, none⟩)) (.slice (some ⟨g, f, none⟩) n1 d1) (.int .i64 (k : Int)) (.pointer (some ⟨w.heap.size, 0, none⟩)) (.slice (some ⟨x, y, none⟩) 2 c1) (.pointer (some ⟨x, y, none⟩)) (.int .i64 (p : Int)) (.int .i64 (M : Int)) (.pointer (some ⟨x, y + 1, none⟩)) (.int .i64 (q : Int)) (.int .i64 (MQ : Int)) (.int .i64 (D : Int)) (.int .i64 (IX : Int)) (.pointer (some ⟨g, f + IX, none⟩)) (.string X) L v s22 s23 s24 s25 s26 s27 s28 s29 s30 s31 s32 s33 s34 s35 s36 s37 s38 s39 s40 s41 s42 s43 s44 s45 s46 s47 s48) ?_ ?_ ?_
      · exact ⟨_, _, _, _, _, _, _, _, _, _, _, _, _, _, _, _, _, _, _, _, _, _, _, _, _, _, _, rfl, ⟨by simp, grown_below (bl_drew (Below.refl _ _)), fun u x h => World.ownsRow.alloc h _, fun _ => HG.out.ow, fun g => absurd g (by simp [on]), fun g => absurd g (by simp [on]), fun g => absurd g (by simp [on]), fun g => absurd g (by simp [on]), fun g => absurd g (by simp [on]), fun g => absurd g (by simp [on]), fun g => absurd g (by simp [on]), fun g => absurd g (by simp [on]), fun g => absurd g (by simp [on]), fun g => absurd g (by simp [on]), fun g => absurd g (by simp [on]), fun g => absurd g (by simp [on]), fun g => absurd g (by simp [on]), fun g => absurd g (by simp [on]), fun g => absurd g (by simp [on]), fun g => absurd g (by simp [on]), fun g => absurd g (by simp [on]), fun g => absurd g (by simp [on]), fun g => absurd g (by simp [on]), fun g => absurd g (by simp [on]), fun g => absurd g (by simp [on]), fun g => absurd g (by simp [on]), fun g => absurd g (by simp [on]), fun g => absurd g (by simp [on]), fun g => absurd g (by simp [on]), fun g => absurd g (by simp [on]), fun g => absurd g (by simp [on]), fun _ _ => rfl, fun _ g => absurd g (by simp [on]), fun _ g => absurd g (by simp [on]), fun g => absurd g (by simp [on])⟩⟩
      · intro L a v i hL9 hI hrd
        obtain ⟨s22, s23, s24, s25, s26, s27, s28, s29, s30, s31, s32, s33, s34, s35, s36, s37, s38, s39, s40, s41, s42, s43, s44, s45, s46, s47, s48, rfl, hP⟩ := hI
        obtain ⟨hu, o9, ho, haf⟩ := mem_ready.1 hrd
        have hlt : i < 27 := by
          have := (Array.getElem?_eq_some_iff.1 ho).1
          simp at this
          omega
        have z1v := grown_cell hP.gb HZ1.out (HNE.out T9 HG.out.hi)
        have kv0 := grown_cell hP.gb HK0.out (HNE.out w.heap.size (row_lt k0))
        have kv1 := grown_cell hP.gb HK1.out (HNE.out w.heap.size (row_lt k0))
        have lv0 := grown_cell hP.gb HL0.out (HNE.out x (row_lt l0))
        have lv1 := grown_cell hP.gb HL1.out (HNE.out x (row_lt l0))
        have cv := grown_cell hP.gb HC.out (HNE.out g HGU.out)
        rcases (by omega : i = 0 ∨ i = 1 ∨ i = 2 ∨ i = 3 ∨ i = 4 ∨ i = 5 ∨ i = 6 ∨ i = 7 ∨ i = 8 ∨ i = 9 ∨ i = 10 ∨ i = 11 ∨ i = 12 ∨ i = 13 ∨ i = 14 ∨ i = 15 ∨ i = 16 ∨ i = 17 ∨ i = 18 ∨ i = 19 ∨ i = 20 ∨ i = 21 ∨ i = 22 ∨ i = 23 ∨ i = 24 ∨ i = 25 ∨ i = 26) with rfl | rfl | rfl | rfl | rfl | rfl | rfl | rfl | rfl | rfl | rfl | rfl | rfl | rfl | rfl | rfl | rfl | rfl | rfl | rfl | rfl | rfl | rfl | rfl | rfl | rfl | rfl
        all_goals (cases ho; replace hu := off_of hu)
        · refine step_run rfl rfl ?_
          have hP2 := hP.t0 
          go_simp
          exact ⟨_, _, _, _, _, _, _, _, _, _, _, _, _, _, _, _, _, _, _, _, _, _, _, _, _, _, _, ⟨rfl, rfl, rfl, rfl, rfl, rfl, rfl, rfl, rfl, rfl, rfl, rfl, rfl, rfl, rfl, rfl, rfl, rfl, rfl, rfl, rfl, rfl, rfl, rfl, rfl, rfl, rfl⟩, hP2⟩
        · have g0 := haf { on := 0, ground := .data } (by simp) rfl
          have e0 := (hP.h0 g0).symm
          subst e0
          refine step_run rfl rfl ?_
          have hP2 := hP.t1 g0
          go_simp
          exact ⟨_, _, _, _, _, _, _, _, _, _, _, _, _, _, _, _, _, _, _, _, _, _, _, _, _, _, _, ⟨rfl, rfl, rfl, rfl, rfl, rfl, rfl, rfl, rfl, rfl, rfl, rfl, rfl, rfl, rfl, rfl, rfl, rfl, rfl, rfl, rfl, rfl, rfl, rfl, rfl, rfl, rfl⟩, hP2⟩
        · refine step_run rfl rfl ?_
          have hP2 := hP.t2 
          go_simp
          exact ⟨_, _, _, _, _, _, _, _, _, _, _, _, _, _, _, _, _, _, _, _, _, _, _, _, _, _, _, ⟨rfl, rfl, rfl, rfl, rfl, rfl, rfl, rfl, rfl, rfl, rfl, rfl, rfl, rfl, rfl, rfl, rfl, rfl, rfl, rfl, rfl, rfl, rfl, rfl, rfl, rfl, rfl⟩, hP2⟩
        · have g2 := haf { on := 2, ground := .data } (by simp) rfl
          have e2 := (hP.h2 g2).symm
          subst e2
          refine step_run rfl rfl ?_
          have hP2 := hP.t3 g2
          go_simp
          exact ⟨_, _, _, _, _, _, _, _, _, _, _, _, _, _, _, _, _, _, _, _, _, _, _, _, _, _, _, ⟨rfl, rfl, rfl, rfl, rfl, rfl, rfl, rfl, rfl, rfl, rfl, rfl, rfl, rfl, rfl, rfl, rfl, rfl, rfl, rfl, rfl, rfl, rfl, rfl, rfl, rfl, rfl⟩, hP2⟩
        · refine step_run rfl rfl ?_
          have hP2 := hP.t4 
          go_simp
          exact ⟨_, _, _, _, _, _, _, _, _, _, _, _, _, _, _, _, _, _, _, _, _, _, _, _, _, _, _, ⟨rfl, rfl, rfl, rfl, rfl, rfl, rfl, rfl, rfl, rfl, rfl, rfl, rfl, rfl, rfl, rfl, rfl, rfl, rfl, rfl, rfl, rfl, rfl, rfl, rfl, rfl, rfl⟩, hP2⟩
        · refine step_run rfl rfl ?_
          have hP2 := hP.t5 
          go_simp
          exact ⟨_, _, _, _, _, _, _, _, _, _, _, _, _, _, _, _, _, _, _, _, _, _, _, _, _, _, _, ⟨rfl, rfl, rfl, rfl, rfl, rfl, rfl, rfl, rfl, rfl, rfl, rfl, rfl, rfl, rfl, rfl, rfl, rfl, rfl, rfl, rfl, rfl, rfl, rfl, rfl, rfl, rfl⟩, hP2⟩
        · have g5 := haf { on := 5, ground := .data } (by simp) rfl
          have e5 := (hP.h5 g5).symm
          subst e5
          refine step_run rfl rfl ?_
          have hP2 := hP.t6 g5
          go_simp
          exact ⟨_, _, _, _, _, _, _, _, _, _, _, _, _, _, _, _, _, _, _, _, _, _, _, _, _, _, _, ⟨rfl, rfl, rfl, rfl, rfl, rfl, rfl, rfl, rfl, rfl, rfl, rfl, rfl, rfl, rfl, rfl, rfl, rfl, rfl, rfl, rfl, rfl, rfl, rfl, rfl, rfl, rfl⟩, hP2⟩
        · have g6 := haf { on := 6, ground := .data } (by simp) rfl
          have e6 := (hP.h6 g6).symm
          subst e6
          refine step_run rfl rfl ?_
          have hP2 := hP.t7 g6
          go_simp
          exact ⟨_, _, _, _, _, _, _, _, _, _, _, _, _, _, _, _, _, _, _, _, _, _, _, _, _, _, _, ⟨rfl, rfl, rfl, rfl, rfl, rfl, rfl, rfl, rfl, rfl, rfl, rfl, rfl, rfl, rfl, rfl, rfl, rfl, rfl, rfl, rfl, rfl, rfl, rfl, rfl, rfl, rfl⟩, hP2⟩
        · have g7 := haf { on := 7, ground := .data } (by simp) rfl
          have e7 := (hP.h7 g7).symm
          subst e7
          refine step_run rfl rfl ?_
          have hP2 := hP.t8 g7
          go_simp
          exact ⟨_, _, _, _, _, _, _, _, _, _, _, _, _, _, _, _, _, _, _, _, _, _, _, _, _, _, _, ⟨rfl, rfl, rfl, rfl, rfl, rfl, rfl, rfl, rfl, rfl, rfl, rfl, rfl, rfl, rfl, rfl, rfl, rfl, rfl, rfl, rfl, rfl, rfl, rfl, rfl, rfl, rfl⟩, hP2⟩
        · have g4 := haf { on := 4, ground := .data } (by simp) rfl
          have g8 := haf { on := 8, ground := .data } (by simp) rfl
          have e4 := (hP.h4 g4).symm
          have e8 := (hP.h8 g8).symm
          subst e4 e8
          refine step_run rfl rfl ?_
          have hP2 := hP.t9 g4 g8
          go_simp
          exact ⟨_, _, _, _, _, _, _, _, _, _, _, _, _, _, _, _, _, _, _, _, _, _, _, _, _, _, _, ⟨rfl, rfl, rfl, rfl, rfl, rfl, rfl, rfl, rfl, rfl, rfl, rfl, rfl, rfl, rfl, rfl, rfl, rfl, rfl, rfl, rfl, rfl, rfl, rfl, rfl, rfl, rfl⟩, hP2⟩
        · refine step_run rfl rfl ?_
          have hP2 := hP.t10 
          go_simp
          exact ⟨_, _, _, _, _, _, _, _, _, _, _, _, _, _, _, _, _, _, _, _, _, _, _, _, _, _, _, ⟨rfl, rfl, rfl, rfl, rfl, rfl, rfl, rfl, rfl, rfl, rfl, rfl, rfl, rfl, rfl, rfl, rfl, rfl, rfl, rfl, rfl, rfl, rfl, rfl, rfl, rfl, rfl⟩, hP2⟩
        · have g10 := haf { on := 10, ground := .data } (by simp) rfl
          have e10 := (hP.h10 g10).symm
          subst e10
          refine step_run rfl rfl ?_
          have hP2 := hP.t11 g10
          go_simp
          exact ⟨_, _, _, _, _, _, _, _, _, _, _, _, _, _, _, _, _, _, _, _, _, _, _, _, _, _, _, ⟨rfl, rfl, rfl, rfl, rfl, rfl, rfl, rfl, rfl, rfl, rfl, rfl, rfl, rfl, rfl, rfl, rfl, rfl, rfl, rfl, rfl, rfl, rfl, rfl, rfl, rfl, rfl⟩, hP2⟩
        · have g11 := haf { on := 11, ground := .data } (by simp) rfl
          have e11 := (hP.h11 g11).symm
          subst e11
          refine step_run rfl rfl ?_
          have hP2 := hP.t12 g11
          go_simp
          exact ⟨_, _, _, _, _, _, _, _, _, _, _, _, _, _, _, _, _, _, _, _, _, _, _, _, _, _, _, ⟨rfl, rfl, rfl, rfl, rfl, rfl, rfl, rfl, rfl, rfl, rfl, rfl, rfl, rfl, rfl, rfl, rfl, rfl, rfl, rfl, rfl, rfl, rfl, rfl, rfl, rfl, rfl⟩, hP2⟩
        · have g12 := haf { on := 12, ground := .data } (by simp) rfl
          have e12 := (hP.h12 g12).symm
          subst e12
          refine step_run rfl rfl ?_
          have hP2 := hP.t13 g12
          go_simp
          exact ⟨_, _, _, _, _, _, _, _, _, _, _, _, _, _, _, _, _, _, _, _, _, _, _, _, _, _, _, ⟨rfl, rfl, rfl, rfl, rfl, rfl, rfl, rfl, rfl, rfl, rfl, rfl, rfl, rfl, rfl, rfl, rfl, rfl, rfl, rfl, rfl, rfl, rfl, rfl, rfl, rfl, rfl⟩, hP2⟩
        · have g9 := haf { on := 9, ground := .data } (by simp) rfl
          have g13 := haf { on := 13, ground := .data } (by simp) rfl
          have e9 := (hP.h9 g9).symm
          have e13 := (hP.h13 g13).symm
          subst e9 e13
          refine step_run rfl rfl ?_
          have hP2 := hP.t14 g9 g13
          go_simp
          exact ⟨_, _, _, _, _, _, _, _, _, _, _, _, _, _, _, _, _, _, _, _, _, _, _, _, _, _, _, ⟨rfl, rfl, rfl, rfl, rfl, rfl, rfl, rfl, rfl, rfl, rfl, rfl, rfl, rfl, rfl, rfl, rfl, rfl, rfl, rfl, rfl, rfl, rfl, rfl, rfl, rfl, rfl⟩, hP2⟩
        · refine step_run rfl rfl ?_
          have hP2 := hP.t15 
          go_simp
          exact ⟨_, _, _, _, _, _, _, _, _, _, _, _, _, _, _, _, _, _, _, _, _, _, _, _, _, _, _, ⟨rfl, rfl, rfl, rfl, rfl, rfl, rfl, rfl, rfl, rfl, rfl, rfl, rfl, rfl, rfl, rfl, rfl, rfl, rfl, rfl, rfl, rfl, rfl, rfl, rfl, rfl, rfl⟩, hP2⟩
        · refine step_run rfl rfl ?_
          have hP2 := hP.t16 
          go_simp
          exact ⟨_, _, _, _, _, _, _, _, _, _, _, _, _, _, _, _, _, _, _, _, _, _, _, _, _, _, _, ⟨rfl, rfl, rfl, rfl, rfl, rfl, rfl, rfl, rfl, rfl, rfl, rfl, rfl, rfl, rfl, rfl, rfl, rfl, rfl, rfl, rfl, rfl, rfl, rfl, rfl, rfl, rfl⟩, hP2⟩
        · have g16 := haf { on := 16, ground := .data } (by simp) rfl
          have e16 := (hP.h16 g16).symm
          subst e16
          refine step_run rfl rfl ?_
          have hP2 := hP.t17 g16
          go_simp
          exact ⟨_, _, _, _, _, _, _, _, _, _, _, _, _, _, _, _, _, _, _, _, _, _, _, _, _, _, _, ⟨rfl, rfl, rfl, rfl, rfl, rfl, rfl, rfl, rfl, rfl, rfl, rfl, rfl, rfl, rfl, rfl, rfl, rfl, rfl, rfl, rfl, rfl, rfl, rfl, rfl, rfl, rfl⟩, hP2⟩
        · have g17 := haf { on := 17, ground := .data } (by simp) rfl
          have e17 := (hP.h17 g17).symm
          subst e17
          refine step_run rfl rfl ?_
          have hP2 := hP.t18 g17
          go_simp
          exact ⟨_, _, _, _, _, _, _, _, _, _, _, _, _, _, _, _, _, _, _, _, _, _, _, _, _, _, _, ⟨rfl, rfl, rfl, rfl, rfl, rfl, rfl, rfl, rfl, rfl, rfl, rfl, rfl, rfl, rfl, rfl, rfl, rfl, rfl, rfl, rfl, rfl, rfl, rfl, rfl, rfl, rfl⟩, hP2⟩
        · have g18 := haf { on := 18, ground := .data } (by simp) rfl
          have e18 := (hP.h18 g18).symm
          subst e18
          refine step_run rfl rfl ?_
          have hP2 := hP.t19 g18
          go_simp
          exact ⟨_, _, _, _, _, _, _, _, _, _, _, _, _, _, _, _, _, _, _, _, _, _, _, _, _, _, _, ⟨rfl, rfl, rfl, rfl, rfl, rfl, rfl, rfl, rfl, rfl, rfl, rfl, rfl, rfl, rfl, rfl, rfl, rfl, rfl, rfl, rfl, rfl, rfl, rfl, rfl, rfl, rfl⟩, hP2⟩
        · have g15 := haf { on := 15, ground := .data } (by simp) rfl
          have g19 := haf { on := 19, ground := .data } (by simp) rfl
          have e15 := (hP.h15 g15).symm
          have e19 := (hP.h19 g19).symm
          subst e15 e19
          refine step_run rfl rfl ?_
          have hP2 := hP.t20 g15 g19
          go_simp
          exact ⟨_, _, _, _, _, _, _, _, _, _, _, _, _, _, _, _, _, _, _, _, _, _, _, _, _, _, _, ⟨rfl, rfl, rfl, rfl, rfl, rfl, rfl, rfl, rfl, rfl, rfl, rfl, rfl, rfl, rfl, rfl, rfl, rfl, rfl, rfl, rfl, rfl, rfl, rfl, rfl, rfl, rfl⟩, hP2⟩
        · have g14 := haf { on := 14, ground := .data } (by simp) rfl
          have g20 := haf { on := 20, ground := .data } (by simp) rfl
          have e14 := (hP.h14 g14).symm
          have e20 := (hP.h20 g20).symm
          subst e14 e20
          refine step_run rfl rfl ?_
          have hP2 := hP.t21 g14 g20
          go_simp
          exact ⟨_, _, _, _, _, _, _, _, _, _, _, _, _, _, _, _, _, _, _, _, _, _, _, _, _, _, _, ⟨rfl, rfl, rfl, rfl, rfl, rfl, rfl, rfl, rfl, rfl, rfl, rfl, rfl, rfl, rfl, rfl, rfl, rfl, rfl, rfl, rfl, rfl, rfl, rfl, rfl, rfl, rfl⟩, hP2⟩
        · have g3 := haf { on := 3, ground := .data } (by simp) rfl
          have g21 := haf { on := 21, ground := .data } (by simp) rfl
          have e3 := (hP.h3 g3).symm
          have e21 := (hP.h21 g21).symm
          subst e3 e21
          refine step_run rfl rfl ?_
          have hP2 := hP.t22 g3 g21
          go_simp
          exact ⟨_, _, _, _, _, _, _, _, _, _, _, _, _, _, _, _, _, _, _, _, _, _, _, _, _, _, _, ⟨rfl, rfl, rfl, rfl, rfl, rfl, rfl, rfl, rfl, rfl, rfl, rfl, rfl, rfl, rfl, rfl, rfl, rfl, rfl, rfl, rfl, rfl, rfl, rfl, rfl, rfl, rfl⟩, hP2⟩
        · have g22 := haf { on := 22, ground := .data } (by simp) rfl
          have e22 := (hP.h22 g22).symm
          subst e22
          refine step_run rfl rfl ?_
          have hP2 := hP.t23 g22
          go_simp
          exact ⟨_, _, _, _, _, _, _, _, _, _, _, _, _, _, _, _, _, _, _, _, _, _, _, _, _, _, _, ⟨rfl, rfl, rfl, rfl, rfl, rfl, rfl, rfl, rfl, rfl, rfl, rfl, rfl, rfl, rfl, rfl, rfl, rfl, rfl, rfl, rfl, rfl, rfl, rfl, rfl, rfl, rfl⟩, hP2⟩
        · have g23 := haf { on := 23, ground := .data } (by simp) rfl
          have e23 := (hP.h23 g23).symm
          have ha : ¬ on L 25 := fun c => hu (hP.r25_24 c)
          subst e23
          refine step_run rfl rfl ?_
          have hP2 := hP.t24 g23 hu ha
          go_simp
          exact ⟨_, _, _, _, _, _, _, _, _, _, _, _, _, _, _, _, _, _, _, _, _, _, _, _, _, _, _, ⟨rfl, rfl, rfl, rfl, rfl, rfl, rfl, rfl, rfl, rfl, rfl, rfl, rfl, rfl, rfl, rfl, rfl, rfl, rfl, rfl, rfl, rfl, rfl, rfl, rfl, rfl, rfl⟩, hP2⟩
        · have g1 := haf { on := 1, ground := .data } (by simp) rfl
          have g24 := haf { on := 24, ground := .data } (by simp) rfl
          have e1 := (hP.h1 g1).symm
          have e24 := (hP.h24 g24).symm
          subst e1 e24
          refine step_run rfl rfl ?_
          have hc9 := hP.c0_0 (fun c => hu c) g24
          have hOW9 := hP.ow (fun c => hu c)
          refine wp_append_own v (.tmp 23) (.tmp 46) 23 rfl u.heap.size 9 i0 (.string ByteArray.empty) 1 16 Tryz.underlying23 hi hz0 hz1 hz2 rfl (by decide) v0 k L0 rfl hOW9 ⟨wr.heap.size, 0, none⟩ 1 1 [.string X] rfl rfl (new_one hc9) (by simp [Value.oneCell']) (by unfold maxLen; omega) (by omega) (by have := HG.out.sz; have := hP.gb.size; omega) (fun v' w' ho' hg' _ => ?_)
          have hP2 := hP.t25 g1 g24 hg' ho'
          go_simp
          exact ⟨_, _, _, _, _, _, _, _, _, _, _, _, _, _, _, _, _, _, _, _, _, _, _, _, _, _, _, ⟨rfl, rfl, rfl, rfl, rfl, rfl, rfl, rfl, rfl, rfl, rfl, rfl, rfl, rfl, rfl, rfl, rfl, rfl, rfl, rfl, rfl, rfl, rfl, rfl, rfl, rfl, rfl⟩, hP2⟩
        · refine step_run rfl rfl ?_
          have hP2 := hP.t26 
          go_simp
          exact ⟨_, _, _, _, _, _, _, _, _, _, _, _, _, _, _, _, _, _, _, _, _, _, _, _, _, _, _, ⟨rfl, rfl, rfl, rfl, rfl, rfl, rfl, rfl, rfl, rfl, rfl, rfl, rfl, rfl, rfl, rfl, rfl, rfl, rfl, rfl, rfl, rfl, rfl, rfl, rfl, rfl, rfl⟩, hP2⟩
      · intro L a v hL9 hI hon
        obtain ⟨s22, s23, s24, s25, s26, s27, s28, s29, s30, s31, s32, s33, s34, s35, s36, s37, s38, s39, s40, s41, s42, s43, s44, s45, s46, s47, s48, rfl, hP⟩ := hI
        have e0 := (hP.h0 (hon 0 (by decide))).symm
        have e1 := (hP.h1 (hon 1 (by decide))).symm
        have e2 := (hP.h2 (hon 2 (by decide))).symm
        have e3 := (hP.h3 (hon 3 (by decide))).symm
        have e4 := (hP.h4 (hon 4 (by decide))).symm
        have e5 := (hP.h5 (hon 5 (by decide))).symm
        have e6 := (hP.h6 (hon 6 (by decide))).symm
        have e7 := (hP.h7 (hon 7 (by decide))).symm
        have e8 := (hP.h8 (hon 8 (by decide))).symm
        have e9 := (hP.h9 (hon 9 (by decide))).symm
        have e10 := (hP.h10 (hon 10 (by decide))).symm
        have e11 := (hP.h11 (hon 11 (by decide))).symm
        have e12 := (hP.h12 (hon 12 (by decide))).symm
        have e13 := (hP.h13 (hon 13 (by decide))).symm
        have e14 := (hP.h14 (hon 14 (by decide))).symm
        have e15 := (hP.h15 (hon 15 (by decide))).symm
        have e16 := (hP.h16 (hon 16 (by decide))).symm
        have e17 := (hP.h17 (hon 17 (by decide))).symm
        have e18 := (hP.h18 (hon 18 (by decide))).symm
        have e19 := (hP.h19 (hon 19 (by decide))).symm
        have e20 := (hP.h20 (hon 20 (by decide))).symm
        have e21 := (hP.h21 (hon 21 (by decide))).symm
        have e22 := (hP.h22 (hon 22 (by decide))).symm
        have e23 := (hP.h23 (hon 23 (by decide))).symm
        have e24 := (hP.h24 (hon 24 (by decide))).symm
        have e26 := (hP.h26 (hon 26 (by decide))).symm
        have hOA := hP.oa (hon 25 (by decide))
        have hGB := hP.gb
        clear hP hon hL9
        subst e0 e1 e2 e3 e4 e5 e6 e7 e8 e9 e10 e11 e12 e13 e14 e15 e16 e17 e18 e19 e20 e21 e22 e23 e24 e26
        refine step_run rfl rfl ?_
        obtain ⟨a4, c4, ev, _⟩ := Row.of_own hOA
        subst ev
        have hbl : v.heap[T9]? = wr.heap[T9]? := hGB.block _ (by have := HG.out.hi; have := HG.out.sz; omega) (HNE.out _ HG.out.hi)
        have hc4 : v.cell? ⟨T9, 1, none⟩ = some v0 := by rw [World.cell?_of_block (w := wr) hbl]; exact HG.out.c1
        have hf4 : v.frozen? ⟨T9, 1, none⟩ = false := by rw [World.frozen?_of_block (w := wr) hbl]; exact HG.out.f1
        have HF : Hid _ := HG.out.next (Below.refl wr.heap.size wr) hGB hOA
        clear hOA hGB hbl HG HZ1 HNE HK0 HK1 HL0 HL1 HC HGU
        go_simp
        go_wp2
        go_roundw
        case rel => exact ⟨k + 1, .slice a4 (k + 1) c4, by omega, by go_num, by rw [HX9.out]; exact HF.out⟩
        case measure => simp [intOf]; omega
    · obtain rfl : n1 = k := by omega
      clear h hk
      obtain ⟨b3, d3, ev, hrow, hfar⟩ := hG.far
      subst ev
      have two := HT.out.two
      have eqn : n1 = q * p := by rw [two.2.1, Nat.mul_comm]
      have rr := (rgt_two q p).2 ⟨two.2.2.2.1, two.2.2.1, by rw [← eqn]; have := two.2.1; omega⟩
      have HT3 : Hid (Tt wr (w.heap.size + 1 + 1) (some ⟨S9, 0, none⟩) b3 [(q : Int), (p : Int)] 2 n1 (tr p q qs) k1) := tt_of ⟨sl_of_two (hG.cell fS0 HSZ.out.1) (hG.cell fS1 HSZ.out.1), by rw [← turned_all, ← eqn]; exact hrow, fun b off sp e => by cases e; exact HSZ.out.2.1, fun b off sp e => by have := hfar b off sp e; have := HSZ.out; omega⟩ rr (by rw [tr_len, sz_two rr]) (fun t ht => by
        obtain ⟨i, j, hi, hj, rfl⟩ := mem_grid ht
        exact HT.out.tr.b _ (mem_getD qs (by have := in_grid hj hi; rw [two.1]; omega))) rfl (by rw [tr_len, eqn])
      have hne : w.heap.size + 1 ≠ T9 := by have := HSZ.out; omega
      have hx0 := hG.cell HW.out.1.c0 hne
      have hx1 := hG.cell HW.out.1.c1 hne
      have hx2 := hG.froz HW.out.1.f0 (row_lt HW.out.1.c0) hne
      have hx3 := hG.froz HW.out.1.f1 (row_lt HW.out.1.c0) hne
      have ft0 := hG.c0
      have ft1 := hG.c1
      have HBX : Hid (Bx wr (w.heap.size + 1) ∧ Below w.heap.size w wr) := ⟨⟨hx0, hx1, hx2, hx3⟩, hbl⟩
      clear hG hrow hfar hbl fS0 fS1 fT0 fT1 fF k0 k1' l0 l1 rr hne two eqn
      go_wp2
      refine bodyPost_ret (v := .agg #[.slice (some ⟨S9, 0, none⟩) 2 2, .slice b3 n1 d3]) (by simp [results, Tryz.results18, go_sem, (two_set HBX.out.1.c0 HBX.out.1.c1 _ _).1, (two_set HBX.out.1.c0 HBX.out.1.c1 _ _).2]) rfl ⟨_, rfl, ⟨_, _, _, _, rfl, ?_⟩, ?_⟩
      · exact ⟨((HT3.out.tm.set (by simp) _).set (by simp) _).mono (by omega), HT3.out.tr, HT3.out.hm, HT3.out.hn⟩
      · exact bl_set (bl_set HBX.out.2 (by simp) _) (by simp) _
  clear aK
  go_region
  · obtain ⟨g0, g1⟩ := two_new u0 #[.int .i64 (q : Int), .int .i64 (p : Int)] #[.slice (some ⟨u0.heap.size, 0, none⟩) 2 2, .slice none 0 0] 3 25
    refine key _ (u0.heap.size) (u0.heap.size + 1) (blk2_cell g0 0) (blk2_cell g0 1) (blk2_cell g1 0) (blk2_cell g1 1) (blk2_froz g1 1) (bl_drew (bl_alloc (bl_alloc (Below.refl _ _) _) _)) ⟨by omega, by have := HZ.out.2.2; omega, by have := HZ.out.2.2; omega, ?_, HXS.out⟩
    first | (simp; done) | (simp; omega)
  · obtain ⟨g0, g1⟩ := two_new u0 #[.slice (some ⟨u0.heap.size + 1, 0, none⟩) 2 2, .slice none 0 0] #[.int .i64 (q : Int), .int .i64 (p : Int)] 25 3
    refine key _ (u0.heap.size + 1) (u0.heap.size) (blk2_cell g1 0) (blk2_cell g1 1) (blk2_cell g0 0) (blk2_cell g0 1) (blk2_froz g0 1) (bl_drew (bl_alloc (bl_alloc (Below.refl _ _) _) _)) ⟨by omega, by have := HZ.out.2.2; omega, by have := HZ.out.2.2; omega, ?_, HXS.out⟩
    first | (simp; done) | (simp; omega)
end Go.Proofs.YtbfboippaejnmaaGreatDoor.Tn
