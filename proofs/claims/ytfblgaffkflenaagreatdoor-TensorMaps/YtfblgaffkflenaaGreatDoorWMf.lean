/-
  THE LAW TensorMaps, WALKED WHERE THE TEXT IS A RATIONAL, THE TENSOR ONE AND THE POWER ONE OF 0 TO 6. Conditions: what the arguments hold.
-/
import Derived.Test.YtfblgaffkflenaaGreatDoorLp
namespace Go.Proofs.YtfblgaffkflenaaGreatDoor.Tn
set_option maxRecDepth 100000
open Go.RowKit Nm
set_option linter.unusedVariables false
structure Gfi (wr : World) (TA PT SH LL : Value) (R : World → Value → Prop) (L : Array Bool) (w : World) (s90 s91 s92 s93 s94 s95 s96 s97 s98 s99 s100 : Value) : Prop where
  sz : L.size = 11
  bl : Below wr.heap.size wr w
  kp : ∀ v u x, Below v.heap.size v u → R v x → R u x
  h0 : on L 0 → s90 = TA
  h1 : on L 1 → s91 = PT
  h2 : on L 2 → s92 = SH
  h3 : on L 3 → s93 = LL
  h4 : on L 4 → R w s94
  h5 : on L 5 → s95 = .bool true
  h6 : on L 6 → s96 = .bool false
  h7 : on L 7 → s97 = .bool false
  h8 : on L 8 → s98 = .int .i64 0
  h9 : on L 9 → s99 = .bool false
  h10 : on L 10 → s100 = .bool false
section
variable {wr : World} {TA PT SH LL : Value} {R : World → Value → Prop} {L : Array Bool} {w w' : World} {s90 s91 s92 s93 s94 s95 s96 s97 s98 s99 s100 : Value}
theorem Gfi.t0 (h : Gfi wr TA PT SH LL R L w s90 s91 s92 s93 s94 s95 s96 s97 s98 s99 s100) : Gfi wr TA PT SH LL R (L.setIfInBounds 0 true) w (TA) s91 s92 s93 s94 s95 s96 s97 s98 s99 s100 :=
  ⟨by simp [h.sz], h.bl, h.kp, fun _ => rfl, fun g => h.h1 (on_set g (by decide)), fun g => h.h2 (on_set g (by decide)), fun g => h.h3 (on_set g (by decide)), fun g => h.h4 (on_set g (by decide)), fun g => h.h5 (on_set g (by decide)), fun g => h.h6 (on_set g (by decide)), fun g => h.h7 (on_set g (by decide)), fun g => h.h8 (on_set g (by decide)), fun g => h.h9 (on_set g (by decide)), fun g => h.h10 (on_set g (by decide))⟩
theorem Gfi.t1 (h : Gfi wr TA PT SH LL R L w s90 s91 s92 s93 s94 s95 s96 s97 s98 s99 s100) : Gfi wr TA PT SH LL R (L.setIfInBounds 1 true) w s90 (PT) s92 s93 s94 s95 s96 s97 s98 s99 s100 :=
  ⟨by simp [h.sz], h.bl, h.kp, fun g => h.h0 (on_set g (by decide)), fun _ => rfl, fun g => h.h2 (on_set g (by decide)), fun g => h.h3 (on_set g (by decide)), fun g => h.h4 (on_set g (by decide)), fun g => h.h5 (on_set g (by decide)), fun g => h.h6 (on_set g (by decide)), fun g => h.h7 (on_set g (by decide)), fun g => h.h8 (on_set g (by decide)), fun g => h.h9 (on_set g (by decide)), fun g => h.h10 (on_set g (by decide))⟩
theorem Gfi.t2 (h : Gfi wr TA PT SH LL R L w s90 s91 s92 s93 s94 s95 s96 s97 s98 s99 s100) : Gfi wr TA PT SH LL R (L.setIfInBounds 2 true) w s90 s91 (SH) s93 s94 s95 s96 s97 s98 s99 s100 :=
  ⟨by simp [h.sz], h.bl, h.kp, fun g => h.h0 (on_set g (by decide)), fun g => h.h1 (on_set g (by decide)), fun _ => rfl, fun g => h.h3 (on_set g (by decide)), fun g => h.h4 (on_set g (by decide)), fun g => h.h5 (on_set g (by decide)), fun g => h.h6 (on_set g (by decide)), fun g => h.h7 (on_set g (by decide)), fun g => h.h8 (on_set g (by decide)), fun g => h.h9 (on_set g (by decide)), fun g => h.h10 (on_set g (by decide))⟩
theorem Gfi.t3 (h : Gfi wr TA PT SH LL R L w s90 s91 s92 s93 s94 s95 s96 s97 s98 s99 s100) : Gfi wr TA PT SH LL R (L.setIfInBounds 3 true) w s90 s91 s92 (LL) s94 s95 s96 s97 s98 s99 s100 :=
  ⟨by simp [h.sz], h.bl, h.kp, fun g => h.h0 (on_set g (by decide)), fun g => h.h1 (on_set g (by decide)), fun g => h.h2 (on_set g (by decide)), fun _ => rfl, fun g => h.h4 (on_set g (by decide)), fun g => h.h5 (on_set g (by decide)), fun g => h.h6 (on_set g (by decide)), fun g => h.h7 (on_set g (by decide)), fun g => h.h8 (on_set g (by decide)), fun g => h.h9 (on_set g (by decide)), fun g => h.h10 (on_set g (by decide))⟩
theorem Gfi.t4 (h : Gfi wr TA PT SH LL R L w s90 s91 s92 s93 s94 s95 s96 s97 s98 s99 s100) {x : Value} (hb : Below w.heap.size w w') (hx : R w' x) : Gfi wr TA PT SH LL R (L.setIfInBounds 4 true) w' s90 s91 s92 s93 (x) s95 s96 s97 s98 s99 s100 :=
  ⟨by simp [h.sz], bl_trans h.bl hb, h.kp, fun g => h.h0 (on_set g (by decide)), fun g => h.h1 (on_set g (by decide)), fun g => h.h2 (on_set g (by decide)), fun g => h.h3 (on_set g (by decide)), fun _ => hx, fun g => h.h5 (on_set g (by decide)), fun g => h.h6 (on_set g (by decide)), fun g => h.h7 (on_set g (by decide)), fun g => h.h8 (on_set g (by decide)), fun g => h.h9 (on_set g (by decide)), fun g => h.h10 (on_set g (by decide))⟩
theorem Gfi.t5 (h : Gfi wr TA PT SH LL R L w s90 s91 s92 s93 s94 s95 s96 s97 s98 s99 s100) (hb : Below w.heap.size w w') : Gfi wr TA PT SH LL R (L.setIfInBounds 5 true) w' s90 s91 s92 s93 s94 (.bool true) s96 s97 s98 s99 s100 :=
  ⟨by simp [h.sz], bl_trans h.bl hb, h.kp, fun g => h.h0 (on_set g (by decide)), fun g => h.h1 (on_set g (by decide)), fun g => h.h2 (on_set g (by decide)), fun g => h.h3 (on_set g (by decide)), fun g => h.kp _ _ _ hb (h.h4 (on_set g (by decide))), fun _ => rfl, fun g => h.h6 (on_set g (by decide)), fun g => h.h7 (on_set g (by decide)), fun g => h.h8 (on_set g (by decide)), fun g => h.h9 (on_set g (by decide)), fun g => h.h10 (on_set g (by decide))⟩
theorem Gfi.t6 (h : Gfi wr TA PT SH LL R L w s90 s91 s92 s93 s94 s95 s96 s97 s98 s99 s100) : Gfi wr TA PT SH LL R (L.setIfInBounds 6 true) w s90 s91 s92 s93 s94 s95 (.bool false) s97 s98 s99 s100 :=
  ⟨by simp [h.sz], h.bl, h.kp, fun g => h.h0 (on_set g (by decide)), fun g => h.h1 (on_set g (by decide)), fun g => h.h2 (on_set g (by decide)), fun g => h.h3 (on_set g (by decide)), fun g => h.h4 (on_set g (by decide)), fun g => h.h5 (on_set g (by decide)), fun _ => rfl, fun g => h.h7 (on_set g (by decide)), fun g => h.h8 (on_set g (by decide)), fun g => h.h9 (on_set g (by decide)), fun g => h.h10 (on_set g (by decide))⟩
theorem Gfi.t7 (h : Gfi wr TA PT SH LL R L w s90 s91 s92 s93 s94 s95 s96 s97 s98 s99 s100) : Gfi wr TA PT SH LL R (L.setIfInBounds 7 true) w s90 s91 s92 s93 s94 s95 s96 (.bool false) s98 s99 s100 :=
  ⟨by simp [h.sz], h.bl, h.kp, fun g => h.h0 (on_set g (by decide)), fun g => h.h1 (on_set g (by decide)), fun g => h.h2 (on_set g (by decide)), fun g => h.h3 (on_set g (by decide)), fun g => h.h4 (on_set g (by decide)), fun g => h.h5 (on_set g (by decide)), fun g => h.h6 (on_set g (by decide)), fun _ => rfl, fun g => h.h8 (on_set g (by decide)), fun g => h.h9 (on_set g (by decide)), fun g => h.h10 (on_set g (by decide))⟩
theorem Gfi.t8 (h : Gfi wr TA PT SH LL R L w s90 s91 s92 s93 s94 s95 s96 s97 s98 s99 s100) : Gfi wr TA PT SH LL R (L.setIfInBounds 8 true) w s90 s91 s92 s93 s94 s95 s96 s97 (.int .i64 0) s99 s100 :=
  ⟨by simp [h.sz], h.bl, h.kp, fun g => h.h0 (on_set g (by decide)), fun g => h.h1 (on_set g (by decide)), fun g => h.h2 (on_set g (by decide)), fun g => h.h3 (on_set g (by decide)), fun g => h.h4 (on_set g (by decide)), fun g => h.h5 (on_set g (by decide)), fun g => h.h6 (on_set g (by decide)), fun g => h.h7 (on_set g (by decide)), fun _ => rfl, fun g => h.h9 (on_set g (by decide)), fun g => h.h10 (on_set g (by decide))⟩
theorem Gfi.t9 (h : Gfi wr TA PT SH LL R L w s90 s91 s92 s93 s94 s95 s96 s97 s98 s99 s100) : Gfi wr TA PT SH LL R (L.setIfInBounds 9 true) w s90 s91 s92 s93 s94 s95 s96 s97 s98 (.bool false) s100 :=
  ⟨by simp [h.sz], h.bl, h.kp, fun g => h.h0 (on_set g (by decide)), fun g => h.h1 (on_set g (by decide)), fun g => h.h2 (on_set g (by decide)), fun g => h.h3 (on_set g (by decide)), fun g => h.h4 (on_set g (by decide)), fun g => h.h5 (on_set g (by decide)), fun g => h.h6 (on_set g (by decide)), fun g => h.h7 (on_set g (by decide)), fun g => h.h8 (on_set g (by decide)), fun _ => rfl, fun g => h.h10 (on_set g (by decide))⟩
theorem Gfi.t10 (h : Gfi wr TA PT SH LL R L w s90 s91 s92 s93 s94 s95 s96 s97 s98 s99 s100) : Gfi wr TA PT SH LL R (L.setIfInBounds 10 true) w s90 s91 s92 s93 s94 s95 s96 s97 s98 s99 (.bool false) :=
  ⟨by simp [h.sz], h.bl, h.kp, fun g => h.h0 (on_set g (by decide)), fun g => h.h1 (on_set g (by decide)), fun g => h.h2 (on_set g (by decide)), fun g => h.h3 (on_set g (by decide)), fun g => h.h4 (on_set g (by decide)), fun g => h.h5 (on_set g (by decide)), fun g => h.h6 (on_set g (by decide)), fun g => h.h7 (on_set g (by decide)), fun g => h.h8 (on_set g (by decide)), fun g => h.h9 (on_set g (by decide)), fun _ => rfl⟩
end
structure Ggi (wr : World) (TA PT SH LL : Value) (R : World → Value → Prop) (L : Array Bool) (w : World) (s173 s174 s175 s176 s177 s178 s179 s180 s181 s182 s183 s184 s185 s186 s187 s188 s189 s190 s191 s192 s193 s194 : Value) : Prop where
  sz : L.size = 22
  bl : Below wr.heap.size wr w
  kp : ∀ v u x, Below v.heap.size v u → R v x → R u x
  h0 : on L 0 → s173 = .bool true
  h1 : on L 1 → s174 = .bool true
  h2 : on L 2 → s175 = TA
  h3 : on L 3 → s176 = PT
  h4 : on L 4 → s177 = SH
  h5 : on L 5 → s178 = LL
  h6 : on L 6 → R w s179
  h7 : on L 7 → s180 = .bool true
  h8 : on L 8 → s181 = .bool false
  h9 : on L 9 → s182 = .bool false
  h10 : on L 10 → s183 = .int .i64 0
  h11 : on L 11 → s184 = .bool false
  h12 : on L 12 → s185 = .bool false
  h13 : on L 13 → s186 = .bool false
  h14 : on L 14 → s187 = .bool false
  h15 : on L 15 → s188 = .bool true
  h16 : on L 16 → s189 = .bool false
  h17 : on L 17 → s190 = .bool false
  h18 : on L 18 → s191 = undef
  h19 : on L 19 → s192 = undef
  h20 : on L 20 → s193 = .bool false
  h21 : on L 21 → s194 = .bool false
section
variable {wr : World} {TA PT SH LL : Value} {R : World → Value → Prop} {L : Array Bool} {w w' : World} {s173 s174 s175 s176 s177 s178 s179 s180 s181 s182 s183 s184 s185 s186 s187 s188 s189 s190 s191 s192 s193 s194 : Value}
theorem Ggi.t0 (h : Ggi wr TA PT SH LL R L w s173 s174 s175 s176 s177 s178 s179 s180 s181 s182 s183 s184 s185 s186 s187 s188 s189 s190 s191 s192 s193 s194) : Ggi wr TA PT SH LL R (L.setIfInBounds 0 true) w (.bool true) s174 s175 s176 s177 s178 s179 s180 s181 s182 s183 s184 s185 s186 s187 s188 s189 s190 s191 s192 s193 s194 :=
  ⟨by simp [h.sz], h.bl, h.kp, fun _ => rfl, fun g => h.h1 (on_set g (by decide)), fun g => h.h2 (on_set g (by decide)), fun g => h.h3 (on_set g (by decide)), fun g => h.h4 (on_set g (by decide)), fun g => h.h5 (on_set g (by decide)), fun g => h.h6 (on_set g (by decide)), fun g => h.h7 (on_set g (by decide)), fun g => h.h8 (on_set g (by decide)), fun g => h.h9 (on_set g (by decide)), fun g => h.h10 (on_set g (by decide)), fun g => h.h11 (on_set g (by decide)), fun g => h.h12 (on_set g (by decide)), fun g => h.h13 (on_set g (by decide)), fun g => h.h14 (on_set g (by decide)), fun g => h.h15 (on_set g (by decide)), fun g => h.h16 (on_set g (by decide)), fun g => h.h17 (on_set g (by decide)), fun g => h.h18 (on_set g (by decide)), fun g => h.h19 (on_set g (by decide)), fun g => h.h20 (on_set g (by decide)), fun g => h.h21 (on_set g (by decide))⟩
theorem Ggi.t1 (h : Ggi wr TA PT SH LL R L w s173 s174 s175 s176 s177 s178 s179 s180 s181 s182 s183 s184 s185 s186 s187 s188 s189 s190 s191 s192 s193 s194) : Ggi wr TA PT SH LL R (L.setIfInBounds 1 true) w s173 (.bool true) s175 s176 s177 s178 s179 s180 s181 s182 s183 s184 s185 s186 s187 s188 s189 s190 s191 s192 s193 s194 :=
  ⟨by simp [h.sz], h.bl, h.kp, fun g => h.h0 (on_set g (by decide)), fun _ => rfl, fun g => h.h2 (on_set g (by decide)), fun g => h.h3 (on_set g (by decide)), fun g => h.h4 (on_set g (by decide)), fun g => h.h5 (on_set g (by decide)), fun g => h.h6 (on_set g (by decide)), fun g => h.h7 (on_set g (by decide)), fun g => h.h8 (on_set g (by decide)), fun g => h.h9 (on_set g (by decide)), fun g => h.h10 (on_set g (by decide)), fun g => h.h11 (on_set g (by decide)), fun g => h.h12 (on_set g (by decide)), fun g => h.h13 (on_set g (by decide)), fun g => h.h14 (on_set g (by decide)), fun g => h.h15 (on_set g (by decide)), fun g => h.h16 (on_set g (by decide)), fun g => h.h17 (on_set g (by decide)), fun g => h.h18 (on_set g (by decide)), fun g => h.h19 (on_set g (by decide)), fun g => h.h20 (on_set g (by decide)), fun g => h.h21 (on_set g (by decide))⟩
theorem Ggi.t2 (h : Ggi wr TA PT SH LL R L w s173 s174 s175 s176 s177 s178 s179 s180 s181 s182 s183 s184 s185 s186 s187 s188 s189 s190 s191 s192 s193 s194) : Ggi wr TA PT SH LL R (L.setIfInBounds 2 true) w s173 s174 (TA) s176 s177 s178 s179 s180 s181 s182 s183 s184 s185 s186 s187 s188 s189 s190 s191 s192 s193 s194 :=
  ⟨by simp [h.sz], h.bl, h.kp, fun g => h.h0 (on_set g (by decide)), fun g => h.h1 (on_set g (by decide)), fun _ => rfl, fun g => h.h3 (on_set g (by decide)), fun g => h.h4 (on_set g (by decide)), fun g => h.h5 (on_set g (by decide)), fun g => h.h6 (on_set g (by decide)), fun g => h.h7 (on_set g (by decide)), fun g => h.h8 (on_set g (by decide)), fun g => h.h9 (on_set g (by decide)), fun g => h.h10 (on_set g (by decide)), fun g => h.h11 (on_set g (by decide)), fun g => h.h12 (on_set g (by decide)), fun g => h.h13 (on_set g (by decide)), fun g => h.h14 (on_set g (by decide)), fun g => h.h15 (on_set g (by decide)), fun g => h.h16 (on_set g (by decide)), fun g => h.h17 (on_set g (by decide)), fun g => h.h18 (on_set g (by decide)), fun g => h.h19 (on_set g (by decide)), fun g => h.h20 (on_set g (by decide)), fun g => h.h21 (on_set g (by decide))⟩
theorem Ggi.t3 (h : Ggi wr TA PT SH LL R L w s173 s174 s175 s176 s177 s178 s179 s180 s181 s182 s183 s184 s185 s186 s187 s188 s189 s190 s191 s192 s193 s194) : Ggi wr TA PT SH LL R (L.setIfInBounds 3 true) w s173 s174 s175 (PT) s177 s178 s179 s180 s181 s182 s183 s184 s185 s186 s187 s188 s189 s190 s191 s192 s193 s194 :=
  ⟨by simp [h.sz], h.bl, h.kp, fun g => h.h0 (on_set g (by decide)), fun g => h.h1 (on_set g (by decide)), fun g => h.h2 (on_set g (by decide)), fun _ => rfl, fun g => h.h4 (on_set g (by decide)), fun g => h.h5 (on_set g (by decide)), fun g => h.h6 (on_set g (by decide)), fun g => h.h7 (on_set g (by decide)), fun g => h.h8 (on_set g (by decide)), fun g => h.h9 (on_set g (by decide)), fun g => h.h10 (on_set g (by decide)), fun g => h.h11 (on_set g (by decide)), fun g => h.h12 (on_set g (by decide)), fun g => h.h13 (on_set g (by decide)), fun g => h.h14 (on_set g (by decide)), fun g => h.h15 (on_set g (by decide)), fun g => h.h16 (on_set g (by decide)), fun g => h.h17 (on_set g (by decide)), fun g => h.h18 (on_set g (by decide)), fun g => h.h19 (on_set g (by decide)), fun g => h.h20 (on_set g (by decide)), fun g => h.h21 (on_set g (by decide))⟩
theorem Ggi.t4 (h : Ggi wr TA PT SH LL R L w s173 s174 s175 s176 s177 s178 s179 s180 s181 s182 s183 s184 s185 s186 s187 s188 s189 s190 s191 s192 s193 s194) : Ggi wr TA PT SH LL R (L.setIfInBounds 4 true) w s173 s174 s175 s176 (SH) s178 s179 s180 s181 s182 s183 s184 s185 s186 s187 s188 s189 s190 s191 s192 s193 s194 :=
  ⟨by simp [h.sz], h.bl, h.kp, fun g => h.h0 (on_set g (by decide)), fun g => h.h1 (on_set g (by decide)), fun g => h.h2 (on_set g (by decide)), fun g => h.h3 (on_set g (by decide)), fun _ => rfl, fun g => h.h5 (on_set g (by decide)), fun g => h.h6 (on_set g (by decide)), fun g => h.h7 (on_set g (by decide)), fun g => h.h8 (on_set g (by decide)), fun g => h.h9 (on_set g (by decide)), fun g => h.h10 (on_set g (by decide)), fun g => h.h11 (on_set g (by decide)), fun g => h.h12 (on_set g (by decide)), fun g => h.h13 (on_set g (by decide)), fun g => h.h14 (on_set g (by decide)), fun g => h.h15 (on_set g (by decide)), fun g => h.h16 (on_set g (by decide)), fun g => h.h17 (on_set g (by decide)), fun g => h.h18 (on_set g (by decide)), fun g => h.h19 (on_set g (by decide)), fun g => h.h20 (on_set g (by decide)), fun g => h.h21 (on_set g (by decide))⟩
theorem Ggi.t5 (h : Ggi wr TA PT SH LL R L w s173 s174 s175 s176 s177 s178 s179 s180 s181 s182 s183 s184 s185 s186 s187 s188 s189 s190 s191 s192 s193 s194) : Ggi wr TA PT SH LL R (L.setIfInBounds 5 true) w s173 s174 s175 s176 s177 (LL) s179 s180 s181 s182 s183 s184 s185 s186 s187 s188 s189 s190 s191 s192 s193 s194 :=
  ⟨by simp [h.sz], h.bl, h.kp, fun g => h.h0 (on_set g (by decide)), fun g => h.h1 (on_set g (by decide)), fun g => h.h2 (on_set g (by decide)), fun g => h.h3 (on_set g (by decide)), fun g => h.h4 (on_set g (by decide)), fun _ => rfl, fun g => h.h6 (on_set g (by decide)), fun g => h.h7 (on_set g (by decide)), fun g => h.h8 (on_set g (by decide)), fun g => h.h9 (on_set g (by decide)), fun g => h.h10 (on_set g (by decide)), fun g => h.h11 (on_set g (by decide)), fun g => h.h12 (on_set g (by decide)), fun g => h.h13 (on_set g (by decide)), fun g => h.h14 (on_set g (by decide)), fun g => h.h15 (on_set g (by decide)), fun g => h.h16 (on_set g (by decide)), fun g => h.h17 (on_set g (by decide)), fun g => h.h18 (on_set g (by decide)), fun g => h.h19 (on_set g (by decide)), fun g => h.h20 (on_set g (by decide)), fun g => h.h21 (on_set g (by decide))⟩
theorem Ggi.t6 (h : Ggi wr TA PT SH LL R L w s173 s174 s175 s176 s177 s178 s179 s180 s181 s182 s183 s184 s185 s186 s187 s188 s189 s190 s191 s192 s193 s194) {x : Value} (hb : Below w.heap.size w w') (hx : R w' x) : Ggi wr TA PT SH LL R (L.setIfInBounds 6 true) w' s173 s174 s175 s176 s177 s178 (x) s180 s181 s182 s183 s184 s185 s186 s187 s188 s189 s190 s191 s192 s193 s194 :=
  ⟨by simp [h.sz], bl_trans h.bl hb, h.kp, fun g => h.h0 (on_set g (by decide)), fun g => h.h1 (on_set g (by decide)), fun g => h.h2 (on_set g (by decide)), fun g => h.h3 (on_set g (by decide)), fun g => h.h4 (on_set g (by decide)), fun g => h.h5 (on_set g (by decide)), fun _ => hx, fun g => h.h7 (on_set g (by decide)), fun g => h.h8 (on_set g (by decide)), fun g => h.h9 (on_set g (by decide)), fun g => h.h10 (on_set g (by decide)), fun g => h.h11 (on_set g (by decide)), fun g => h.h12 (on_set g (by decide)), fun g => h.h13 (on_set g (by decide)), fun g => h.h14 (on_set g (by decide)), fun g => h.h15 (on_set g (by decide)), fun g => h.h16 (on_set g (by decide)), fun g => h.h17 (on_set g (by decide)), fun g => h.h18 (on_set g (by decide)), fun g => h.h19 (on_set g (by decide)), fun g => h.h20 (on_set g (by decide)), fun g => h.h21 (on_set g (by decide))⟩
theorem Ggi.t7 (h : Ggi wr TA PT SH LL R L w s173 s174 s175 s176 s177 s178 s179 s180 s181 s182 s183 s184 s185 s186 s187 s188 s189 s190 s191 s192 s193 s194) (hb : Below w.heap.size w w') : Ggi wr TA PT SH LL R (L.setIfInBounds 7 true) w' s173 s174 s175 s176 s177 s178 s179 (.bool true) s181 s182 s183 s184 s185 s186 s187 s188 s189 s190 s191 s192 s193 s194 :=
  ⟨by simp [h.sz], bl_trans h.bl hb, h.kp, fun g => h.h0 (on_set g (by decide)), fun g => h.h1 (on_set g (by decide)), fun g => h.h2 (on_set g (by decide)), fun g => h.h3 (on_set g (by decide)), fun g => h.h4 (on_set g (by decide)), fun g => h.h5 (on_set g (by decide)), fun g => h.kp _ _ _ hb (h.h6 (on_set g (by decide))), fun _ => rfl, fun g => h.h8 (on_set g (by decide)), fun g => h.h9 (on_set g (by decide)), fun g => h.h10 (on_set g (by decide)), fun g => h.h11 (on_set g (by decide)), fun g => h.h12 (on_set g (by decide)), fun g => h.h13 (on_set g (by decide)), fun g => h.h14 (on_set g (by decide)), fun g => h.h15 (on_set g (by decide)), fun g => h.h16 (on_set g (by decide)), fun g => h.h17 (on_set g (by decide)), fun g => h.h18 (on_set g (by decide)), fun g => h.h19 (on_set g (by decide)), fun g => h.h20 (on_set g (by decide)), fun g => h.h21 (on_set g (by decide))⟩
theorem Ggi.t8 (h : Ggi wr TA PT SH LL R L w s173 s174 s175 s176 s177 s178 s179 s180 s181 s182 s183 s184 s185 s186 s187 s188 s189 s190 s191 s192 s193 s194) : Ggi wr TA PT SH LL R (L.setIfInBounds 8 true) w s173 s174 s175 s176 s177 s178 s179 s180 (.bool false) s182 s183 s184 s185 s186 s187 s188 s189 s190 s191 s192 s193 s194 :=
  ⟨by simp [h.sz], h.bl, h.kp, fun g => h.h0 (on_set g (by decide)), fun g => h.h1 (on_set g (by decide)), fun g => h.h2 (on_set g (by decide)), fun g => h.h3 (on_set g (by decide)), fun g => h.h4 (on_set g (by decide)), fun g => h.h5 (on_set g (by decide)), fun g => h.h6 (on_set g (by decide)), fun g => h.h7 (on_set g (by decide)), fun _ => rfl, fun g => h.h9 (on_set g (by decide)), fun g => h.h10 (on_set g (by decide)), fun g => h.h11 (on_set g (by decide)), fun g => h.h12 (on_set g (by decide)), fun g => h.h13 (on_set g (by decide)), fun g => h.h14 (on_set g (by decide)), fun g => h.h15 (on_set g (by decide)), fun g => h.h16 (on_set g (by decide)), fun g => h.h17 (on_set g (by decide)), fun g => h.h18 (on_set g (by decide)), fun g => h.h19 (on_set g (by decide)), fun g => h.h20 (on_set g (by decide)), fun g => h.h21 (on_set g (by decide))⟩
theorem Ggi.t9 (h : Ggi wr TA PT SH LL R L w s173 s174 s175 s176 s177 s178 s179 s180 s181 s182 s183 s184 s185 s186 s187 s188 s189 s190 s191 s192 s193 s194) : Ggi wr TA PT SH LL R (L.setIfInBounds 9 true) w s173 s174 s175 s176 s177 s178 s179 s180 s181 (.bool false) s183 s184 s185 s186 s187 s188 s189 s190 s191 s192 s193 s194 :=
  ⟨by simp [h.sz], h.bl, h.kp, fun g => h.h0 (on_set g (by decide)), fun g => h.h1 (on_set g (by decide)), fun g => h.h2 (on_set g (by decide)), fun g => h.h3 (on_set g (by decide)), fun g => h.h4 (on_set g (by decide)), fun g => h.h5 (on_set g (by decide)), fun g => h.h6 (on_set g (by decide)), fun g => h.h7 (on_set g (by decide)), fun g => h.h8 (on_set g (by decide)), fun _ => rfl, fun g => h.h10 (on_set g (by decide)), fun g => h.h11 (on_set g (by decide)), fun g => h.h12 (on_set g (by decide)), fun g => h.h13 (on_set g (by decide)), fun g => h.h14 (on_set g (by decide)), fun g => h.h15 (on_set g (by decide)), fun g => h.h16 (on_set g (by decide)), fun g => h.h17 (on_set g (by decide)), fun g => h.h18 (on_set g (by decide)), fun g => h.h19 (on_set g (by decide)), fun g => h.h20 (on_set g (by decide)), fun g => h.h21 (on_set g (by decide))⟩
theorem Ggi.t10 (h : Ggi wr TA PT SH LL R L w s173 s174 s175 s176 s177 s178 s179 s180 s181 s182 s183 s184 s185 s186 s187 s188 s189 s190 s191 s192 s193 s194) : Ggi wr TA PT SH LL R (L.setIfInBounds 10 true) w s173 s174 s175 s176 s177 s178 s179 s180 s181 s182 (.int .i64 0) s184 s185 s186 s187 s188 s189 s190 s191 s192 s193 s194 :=
  ⟨by simp [h.sz], h.bl, h.kp, fun g => h.h0 (on_set g (by decide)), fun g => h.h1 (on_set g (by decide)), fun g => h.h2 (on_set g (by decide)), fun g => h.h3 (on_set g (by decide)), fun g => h.h4 (on_set g (by decide)), fun g => h.h5 (on_set g (by decide)), fun g => h.h6 (on_set g (by decide)), fun g => h.h7 (on_set g (by decide)), fun g => h.h8 (on_set g (by decide)), fun g => h.h9 (on_set g (by decide)), fun _ => rfl, fun g => h.h11 (on_set g (by decide)), fun g => h.h12 (on_set g (by decide)), fun g => h.h13 (on_set g (by decide)), fun g => h.h14 (on_set g (by decide)), fun g => h.h15 (on_set g (by decide)), fun g => h.h16 (on_set g (by decide)), fun g => h.h17 (on_set g (by decide)), fun g => h.h18 (on_set g (by decide)), fun g => h.h19 (on_set g (by decide)), fun g => h.h20 (on_set g (by decide)), fun g => h.h21 (on_set g (by decide))⟩
theorem Ggi.t11 (h : Ggi wr TA PT SH LL R L w s173 s174 s175 s176 s177 s178 s179 s180 s181 s182 s183 s184 s185 s186 s187 s188 s189 s190 s191 s192 s193 s194) : Ggi wr TA PT SH LL R (L.setIfInBounds 11 true) w s173 s174 s175 s176 s177 s178 s179 s180 s181 s182 s183 (.bool false) s185 s186 s187 s188 s189 s190 s191 s192 s193 s194 :=
  ⟨by simp [h.sz], h.bl, h.kp, fun g => h.h0 (on_set g (by decide)), fun g => h.h1 (on_set g (by decide)), fun g => h.h2 (on_set g (by decide)), fun g => h.h3 (on_set g (by decide)), fun g => h.h4 (on_set g (by decide)), fun g => h.h5 (on_set g (by decide)), fun g => h.h6 (on_set g (by decide)), fun g => h.h7 (on_set g (by decide)), fun g => h.h8 (on_set g (by decide)), fun g => h.h9 (on_set g (by decide)), fun g => h.h10 (on_set g (by decide)), fun _ => rfl, fun g => h.h12 (on_set g (by decide)), fun g => h.h13 (on_set g (by decide)), fun g => h.h14 (on_set g (by decide)), fun g => h.h15 (on_set g (by decide)), fun g => h.h16 (on_set g (by decide)), fun g => h.h17 (on_set g (by decide)), fun g => h.h18 (on_set g (by decide)), fun g => h.h19 (on_set g (by decide)), fun g => h.h20 (on_set g (by decide)), fun g => h.h21 (on_set g (by decide))⟩
theorem Ggi.t12 (h : Ggi wr TA PT SH LL R L w s173 s174 s175 s176 s177 s178 s179 s180 s181 s182 s183 s184 s185 s186 s187 s188 s189 s190 s191 s192 s193 s194) : Ggi wr TA PT SH LL R (L.setIfInBounds 12 true) w s173 s174 s175 s176 s177 s178 s179 s180 s181 s182 s183 s184 (.bool false) s186 s187 s188 s189 s190 s191 s192 s193 s194 :=
  ⟨by simp [h.sz], h.bl, h.kp, fun g => h.h0 (on_set g (by decide)), fun g => h.h1 (on_set g (by decide)), fun g => h.h2 (on_set g (by decide)), fun g => h.h3 (on_set g (by decide)), fun g => h.h4 (on_set g (by decide)), fun g => h.h5 (on_set g (by decide)), fun g => h.h6 (on_set g (by decide)), fun g => h.h7 (on_set g (by decide)), fun g => h.h8 (on_set g (by decide)), fun g => h.h9 (on_set g (by decide)), fun g => h.h10 (on_set g (by decide)), fun g => h.h11 (on_set g (by decide)), fun _ => rfl, fun g => h.h13 (on_set g (by decide)), fun g => h.h14 (on_set g (by decide)), fun g => h.h15 (on_set g (by decide)), fun g => h.h16 (on_set g (by decide)), fun g => h.h17 (on_set g (by decide)), fun g => h.h18 (on_set g (by decide)), fun g => h.h19 (on_set g (by decide)), fun g => h.h20 (on_set g (by decide)), fun g => h.h21 (on_set g (by decide))⟩
theorem Ggi.t13 (h : Ggi wr TA PT SH LL R L w s173 s174 s175 s176 s177 s178 s179 s180 s181 s182 s183 s184 s185 s186 s187 s188 s189 s190 s191 s192 s193 s194) : Ggi wr TA PT SH LL R (L.setIfInBounds 13 true) w s173 s174 s175 s176 s177 s178 s179 s180 s181 s182 s183 s184 s185 (.bool false) s187 s188 s189 s190 s191 s192 s193 s194 :=
  ⟨by simp [h.sz], h.bl, h.kp, fun g => h.h0 (on_set g (by decide)), fun g => h.h1 (on_set g (by decide)), fun g => h.h2 (on_set g (by decide)), fun g => h.h3 (on_set g (by decide)), fun g => h.h4 (on_set g (by decide)), fun g => h.h5 (on_set g (by decide)), fun g => h.h6 (on_set g (by decide)), fun g => h.h7 (on_set g (by decide)), fun g => h.h8 (on_set g (by decide)), fun g => h.h9 (on_set g (by decide)), fun g => h.h10 (on_set g (by decide)), fun g => h.h11 (on_set g (by decide)), fun g => h.h12 (on_set g (by decide)), fun _ => rfl, fun g => h.h14 (on_set g (by decide)), fun g => h.h15 (on_set g (by decide)), fun g => h.h16 (on_set g (by decide)), fun g => h.h17 (on_set g (by decide)), fun g => h.h18 (on_set g (by decide)), fun g => h.h19 (on_set g (by decide)), fun g => h.h20 (on_set g (by decide)), fun g => h.h21 (on_set g (by decide))⟩
theorem Ggi.t14 (h : Ggi wr TA PT SH LL R L w s173 s174 s175 s176 s177 s178 s179 s180 s181 s182 s183 s184 s185 s186 s187 s188 s189 s190 s191 s192 s193 s194) : Ggi wr TA PT SH LL R (L.setIfInBounds 14 true) w s173 s174 s175 s176 s177 s178 s179 s180 s181 s182 s183 s184 s185 s186 (.bool false) s188 s189 s190 s191 s192 s193 s194 :=
  ⟨by simp [h.sz], h.bl, h.kp, fun g => h.h0 (on_set g (by decide)), fun g => h.h1 (on_set g (by decide)), fun g => h.h2 (on_set g (by decide)), fun g => h.h3 (on_set g (by decide)), fun g => h.h4 (on_set g (by decide)), fun g => h.h5 (on_set g (by decide)), fun g => h.h6 (on_set g (by decide)), fun g => h.h7 (on_set g (by decide)), fun g => h.h8 (on_set g (by decide)), fun g => h.h9 (on_set g (by decide)), fun g => h.h10 (on_set g (by decide)), fun g => h.h11 (on_set g (by decide)), fun g => h.h12 (on_set g (by decide)), fun g => h.h13 (on_set g (by decide)), fun _ => rfl, fun g => h.h15 (on_set g (by decide)), fun g => h.h16 (on_set g (by decide)), fun g => h.h17 (on_set g (by decide)), fun g => h.h18 (on_set g (by decide)), fun g => h.h19 (on_set g (by decide)), fun g => h.h20 (on_set g (by decide)), fun g => h.h21 (on_set g (by decide))⟩
theorem Ggi.t15 (h : Ggi wr TA PT SH LL R L w s173 s174 s175 s176 s177 s178 s179 s180 s181 s182 s183 s184 s185 s186 s187 s188 s189 s190 s191 s192 s193 s194) : Ggi wr TA PT SH LL R (L.setIfInBounds 15 true) w s173 s174 s175 s176 s177 s178 s179 s180 s181 s182 s183 s184 s185 s186 s187 (.bool true) s189 s190 s191 s192 s193 s194 :=
  ⟨by simp [h.sz], h.bl, h.kp, fun g => h.h0 (on_set g (by decide)), fun g => h.h1 (on_set g (by decide)), fun g => h.h2 (on_set g (by decide)), fun g => h.h3 (on_set g (by decide)), fun g => h.h4 (on_set g (by decide)), fun g => h.h5 (on_set g (by decide)), fun g => h.h6 (on_set g (by decide)), fun g => h.h7 (on_set g (by decide)), fun g => h.h8 (on_set g (by decide)), fun g => h.h9 (on_set g (by decide)), fun g => h.h10 (on_set g (by decide)), fun g => h.h11 (on_set g (by decide)), fun g => h.h12 (on_set g (by decide)), fun g => h.h13 (on_set g (by decide)), fun g => h.h14 (on_set g (by decide)), fun _ => rfl, fun g => h.h16 (on_set g (by decide)), fun g => h.h17 (on_set g (by decide)), fun g => h.h18 (on_set g (by decide)), fun g => h.h19 (on_set g (by decide)), fun g => h.h20 (on_set g (by decide)), fun g => h.h21 (on_set g (by decide))⟩
theorem Ggi.t16 (h : Ggi wr TA PT SH LL R L w s173 s174 s175 s176 s177 s178 s179 s180 s181 s182 s183 s184 s185 s186 s187 s188 s189 s190 s191 s192 s193 s194) : Ggi wr TA PT SH LL R (L.setIfInBounds 16 true) w s173 s174 s175 s176 s177 s178 s179 s180 s181 s182 s183 s184 s185 s186 s187 s188 (.bool false) s190 s191 s192 s193 s194 :=
  ⟨by simp [h.sz], h.bl, h.kp, fun g => h.h0 (on_set g (by decide)), fun g => h.h1 (on_set g (by decide)), fun g => h.h2 (on_set g (by decide)), fun g => h.h3 (on_set g (by decide)), fun g => h.h4 (on_set g (by decide)), fun g => h.h5 (on_set g (by decide)), fun g => h.h6 (on_set g (by decide)), fun g => h.h7 (on_set g (by decide)), fun g => h.h8 (on_set g (by decide)), fun g => h.h9 (on_set g (by decide)), fun g => h.h10 (on_set g (by decide)), fun g => h.h11 (on_set g (by decide)), fun g => h.h12 (on_set g (by decide)), fun g => h.h13 (on_set g (by decide)), fun g => h.h14 (on_set g (by decide)), fun g => h.h15 (on_set g (by decide)), fun _ => rfl, fun g => h.h17 (on_set g (by decide)), fun g => h.h18 (on_set g (by decide)), fun g => h.h19 (on_set g (by decide)), fun g => h.h20 (on_set g (by decide)), fun g => h.h21 (on_set g (by decide))⟩
theorem Ggi.t17 (h : Ggi wr TA PT SH LL R L w s173 s174 s175 s176 s177 s178 s179 s180 s181 s182 s183 s184 s185 s186 s187 s188 s189 s190 s191 s192 s193 s194) : Ggi wr TA PT SH LL R (L.setIfInBounds 17 true) w s173 s174 s175 s176 s177 s178 s179 s180 s181 s182 s183 s184 s185 s186 s187 s188 s189 (.bool false) s191 s192 s193 s194 :=
  ⟨by simp [h.sz], h.bl, h.kp, fun g => h.h0 (on_set g (by decide)), fun g => h.h1 (on_set g (by decide)), fun g => h.h2 (on_set g (by decide)), fun g => h.h3 (on_set g (by decide)), fun g => h.h4 (on_set g (by decide)), fun g => h.h5 (on_set g (by decide)), fun g => h.h6 (on_set g (by decide)), fun g => h.h7 (on_set g (by decide)), fun g => h.h8 (on_set g (by decide)), fun g => h.h9 (on_set g (by decide)), fun g => h.h10 (on_set g (by decide)), fun g => h.h11 (on_set g (by decide)), fun g => h.h12 (on_set g (by decide)), fun g => h.h13 (on_set g (by decide)), fun g => h.h14 (on_set g (by decide)), fun g => h.h15 (on_set g (by decide)), fun g => h.h16 (on_set g (by decide)), fun _ => rfl, fun g => h.h18 (on_set g (by decide)), fun g => h.h19 (on_set g (by decide)), fun g => h.h20 (on_set g (by decide)), fun g => h.h21 (on_set g (by decide))⟩
theorem Ggi.t18 (h : Ggi wr TA PT SH LL R L w s173 s174 s175 s176 s177 s178 s179 s180 s181 s182 s183 s184 s185 s186 s187 s188 s189 s190 s191 s192 s193 s194) : Ggi wr TA PT SH LL R (L.setIfInBounds 18 true) w s173 s174 s175 s176 s177 s178 s179 s180 s181 s182 s183 s184 s185 s186 s187 s188 s189 s190 (undef) s192 s193 s194 :=
  ⟨by simp [h.sz], h.bl, h.kp, fun g => h.h0 (on_set g (by decide)), fun g => h.h1 (on_set g (by decide)), fun g => h.h2 (on_set g (by decide)), fun g => h.h3 (on_set g (by decide)), fun g => h.h4 (on_set g (by decide)), fun g => h.h5 (on_set g (by decide)), fun g => h.h6 (on_set g (by decide)), fun g => h.h7 (on_set g (by decide)), fun g => h.h8 (on_set g (by decide)), fun g => h.h9 (on_set g (by decide)), fun g => h.h10 (on_set g (by decide)), fun g => h.h11 (on_set g (by decide)), fun g => h.h12 (on_set g (by decide)), fun g => h.h13 (on_set g (by decide)), fun g => h.h14 (on_set g (by decide)), fun g => h.h15 (on_set g (by decide)), fun g => h.h16 (on_set g (by decide)), fun g => h.h17 (on_set g (by decide)), fun _ => rfl, fun g => h.h19 (on_set g (by decide)), fun g => h.h20 (on_set g (by decide)), fun g => h.h21 (on_set g (by decide))⟩
theorem Ggi.t19 (h : Ggi wr TA PT SH LL R L w s173 s174 s175 s176 s177 s178 s179 s180 s181 s182 s183 s184 s185 s186 s187 s188 s189 s190 s191 s192 s193 s194) : Ggi wr TA PT SH LL R (L.setIfInBounds 19 true) w s173 s174 s175 s176 s177 s178 s179 s180 s181 s182 s183 s184 s185 s186 s187 s188 s189 s190 s191 (undef) s193 s194 :=
  ⟨by simp [h.sz], h.bl, h.kp, fun g => h.h0 (on_set g (by decide)), fun g => h.h1 (on_set g (by decide)), fun g => h.h2 (on_set g (by decide)), fun g => h.h3 (on_set g (by decide)), fun g => h.h4 (on_set g (by decide)), fun g => h.h5 (on_set g (by decide)), fun g => h.h6 (on_set g (by decide)), fun g => h.h7 (on_set g (by decide)), fun g => h.h8 (on_set g (by decide)), fun g => h.h9 (on_set g (by decide)), fun g => h.h10 (on_set g (by decide)), fun g => h.h11 (on_set g (by decide)), fun g => h.h12 (on_set g (by decide)), fun g => h.h13 (on_set g (by decide)), fun g => h.h14 (on_set g (by decide)), fun g => h.h15 (on_set g (by decide)), fun g => h.h16 (on_set g (by decide)), fun g => h.h17 (on_set g (by decide)), fun g => h.h18 (on_set g (by decide)), fun _ => rfl, fun g => h.h20 (on_set g (by decide)), fun g => h.h21 (on_set g (by decide))⟩
theorem Ggi.t20 (h : Ggi wr TA PT SH LL R L w s173 s174 s175 s176 s177 s178 s179 s180 s181 s182 s183 s184 s185 s186 s187 s188 s189 s190 s191 s192 s193 s194) : Ggi wr TA PT SH LL R (L.setIfInBounds 20 true) w s173 s174 s175 s176 s177 s178 s179 s180 s181 s182 s183 s184 s185 s186 s187 s188 s189 s190 s191 s192 (.bool false) s194 :=
  ⟨by simp [h.sz], h.bl, h.kp, fun g => h.h0 (on_set g (by decide)), fun g => h.h1 (on_set g (by decide)), fun g => h.h2 (on_set g (by decide)), fun g => h.h3 (on_set g (by decide)), fun g => h.h4 (on_set g (by decide)), fun g => h.h5 (on_set g (by decide)), fun g => h.h6 (on_set g (by decide)), fun g => h.h7 (on_set g (by decide)), fun g => h.h8 (on_set g (by decide)), fun g => h.h9 (on_set g (by decide)), fun g => h.h10 (on_set g (by decide)), fun g => h.h11 (on_set g (by decide)), fun g => h.h12 (on_set g (by decide)), fun g => h.h13 (on_set g (by decide)), fun g => h.h14 (on_set g (by decide)), fun g => h.h15 (on_set g (by decide)), fun g => h.h16 (on_set g (by decide)), fun g => h.h17 (on_set g (by decide)), fun g => h.h18 (on_set g (by decide)), fun g => h.h19 (on_set g (by decide)), fun _ => rfl, fun g => h.h21 (on_set g (by decide))⟩
theorem Ggi.t21 (h : Ggi wr TA PT SH LL R L w s173 s174 s175 s176 s177 s178 s179 s180 s181 s182 s183 s184 s185 s186 s187 s188 s189 s190 s191 s192 s193 s194) : Ggi wr TA PT SH LL R (L.setIfInBounds 21 true) w s173 s174 s175 s176 s177 s178 s179 s180 s181 s182 s183 s184 s185 s186 s187 s188 s189 s190 s191 s192 s193 (.bool false) :=
  ⟨by simp [h.sz], h.bl, h.kp, fun g => h.h0 (on_set g (by decide)), fun g => h.h1 (on_set g (by decide)), fun g => h.h2 (on_set g (by decide)), fun g => h.h3 (on_set g (by decide)), fun g => h.h4 (on_set g (by decide)), fun g => h.h5 (on_set g (by decide)), fun g => h.h6 (on_set g (by decide)), fun g => h.h7 (on_set g (by decide)), fun g => h.h8 (on_set g (by decide)), fun g => h.h9 (on_set g (by decide)), fun g => h.h10 (on_set g (by decide)), fun g => h.h11 (on_set g (by decide)), fun g => h.h12 (on_set g (by decide)), fun g => h.h13 (on_set g (by decide)), fun g => h.h14 (on_set g (by decide)), fun g => h.h15 (on_set g (by decide)), fun g => h.h16 (on_set g (by decide)), fun g => h.h17 (on_set g (by decide)), fun g => h.h18 (on_set g (by decide)), fun g => h.h19 (on_set g (by decide)), fun g => h.h20 (on_set g (by decide)), fun _ => rfl⟩
end
structure Ge (wr : World) (TA PT SH LL : Value) (R : World → Value → Prop) (L : Array Bool) (w : World) (s6 s212 s213 s214 s215 s216 s217 s218 s219 s220 s221 s222 s223 s224 : Value) : Prop where
  sz : L.size = 14
  bl : Below wr.heap.size wr w
  kp : ∀ v u x, Below v.heap.size v u → R v x → R u x
  h0 : on L 0 → s212 = TA
  h1 : on L 1 → s213 = PT
  h2 : on L 2 → s214 = SH
  h3 : on L 3 → s215 = LL
  h4 : on L 4 → R w s216
  h5 : on L 5 → s217 = .bool true
  h6 : on L 6 → s218 = .bool true
  h7 : on L 7 → s219 = .int .i64 0
  h8 : on L 8 → s220 = .bool true
  h9 : on L 9 → s221 = .bool true
  h10 : on L 10 → s222 = .bool true
  h11 : on L 11 → s223 = .bool true
  h12 : on L 12 → s224 = .bool true
  h13 : on L 13 → s6 = .bool true
section
variable {wr : World} {TA PT SH LL : Value} {R : World → Value → Prop} {L : Array Bool} {w w' : World} {s6 s212 s213 s214 s215 s216 s217 s218 s219 s220 s221 s222 s223 s224 : Value}
theorem Ge.t0 (h : Ge wr TA PT SH LL R L w s6 s212 s213 s214 s215 s216 s217 s218 s219 s220 s221 s222 s223 s224) : Ge wr TA PT SH LL R (L.setIfInBounds 0 true) w s6 (TA) s213 s214 s215 s216 s217 s218 s219 s220 s221 s222 s223 s224 :=
  ⟨by simp [h.sz], h.bl, h.kp, fun _ => rfl, fun g => h.h1 (on_set g (by decide)), fun g => h.h2 (on_set g (by decide)), fun g => h.h3 (on_set g (by decide)), fun g => h.h4 (on_set g (by decide)), fun g => h.h5 (on_set g (by decide)), fun g => h.h6 (on_set g (by decide)), fun g => h.h7 (on_set g (by decide)), fun g => h.h8 (on_set g (by decide)), fun g => h.h9 (on_set g (by decide)), fun g => h.h10 (on_set g (by decide)), fun g => h.h11 (on_set g (by decide)), fun g => h.h12 (on_set g (by decide)), fun g => h.h13 (on_set g (by decide))⟩
theorem Ge.t1 (h : Ge wr TA PT SH LL R L w s6 s212 s213 s214 s215 s216 s217 s218 s219 s220 s221 s222 s223 s224) : Ge wr TA PT SH LL R (L.setIfInBounds 1 true) w s6 s212 (PT) s214 s215 s216 s217 s218 s219 s220 s221 s222 s223 s224 :=
  ⟨by simp [h.sz], h.bl, h.kp, fun g => h.h0 (on_set g (by decide)), fun _ => rfl, fun g => h.h2 (on_set g (by decide)), fun g => h.h3 (on_set g (by decide)), fun g => h.h4 (on_set g (by decide)), fun g => h.h5 (on_set g (by decide)), fun g => h.h6 (on_set g (by decide)), fun g => h.h7 (on_set g (by decide)), fun g => h.h8 (on_set g (by decide)), fun g => h.h9 (on_set g (by decide)), fun g => h.h10 (on_set g (by decide)), fun g => h.h11 (on_set g (by decide)), fun g => h.h12 (on_set g (by decide)), fun g => h.h13 (on_set g (by decide))⟩
theorem Ge.t2 (h : Ge wr TA PT SH LL R L w s6 s212 s213 s214 s215 s216 s217 s218 s219 s220 s221 s222 s223 s224) : Ge wr TA PT SH LL R (L.setIfInBounds 2 true) w s6 s212 s213 (SH) s215 s216 s217 s218 s219 s220 s221 s222 s223 s224 :=
  ⟨by simp [h.sz], h.bl, h.kp, fun g => h.h0 (on_set g (by decide)), fun g => h.h1 (on_set g (by decide)), fun _ => rfl, fun g => h.h3 (on_set g (by decide)), fun g => h.h4 (on_set g (by decide)), fun g => h.h5 (on_set g (by decide)), fun g => h.h6 (on_set g (by decide)), fun g => h.h7 (on_set g (by decide)), fun g => h.h8 (on_set g (by decide)), fun g => h.h9 (on_set g (by decide)), fun g => h.h10 (on_set g (by decide)), fun g => h.h11 (on_set g (by decide)), fun g => h.h12 (on_set g (by decide)), fun g => h.h13 (on_set g (by decide))⟩
theorem Ge.t3 (h : Ge wr TA PT SH LL R L w s6 s212 s213 s214 s215 s216 s217 s218 s219 s220 s221 s222 s223 s224) : Ge wr TA PT SH LL R (L.setIfInBounds 3 true) w s6 s212 s213 s214 (LL) s216 s217 s218 s219 s220 s221 s222 s223 s224 :=
  ⟨by simp [h.sz], h.bl, h.kp, fun g => h.h0 (on_set g (by decide)), fun g => h.h1 (on_set g (by decide)), fun g => h.h2 (on_set g (by decide)), fun _ => rfl, fun g => h.h4 (on_set g (by decide)), fun g => h.h5 (on_set g (by decide)), fun g => h.h6 (on_set g (by decide)), fun g => h.h7 (on_set g (by decide)), fun g => h.h8 (on_set g (by decide)), fun g => h.h9 (on_set g (by decide)), fun g => h.h10 (on_set g (by decide)), fun g => h.h11 (on_set g (by decide)), fun g => h.h12 (on_set g (by decide)), fun g => h.h13 (on_set g (by decide))⟩
theorem Ge.t4 (h : Ge wr TA PT SH LL R L w s6 s212 s213 s214 s215 s216 s217 s218 s219 s220 s221 s222 s223 s224) {x : Value} (hb : Below w.heap.size w w') (hx : R w' x) : Ge wr TA PT SH LL R (L.setIfInBounds 4 true) w' s6 s212 s213 s214 s215 (x) s217 s218 s219 s220 s221 s222 s223 s224 :=
  ⟨by simp [h.sz], bl_trans h.bl hb, h.kp, fun g => h.h0 (on_set g (by decide)), fun g => h.h1 (on_set g (by decide)), fun g => h.h2 (on_set g (by decide)), fun g => h.h3 (on_set g (by decide)), fun _ => hx, fun g => h.h5 (on_set g (by decide)), fun g => h.h6 (on_set g (by decide)), fun g => h.h7 (on_set g (by decide)), fun g => h.h8 (on_set g (by decide)), fun g => h.h9 (on_set g (by decide)), fun g => h.h10 (on_set g (by decide)), fun g => h.h11 (on_set g (by decide)), fun g => h.h12 (on_set g (by decide)), fun g => h.h13 (on_set g (by decide))⟩
theorem Ge.t5 (h : Ge wr TA PT SH LL R L w s6 s212 s213 s214 s215 s216 s217 s218 s219 s220 s221 s222 s223 s224) (hb : Below w.heap.size w w') : Ge wr TA PT SH LL R (L.setIfInBounds 5 true) w' s6 s212 s213 s214 s215 s216 (.bool true) s218 s219 s220 s221 s222 s223 s224 :=
  ⟨by simp [h.sz], bl_trans h.bl hb, h.kp, fun g => h.h0 (on_set g (by decide)), fun g => h.h1 (on_set g (by decide)), fun g => h.h2 (on_set g (by decide)), fun g => h.h3 (on_set g (by decide)), fun g => h.kp _ _ _ hb (h.h4 (on_set g (by decide))), fun _ => rfl, fun g => h.h6 (on_set g (by decide)), fun g => h.h7 (on_set g (by decide)), fun g => h.h8 (on_set g (by decide)), fun g => h.h9 (on_set g (by decide)), fun g => h.h10 (on_set g (by decide)), fun g => h.h11 (on_set g (by decide)), fun g => h.h12 (on_set g (by decide)), fun g => h.h13 (on_set g (by decide))⟩
theorem Ge.t6 (h : Ge wr TA PT SH LL R L w s6 s212 s213 s214 s215 s216 s217 s218 s219 s220 s221 s222 s223 s224) : Ge wr TA PT SH LL R (L.setIfInBounds 6 true) w s6 s212 s213 s214 s215 s216 s217 (.bool true) s219 s220 s221 s222 s223 s224 :=
  ⟨by simp [h.sz], h.bl, h.kp, fun g => h.h0 (on_set g (by decide)), fun g => h.h1 (on_set g (by decide)), fun g => h.h2 (on_set g (by decide)), fun g => h.h3 (on_set g (by decide)), fun g => h.h4 (on_set g (by decide)), fun g => h.h5 (on_set g (by decide)), fun _ => rfl, fun g => h.h7 (on_set g (by decide)), fun g => h.h8 (on_set g (by decide)), fun g => h.h9 (on_set g (by decide)), fun g => h.h10 (on_set g (by decide)), fun g => h.h11 (on_set g (by decide)), fun g => h.h12 (on_set g (by decide)), fun g => h.h13 (on_set g (by decide))⟩
theorem Ge.t7 (h : Ge wr TA PT SH LL R L w s6 s212 s213 s214 s215 s216 s217 s218 s219 s220 s221 s222 s223 s224) : Ge wr TA PT SH LL R (L.setIfInBounds 7 true) w s6 s212 s213 s214 s215 s216 s217 s218 (.int .i64 0) s220 s221 s222 s223 s224 :=
  ⟨by simp [h.sz], h.bl, h.kp, fun g => h.h0 (on_set g (by decide)), fun g => h.h1 (on_set g (by decide)), fun g => h.h2 (on_set g (by decide)), fun g => h.h3 (on_set g (by decide)), fun g => h.h4 (on_set g (by decide)), fun g => h.h5 (on_set g (by decide)), fun g => h.h6 (on_set g (by decide)), fun _ => rfl, fun g => h.h8 (on_set g (by decide)), fun g => h.h9 (on_set g (by decide)), fun g => h.h10 (on_set g (by decide)), fun g => h.h11 (on_set g (by decide)), fun g => h.h12 (on_set g (by decide)), fun g => h.h13 (on_set g (by decide))⟩
theorem Ge.t8 (h : Ge wr TA PT SH LL R L w s6 s212 s213 s214 s215 s216 s217 s218 s219 s220 s221 s222 s223 s224) : Ge wr TA PT SH LL R (L.setIfInBounds 8 true) w s6 s212 s213 s214 s215 s216 s217 s218 s219 (.bool true) s221 s222 s223 s224 :=
  ⟨by simp [h.sz], h.bl, h.kp, fun g => h.h0 (on_set g (by decide)), fun g => h.h1 (on_set g (by decide)), fun g => h.h2 (on_set g (by decide)), fun g => h.h3 (on_set g (by decide)), fun g => h.h4 (on_set g (by decide)), fun g => h.h5 (on_set g (by decide)), fun g => h.h6 (on_set g (by decide)), fun g => h.h7 (on_set g (by decide)), fun _ => rfl, fun g => h.h9 (on_set g (by decide)), fun g => h.h10 (on_set g (by decide)), fun g => h.h11 (on_set g (by decide)), fun g => h.h12 (on_set g (by decide)), fun g => h.h13 (on_set g (by decide))⟩
theorem Ge.t9 (h : Ge wr TA PT SH LL R L w s6 s212 s213 s214 s215 s216 s217 s218 s219 s220 s221 s222 s223 s224) : Ge wr TA PT SH LL R (L.setIfInBounds 9 true) w s6 s212 s213 s214 s215 s216 s217 s218 s219 s220 (.bool true) s222 s223 s224 :=
  ⟨by simp [h.sz], h.bl, h.kp, fun g => h.h0 (on_set g (by decide)), fun g => h.h1 (on_set g (by decide)), fun g => h.h2 (on_set g (by decide)), fun g => h.h3 (on_set g (by decide)), fun g => h.h4 (on_set g (by decide)), fun g => h.h5 (on_set g (by decide)), fun g => h.h6 (on_set g (by decide)), fun g => h.h7 (on_set g (by decide)), fun g => h.h8 (on_set g (by decide)), fun _ => rfl, fun g => h.h10 (on_set g (by decide)), fun g => h.h11 (on_set g (by decide)), fun g => h.h12 (on_set g (by decide)), fun g => h.h13 (on_set g (by decide))⟩
theorem Ge.t10 (h : Ge wr TA PT SH LL R L w s6 s212 s213 s214 s215 s216 s217 s218 s219 s220 s221 s222 s223 s224) : Ge wr TA PT SH LL R (L.setIfInBounds 10 true) w s6 s212 s213 s214 s215 s216 s217 s218 s219 s220 s221 (.bool true) s223 s224 :=
  ⟨by simp [h.sz], h.bl, h.kp, fun g => h.h0 (on_set g (by decide)), fun g => h.h1 (on_set g (by decide)), fun g => h.h2 (on_set g (by decide)), fun g => h.h3 (on_set g (by decide)), fun g => h.h4 (on_set g (by decide)), fun g => h.h5 (on_set g (by decide)), fun g => h.h6 (on_set g (by decide)), fun g => h.h7 (on_set g (by decide)), fun g => h.h8 (on_set g (by decide)), fun g => h.h9 (on_set g (by decide)), fun _ => rfl, fun g => h.h11 (on_set g (by decide)), fun g => h.h12 (on_set g (by decide)), fun g => h.h13 (on_set g (by decide))⟩
theorem Ge.t11 (h : Ge wr TA PT SH LL R L w s6 s212 s213 s214 s215 s216 s217 s218 s219 s220 s221 s222 s223 s224) (hb : Below w.heap.size w w') : Ge wr TA PT SH LL R (L.setIfInBounds 11 true) w' s6 s212 s213 s214 s215 s216 s217 s218 s219 s220 s221 s222 (.bool true) s224 :=
  ⟨by simp [h.sz], bl_trans h.bl hb, h.kp, fun g => h.h0 (on_set g (by decide)), fun g => h.h1 (on_set g (by decide)), fun g => h.h2 (on_set g (by decide)), fun g => h.h3 (on_set g (by decide)), fun g => h.kp _ _ _ hb (h.h4 (on_set g (by decide))), fun g => h.h5 (on_set g (by decide)), fun g => h.h6 (on_set g (by decide)), fun g => h.h7 (on_set g (by decide)), fun g => h.h8 (on_set g (by decide)), fun g => h.h9 (on_set g (by decide)), fun g => h.h10 (on_set g (by decide)), fun _ => rfl, fun g => h.h12 (on_set g (by decide)), fun g => h.h13 (on_set g (by decide))⟩
theorem Ge.t12 (h : Ge wr TA PT SH LL R L w s6 s212 s213 s214 s215 s216 s217 s218 s219 s220 s221 s222 s223 s224) : Ge wr TA PT SH LL R (L.setIfInBounds 12 true) w s6 s212 s213 s214 s215 s216 s217 s218 s219 s220 s221 s222 s223 (.bool true) :=
  ⟨by simp [h.sz], h.bl, h.kp, fun g => h.h0 (on_set g (by decide)), fun g => h.h1 (on_set g (by decide)), fun g => h.h2 (on_set g (by decide)), fun g => h.h3 (on_set g (by decide)), fun g => h.h4 (on_set g (by decide)), fun g => h.h5 (on_set g (by decide)), fun g => h.h6 (on_set g (by decide)), fun g => h.h7 (on_set g (by decide)), fun g => h.h8 (on_set g (by decide)), fun g => h.h9 (on_set g (by decide)), fun g => h.h10 (on_set g (by decide)), fun g => h.h11 (on_set g (by decide)), fun _ => rfl, fun g => h.h13 (on_set g (by decide))⟩
theorem Ge.t13 (h : Ge wr TA PT SH LL R L w s6 s212 s213 s214 s215 s216 s217 s218 s219 s220 s221 s222 s223 s224) : Ge wr TA PT SH LL R (L.setIfInBounds 13 true) w (.bool true) s212 s213 s214 s215 s216 s217 s218 s219 s220 s221 s222 s223 s224 :=
  ⟨by simp [h.sz], h.bl, h.kp, fun g => h.h0 (on_set g (by decide)), fun g => h.h1 (on_set g (by decide)), fun g => h.h2 (on_set g (by decide)), fun g => h.h3 (on_set g (by decide)), fun g => h.h4 (on_set g (by decide)), fun g => h.h5 (on_set g (by decide)), fun g => h.h6 (on_set g (by decide)), fun g => h.h7 (on_set g (by decide)), fun g => h.h8 (on_set g (by decide)), fun g => h.h9 (on_set g (by decide)), fun g => h.h10 (on_set g (by decide)), fun g => h.h11 (on_set g (by decide)), fun g => h.h12 (on_set g (by decide)), fun _ => rfl⟩
end

set_option maxHeartbeats 4000000 in
theorem maps_e_in (a1 b1 : Option Addr) (c1 d1 m1 n1 : Nat) (zs : List Int) (qs : List Rat) (y : Rat) (z : Nat) (aF aZ : Addr) (w : World) (hE : Er w aF aZ)
    (hS1 : ∀ v, Below w.heap.size w v → Calls Tryz.prog 12 #[.agg #[.slice a1 m1 c1, .slice b1 n1 d1]] v fun e w' => e = .returned (.bool true) ∧ Below v.heap.size v w')
    (hQ1 : ∀ v, Below w.heap.size w v → Calls Tryz.prog 16 #[.agg #[.slice a1 m1 c1, .slice b1 n1 d1]] v fun e w' => e = .returned (.bool true) ∧ Below v.heap.size v w')
    (hH : ∀ v, Below w.heap.size w v → Calls Tryz.prog 25 #[.slice a1 m1 c1] v fun e w' => e = .returned (.bool true) ∧ Below v.heap.size v w')
    (hl : Tt w 0 a1 b1 zs m1 n1 qs 40)
    (hys : ¬ 40 < (R y).size) (hyb : Bd y 40) (hr : Sp.Rgt zs) (hn : Sp.szI zs = n1)
    (hzz0 : (0 : Int) ≤ (z : Int)) (hzz6 : (z : Int) ≤ 6) :
    Calls Tryz.prog 4 #[.agg #[.slice a1 m1 c1, .slice b1 n1 d1], .string (R y), .int .i64 (z : Int)] w fun e w' => e = .returned (.bool true) ∧ Below w.heap.size w w' := by
  have HE : Hid _ := hE
  clear hE
  have HB : Hid (Below w.heap.size w w) := Below.refl _ _
  obtain ⟨i0, hi, hz0, hz1, hz2⟩ := info_parts inf41
  have hl6 := hl.le.1
  have hml := hl.hm
  have hnl := hl.hn
  have HBD : Hid (∀ q, q ∈ qs → Bd q 40) := hl.tr.b
  have HR : Hid _ := hr
  clear hr
  have HTt : Hid _ := hl
  clear hl
  have hu := bl_alloc (Below.refl w.heap.size w) (.cells #[.slice a1 m1 c1, .slice b1 n1 d1] 25)
  replace HB : Hid _ := bl_trans HB.out hu
  replace HTt : Hid _ := HTt.out.below hu
  clear hu
  have K10 : (w.alloc (.cells #[.slice a1 m1 c1, .slice b1 n1 d1] 25)).cell? ⟨w.heap.size, 0, none⟩ = some (.slice a1 m1 c1) := by first | rw [World.cell?_alloc_at _ _ _ _ (by simp)]; rfl | simp
  have K11 : (w.alloc (.cells #[.slice a1 m1 c1, .slice b1 n1 d1] 25)).cell? ⟨w.heap.size, 1, none⟩ = some (.slice b1 n1 d1) := by first | rw [World.cell?_alloc_at _ _ _ _ (by simp)]; rfl | simp
  go_enter Tryz.func4, Tryz.ntmps4
  go_wp2_with fail
  refine (hS1 _ HB.out).mono ?_
  rintro e w1 ⟨rfl, hb⟩
  have hu := hb
  replace HB : Hid _ := bl_trans HB.out hu
  replace HTt : Hid _ := HTt.out.below hu
  replace K10 := cell_below hu K10
  replace K11 := cell_below hu K11
  clear hu
  clear hb
  go_wp2_with fail
  refine (zscale c1 d1 (HE.out.below HB.out) HTt.out y hyb (by omega)).mono ?_
  rintro e w2 ⟨a2', c2', b2', d2', rfl, hT, hb⟩
  have hu := bl_alloc hb (.cells #[.slice a2' m1 c2', .slice b2' n1 d2'] 25)
  replace HB : Hid _ := bl_trans HB.out hu
  replace HTt : Hid _ := HTt.out.below hu
  replace K10 := cell_below hu K10
  replace K11 := cell_below hu K11
  clear hu
  have HTs : Hid _ := hT.below (bl_alloc (Below.refl w2.heap.size w2) (.cells #[.slice a2' m1 c2', .slice b2' n1 d2'] 25))
  have Ks0 : (w2.alloc (.cells #[.slice a2' m1 c2', .slice b2' n1 d2'] 25)).cell? ⟨w2.heap.size, 0, none⟩ = some (.slice a2' m1 c2') := by simp
  have Ks1 : (w2.alloc (.cells #[.slice a2' m1 c2', .slice b2' n1 d2'] 25)).cell? ⟨w2.heap.size, 1, none⟩ = some (.slice b2' n1 d2') := by simp
  clear hb hT
  go_wp2_with fail
  refine (zpow c1 d1 z (HE.out.below HB.out) HTt.out (by omega) (by omega) (by omega)).mono ?_
  rintro e w3 ⟨a3', c3', b3', d3', rfl, hT, hb⟩
  have hu := bl_alloc hb (.cells #[.slice a3' m1 c3', .slice b3' n1 d3'] 25)
  replace HB : Hid _ := bl_trans HB.out hu
  replace HTt : Hid _ := HTt.out.below hu
  replace HTs : Hid _ := HTs.out.below hu
  replace K10 := cell_below hu K10
  replace K11 := cell_below hu K11
  replace Ks0 := cell_below hu Ks0
  replace Ks1 := cell_below hu Ks1
  clear hu
  have HTp : Hid _ := hT.below (bl_alloc (Below.refl w3.heap.size w3) (.cells #[.slice a3' m1 c3', .slice b3' n1 d3'] 25))
  have Kp0 : (w3.alloc (.cells #[.slice a3' m1 c3', .slice b3' n1 d3'] 25)).cell? ⟨w3.heap.size, 0, none⟩ = some (.slice a3' m1 c3') := by simp
  have Kp1 : (w3.alloc (.cells #[.slice a3' m1 c3', .slice b3' n1 d3'] 25)).cell? ⟨w3.heap.size, 1, none⟩ = some (.slice b3' n1 d3') := by simp
  clear hb hT
  go_wp2_with fail
  refine (zsum c1 d1 (HE.out.below HB.out) HTt.out (by omega)).mono ?_
  rintro e w4 ⟨rfl, hb⟩
  have hu := hb
  replace HB : Hid _ := bl_trans HB.out hu
  replace HTt : Hid _ := HTt.out.below hu
  replace HTs : Hid _ := HTs.out.below hu
  replace HTp : Hid _ := HTp.out.below hu
  replace K10 := cell_below hu K10
  replace K11 := cell_below hu K11
  replace Ks0 := cell_below hu Ks0
  replace Ks1 := cell_below hu Ks1
  replace Kp0 := cell_below hu Kp0
  replace Kp1 := cell_below hu Kp1
  clear hu
  clear hb
  go_wp2_with fail
  refine (zfill c1 (HE.out.below HB.out) HTt.out.tm.s HR.out hml hn y hyb (by omega)).mono ?_
  rintro e w5 ⟨a5', c5', b5', d5', rfl, hT, hb⟩
  have hu := bl_alloc hb (.cells #[.slice a5' m1 c5', .slice b5' n1 d5'] 25)
  replace HB : Hid _ := bl_trans HB.out hu
  replace HTt : Hid _ := HTt.out.below hu
  replace HTs : Hid _ := HTs.out.below hu
  replace HTp : Hid _ := HTp.out.below hu
  replace K10 := cell_below hu K10
  replace K11 := cell_below hu K11
  replace Ks0 := cell_below hu Ks0
  replace Ks1 := cell_below hu Ks1
  replace Kp0 := cell_below hu Kp0
  replace Kp1 := cell_below hu Kp1
  clear hu
  have HTx : Hid _ := hT.below (bl_alloc (Below.refl w5.heap.size w5) (.cells #[.slice a5' m1 c5', .slice b5' n1 d5'] 25))
  have Kx0 : (w5.alloc (.cells #[.slice a5' m1 c5', .slice b5' n1 d5'] 25)).cell? ⟨w5.heap.size, 0, none⟩ = some (.slice a5' m1 c5') := by simp
  have Kx1 : (w5.alloc (.cells #[.slice a5' m1 c5', .slice b5' n1 d5'] 25)).cell? ⟨w5.heap.size, 1, none⟩ = some (.slice b5' n1 d5') := by simp
  clear hb hT
  have hrd := fun (v : World) => Read_R y v (by omega)
  unfold fr at hrd
  generalize hW : W y.num = P at *
  generalize hSd : S y.den = Q at *
  go_wp2_with fail
  refine (hrd _).mono ?_
  rintro e w6 ⟨rfl, hb⟩
  have hu := bl_alloc hb (.cells #[.string P, .string Q] 41)
  replace HB : Hid _ := bl_trans HB.out hu
  replace HTt : Hid _ := HTt.out.below hu
  replace HTs : Hid _ := HTs.out.below hu
  replace HTp : Hid _ := HTp.out.below hu
  replace HTx : Hid _ := HTx.out.below hu
  replace K10 := cell_below hu K10
  replace K11 := cell_below hu K11
  replace Ks0 := cell_below hu Ks0
  replace Ks1 := cell_below hu Ks1
  replace Kp0 := cell_below hu Kp0
  replace Kp1 := cell_below hu Kp1
  replace Kx0 := cell_below hu Kx0
  replace Kx1 := cell_below hu Kx1
  clear hu
  have Ky0 : (w6.alloc (.cells #[.string P, .string Q] 41)).cell? ⟨w6.heap.size, 0, none⟩ = some (.string P) := by simp
  have Ky1 : (w6.alloc (.cells #[.string P, .string Q] 41)).cell? ⟨w6.heap.size, 1, none⟩ = some (.string Q) := by simp
  clear hb
  clear hrd
  go_wp2_with fail
  refine (hQ1 _ HB.out).mono ?_
  rintro e w7 ⟨rfl, hb⟩
  have hu := hb
  replace HB : Hid _ := bl_trans HB.out hu
  replace HTt : Hid _ := HTt.out.below hu
  replace HTs : Hid _ := HTs.out.below hu
  replace HTp : Hid _ := HTp.out.below hu
  replace HTx : Hid _ := HTx.out.below hu
  replace K10 := cell_below hu K10
  replace K11 := cell_below hu K11
  replace Ks0 := cell_below hu Ks0
  replace Ks1 := cell_below hu Ks1
  replace Kp0 := cell_below hu Kp0
  replace Kp1 := cell_below hu Kp1
  replace Kx0 := cell_below hu Kx0
  replace Kx1 := cell_below hu Kx1
  replace Ky0 := cell_below hu Ky0
  replace Ky1 := cell_below hu Ky1
  clear hu
  clear hb
  go_wp2_with fail
  refine (hH _ HB.out).mono ?_
  rintro e w8 ⟨rfl, hb⟩
  have hu := hb
  replace HB : Hid _ := bl_trans HB.out hu
  replace HTt : Hid _ := HTt.out.below hu
  replace HTs : Hid _ := HTs.out.below hu
  replace HTp : Hid _ := HTp.out.below hu
  replace HTx : Hid _ := HTx.out.below hu
  replace K10 := cell_below hu K10
  replace K11 := cell_below hu K11
  replace Ks0 := cell_below hu Ks0
  replace Ks1 := cell_below hu Ks1
  replace Kp0 := cell_below hu Kp0
  replace Kp1 := cell_below hu Kp1
  replace Kx0 := cell_below hu Kx0
  replace Kx1 := cell_below hu Kx1
  replace Ky0 := cell_below hu Ky0
  replace Ky1 := cell_below hu Ky1
  clear hu
  clear hb
  have hk := Sp.refSize_any a1 zs c1 _ HR.out HTt.out.tm.s
  rw [hml, hn] at hk
  go_wp2_with fail
  refine hk.mono ?_
  rintro e w8 ⟨rfl, rfl⟩
  clear hk
  go_wp2_with fail
  go_loopw [18, 83] (fun l i wr => ∃ (j : Nat) (v : Value), j ≤ n1 ∧ i = .int .i64 j ∧ l = v ∧ Below w8.heap.size w8 wr ∧ wr.ownsRow w8.heap.size 41 2 v j (frs (List.replicate j y))) (fun _ i _ => n1 - (intOf i).toNat)
  case atStart => exact ⟨0, .slice none 0 0, by omega, rfl, rfl, Below.refl _ _, World.ownsRow_nil _ _ _ _⟩
  case round =>
    obtain ⟨j, v, hk, rfl, rfl, hbl, hown⟩ := hrel
    by_cases h : j < n1
    · have y0 := cell_below hbl Ky0
      have y1 := cell_below hbl Ky1
      have hsz := hbl.size
      have HL : Hid (frs (List.replicate (j + 1) y) = frs (List.replicate j y) ++ [.string P, .string Q]) := by
        unfold Hid
        rw [List.replicate_succ', frs_app, ← hW, ← hSd]; rfl
      generalize frs (List.replicate j y) = L0 at *
      have hown2 := owns_below hown (bl_alloc (Below.refl wr.heap.size wr) (.cells #[.string P, .string Q] 41))
      have hnw : ∀ (j : Nat) (u : Value), ([Value.string P, Value.string Q] : List Value)[j]? = some u → (wr.alloc (.cells #[.string P, .string Q] 41)).cell? ((⟨wr.heap.size, 0, none⟩ : Addr).add j) = some u := by
        intro j u hj
        match j, hj with
        | 0, hj => simp at hj; subst hj; rw [row_add]; simp
        | 1, hj => simp at hj; subst hj; rw [row_add]; simp
        | j + 2, hj => simp at hj
      have HBL : Hid _ := hbl
      clear hbl
      go_wp2_with (first | (at_builtin; refine wpList_append_own _ rfl _ _ 45 rfl (w8.heap.size) 41 i0 (.agg #[.string ByteArray.empty, .string ByteArray.empty]) 2 32 Tryz.underlying45 hi hz0 hz1 hz2 rfl (by decide) _ j L0 rfl hown2 ⟨wr.heap.size, 0, none⟩ 1 1 [.string P, .string Q] rfl rfl hnw (by simp [Value.oneCell']) (by unfold maxLen; omega) (by omega) (by simp; omega) ?_))
      intro v' w4 hown4 hgrow4 _
      have HB4 : Hid (Below w8.heap.size w8 w4) := (bl_alloc HBL.out _).trans ((Below.refl (w8.heap.size) _).grown hgrow4 (by simp; omega) (fun b hb => (hown2.lt b hb).1))
      clear hgrow4 hown2 hnw
      go_wp2
      refine ⟨⟨j + 1, v', by omega, by simp, rfl, HB4.out, ?_⟩, by simp [intOf]; omega⟩
      rw [HL.out]
      exact hown4
    · have ek : n1 = j := by omega
      subst ek
      obtain ⟨ao, cap, ev, hrow⟩ := row_own2 hown
      subst ev
      clear hown hk h
      go_wp2_with fail
      have hT0 := HTt.out.below hbl
      have hX0 := HTx.out.below hbl
      have hTR := HTx.out.tr
      have hRL := HTx.out.hn
      refine wp_region_any (by kernel_rfl) ?_
      refine wpAny_inv (fun L a vu => ∃ s90 s91 s92 s93 s94 s95 s96 s97 s98 s99 s100, a = ⟨#[Value.agg #[Value.slice a1 m1 c1, Value.slice b1 n1 d1], Value.string (R y), Value.int IntKind.i64 (z : Int), Value.pointer (some { block := w.heap.size, off := 0 }), undef, undef, Value.bool false, Value.pointer (some { block := w2.heap.size, off := 0 }), Value.int IntKind.i64 0, Value.pointer (some { block := w3.heap.size, off := 0 }), Value.int IntKind.i64 0, Value.string (R (tot qs)), Value.int IntKind.i64 0, Value.pointer (some { block := w5.heap.size, off := 0 }), Value.int IntKind.i64 0, Value.pointer (some { block := w6.heap.size, off := 0 }), Value.bool true, Value.bool true, Value.slice ao n1 cap, undef, undef, undef, undef, undef, Value.agg #[Value.slice a1 m1 c1, Value.slice b1 n1 d1], Value.bool true, Value.bool false, Value.bool false, Value.string (R y), Value.int IntKind.i64 ((R y).size : Int), Value.bool (decide ((40 : Int) < ((R y).size : Int))), Value.bool (decide ((40 : Int) < ((R y).size : Int))), undef, Value.tuple #[Value.agg #[Value.slice a2' m1 c2', Value.slice b2' n1 d2'], Value.int IntKind.i64 0], Value.agg #[Value.slice a1 m1 c1, Value.slice b1 n1 d1], Value.string (R y), Value.tuple #[Value.agg #[Value.slice a2' m1 c2', Value.slice b2' n1 d2'], Value.int IntKind.i64 0], Value.agg #[Value.slice a2' m1 c2', Value.slice b2' n1 d2'], Value.int IntKind.i64 0, Value.tuple #[Value.agg #[Value.slice a3' m1 c3', Value.slice b3' n1 d3'], Value.int IntKind.i64 0], Value.agg #[Value.slice a1 m1 c1, Value.slice b1 n1 d1], Value.int IntKind.i64 (z : Int), Value.tuple #[Value.agg #[Value.slice a3' m1 c3', Value.slice b3' n1 d3'], Value.int IntKind.i64 0], Value.agg #[Value.slice a3' m1 c3', Value.slice b3' n1 d3'], Value.int IntKind.i64 0, Value.tuple #[Value.string (R (tot qs)), Value.int IntKind.i64 0], Value.agg #[Value.slice a1 m1 c1, Value.slice b1 n1 d1], Value.tuple #[Value.string (R (tot qs)), Value.int IntKind.i64 0], Value.string (R (tot qs)), Value.int IntKind.i64 0, Value.tuple #[Value.agg #[Value.slice a5' m1 c5', Value.slice b5' n1 d5'], Value.int IntKind.i64 0], Value.pointer (some { block := w.heap.size, off := 0 }), Value.slice a1 m1 c1, Value.string (R y), Value.tuple #[Value.agg #[Value.slice a5' m1 c5', Value.slice b5' n1 d5'], Value.int IntKind.i64 0], Value.agg #[Value.slice a5' m1 c5', Value.slice b5' n1 d5'], Value.int IntKind.i64 0, Value.tuple #[Value.agg #[Value.string P, Value.string Q], Value.bool true], Value.string (R y), Value.tuple #[Value.agg #[Value.string P, Value.string Q], Value.bool true], Value.agg #[Value.string P, Value.string Q], Value.bool true, Value.agg #[Value.slice a1 m1 c1, Value.slice b1 n1 d1], Value.bool true, Value.bool true, Value.bool false, Value.bool false, Value.pointer (some { block := w.heap.size, off := 0 }), Value.slice a1 m1 c1, Value.bool true, Value.bool false, Value.bool false, undef, undef, undef, undef, undef, undef, undef, undef, Value.pointer (some { block := w.heap.size, off := 0 }), Value.slice a1 m1 c1, Value.int IntKind.i64 (n1 : Int), Value.int IntKind.i64 (n1 : Int), Value.bool false, u85, u86, u87, u88, u89, s90, s91, s92, s93, s94, s95, s96, s97, s98, s99, s100, undef, undef, undef, undef, undef, undef, undef, undef, undef, undef, undef, undef, undef, undef, undef, undef, undef, undef, undef, undef, undef, undef, undef, undef, undef, undef, undef, undef, undef, undef, undef, undef, undef, undef, undef, undef, undef, undef, undef, undef, undef, undef, undef, undef, undef, undef, undef, undef, undef, undef, undef, undef, undef, undef, undef, undef, undef, undef, undef, undef, undef, undef, undef, undef, undef, undef, undef, undef, undef, undef, undef, undef, undef, undef, undef, undef, undef, undef, undef, undef, undef, undef, undef, undef, undef, undef, undef, undef, undef, undef, undef, undef, undef, undef, undef, undef, undef, undef, undef, undef, undef, undef, undef, undef, undef, undef, undef, undef, undef, undef, undef, undef, undef, undef, undef, undef, undef, undef, undef, undef, undef, undef, undef, undef], []⟩ ∧ Gfi wr (.agg #[.slice a5' m1 c5', .slice b5' n1 d5']) (.pointer (some ⟨w.heap.size, 0, none⟩)) (.slice a1 m1 c1) (.slice ao n1 cap) (Nt zs m1 n1 (List.replicate n1 y) 40) L vu s90 s91 s92 s93 s94 s95 s96 s97 s98 s99 s100) ?_ ?_ _ _ _ _ (by decide) ?_
      · intro L a vu i hI hi
        obtain ⟨s90, s91, s92, s93, s94, s95, s96, s97, s98, s99, s100, rfl, hP⟩ := hI
        obtain ⟨hu, o, ho, haf⟩ := mem_ready.1 hi
        have hlt : i < 11 := (Array.getElem?_eq_some_iff.1 ho).1
        have k0 := cell_below (bl_trans hbl hP.bl) K10
        have k1 := cell_below (bl_trans hbl hP.bl) K11
        have k4 := cell_below (bl_trans hbl hP.bl) Kx0
        have k5 := cell_below (bl_trans hbl hP.bl) Kx1
        rcases (by omega : i = 0 ∨ i = 1 ∨ i = 2 ∨ i = 3 ∨ i = 4 ∨ i = 5 ∨ i = 6 ∨ i = 7 ∨ i = 8 ∨ i = 9 ∨ i = 10) with rfl | rfl | rfl | rfl | rfl | rfl | rfl | rfl | rfl | rfl | rfl
        all_goals (simp only [List.getElem?_toArray, List.getElem?_cons_zero, List.getElem?_cons_succ, Option.some.injEq] at ho; subst ho)
        · refine step_run rfl rfl ?_
          have hP2 := hP.t0
          go_simp
          exact ⟨_, _, _, _, _, _, _, _, _, _, _, ⟨rfl, rfl, rfl, rfl, rfl, rfl, rfl, rfl, rfl, rfl, rfl⟩, hP2⟩
        · refine step_run rfl rfl ?_
          have hP2 := hP.t1
          go_simp
          exact ⟨_, _, _, _, _, _, _, _, _, _, _, ⟨rfl, rfl, rfl, rfl, rfl, rfl, rfl, rfl, rfl, rfl, rfl⟩, hP2⟩
        · have g1 := hP.h1 (haf { on := 1, ground := .data } (by simp) rfl)
          subst g1
          refine step_run rfl rfl ?_
          have hP2 := hP.t2
          go_simp
          exact ⟨_, _, _, _, _, _, _, _, _, _, _, ⟨rfl, rfl, rfl, rfl, rfl, rfl, rfl, rfl, rfl, rfl, rfl⟩, hP2⟩
        · refine step_run rfl rfl ?_
          have hP2 := hP.t3
          go_simp
          exact ⟨_, _, _, _, _, _, _, _, _, _, _, ⟨rfl, rfl, rfl, rfl, rfl, rfl, rfl, rfl, rfl, rfl, rfl⟩, hP2⟩
        · have g2 := hP.h2 (haf { on := 2, ground := .data } (by simp) rfl)
          have g3 := hP.h3 (haf { on := 3, ground := .data } (by simp) rfl)
          subst g2 g3
          refine step_run rfl rfl ?_
          unfold Oper.wp
          rw [run_two cf27 (.tmp 92) (.tmp 93) 22 45 rfl _ _ rfl rfl]
          refine (zof c1 cap (hT0.below hP.bl).tm.s hTR (hrow.below hP.bl) hml hRL (by omega)).mono ?_
          rintro e v2 ⟨y9, rfl, hN9, hb⟩
          have hP2 := hP.t4 hb hN9
          go_simp
          exact ⟨_, _, _, _, _, _, _, _, _, _, _, ⟨rfl, rfl, rfl, rfl, rfl, rfl, rfl, rfl, rfl, rfl, rfl⟩, hP2⟩
        · have g0 := hP.h0 (haf { on := 0, ground := .data } (by simp) rfl)
          have g4 := hP.h4 (haf { on := 4, ground := .data } (by simp) rfl)
          obtain ⟨a17, c17, b17, d17, g4, hT9⟩ := g4
          subst g0 g4
          refine step_run rfl rfl ?_
          unfold Oper.wp
          rw [run_two cf18 (.tmp 90) (.tmp 94) 25 25 rfl _ _ rfl rfl]
          refine (zeq c5' d5' c17 d17 (hX0.below hP.bl) hT9 rfl).mono ?_
          rintro e v2 ⟨rfl, hb⟩
          have hP2 := hP.t5 hb
          go_simp
          exact ⟨_, _, _, _, _, _, _, _, _, _, _, ⟨rfl, rfl, rfl, rfl, rfl, rfl, rfl, rfl, rfl, rfl, rfl⟩, hP2⟩
        · have g5 := hP.h5 (haf { on := 5, ground := .data } (by simp) rfl)
          subst g5
          refine step_run rfl rfl ?_
          have hP2 := hP.t6
          go_simp
          exact ⟨_, _, _, _, _, _, _, _, _, _, _, ⟨rfl, rfl, rfl, rfl, rfl, rfl, rfl, rfl, rfl, rfl, rfl⟩, hP2⟩
        · have g6 := hP.h6 (haf { on := 6, ground := .data } (by simp) rfl)
          subst g6
          refine step_run rfl rfl ?_
          have hP2 := hP.t7
          go_simp
          exact ⟨_, _, _, _, _, _, _, _, _, _, _, ⟨rfl, rfl, rfl, rfl, rfl, rfl, rfl, rfl, rfl, rfl, rfl⟩, hP2⟩
        · have g7 := hP.h7 (haf { on := 7, ground := .guard } (by simp) rfl)
          subst g7
          refine step_runw rfl (by first | rfl | go_simp) ?_
          have hP2 := hP.t8
          go_simp
          exact ⟨_, _, _, _, _, _, _, _, _, _, _, ⟨rfl, rfl, rfl, rfl, rfl, rfl, rfl, rfl, rfl, rfl, rfl⟩, hP2⟩
        · have g8 := hP.h8 (haf { on := 8, ground := .data } (by simp) rfl)
          have g7 := hP.h7 (haf { on := 7, ground := .guard } (by simp) rfl)
          subst g8 g7
          refine step_runw rfl (by first | rfl | go_simp) ?_
          have hP2 := hP.t9
          go_simp
          exact ⟨_, _, _, _, _, _, _, _, _, _, _, ⟨rfl, rfl, rfl, rfl, rfl, rfl, rfl, rfl, rfl, rfl, rfl⟩, hP2⟩
        · have g7 := hP.h7 (haf { on := 7, ground := .data } (by simp) rfl)
          have g9 := hP.h9 (haf { on := 9, ground := .data } (by simp) rfl)
          subst g7 g9
          refine step_run rfl rfl ?_
          have hP2 := hP.t10
          go_simp
          exact ⟨_, _, _, _, _, _, _, _, _, _, _, ⟨rfl, rfl, rfl, rfl, rfl, rfl, rfl, rfl, rfl, rfl, rfl⟩, hP2⟩
      · intro L a vu hI hr
        obtain ⟨s90, s91, s92, s93, s94, s95, s96, s97, s98, s99, s100, rfl, hP⟩ := hI
        have hno := List.eq_nil_iff_forall_not_mem.1 hr
        have g0 : on L 0 := Decidable.byContradiction fun hc => hno 0 (mem_ready.2 ⟨off (by rw [hP.sz]; decide) hc, _, rfl, fun e he => by simp at he⟩)
        have g1 : on L 1 := Decidable.byContradiction fun hc => hno 1 (mem_ready.2 ⟨off (by rw [hP.sz]; decide) hc, _, rfl, fun e he => by simp at he⟩)
        have g2 : on L 2 := by
          refine Decidable.byContradiction fun hc => hno 2 (mem_ready.2 ⟨off (by rw [hP.sz]; decide) hc, _, rfl, ?_⟩)
          intro e he hb
          simp at he
          subst he
          all_goals first | assumption | exact absurd hb (by decide)
        have g3 : on L 3 := Decidable.byContradiction fun hc => hno 3 (mem_ready.2 ⟨off (by rw [hP.sz]; decide) hc, _, rfl, fun e he => by simp at he⟩)
        have g4 : on L 4 := by
          refine Decidable.byContradiction fun hc => hno 4 (mem_ready.2 ⟨off (by rw [hP.sz]; decide) hc, _, rfl, ?_⟩)
          intro e he hb
          simp at he
          rcases he with rfl | rfl
          all_goals first | assumption | exact absurd hb (by decide)
        have g5 : on L 5 := by
          refine Decidable.byContradiction fun hc => hno 5 (mem_ready.2 ⟨off (by rw [hP.sz]; decide) hc, _, rfl, ?_⟩)
          intro e he hb
          simp at he
          rcases he with rfl | rfl | rfl
          all_goals first | assumption | exact absurd hb (by decide)
        have g6 : on L 6 := by
          refine Decidable.byContradiction fun hc => hno 6 (mem_ready.2 ⟨off (by rw [hP.sz]; decide) hc, _, rfl, ?_⟩)
          intro e he hb
          simp at he
          subst he
          all_goals first | assumption | exact absurd hb (by decide)
        have g7 : on L 7 := by
          refine Decidable.byContradiction fun hc => hno 7 (mem_ready.2 ⟨off (by rw [hP.sz]; decide) hc, _, rfl, ?_⟩)
          intro e he hb
          simp at he
          rcases he with rfl | rfl
          all_goals first | assumption | exact absurd hb (by decide)
        have g8 : on L 8 := by
          refine Decidable.byContradiction fun hc => hno 8 (mem_ready.2 ⟨off (by rw [hP.sz]; decide) hc, _, rfl, ?_⟩)
          intro e he hb
          simp at he
          subst he
          all_goals first | assumption | exact absurd hb (by decide)
        have g9 : on L 9 := by
          refine Decidable.byContradiction fun hc => hno 9 (mem_ready.2 ⟨off (by rw [hP.sz]; decide) hc, _, rfl, ?_⟩)
          intro e he hb
          simp at he
          rcases he with rfl | rfl
          all_goals first | assumption | exact absurd hb (by decide)
        have g10 : on L 10 := by
          refine Decidable.byContradiction fun hc => hno 10 (mem_ready.2 ⟨off (by rw [hP.sz]; decide) hc, _, rfl, ?_⟩)
          intro e he hb
          simp at he
          rcases he with rfl | rfl
          all_goals first | assumption | exact absurd hb (by decide)
        have e0 := hP.h0 g0
        have e1 := hP.h1 g1
        have e2 := hP.h2 g2
        have e3 := hP.h3 g3
        obtain ⟨a17, c17, b17, d17, e4, hT9⟩ := hP.h4 g4
        have e5 := hP.h5 g5
        have e6 := hP.h6 g6
        have e7 := hP.h7 g7
        have e8 := hP.h8 g8
        have e9 := hP.h9 g9
        have e10 := hP.h10 g10
        have hBL := hP.bl
        clear hP g0 g1 g2 g3 g4 g5 g6 g7 g8 g9 g10 hr hno
        subst e0 e1 e2 e3 e4 e5 e6 e7 e8 e9 e10
        have hU := bl_trans hbl hBL
        replace HB : Hid _ := bl_trans HB.out hU
        replace HTt : Hid _ := HTt.out.below hU
        replace HTs : Hid _ := HTs.out.below hU
        replace HTp : Hid _ := HTp.out.below hU
        replace HTx : Hid _ := HTx.out.below hU
        replace K10 := cell_below hU K10
        replace K11 := cell_below hU K11
        replace Ks0 := cell_below hU Ks0
        replace Ks1 := cell_below hU Ks1
        replace Kp0 := cell_below hU Kp0
        replace Kp1 := cell_below hU Kp1
        replace Kx0 := cell_below hU Kx0
        replace Kx1 := cell_below hU Kx1
        replace Ky0 := cell_below hU Ky0
        replace Ky1 := cell_below hU Ky1
        clear hU hBL hbl hrow hT9 hT0 hX0 hTR hRL HTx Kx0 Kx1
        have k11a := cell_below (bl_alloc (Below.refl _ vu) (.cells #[.string ⟨#[48]⟩, .string ⟨#[49]⟩] 41)) K11
        go_wp2_with fail
        clear k11a
        go_loopw [20, 21, 136] (fun l p i wr => ∃ (k : Nat) (v1 v2 : Value), k ≤ n1 ∧ i = .int .i64 k ∧ l = v1 ∧ p = v2 ∧ Lp vu wr (tot (qs.take k)) ((qs.take (k)).map (· * y)) ((qs.take (k)).map (· ^ z)) v1 v2) (fun _ _ i _ => n1 - (intOf i).toNat)
        case atStart =>
          refine ⟨0, .slice none 0 0, .slice none 0 0, by omega, rfl, rfl, rfl, ?_⟩
          exact Lp.start vu qs (fun l => l.map (· * y)) (fun l => l.map (· ^ z)) rfl rfl
        case round =>
          obtain ⟨k, v1, v2, hk, rfl, rfl, rfl, hLp⟩ := hrel
          by_cases h : k < n1
          · have hkq : k < qs.length := by omega
            have b1 := Bd.tot_take HBD.out k
            have b2 := HBD.out _ (getD_mem hkq)
            rw [hnl] at b1
            have HL : Hid _ := hLp
            clear hLp
            have HS : Hid _ := tot_next hkq
            have HM1 : Hid _ := map_next (· * y) hkq
            have HM2 : Hid _ := map_next (· ^ z) hkq
            have HLN1 : Hid (((qs.take k).map (· * y)).length = k) := by unfold Hid; rw [List.length_map, List.length_take]; omega
            have HLN2 : Hid (((qs.take k).map (· ^ z)).length = k) := by unfold Hid; rw [List.length_map, List.length_take]; omega
            generalize (qs.take k).map (· * y) = l1 at *
            generalize (qs.take k).map (· ^ z) = l2 at *
            generalize hsm : tot (qs.take k) = sm at *
            clear hsm
            have k10 := cell_below HL.out.bl K10
            have k11 := cell_below HL.out.bl K11
            have hat := zat c1 d1 k (HTt.out.below HL.out.bl) h (by omega)
            have had := fun (v : World) => radd_R sm (qs.getD k 0) (n1 * (40 + 1) + 1) 40 v b1 b2 (by omega)
            have hmu := fun (v : World) => rmul_R (qs.getD k 0) y 40 40 v b2 hyb (by omega)
            have hpo := fun (v : World) => rpow_R (qs.getD k 0) z v (by omega) (b2.mono (by omega))
            generalize qs.getD k 0 = q at *
            unfold fr at hat had hmu hpo
            rw [hW, hSd] at hmu
            clear b1 b2
            generalize hA : W q.num = A at *
            generalize hB : S q.den = B at *
            go_wp2_with fail
            refine hat.mono ?_
            rintro e x1 ⟨rfl, hb⟩
            clear hat
            have HNE1 : Hid (some x1.heap.size ≠ u20.ownBlock) := fun e => by have := (HL.out.o1.lt _ e.symm).2; have := hb.size; omega
            have HNE2 : Hid (some x1.heap.size ≠ u21.ownBlock) := fun e => by have := (HL.out.o2.lt _ e.symm).2; have := hb.size; omega
            have HLT : Hid (vu.heap.size < x1.heap.size) := Nat.lt_of_lt_of_le HL.out.sz hb.size
            have hu := bl_alloc hb (.cells #[.string A, .string B] 41)
            have q0 : (x1.alloc (.cells #[.string A, .string B] 41)).cell? ⟨x1.heap.size, 0, none⟩ = some (.string A) := by simp
            have q1 : (x1.alloc (.cells #[.string A, .string B] 41)).cell? ⟨x1.heap.size, 1, none⟩ = some (.string B) := by simp
            replace HL : Hid _ := HL.out.call hu
            clear hu k10 k11
            clear hb
            have c0 := HL.out.c0
            have c1' := HL.out.c1
            generalize hC0 : W sm.num = C at *
            generalize hD0 : S sm.den = D at *
            go_wp2_with fail
            refine (had _).mono ?_
            rintro e x2 ⟨rfl, hb⟩
            clear had c0 c1'
            replace q0 := cell_below hb q0
            replace q1 := cell_below hb q1
            replace HL : Hid _ := HL.out.call hb
            have c0 := HL.out.c0
            have c1' := HL.out.c1
            have f0 := HL.out.f0
            have f1 := HL.out.f1
            clear hb
            go_upto_region 28 with fail
            generalize hx3 : (x2.setCell _ _).setCell _ _ = x3
            have HN : Hid (x1.heap.size ≠ vu.heap.size) := fun e => by have := HLT.out; omega
            replace q0 : x3.cell? ⟨x1.heap.size, 0, none⟩ = some (.string A) := by
              rw [← hx3, World.cell?_setCell_other _ _ _ _ (fun e => HN.out (congrArg Addr.block e).symm), World.cell?_setCell_other _ _ _ _ (fun e => HN.out (congrArg Addr.block e).symm)]; exact q0
            replace q1 : x3.cell? ⟨x1.heap.size, 1, none⟩ = some (.string B) := by
              rw [← hx3, World.cell?_setCell_other _ _ _ _ (fun e => HN.out (congrArg Addr.block e).symm), World.cell?_setCell_other _ _ _ _ (fun e => HN.out (congrArg Addr.block e).symm)]; exact q1
            replace HL : Hid _ := HL.out.box (sm + q) hx3.symm
            clear hx3 c0 c1' f0 f1
            generalize hEx4 : W (q * y).num = Ex4 at *
            generalize hGx4 : S (q * y).den = Gx4 at *
            have y0 := cell_below HL.out.bl Ky0
            have y1 := cell_below HL.out.bl Ky1
            go_wp2_with fail
            refine (hmu _).mono ?_
            rintro e x4 ⟨rfl, hb⟩
            clear hmu
            have hu := bl_alloc hb (.cells #[.string Ex4, .string Gx4] 41)
            replace q0 := cell_below hu q0
            replace q1 := cell_below hu q1
            replace HL : Hid _ := HL.out.call hu
            clear hu hb y0 y1
            have hown := HL.out.o1
            rw [HLN1.out] at hown
            have hnw : ∀ (j : Nat) (u : Value), ([Value.string Ex4, Value.string Gx4] : List Value)[j]? = some u → (x4.alloc (.cells #[.string Ex4, .string Gx4] 41)).cell? ((⟨x4.heap.size, 0, none⟩ : Addr).add j) = some u := by
              intro j u hj
              match j, hj with
              | 0, hj => simp at hj; subst hj; rw [row_add]; simp
              | 1, hj => simp at hj; subst hj; rw [row_add]; simp
              | j + 2, hj => simp at hj
            go_wp2_with (first | (at_builtin; refine wpList_append_own_at _ rfl _ _ 45 rfl (vu.heap.size + 1) 41 i0 (.agg #[.string ByteArray.empty, .string ByteArray.empty]) 2 32 Tryz.underlying45 hi hz0 hz1 hz2 rfl (by decide) _ k (frs l1) rfl hown ⟨x4.heap.size, 0, none⟩ 1 1 [.string Ex4, .string Gx4] rfl rfl hnw (by simp [Value.oneCell']) (by unfold maxLen; omega) (by omega) (Nat.succ_le_of_lt HL.out.sz) ?_))
            intro v1' x5 hown4 hgrow4 _ hat4
            have HG : Hid _ := hgrow4
            clear hgrow4 hnw hown
            replace q0 := HG.out.cell q0 HNE1.out
            replace q1 := HG.out.cell q1 HNE1.out
            replace HL : Hid _ := HL.out.app1 (q := q * y) (by rw [HLN1.out, hEx4, hGx4]; exact hown4) HG.out (by simpa using hat4)
            clear HG hown4 hat4 hEx4 hGx4
            generalize hEx6 : W (q ^ z).num = Ex6 at *
            generalize hGx6 : S (q ^ z).den = Gx6 at *
            go_wp2_with fail
            refine (hpo _).mono ?_
            rintro e x6 ⟨rfl, hb⟩
            clear hpo
            have hu := bl_alloc hb (.cells #[.string Ex6, .string Gx6] 41)
            replace q0 := cell_below hu q0
            replace q1 := cell_below hu q1
            replace HL : Hid _ := HL.out.call hu
            clear hu hb
            have hown := HL.out.o2
            rw [HLN2.out] at hown
            have hnw : ∀ (j : Nat) (u : Value), ([Value.string Ex6, Value.string Gx6] : List Value)[j]? = some u → (x6.alloc (.cells #[.string Ex6, .string Gx6] 41)).cell? ((⟨x6.heap.size, 0, none⟩ : Addr).add j) = some u := by
              intro j u hj
              match j, hj with
              | 0, hj => simp at hj; subst hj; rw [row_add]; simp
              | 1, hj => simp at hj; subst hj; rw [row_add]; simp
              | j + 2, hj => simp at hj
            go_wp2_with (first | (at_builtin; refine wpList_append_own_at _ rfl _ _ 45 rfl (vu.heap.size + 1) 41 i0 (.agg #[.string ByteArray.empty, .string ByteArray.empty]) 2 32 Tryz.underlying45 hi hz0 hz1 hz2 rfl (by decide) _ k (frs l2) rfl hown ⟨x6.heap.size, 0, none⟩ 1 1 [.string Ex6, .string Gx6] rfl rfl hnw (by simp [Value.oneCell']) (by unfold maxLen; omega) (by omega) (Nat.succ_le_of_lt HL.out.sz) ?_))
            intro v2' x7 hown4 hgrow4 _ hat4
            have HG : Hid _ := hgrow4
            clear hgrow4 hnw hown
            replace q0 := HG.out.cell q0 HNE2.out
            replace q1 := HG.out.cell q1 HNE2.out
            replace HL : Hid _ := HL.out.app2 (q := q ^ z) (by rw [HLN2.out, hEx6, hGx6]; exact hown4) HG.out (by simpa using hat4)
            clear HG hown4 hat4 hEx6 hGx6
            go_wp2
            refine ⟨⟨k + 1, v1', v2', by omega, by simp, rfl, rfl, ?_⟩, by simp [intOf]; omega⟩
            rw [HS.out, HM1.out, HM2.out]
            exact HL.out
          · have ek : k = n1 := by omega
            subst ek
            rw [show qs.take k = qs from List.take_of_length_le (by omega)] at hLp
            have htx := (rtext_R (tot qs) wr ((Bd.tot HBD.out).mono (by rw [hnl]; omega))).mono (fun e w' ⟨h1, h2⟩ => (show e = _ ∧ Below wr.heap.size wr w' from ⟨h1, by subst h2; exact bl_alloc (Below.refl _ _) _⟩))
            unfold fr at htx
            have c0 := hLp.c0
            have c1' := hLp.c1
            have HL : Hid _ := hLp
            clear hLp
            generalize W (tot qs).num = C at *
            generalize S (tot qs).den = D at *
            go_wp2_with fail
            refine htx.mono ?_
            rintro e x9 ⟨rfl, hb⟩
            clear htx c0 c1'
            have HB9 : Hid (Below vu.heap.size vu x9) := (HL.out.call hb).bl
            obtain ⟨ass, cbs, es, hrows⟩ := row_own2 (HL.out.call hb).o1
            rw [List.length_map, hnl] at es
            subst es
            have HRS : Hid (Row x9 ass (frs (qs.map (· * y)))) := hrows
            clear hrows
            obtain ⟨ap, cbp, ew, hrowp⟩ := row_own2 (HL.out.call hb).o2
            rw [List.length_map, hnl] at ew
            subst ew
            have HRP : Hid _ := hrowp
            clear hrowp
            clear hb HL
            go_wp2_with fail
            have hT0 := HTt.out.below HB9.out
            have hX0 := HTs.out.below HB9.out
            have hTR := HTs.out.tr
            have hRL := HTs.out.hn
            have hRS : Row x9 ass (frs (qs.map (· * y))) := HRS.out
            clear HRS
            refine wp_region_any (by kernel_rfl) ?_
            refine wpAny_inv (fun L a v => ∃ s173 s174 s175 s176 s177 s178 s179 s180 s181 s182 s183 s184 s185 s186 s187 s188 s189 s190 s191 s192 s193 s194, a = ⟨#[Value.agg #[Value.slice a1 m1 c1, Value.slice b1 k d1], Value.string (R y), Value.int IntKind.i64 (z : Int), Value.pointer (some { block := w.heap.size, off := 0 }), undef, undef, Value.bool false, Value.pointer (some { block := w2.heap.size, off := 0 }), Value.int IntKind.i64 0, Value.pointer (some { block := w3.heap.size, off := 0 }), Value.int IntKind.i64 0, Value.string (R (tot qs)), Value.int IntKind.i64 0, Value.pointer (some { block := w5.heap.size, off := 0 }), Value.int IntKind.i64 0, Value.pointer (some { block := w6.heap.size, off := 0 }), Value.bool true, Value.bool true, Value.slice ao k cap, Value.pointer (some { block := vu.heap.size, off := 0 }), Value.slice ass k cbs, Value.slice ap k cbp, u22, u23, Value.agg #[Value.slice a1 m1 c1, Value.slice b1 k d1], Value.bool true, Value.bool false, Value.bool false, Value.string (R y), Value.int IntKind.i64 ((R y).size : Int), Value.bool (decide ((40 : Int) < ((R y).size : Int))), Value.bool (decide ((40 : Int) < ((R y).size : Int))), undef, Value.tuple #[Value.agg #[Value.slice a2' m1 c2', Value.slice b2' k d2'], Value.int IntKind.i64 0], Value.agg #[Value.slice a1 m1 c1, Value.slice b1 k d1], Value.string (R y), Value.tuple #[Value.agg #[Value.slice a2' m1 c2', Value.slice b2' k d2'], Value.int IntKind.i64 0], Value.agg #[Value.slice a2' m1 c2', Value.slice b2' k d2'], Value.int IntKind.i64 0, Value.tuple #[Value.agg #[Value.slice a3' m1 c3', Value.slice b3' k d3'], Value.int IntKind.i64 0], Value.agg #[Value.slice a1 m1 c1, Value.slice b1 k d1], Value.int IntKind.i64 (z : Int), Value.tuple #[Value.agg #[Value.slice a3' m1 c3', Value.slice b3' k d3'], Value.int IntKind.i64 0], Value.agg #[Value.slice a3' m1 c3', Value.slice b3' k d3'], Value.int IntKind.i64 0, Value.tuple #[Value.string (R (tot qs)), Value.int IntKind.i64 0], Value.agg #[Value.slice a1 m1 c1, Value.slice b1 k d1], Value.tuple #[Value.string (R (tot qs)), Value.int IntKind.i64 0], Value.string (R (tot qs)), Value.int IntKind.i64 0, Value.tuple #[Value.agg #[Value.slice a5' m1 c5', Value.slice b5' k d5'], Value.int IntKind.i64 0], Value.pointer (some { block := w.heap.size, off := 0 }), Value.slice a1 m1 c1, Value.string (R y), Value.tuple #[Value.agg #[Value.slice a5' m1 c5', Value.slice b5' k d5'], Value.int IntKind.i64 0], Value.agg #[Value.slice a5' m1 c5', Value.slice b5' k d5'], Value.int IntKind.i64 0, Value.tuple #[Value.agg #[Value.string P, Value.string Q], Value.bool true], Value.string (R y), Value.tuple #[Value.agg #[Value.string P, Value.string Q], Value.bool true], Value.agg #[Value.string P, Value.string Q], Value.bool true, Value.agg #[Value.slice a1 m1 c1, Value.slice b1 k d1], Value.bool true, Value.bool true, Value.bool false, Value.bool false, Value.pointer (some { block := w.heap.size, off := 0 }), Value.slice a1 m1 c1, Value.bool true, Value.bool false, Value.bool false, undef, undef, undef, undef, undef, undef, undef, undef, Value.pointer (some { block := w.heap.size, off := 0 }), Value.slice a1 m1 c1, Value.int IntKind.i64 (k : Int), Value.int IntKind.i64 (k : Int), Value.bool false, u85, u86, u87, u88, u89, Value.agg #[Value.slice a5' m1 c5', Value.slice b5' k d5'], Value.pointer (some { block := w.heap.size, off := 0 }), Value.slice a1 m1 c1, Value.slice ao k cap, Value.agg #[Value.slice a17 m1 c17, Value.slice b17 k d17], Value.bool true, Value.bool false, Value.bool false, Value.int IntKind.i64 0, Value.bool false, Value.bool false, Value.bool true, Value.bool false, undef, undef, undef, undef, undef, undef, undef, undef, undef, undef, undef, undef, undef, undef, undef, undef, undef, undef, undef, undef, undef, undef, undef, undef, undef, undef, undef, undef, undef, Value.agg #[Value.string { data := #[48] }, Value.string { data := #[49] }], Value.pointer (some { block := w.heap.size, off := 1 }), Value.slice b1 k d1, Value.int IntKind.i64 (k : Int), Value.int IntKind.i64 (k : Int), Value.bool false, u138, u139, u140, u141, u142, u143, u144, u145, u146, u147, u148, u149, u150, u151, u152, u153, u154, u155, u156, u157, u158, u159, u160, u161, u162, u163, u164, Value.string (R (tot qs)), Value.agg #[Value.string C, Value.string D], Value.string (R (tot qs)), Value.bool false, Value.bool false, Value.int IntKind.i64 0, Value.bool false, Value.bool false, s173, s174, s175, s176, s177, s178, s179, s180, s181, s182, s183, s184, s185, s186, s187, s188, s189, s190, s191, s192, s193, s194, undef, undef, undef, undef, undef, undef, undef, undef, undef, undef, undef, undef, undef, undef, undef, undef, undef, undef, undef, undef, undef, undef, undef, undef, undef, undef, undef, undef, undef, undef], []⟩ ∧ Ggi x9 (.agg #[.slice a2' m1 c2', .slice b2' k d2']) (.pointer (some ⟨w.heap.size, 0, none⟩)) (.slice a1 m1 c1) (.slice ass k cbs) (Nt zs m1 k (qs.map (· * y)) (40 + 40)) L v s173 s174 s175 s176 s177 s178 s179 s180 s181 s182 s183 s184 s185 s186 s187 s188 s189 s190 s191 s192 s193 s194) ?_ ?_ _ _ _ _ (by decide) ?_
            · intro L a v i hI hi
              obtain ⟨s173, s174, s175, s176, s177, s178, s179, s180, s181, s182, s183, s184, s185, s186, s187, s188, s189, s190, s191, s192, s193, s194, rfl, hP⟩ := hI
              obtain ⟨hu, o, ho, haf⟩ := mem_ready.1 hi
              have hlt : i < 22 := (Array.getElem?_eq_some_iff.1 ho).1
              have k0 := cell_below (bl_trans HB9.out hP.bl) K10
              have k1 := cell_below (bl_trans HB9.out hP.bl) K11
              have k4 := cell_below (bl_trans HB9.out hP.bl) Ks0
              have k5 := cell_below (bl_trans HB9.out hP.bl) Ks1
              rcases (by omega : i = 0 ∨ i = 1 ∨ i = 2 ∨ i = 3 ∨ i = 4 ∨ i = 5 ∨ i = 6 ∨ i = 7 ∨ i = 8 ∨ i = 9 ∨ i = 10 ∨ i = 11 ∨ i = 12 ∨ i = 13 ∨ i = 14 ∨ i = 15 ∨ i = 16 ∨ i = 17 ∨ i = 18 ∨ i = 19 ∨ i = 20 ∨ i = 21) with rfl | rfl | rfl | rfl | rfl | rfl | rfl | rfl | rfl | rfl | rfl | rfl | rfl | rfl | rfl | rfl | rfl | rfl | rfl | rfl | rfl | rfl
              all_goals (simp only [List.getElem?_toArray, List.getElem?_cons_zero, List.getElem?_cons_succ, Option.some.injEq] at ho; subst ho)
              · refine step_run rfl rfl ?_
                have hP2 := hP.t0
                go_simp
                exact ⟨_, _, _, _, _, _, _, _, _, _, _, _, _, _, _, _, _, _, _, _, _, _, ⟨rfl, rfl, rfl, rfl, rfl, rfl, rfl, rfl, rfl, rfl, rfl, rfl, rfl, rfl, rfl, rfl, rfl, rfl, rfl, rfl, rfl, rfl⟩, hP2⟩
              · have g0 := hP.h0 (haf { on := 0, ground := .data } (by simp) rfl)
                subst g0
                refine step_run rfl rfl ?_
                have hP2 := hP.t1
                go_simp
                exact ⟨_, _, _, _, _, _, _, _, _, _, _, _, _, _, _, _, _, _, _, _, _, _, ⟨rfl, rfl, rfl, rfl, rfl, rfl, rfl, rfl, rfl, rfl, rfl, rfl, rfl, rfl, rfl, rfl, rfl, rfl, rfl, rfl, rfl, rfl⟩, hP2⟩
              · have g1 := hP.h1 (haf { on := 1, ground := .guard } (by simp) rfl)
                subst g1
                refine step_runw rfl (by first | rfl | go_simp) ?_
                have hP2 := hP.t2
                go_simp
                exact ⟨_, _, _, _, _, _, _, _, _, _, _, _, _, _, _, _, _, _, _, _, _, _, ⟨rfl, rfl, rfl, rfl, rfl, rfl, rfl, rfl, rfl, rfl, rfl, rfl, rfl, rfl, rfl, rfl, rfl, rfl, rfl, rfl, rfl, rfl⟩, hP2⟩
              · have g1 := hP.h1 (haf { on := 1, ground := .guard } (by simp) rfl)
                subst g1
                refine step_runw rfl (by first | rfl | go_simp) ?_
                have hP2 := hP.t3
                go_simp
                exact ⟨_, _, _, _, _, _, _, _, _, _, _, _, _, _, _, _, _, _, _, _, _, _, ⟨rfl, rfl, rfl, rfl, rfl, rfl, rfl, rfl, rfl, rfl, rfl, rfl, rfl, rfl, rfl, rfl, rfl, rfl, rfl, rfl, rfl, rfl⟩, hP2⟩
              · have g3 := hP.h3 (haf { on := 3, ground := .data } (by simp) rfl)
                have g1 := hP.h1 (haf { on := 1, ground := .guard } (by simp) rfl)
                subst g3 g1
                refine step_runw rfl (by first | rfl | go_simp) ?_
                have hP2 := hP.t4
                go_simp
                exact ⟨_, _, _, _, _, _, _, _, _, _, _, _, _, _, _, _, _, _, _, _, _, _, ⟨rfl, rfl, rfl, rfl, rfl, rfl, rfl, rfl, rfl, rfl, rfl, rfl, rfl, rfl, rfl, rfl, rfl, rfl, rfl, rfl, rfl, rfl⟩, hP2⟩
              · have g1 := hP.h1 (haf { on := 1, ground := .guard } (by simp) rfl)
                subst g1
                refine step_runw rfl (by first | rfl | go_simp) ?_
                have hP2 := hP.t5
                go_simp
                exact ⟨_, _, _, _, _, _, _, _, _, _, _, _, _, _, _, _, _, _, _, _, _, _, ⟨rfl, rfl, rfl, rfl, rfl, rfl, rfl, rfl, rfl, rfl, rfl, rfl, rfl, rfl, rfl, rfl, rfl, rfl, rfl, rfl, rfl, rfl⟩, hP2⟩
              · have g4 := hP.h4 (haf { on := 4, ground := .data } (by simp) rfl)
                have g5 := hP.h5 (haf { on := 5, ground := .data } (by simp) rfl)
                have g1 := hP.h1 (haf { on := 1, ground := .guard } (by simp) rfl)
                subst g4 g5 g1
                refine step_runw rfl (by first | rfl | go_simp) ?_
                unfold Oper.wp
                rw [run_two cf27 (.tmp 177) (.tmp 178) 22 45 rfl _ _ rfl rfl]
                refine (zof c1 cbs (hT0.below hP.bl).tm.s hTR (hRS.below hP.bl) hml hRL (by omega)).mono ?_
                rintro e v2 ⟨y9, rfl, hN9, hb⟩
                have hP2 := hP.t6 hb hN9
                go_simp
                exact ⟨_, _, _, _, _, _, _, _, _, _, _, _, _, _, _, _, _, _, _, _, _, _, ⟨rfl, rfl, rfl, rfl, rfl, rfl, rfl, rfl, rfl, rfl, rfl, rfl, rfl, rfl, rfl, rfl, rfl, rfl, rfl, rfl, rfl, rfl⟩, hP2⟩
              · have g2 := hP.h2 (haf { on := 2, ground := .data } (by simp) rfl)
                have g6 := hP.h6 (haf { on := 6, ground := .data } (by simp) rfl)
                have g1 := hP.h1 (haf { on := 1, ground := .guard } (by simp) rfl)
                obtain ⟨a35, c35, b35, d35, g6, hT9⟩ := g6
                subst g2 g1 g6
                refine step_runw rfl (by first | rfl | go_simp) ?_
                unfold Oper.wp
                rw [run_two cf18 (.tmp 175) (.tmp 179) 25 25 rfl _ _ rfl rfl]
                refine (zeq c2' d2' c35 d35 (hX0.below hP.bl) hT9 rfl).mono ?_
                rintro e v2 ⟨rfl, hb⟩
                have hP2 := hP.t7 hb
                go_simp
                exact ⟨_, _, _, _, _, _, _, _, _, _, _, _, _, _, _, _, _, _, _, _, _, _, ⟨rfl, rfl, rfl, rfl, rfl, rfl, rfl, rfl, rfl, rfl, rfl, rfl, rfl, rfl, rfl, rfl, rfl, rfl, rfl, rfl, rfl, rfl⟩, hP2⟩
              · have g7 := hP.h7 (haf { on := 7, ground := .data } (by simp) rfl)
                have g1 := hP.h1 (haf { on := 1, ground := .guard } (by simp) rfl)
                subst g7 g1
                refine step_runw rfl (by first | rfl | go_simp) ?_
                have hP2 := hP.t8
                go_simp
                exact ⟨_, _, _, _, _, _, _, _, _, _, _, _, _, _, _, _, _, _, _, _, _, _, ⟨rfl, rfl, rfl, rfl, rfl, rfl, rfl, rfl, rfl, rfl, rfl, rfl, rfl, rfl, rfl, rfl, rfl, rfl, rfl, rfl, rfl, rfl⟩, hP2⟩
              · have g8 := hP.h8 (haf { on := 8, ground := .data } (by simp) rfl)
                have g1 := hP.h1 (haf { on := 1, ground := .guard } (by simp) rfl)
                subst g8 g1
                refine step_runw rfl (by first | rfl | go_simp) ?_
                have hP2 := hP.t9
                go_simp
                exact ⟨_, _, _, _, _, _, _, _, _, _, _, _, _, _, _, _, _, _, _, _, _, _, ⟨rfl, rfl, rfl, rfl, rfl, rfl, rfl, rfl, rfl, rfl, rfl, rfl, rfl, rfl, rfl, rfl, rfl, rfl, rfl, rfl, rfl, rfl⟩, hP2⟩
              · have g9 := hP.h9 (haf { on := 9, ground := .guard } (by simp) rfl)
                subst g9
                refine step_runw rfl (by first | rfl | go_simp) ?_
                have hP2 := hP.t10
                go_simp
                exact ⟨_, _, _, _, _, _, _, _, _, _, _, _, _, _, _, _, _, _, _, _, _, _, ⟨rfl, rfl, rfl, rfl, rfl, rfl, rfl, rfl, rfl, rfl, rfl, rfl, rfl, rfl, rfl, rfl, rfl, rfl, rfl, rfl, rfl, rfl⟩, hP2⟩
              · have g10 := hP.h10 (haf { on := 10, ground := .data } (by simp) rfl)
                have g9 := hP.h9 (haf { on := 9, ground := .guard } (by simp) rfl)
                subst g10 g9
                refine step_runw rfl (by first | rfl | go_simp) ?_
                have hP2 := hP.t11
                go_simp
                exact ⟨_, _, _, _, _, _, _, _, _, _, _, _, _, _, _, _, _, _, _, _, _, _, ⟨rfl, rfl, rfl, rfl, rfl, rfl, rfl, rfl, rfl, rfl, rfl, rfl, rfl, rfl, rfl, rfl, rfl, rfl, rfl, rfl, rfl, rfl⟩, hP2⟩
              · have g9 := hP.h9 (haf { on := 9, ground := .data } (by simp) rfl)
                have g11 := hP.h11 (haf { on := 11, ground := .data } (by simp) rfl)
                have g1 := hP.h1 (haf { on := 1, ground := .guard } (by simp) rfl)
                subst g9 g11 g1
                refine step_runw rfl (by first | rfl | go_simp) ?_
                have hP2 := hP.t12
                go_simp
                exact ⟨_, _, _, _, _, _, _, _, _, _, _, _, _, _, _, _, _, _, _, _, _, _, ⟨rfl, rfl, rfl, rfl, rfl, rfl, rfl, rfl, rfl, rfl, rfl, rfl, rfl, rfl, rfl, rfl, rfl, rfl, rfl, rfl, rfl, rfl⟩, hP2⟩
              · have g1 := hP.h1 (haf { on := 1, ground := .data } (by simp) rfl)
                have g12 := hP.h12 (haf { on := 12, ground := .data } (by simp) rfl)
                subst g1 g12
                refine step_run rfl rfl ?_
                have hP2 := hP.t13
                go_simp
                exact ⟨_, _, _, _, _, _, _, _, _, _, _, _, _, _, _, _, _, _, _, _, _, _, ⟨rfl, rfl, rfl, rfl, rfl, rfl, rfl, rfl, rfl, rfl, rfl, rfl, rfl, rfl, rfl, rfl, rfl, rfl, rfl, rfl, rfl, rfl⟩, hP2⟩
              · have g13 := hP.h13 (haf { on := 13, ground := .data } (by simp) rfl)
                subst g13
                refine step_run rfl rfl ?_
                have hP2 := hP.t14
                go_simp
                exact ⟨_, _, _, _, _, _, _, _, _, _, _, _, _, _, _, _, _, _, _, _, _, _, ⟨rfl, rfl, rfl, rfl, rfl, rfl, rfl, rfl, rfl, rfl, rfl, rfl, rfl, rfl, rfl, rfl, rfl, rfl, rfl, rfl, rfl, rfl⟩, hP2⟩
              · have g14 := hP.h14 (haf { on := 14, ground := .guard } (by simp) rfl)
                subst g14
                refine step_runw rfl (by first | rfl | go_simp) ?_
                have hP2 := hP.t15
                go_simp
                exact ⟨_, _, _, _, _, _, _, _, _, _, _, _, _, _, _, _, _, _, _, _, _, _, ⟨rfl, rfl, rfl, rfl, rfl, rfl, rfl, rfl, rfl, rfl, rfl, rfl, rfl, rfl, rfl, rfl, rfl, rfl, rfl, rfl, rfl, rfl⟩, hP2⟩
              · have g15 := hP.h15 (haf { on := 15, ground := .data } (by simp) rfl)
                have g14 := hP.h14 (haf { on := 14, ground := .guard } (by simp) rfl)
                subst g15 g14
                refine step_runw rfl (by first | rfl | go_simp) ?_
                have hP2 := hP.t16
                go_simp
                exact ⟨_, _, _, _, _, _, _, _, _, _, _, _, _, _, _, _, _, _, _, _, _, _, ⟨rfl, rfl, rfl, rfl, rfl, rfl, rfl, rfl, rfl, rfl, rfl, rfl, rfl, rfl, rfl, rfl, rfl, rfl, rfl, rfl, rfl, rfl⟩, hP2⟩
              · have g16 := hP.h16 (haf { on := 16, ground := .data } (by simp) rfl)
                have g14 := hP.h14 (haf { on := 14, ground := .guard } (by simp) rfl)
                subst g16 g14
                refine step_runw rfl (by first | rfl | go_simp) ?_
                have hP2 := hP.t17
                go_simp
                exact ⟨_, _, _, _, _, _, _, _, _, _, _, _, _, _, _, _, _, _, _, _, _, _, ⟨rfl, rfl, rfl, rfl, rfl, rfl, rfl, rfl, rfl, rfl, rfl, rfl, rfl, rfl, rfl, rfl, rfl, rfl, rfl, rfl, rfl, rfl⟩, hP2⟩
              · have g17 := hP.h17 (haf { on := 17, ground := .guard } (by simp) rfl)
                subst g17
                refine step_skip rfl (by first | rfl | go_simp) ?_
                have hP2 := hP.t18
                go_simp
                exact ⟨_, _, _, _, _, _, _, _, _, _, _, _, _, _, _, _, _, _, _, _, _, _, ⟨rfl, rfl, rfl, rfl, rfl, rfl, rfl, rfl, rfl, rfl, rfl, rfl, rfl, rfl, rfl, rfl, rfl, rfl, rfl, rfl, rfl, rfl⟩, hP2⟩
              · have g18 := hP.h18 (haf { on := 18, ground := .data } (by simp) rfl)
                have g17 := hP.h17 (haf { on := 17, ground := .guard } (by simp) rfl)
                subst g18 g17
                refine step_skip rfl (by first | rfl | go_simp) ?_
                have hP2 := hP.t19
                go_simp
                exact ⟨_, _, _, _, _, _, _, _, _, _, _, _, _, _, _, _, _, _, _, _, _, _, ⟨rfl, rfl, rfl, rfl, rfl, rfl, rfl, rfl, rfl, rfl, rfl, rfl, rfl, rfl, rfl, rfl, rfl, rfl, rfl, rfl, rfl, rfl⟩, hP2⟩
              · have g17 := hP.h17 (haf { on := 17, ground := .data } (by simp) rfl)
                have g19 := hP.h19 (haf { on := 19, ground := .data } (by simp) rfl)
                have g14 := hP.h14 (haf { on := 14, ground := .guard } (by simp) rfl)
                subst g17 g19 g14
                refine step_runw rfl (by first | rfl | go_simp) ?_
                have hP2 := hP.t20
                go_simp
                exact ⟨_, _, _, _, _, _, _, _, _, _, _, _, _, _, _, _, _, _, _, _, _, _, ⟨rfl, rfl, rfl, rfl, rfl, rfl, rfl, rfl, rfl, rfl, rfl, rfl, rfl, rfl, rfl, rfl, rfl, rfl, rfl, rfl, rfl, rfl⟩, hP2⟩
              · have g14 := hP.h14 (haf { on := 14, ground := .data } (by simp) rfl)
                have g20 := hP.h20 (haf { on := 20, ground := .data } (by simp) rfl)
                subst g14 g20
                refine step_run rfl rfl ?_
                have hP2 := hP.t21
                go_simp
                exact ⟨_, _, _, _, _, _, _, _, _, _, _, _, _, _, _, _, _, _, _, _, _, _, ⟨rfl, rfl, rfl, rfl, rfl, rfl, rfl, rfl, rfl, rfl, rfl, rfl, rfl, rfl, rfl, rfl, rfl, rfl, rfl, rfl, rfl, rfl⟩, hP2⟩
            · intro L a v hI hr
              obtain ⟨s173, s174, s175, s176, s177, s178, s179, s180, s181, s182, s183, s184, s185, s186, s187, s188, s189, s190, s191, s192, s193, s194, rfl, hP⟩ := hI
              have hno := List.eq_nil_iff_forall_not_mem.1 hr
              have g0 : on L 0 := Decidable.byContradiction fun hc => hno 0 (mem_ready.2 ⟨off (by rw [hP.sz]; decide) hc, _, rfl, fun e he => by simp at he⟩)
              have g1 : on L 1 := by
                refine Decidable.byContradiction fun hc => hno 1 (mem_ready.2 ⟨off (by rw [hP.sz]; decide) hc, _, rfl, ?_⟩)
                intro e he hb
                simp at he
                subst he
                all_goals first | assumption | exact absurd hb (by decide)
              have g2 : on L 2 := by
                refine Decidable.byContradiction fun hc => hno 2 (mem_ready.2 ⟨off (by rw [hP.sz]; decide) hc, _, rfl, ?_⟩)
                intro e he hb
                simp at he
                subst he
                all_goals first | assumption | exact absurd hb (by decide)
              have g3 : on L 3 := by
                refine Decidable.byContradiction fun hc => hno 3 (mem_ready.2 ⟨off (by rw [hP.sz]; decide) hc, _, rfl, ?_⟩)
                intro e he hb
                simp at he
                subst he
                all_goals first | assumption | exact absurd hb (by decide)
              have g4 : on L 4 := by
                refine Decidable.byContradiction fun hc => hno 4 (mem_ready.2 ⟨off (by rw [hP.sz]; decide) hc, _, rfl, ?_⟩)
                intro e he hb
                simp at he
                rcases he with rfl | rfl
                all_goals first | assumption | exact absurd hb (by decide)
              have g5 : on L 5 := by
                refine Decidable.byContradiction fun hc => hno 5 (mem_ready.2 ⟨off (by rw [hP.sz]; decide) hc, _, rfl, ?_⟩)
                intro e he hb
                simp at he
                subst he
                all_goals first | assumption | exact absurd hb (by decide)
              have g6 : on L 6 := by
                refine Decidable.byContradiction fun hc => hno 6 (mem_ready.2 ⟨off (by rw [hP.sz]; decide) hc, _, rfl, ?_⟩)
                intro e he hb
                simp at he
                rcases he with rfl | rfl | rfl | rfl
                all_goals first | assumption | exact absurd hb (by decide)
              have g7 : on L 7 := by
                refine Decidable.byContradiction fun hc => hno 7 (mem_ready.2 ⟨off (by rw [hP.sz]; decide) hc, _, rfl, ?_⟩)
                intro e he hb
                simp at he
                rcases he with rfl | rfl | rfl | rfl
                all_goals first | assumption | exact absurd hb (by decide)
              have g8 : on L 8 := by
                refine Decidable.byContradiction fun hc => hno 8 (mem_ready.2 ⟨off (by rw [hP.sz]; decide) hc, _, rfl, ?_⟩)
                intro e he hb
                simp at he
                rcases he with rfl | rfl
                all_goals first | assumption | exact absurd hb (by decide)
              have g9 : on L 9 := by
                refine Decidable.byContradiction fun hc => hno 9 (mem_ready.2 ⟨off (by rw [hP.sz]; decide) hc, _, rfl, ?_⟩)
                intro e he hb
                simp at he
                rcases he with rfl | rfl | rfl
                all_goals first | assumption | exact absurd hb (by decide)
              have g10 : on L 10 := by
                refine Decidable.byContradiction fun hc => hno 10 (mem_ready.2 ⟨off (by rw [hP.sz]; decide) hc, _, rfl, ?_⟩)
                intro e he hb
                simp at he
                subst he
                all_goals first | assumption | exact absurd hb (by decide)
              have g11 : on L 11 := by
                refine Decidable.byContradiction fun hc => hno 11 (mem_ready.2 ⟨off (by rw [hP.sz]; decide) hc, _, rfl, ?_⟩)
                intro e he hb
                simp at he
                rcases he with rfl | rfl
                all_goals first | assumption | exact absurd hb (by decide)
              have g12 : on L 12 := by
                refine Decidable.byContradiction fun hc => hno 12 (mem_ready.2 ⟨off (by rw [hP.sz]; decide) hc, _, rfl, ?_⟩)
                intro e he hb
                simp at he
                rcases he with rfl | rfl | rfl
                all_goals first | assumption | exact absurd hb (by decide)
              have g13 : on L 13 := by
                refine Decidable.byContradiction fun hc => hno 13 (mem_ready.2 ⟨off (by rw [hP.sz]; decide) hc, _, rfl, ?_⟩)
                intro e he hb
                simp at he
                rcases he with rfl | rfl
                all_goals first | assumption | exact absurd hb (by decide)
              have g14 : on L 14 := by
                refine Decidable.byContradiction fun hc => hno 14 (mem_ready.2 ⟨off (by rw [hP.sz]; decide) hc, _, rfl, ?_⟩)
                intro e he hb
                simp at he
                rcases he with rfl | rfl
                all_goals first | assumption | exact absurd hb (by decide)
              have g15 : on L 15 := by
                refine Decidable.byContradiction fun hc => hno 15 (mem_ready.2 ⟨off (by rw [hP.sz]; decide) hc, _, rfl, ?_⟩)
                intro e he hb
                simp at he
                subst he
                all_goals first | assumption | exact absurd hb (by decide)
              have g16 : on L 16 := by
                refine Decidable.byContradiction fun hc => hno 16 (mem_ready.2 ⟨off (by rw [hP.sz]; decide) hc, _, rfl, ?_⟩)
                intro e he hb
                simp at he
                rcases he with rfl | rfl
                all_goals first | assumption | exact absurd hb (by decide)
              have g17 : on L 17 := by
                refine Decidable.byContradiction fun hc => hno 17 (mem_ready.2 ⟨off (by rw [hP.sz]; decide) hc, _, rfl, ?_⟩)
                intro e he hb
                simp at he
                rcases he with rfl | rfl | rfl
                all_goals first | assumption | exact absurd hb (by decide)
              have g18 : on L 18 := by
                refine Decidable.byContradiction fun hc => hno 18 (mem_ready.2 ⟨off (by rw [hP.sz]; decide) hc, _, rfl, ?_⟩)
                intro e he hb
                simp at he
                subst he
                all_goals first | assumption | exact absurd hb (by decide)
              have g19 : on L 19 := by
                refine Decidable.byContradiction fun hc => hno 19 (mem_ready.2 ⟨off (by rw [hP.sz]; decide) hc, _, rfl, ?_⟩)
                intro e he hb
                simp at he
                rcases he with rfl | rfl
                all_goals first | assumption | exact absurd hb (by decide)
              have g20 : on L 20 := by
                refine Decidable.byContradiction fun hc => hno 20 (mem_ready.2 ⟨off (by rw [hP.sz]; decide) hc, _, rfl, ?_⟩)
                intro e he hb
                simp at he
                rcases he with rfl | rfl | rfl
                all_goals first | assumption | exact absurd hb (by decide)
              have g21 : on L 21 := by
                refine Decidable.byContradiction fun hc => hno 21 (mem_ready.2 ⟨off (by rw [hP.sz]; decide) hc, _, rfl, ?_⟩)
                intro e he hb
                simp at he
                rcases he with rfl | rfl
                all_goals first | assumption | exact absurd hb (by decide)
              have e0 := hP.h0 g0
              have e1 := hP.h1 g1
              have e2 := hP.h2 g2
              have e3 := hP.h3 g3
              have e4 := hP.h4 g4
              have e5 := hP.h5 g5
              obtain ⟨a35, c35, b35, d35, e6, hT9⟩ := hP.h6 g6
              have e7 := hP.h7 g7
              have e8 := hP.h8 g8
              have e9 := hP.h9 g9
              have e10 := hP.h10 g10
              have e11 := hP.h11 g11
              have e12 := hP.h12 g12
              have e13 := hP.h13 g13
              have e14 := hP.h14 g14
              have e15 := hP.h15 g15
              have e16 := hP.h16 g16
              have e17 := hP.h17 g17
              have e18 := hP.h18 g18
              have e19 := hP.h19 g19
              have e20 := hP.h20 g20
              have e21 := hP.h21 g21
              have hBL := hP.bl
              clear hP g0 g1 g2 g3 g4 g5 g6 g7 g8 g9 g10 g11 g12 g13 g14 g15 g16 g17 g18 g19 g20 g21 hr hno
              subst e0 e1 e2 e3 e4 e5 e6 e7 e8 e9 e10 e11 e12 e13 e14 e15 e16 e17 e18 e19 e20 e21
              generalize hx10 : v = x10 at *
              clear hx10
              replace HB9 : Hid _ := bl_trans HB9.out hBL
              replace HRP : Hid _ := Row.below HRP.out hBL
              clear hBL hT9 hT0 hX0 hTR hRL hRS HTs Ks0 Ks1
              go_wp2_with fail
              have hT0 := HTt.out.below HB9.out
              have hX0 := HTp.out.below HB9.out
              have hTR := HTp.out.tr
              have hRL := HTp.out.hn
              have hRP : Row x10 ap (frs (qs.map (· ^ z))) := HRP.out
              refine wp_region_any (by kernel_rfl) ?_
              refine wpAny_inv (fun L a v => ∃ s6 s212 s213 s214 s215 s216 s217 s218 s219 s220 s221 s222 s223 s224, a = ⟨#[Value.agg #[Value.slice a1 m1 c1, Value.slice b1 k d1], Value.string (R y), Value.int IntKind.i64 (z : Int), Value.pointer (some { block := w.heap.size, off := 0 }), undef, undef, s6, Value.pointer (some { block := w2.heap.size, off := 0 }), Value.int IntKind.i64 0, Value.pointer (some { block := w3.heap.size, off := 0 }), Value.int IntKind.i64 0, Value.string (R (tot qs)), Value.int IntKind.i64 0, Value.pointer (some { block := w5.heap.size, off := 0 }), Value.int IntKind.i64 0, Value.pointer (some { block := w6.heap.size, off := 0 }), Value.bool true, Value.bool true, Value.slice ao k cap, Value.pointer (some { block := vu.heap.size, off := 0 }), Value.slice ass k cbs, Value.slice ap k cbp, u22, u23, Value.agg #[Value.slice a1 m1 c1, Value.slice b1 k d1], Value.bool true, Value.bool false, Value.bool false, Value.string (R y), Value.int IntKind.i64 ((R y).size : Int), Value.bool (decide ((40 : Int) < ((R y).size : Int))), Value.bool (decide ((40 : Int) < ((R y).size : Int))), undef, Value.tuple #[Value.agg #[Value.slice a2' m1 c2', Value.slice b2' k d2'], Value.int IntKind.i64 0], Value.agg #[Value.slice a1 m1 c1, Value.slice b1 k d1], Value.string (R y), Value.tuple #[Value.agg #[Value.slice a2' m1 c2', Value.slice b2' k d2'], Value.int IntKind.i64 0], Value.agg #[Value.slice a2' m1 c2', Value.slice b2' k d2'], Value.int IntKind.i64 0, Value.tuple #[Value.agg #[Value.slice a3' m1 c3', Value.slice b3' k d3'], Value.int IntKind.i64 0], Value.agg #[Value.slice a1 m1 c1, Value.slice b1 k d1], Value.int IntKind.i64 (z : Int), Value.tuple #[Value.agg #[Value.slice a3' m1 c3', Value.slice b3' k d3'], Value.int IntKind.i64 0], Value.agg #[Value.slice a3' m1 c3', Value.slice b3' k d3'], Value.int IntKind.i64 0, Value.tuple #[Value.string (R (tot qs)), Value.int IntKind.i64 0], Value.agg #[Value.slice a1 m1 c1, Value.slice b1 k d1], Value.tuple #[Value.string (R (tot qs)), Value.int IntKind.i64 0], Value.string (R (tot qs)), Value.int IntKind.i64 0, Value.tuple #[Value.agg #[Value.slice a5' m1 c5', Value.slice b5' k d5'], Value.int IntKind.i64 0], Value.pointer (some { block := w.heap.size, off := 0 }), Value.slice a1 m1 c1, Value.string (R y), Value.tuple #[Value.agg #[Value.slice a5' m1 c5', Value.slice b5' k d5'], Value.int IntKind.i64 0], Value.agg #[Value.slice a5' m1 c5', Value.slice b5' k d5'], Value.int IntKind.i64 0, Value.tuple #[Value.agg #[Value.string P, Value.string Q], Value.bool true], Value.string (R y), Value.tuple #[Value.agg #[Value.string P, Value.string Q], Value.bool true], Value.agg #[Value.string P, Value.string Q], Value.bool true, Value.agg #[Value.slice a1 m1 c1, Value.slice b1 k d1], Value.bool true, Value.bool true, Value.bool false, Value.bool false, Value.pointer (some { block := w.heap.size, off := 0 }), Value.slice a1 m1 c1, Value.bool true, Value.bool false, Value.bool false, undef, undef, undef, undef, undef, undef, undef, undef, Value.pointer (some { block := w.heap.size, off := 0 }), Value.slice a1 m1 c1, Value.int IntKind.i64 (k : Int), Value.int IntKind.i64 (k : Int), Value.bool false, u85, u86, u87, u88, u89, Value.agg #[Value.slice a5' m1 c5', Value.slice b5' k d5'], Value.pointer (some { block := w.heap.size, off := 0 }), Value.slice a1 m1 c1, Value.slice ao k cap, Value.agg #[Value.slice a17 m1 c17, Value.slice b17 k d17], Value.bool true, Value.bool false, Value.bool false, Value.int IntKind.i64 0, Value.bool false, Value.bool false, Value.bool true, Value.bool false, undef, undef, undef, undef, undef, undef, undef, undef, undef, undef, undef, undef, undef, undef, undef, undef, undef, undef, undef, undef, undef, undef, undef, undef, undef, undef, undef, undef, undef, Value.agg #[Value.string { data := #[48] }, Value.string { data := #[49] }], Value.pointer (some { block := w.heap.size, off := 1 }), Value.slice b1 k d1, Value.int IntKind.i64 (k : Int), Value.int IntKind.i64 (k : Int), Value.bool false, u138, u139, u140, u141, u142, u143, u144, u145, u146, u147, u148, u149, u150, u151, u152, u153, u154, u155, u156, u157, u158, u159, u160, u161, u162, u163, u164, Value.string (R (tot qs)), Value.agg #[Value.string C, Value.string D], Value.string (R (tot qs)), Value.bool false, Value.bool false, Value.int IntKind.i64 0, Value.bool false, Value.bool false, Value.bool true, Value.bool true, Value.agg #[Value.slice a2' m1 c2', Value.slice b2' k d2'], Value.pointer (some { block := w.heap.size, off := 0 }), Value.slice a1 m1 c1, Value.slice ass k cbs, Value.agg #[Value.slice a35 m1 c35, Value.slice b35 k d35], Value.bool true, Value.bool false, Value.bool false, Value.int IntKind.i64 0, Value.bool false, Value.bool false, Value.bool false, Value.bool false, Value.bool true, Value.bool false, Value.bool false, undef, undef, Value.bool false, Value.bool false, Value.int IntKind.i64 (z : Int), Value.bool (decide ((z : Int) < 0)), Value.bool (decide ((z : Int) < 0)), Value.int IntKind.i64 (z : Int), Value.bool (decide ((6 : Int) < (z : Int))), Value.bool (decide ((z : Int) < 0) || decide ((6 : Int) < (z : Int))), undef, undef, undef, undef, undef, undef, undef, undef, undef, undef, undef, s212, s213, s214, s215, s216, s217, s218, s219, s220, s221, s222, s223, s224], []⟩ ∧ Ge x10 (.agg #[.slice a3' m1 c3', .slice b3' k d3']) (.pointer (some ⟨w.heap.size, 0, none⟩)) (.slice a1 m1 c1) (.slice ap k cbp) (Nt zs m1 k (qs.map (· ^ z)) (z * 40 + 1)) L v s6 s212 s213 s214 s215 s216 s217 s218 s219 s220 s221 s222 s223 s224) ?_ ?_ _ _ _ _ (by decide) ?_
              · intro L a v i hI hi
                obtain ⟨s6, s212, s213, s214, s215, s216, s217, s218, s219, s220, s221, s222, s223, s224, rfl, hP⟩ := hI
                obtain ⟨hu, o, ho, haf⟩ := mem_ready.1 hi
                have hlt : i < 14 := (Array.getElem?_eq_some_iff.1 ho).1
                have k0 := cell_below (bl_trans HB9.out hP.bl) K10
                have k1 := cell_below (bl_trans HB9.out hP.bl) K11
                have k4 := cell_below (bl_trans HB9.out hP.bl) Kp0
                have k5 := cell_below (bl_trans HB9.out hP.bl) Kp1
                rcases (by omega : i = 0 ∨ i = 1 ∨ i = 2 ∨ i = 3 ∨ i = 4 ∨ i = 5 ∨ i = 6 ∨ i = 7 ∨ i = 8 ∨ i = 9 ∨ i = 10 ∨ i = 11 ∨ i = 12 ∨ i = 13) with rfl | rfl | rfl | rfl | rfl | rfl | rfl | rfl | rfl | rfl | rfl | rfl | rfl | rfl
                all_goals (simp only [List.getElem?_toArray, List.getElem?_cons_zero, List.getElem?_cons_succ, Option.some.injEq] at ho; subst ho)
                · refine step_run rfl rfl ?_
                  have hP2 := hP.t0
                  go_simp
                  exact ⟨_, _, _, _, _, _, _, _, _, _, _, _, _, _, ⟨rfl, rfl, rfl, rfl, rfl, rfl, rfl, rfl, rfl, rfl, rfl, rfl, rfl, rfl⟩, hP2⟩
                · refine step_run rfl rfl ?_
                  have hP2 := hP.t1
                  go_simp
                  exact ⟨_, _, _, _, _, _, _, _, _, _, _, _, _, _, ⟨rfl, rfl, rfl, rfl, rfl, rfl, rfl, rfl, rfl, rfl, rfl, rfl, rfl, rfl⟩, hP2⟩
                · have g1 := hP.h1 (haf { on := 1, ground := .data } (by simp) rfl)
                  subst g1
                  refine step_run rfl rfl ?_
                  have hP2 := hP.t2
                  go_simp
                  exact ⟨_, _, _, _, _, _, _, _, _, _, _, _, _, _, ⟨rfl, rfl, rfl, rfl, rfl, rfl, rfl, rfl, rfl, rfl, rfl, rfl, rfl, rfl⟩, hP2⟩
                · refine step_run rfl rfl ?_
                  have hP2 := hP.t3
                  go_simp
                  exact ⟨_, _, _, _, _, _, _, _, _, _, _, _, _, _, ⟨rfl, rfl, rfl, rfl, rfl, rfl, rfl, rfl, rfl, rfl, rfl, rfl, rfl, rfl⟩, hP2⟩
                · have g2 := hP.h2 (haf { on := 2, ground := .data } (by simp) rfl)
                  have g3 := hP.h3 (haf { on := 3, ground := .data } (by simp) rfl)
                  subst g2 g3
                  refine step_run rfl rfl ?_
                  unfold Oper.wp
                  rw [run_two cf27 (.tmp 214) (.tmp 215) 22 45 rfl _ _ rfl rfl]
                  refine (zof c1 cbp (hT0.below hP.bl).tm.s hTR (hRP.below hP.bl) hml hRL (by omega)).mono ?_
                  rintro e v2 ⟨y9, rfl, hN9, hb⟩
                  have hP2 := hP.t4 hb hN9
                  go_simp
                  exact ⟨_, _, _, _, _, _, _, _, _, _, _, _, _, _, ⟨rfl, rfl, rfl, rfl, rfl, rfl, rfl, rfl, rfl, rfl, rfl, rfl, rfl, rfl⟩, hP2⟩
                · have g0 := hP.h0 (haf { on := 0, ground := .data } (by simp) rfl)
                  have g4 := hP.h4 (haf { on := 4, ground := .data } (by simp) rfl)
                  obtain ⟨a9, c9, b9, d9, g4, hT9⟩ := g4
                  subst g0 g4
                  refine step_run rfl rfl ?_
                  unfold Oper.wp
                  rw [run_two cf18 (.tmp 212) (.tmp 216) 25 25 rfl _ _ rfl rfl]
                  refine (zeq c3' d3' c9 d9 (hX0.below hP.bl) hT9 rfl).mono ?_
                  rintro e v2 ⟨rfl, hb⟩
                  have hP2 := hP.t5 hb
                  go_simp
                  exact ⟨_, _, _, _, _, _, _, _, _, _, _, _, _, _, ⟨rfl, rfl, rfl, rfl, rfl, rfl, rfl, rfl, rfl, rfl, rfl, rfl, rfl, rfl⟩, hP2⟩
                · have g5 := hP.h5 (haf { on := 5, ground := .data } (by simp) rfl)
                  subst g5
                  refine step_run rfl rfl ?_
                  have hP2 := hP.t6
                  go_simp
                  exact ⟨_, _, _, _, _, _, _, _, _, _, _, _, _, _, ⟨rfl, rfl, rfl, rfl, rfl, rfl, rfl, rfl, rfl, rfl, rfl, rfl, rfl, rfl⟩, hP2⟩
                · have g6 := hP.h6 (haf { on := 6, ground := .guard } (by simp) rfl)
                  subst g6
                  refine step_runw rfl (by first | rfl | go_simp) ?_
                  have hP2 := hP.t7
                  go_simp
                  exact ⟨_, _, _, _, _, _, _, _, _, _, _, _, _, _, ⟨rfl, rfl, rfl, rfl, rfl, rfl, rfl, rfl, rfl, rfl, rfl, rfl, rfl, rfl⟩, hP2⟩
                · have g7 := hP.h7 (haf { on := 7, ground := .data } (by simp) rfl)
                  have g6 := hP.h6 (haf { on := 6, ground := .guard } (by simp) rfl)
                  subst g7 g6
                  refine step_runw rfl (by first | rfl | go_simp) ?_
                  have hP2 := hP.t8
                  go_simp
                  exact ⟨_, _, _, _, _, _, _, _, _, _, _, _, _, _, ⟨rfl, rfl, rfl, rfl, rfl, rfl, rfl, rfl, rfl, rfl, rfl, rfl, rfl, rfl⟩, hP2⟩
                · have g6 := hP.h6 (haf { on := 6, ground := .data } (by simp) rfl)
                  have g8 := hP.h8 (haf { on := 8, ground := .data } (by simp) rfl)
                  subst g6 g8
                  refine step_run rfl rfl ?_
                  have hP2 := hP.t9
                  go_simp
                  exact ⟨_, _, _, _, _, _, _, _, _, _, _, _, _, _, ⟨rfl, rfl, rfl, rfl, rfl, rfl, rfl, rfl, rfl, rfl, rfl, rfl, rfl, rfl⟩, hP2⟩
                · have g9 := hP.h9 (haf { on := 9, ground := .data } (by simp) rfl)
                  subst g9
                  refine step_run rfl rfl ?_
                  have hP2 := hP.t10
                  go_simp
                  exact ⟨_, _, _, _, _, _, _, _, _, _, _, _, _, _, ⟨rfl, rfl, rfl, rfl, rfl, rfl, rfl, rfl, rfl, rfl, rfl, rfl, rfl, rfl⟩, hP2⟩
                · have g10 := hP.h10 (haf { on := 10, ground := .guard } (by simp) rfl)
                  subst g10
                  refine step_runw rfl (by first | rfl | go_simp) ?_
                  unfold Oper.wp
                  rw [run_none cf13 rfl]
                  refine (awake_any aF aZ _ (HE.out.below (bl_trans (bl_trans HB.out HB9.out) hP.bl))).mono ?_
                  rintro e v2 ⟨rfl, hb⟩
                  have hP2 := hP.t11 hb
                  go_simp
                  exact ⟨_, _, _, _, _, _, _, _, _, _, _, _, _, _, ⟨rfl, rfl, rfl, rfl, rfl, rfl, rfl, rfl, rfl, rfl, rfl, rfl, rfl, rfl⟩, hP2⟩
                · have g10 := hP.h10 (haf { on := 10, ground := .data } (by simp) rfl)
                  have g11 := hP.h11 (haf { on := 11, ground := .data } (by simp) rfl)
                  subst g10 g11
                  refine step_run rfl rfl ?_
                  have hP2 := hP.t12
                  go_simp
                  exact ⟨_, _, _, _, _, _, _, _, _, _, _, _, _, _, ⟨rfl, rfl, rfl, rfl, rfl, rfl, rfl, rfl, rfl, rfl, rfl, rfl, rfl, rfl⟩, hP2⟩
                · have g12 := hP.h12 (haf { on := 12, ground := .data } (by simp) rfl)
                  subst g12
                  refine step_run rfl rfl ?_
                  have hP2 := hP.t13
                  go_simp
                  exact ⟨_, _, _, _, _, _, _, _, _, _, _, _, _, _, ⟨rfl, rfl, rfl, rfl, rfl, rfl, rfl, rfl, rfl, rfl, rfl, rfl, rfl, rfl⟩, hP2⟩
              · intro L a v hI hr
                obtain ⟨s6, s212, s213, s214, s215, s216, s217, s218, s219, s220, s221, s222, s223, s224, rfl, hP⟩ := hI
                have hno := List.eq_nil_iff_forall_not_mem.1 hr
                have g0 : on L 0 := Decidable.byContradiction fun hc => hno 0 (mem_ready.2 ⟨off (by rw [hP.sz]; decide) hc, _, rfl, fun e he => by simp at he⟩)
                have g1 : on L 1 := Decidable.byContradiction fun hc => hno 1 (mem_ready.2 ⟨off (by rw [hP.sz]; decide) hc, _, rfl, fun e he => by simp at he⟩)
                have g2 : on L 2 := by
                  refine Decidable.byContradiction fun hc => hno 2 (mem_ready.2 ⟨off (by rw [hP.sz]; decide) hc, _, rfl, ?_⟩)
                  intro e he hb
                  simp at he
                  subst he
                  all_goals first | assumption | exact absurd hb (by decide)
                have g3 : on L 3 := Decidable.byContradiction fun hc => hno 3 (mem_ready.2 ⟨off (by rw [hP.sz]; decide) hc, _, rfl, fun e he => by simp at he⟩)
                have g4 : on L 4 := by
                  refine Decidable.byContradiction fun hc => hno 4 (mem_ready.2 ⟨off (by rw [hP.sz]; decide) hc, _, rfl, ?_⟩)
                  intro e he hb
                  simp at he
                  rcases he with rfl | rfl
                  all_goals first | assumption | exact absurd hb (by decide)
                have g5 : on L 5 := by
                  refine Decidable.byContradiction fun hc => hno 5 (mem_ready.2 ⟨off (by rw [hP.sz]; decide) hc, _, rfl, ?_⟩)
                  intro e he hb
                  simp at he
                  rcases he with rfl | rfl | rfl
                  all_goals first | assumption | exact absurd hb (by decide)
                have g6 : on L 6 := by
                  refine Decidable.byContradiction fun hc => hno 6 (mem_ready.2 ⟨off (by rw [hP.sz]; decide) hc, _, rfl, ?_⟩)
                  intro e he hb
                  simp at he
                  rcases he with rfl | rfl
                  all_goals first | assumption | exact absurd hb (by decide)
                have g7 : on L 7 := by
                  refine Decidable.byContradiction fun hc => hno 7 (mem_ready.2 ⟨off (by rw [hP.sz]; decide) hc, _, rfl, ?_⟩)
                  intro e he hb
                  simp at he
                  subst he
                  all_goals first | assumption | exact absurd hb (by decide)
                have g8 : on L 8 := by
                  refine Decidable.byContradiction fun hc => hno 8 (mem_ready.2 ⟨off (by rw [hP.sz]; decide) hc, _, rfl, ?_⟩)
                  intro e he hb
                  simp at he
                  rcases he with rfl | rfl
                  all_goals first | assumption | exact absurd hb (by decide)
                have g9 : on L 9 := by
                  refine Decidable.byContradiction fun hc => hno 9 (mem_ready.2 ⟨off (by rw [hP.sz]; decide) hc, _, rfl, ?_⟩)
                  intro e he hb
                  simp at he
                  rcases he with rfl | rfl
                  all_goals first | assumption | exact absurd hb (by decide)
                have g10 : on L 10 := by
                  refine Decidable.byContradiction fun hc => hno 10 (mem_ready.2 ⟨off (by rw [hP.sz]; decide) hc, _, rfl, ?_⟩)
                  intro e he hb
                  simp at he
                  rcases he with rfl | rfl
                  all_goals first | assumption | exact absurd hb (by decide)
                have g11 : on L 11 := by
                  refine Decidable.byContradiction fun hc => hno 11 (mem_ready.2 ⟨off (by rw [hP.sz]; decide) hc, _, rfl, ?_⟩)
                  intro e he hb
                  simp at he
                  rcases he with rfl | rfl
                  all_goals first | assumption | exact absurd hb (by decide)
                have g12 : on L 12 := by
                  refine Decidable.byContradiction fun hc => hno 12 (mem_ready.2 ⟨off (by rw [hP.sz]; decide) hc, _, rfl, ?_⟩)
                  intro e he hb
                  simp at he
                  rcases he with rfl | rfl
                  all_goals first | assumption | exact absurd hb (by decide)
                have g13 : on L 13 := by
                  refine Decidable.byContradiction fun hc => hno 13 (mem_ready.2 ⟨off (by rw [hP.sz]; decide) hc, _, rfl, ?_⟩)
                  intro e he hb
                  simp at he
                  rcases he with rfl | rfl | rfl | rfl | rfl | rfl | rfl | rfl | rfl | rfl | rfl | rfl | rfl | rfl | rfl
                  all_goals first | assumption | exact absurd hb (by decide)
                have e0 := hP.h0 g0
                have e1 := hP.h1 g1
                have e2 := hP.h2 g2
                have e3 := hP.h3 g3
                obtain ⟨a9, c9, b9, d9, e4, hT9⟩ := hP.h4 g4
                have e5 := hP.h5 g5
                have e6 := hP.h6 g6
                have e7 := hP.h7 g7
                have e8 := hP.h8 g8
                have e9 := hP.h9 g9
                have e10 := hP.h10 g10
                have e11 := hP.h11 g11
                have e12 := hP.h12 g12
                have e13 := hP.h13 g13
                have hBL := hP.bl
                clear hP g0 g1 g2 g3 g4 g5 g6 g7 g8 g9 g10 g11 g12 g13 hr hno
                subst e0 e1 e2 e3 e4 e5 e6 e7 e8 e9 e10 e11 e12 e13
                have HBL : Hid (Below w.heap.size w v) := bl_trans (bl_trans HB.out HB9.out) hBL
                clear hBL hT9 hT0 hX0 hRP
                go_wp2
                go_ret
                exact ⟨rfl, HBL.out⟩
              · exact ⟨_, _, _, _, _, _, _, _, _, _, _, _, _, _, rfl, ⟨by simp, bl_drew (Below.refl _ _), fun v u x hb ⟨a9, c9, b9, d9, e, hT⟩ => ⟨a9, c9, b9, d9, e, hT.below hb⟩, fun g => absurd g (by simp [on]), fun g => absurd g (by simp [on]), fun g => absurd g (by simp [on]), fun g => absurd g (by simp [on]), fun g => absurd g (by simp [on]), fun g => absurd g (by simp [on]), fun g => absurd g (by simp [on]), fun g => absurd g (by simp [on]), fun g => absurd g (by simp [on]), fun g => absurd g (by simp [on]), fun g => absurd g (by simp [on]), fun g => absurd g (by simp [on]), fun g => absurd g (by simp [on]), fun g => absurd g (by simp [on])⟩⟩

            · exact ⟨_, _, _, _, _, _, _, _, _, _, _, _, _, _, _, _, _, _, _, _, _, _, rfl, ⟨by simp, bl_drew (Below.refl _ _), fun v u x hb ⟨a9, c9, b9, d9, e, hT⟩ => ⟨a9, c9, b9, d9, e, hT.below hb⟩, fun g => absurd g (by simp [on]), fun g => absurd g (by simp [on]), fun g => absurd g (by simp [on]), fun g => absurd g (by simp [on]), fun g => absurd g (by simp [on]), fun g => absurd g (by simp [on]), fun g => absurd g (by simp [on]), fun g => absurd g (by simp [on]), fun g => absurd g (by simp [on]), fun g => absurd g (by simp [on]), fun g => absurd g (by simp [on]), fun g => absurd g (by simp [on]), fun g => absurd g (by simp [on]), fun g => absurd g (by simp [on]), fun g => absurd g (by simp [on]), fun g => absurd g (by simp [on]), fun g => absurd g (by simp [on]), fun g => absurd g (by simp [on]), fun g => absurd g (by simp [on]), fun g => absurd g (by simp [on]), fun g => absurd g (by simp [on]), fun g => absurd g (by simp [on])⟩⟩

      · exact ⟨_, _, _, _, _, _, _, _, _, _, _, rfl, ⟨by simp, bl_drew (Below.refl _ _), fun v u x hb ⟨a9, c9, b9, d9, e, hT⟩ => ⟨a9, c9, b9, d9, e, hT.below hb⟩, fun g => absurd g (by simp [on]), fun g => absurd g (by simp [on]), fun g => absurd g (by simp [on]), fun g => absurd g (by simp [on]), fun g => absurd g (by simp [on]), fun g => absurd g (by simp [on]), fun g => absurd g (by simp [on]), fun g => absurd g (by simp [on]), fun g => absurd g (by simp [on]), fun g => absurd g (by simp [on]), fun g => absurd g (by simp [on])⟩⟩
end Go.Proofs.YtfblgaffkflenaaGreatDoor.Tn
