/-
  THE STATEMENT RatMakes: any whole numbers make the rational that the document says, or none; powers and signs of any text are what it says.
  Conditions: none but the row's own and the card's: the listed package variables read as the program's text lays them.
-/
import Derived.Test.YtpmnfgbbkmodpaaGreatDoorLitR
import Derived.Test.YtpmnfgbbkmodpaaGreatDoorReadR
import Derived.Test.YtpmnfgbbkmodpaaGreatDoorRows
import Derived.Test.YtpmnfgbbkmodpaaGreatDoorCards
import Derived.Test.YtpmnfgbbkmodpaaGreatDoorTie
import Derived.WalkKit
import Derived.ProofKit
import Derived.OpenShut
import Derived.ShutString
import Derived.LaidMore
import Derived.Stop.Joined
import Derived.SevenTiedAt
namespace Go.Proofs.YtpmnfgbbkmodpaaGreatDoor
section
set_option maxRecDepth 100000
open Go.RowKit Nm
set_option linter.unusedVariables false

set_option maxHeartbeats 4000000 in
theorem makes_long0 (p q : ByteArray) (n : Int) (aF aZ : Addr) (w : World) (hE : Er w aF aZ) (h : 60 < p.size) :
    Calls Tryz.prog 4 #[.string p, .string q, .int .i64 n] w fun e w' => e = .returned (.bool true) ∧ Below w.heap.size w w' := by
  have HE : Hid _ := hE
  clear hE
  have HB := Below.refl w.heap.size w
  go_enter Tryz.func4, Tryz.ntmps4
  go_wp2_with fail
  refine (awake_below aF aZ _ _ HE.out HB).mono ?_
  rintro e w1 ⟨rfl, h1⟩
  have HR : Hid _ := h1
  clear h1 HB
  go_wp2
  go_ret
  exact ⟨rfl, HR.out⟩

set_option maxHeartbeats 4000000 in
theorem makes_long1 (p q : ByteArray) (n : Int) (aF aZ : Addr) (w : World) (hE : Er w aF aZ) (h0 : ¬ 60 < p.size) (h : 60 < q.size) :
    Calls Tryz.prog 4 #[.string p, .string q, .int .i64 n] w fun e w' => e = .returned (.bool true) ∧ Below w.heap.size w w' := by
  have HE : Hid _ := hE
  clear hE
  have HB := Below.refl w.heap.size w
  go_enter Tryz.func4, Tryz.ntmps4
  go_wp2_with fail
  refine (awake_below aF aZ _ _ HE.out HB).mono ?_
  rintro e w2 ⟨rfl, h2⟩
  have HR : Hid _ := h2
  clear h2 HB
  go_wp2
  go_ret
  exact ⟨rfl, HR.out⟩

set_option maxHeartbeats 4000000 in
theorem makes_a (p q X1 X2 : ByteArray) (n : Int) (aF aZ : Addr) (w : World) (hE : Er w aF aZ) (h0 : ¬ 60 < p.size) (h1 : ¬ 60 < q.size)
    (Em : ∀ v : World, Below w.heap.size w v → Calls Tryz.prog 26 #[.string p, .string q] v fun e w' => e = .returned (.tuple #[.string ⟨#[]⟩, .int .i64 2]) ∧ Below v.heap.size v w')
    (Ep : ∀ v : World, Below w.heap.size w v → Calls Tryz.prog 27 #[.string p, .int .i64 n] v fun e w' => e = .returned (.tuple #[.string ⟨#[]⟩, .int .i64 2]) ∧ Below v.heap.size v w')
    (Es : ∀ v : World, Below w.heap.size w v → Calls Tryz.prog 28 #[.string p] v fun e w' => e = .returned (.tuple #[.int .i64 0, .int .i64 2]) ∧ Below v.heap.size v w')
    (En : ∀ v : World, Below w.heap.size w v → Calls Tryz.prog 29 #[.string p] v fun e w' => e = .returned (.tuple #[.string ⟨#[]⟩, .int .i64 2]) ∧ Below v.heap.size v w')
    (Er : ∀ v : World, Below w.heap.size w v → Calls Tryz.prog 20 #[.string p] v fun e w' => e = .returned (.tuple #[.agg #[.string X1, .string X2], .bool false]) ∧ Below v.heap.size v w')
    (Eg : ∀ v : World, Below w.heap.size w v → Calls Tryz.prog 30 #[.string p] v fun e w' => e = .returned (.bool false) ∧ Below v.heap.size v w')
     (Rp : ∀ v : World, Below w.heap.size w v → Calls Tryz.prog 33 #[.string p] v fun e w' => e = .returned (.bool false) ∧ Below v.heap.size v w') :
    Calls Tryz.prog 4 #[.string p, .string q, .int .i64 n] w fun e w' => e = .returned (.bool true) ∧ Below w.heap.size w w' := by
  have HE : Hid _ := hE
  clear hE
  have HB := Below.refl w.heap.size w
  go_enter Tryz.func4, Tryz.ntmps4
  go_wp2_with fail
  refine (Em _ HB).mono ?_
  rintro e w3 ⟨rfl, h3⟩
  replace HB := bl_trans HB h3
  clear h3
  go_wp2_with fail
  refine (Ep _ HB).mono ?_
  rintro e w4 ⟨rfl, h4⟩
  replace HB := bl_trans HB h4
  clear h4
  go_wp2_with fail
  refine (Es _ HB).mono ?_
  rintro e w5 ⟨rfl, h5⟩
  replace HB := bl_trans HB h5
  clear h5
  go_wp2_with fail
  refine (En _ HB).mono ?_
  rintro e w6 ⟨rfl, h6⟩
  replace HB := bl_trans HB h6
  clear h6
  go_wp2_with fail
  refine (Er _ HB).mono ?_
  rintro e w7 ⟨rfl, h7⟩
  replace HB := bl_trans HB h7
  clear h7
  go_wp2_with fail
  refine (Eg _ (bl_alloc HB _)).mono ?_
  rintro e w8 ⟨rfl, h8⟩
  have kk := h8
  replace HB := bl_trans (bl_alloc HB _) h8
  clear h8
  clear kk
  go_wp2_with fail
  refine (Rp _ HB).mono ?_
  rintro e w9 ⟨rfl, h9⟩
  replace HB := bl_trans HB h9
  clear h9
  go_wp2_with fail
  refine (awake_below aF aZ _ _ HE.out HB).mono ?_
  rintro e w10 ⟨rfl, h10⟩
  have HR : Hid _ := h10
  clear h10 HB
  go_wp2
  go_ret
  exact ⟨rfl, HR.out⟩

set_option maxHeartbeats 4000000 in
theorem makes_outneg1 (p q X1 X2 NG : ByteArray) (sg : Int) (n : Int) (aF aZ : Addr) (w : World) (hE : Er w aF aZ) (h0 : ¬ 60 < p.size) (h1 : ¬ 60 < q.size) (hn : n < 0)
    (Em : ∀ v : World, Below w.heap.size w v → Calls Tryz.prog 26 #[.string p, .string q] v fun e w' => e = .returned (.tuple #[.string ⟨#[]⟩, .int .i64 2]) ∧ Below v.heap.size v w')
    (Ep : ∀ v : World, Below w.heap.size w v → Calls Tryz.prog 27 #[.string p, .int .i64 n] v fun e w' => e = .returned (.tuple #[.string ⟨#[]⟩, .int .i64 1]) ∧ Below v.heap.size v w')
    (Es : ∀ v : World, Below w.heap.size w v → Calls Tryz.prog 28 #[.string p] v fun e w' => e = .returned (.tuple #[.int .i64 sg, .int .i64 0]) ∧ Below v.heap.size v w')
    (En : ∀ v : World, Below w.heap.size w v → Calls Tryz.prog 29 #[.string p] v fun e w' => e = .returned (.tuple #[.string NG, .int .i64 0]) ∧ Below v.heap.size v w')
    (Er : ∀ v : World, Below w.heap.size w v → Calls Tryz.prog 20 #[.string p] v fun e w' => e = .returned (.tuple #[.agg #[.string X1, .string X2], .bool true]) ∧ Below v.heap.size v w')
    (Eg : ∀ v : World, Below w.heap.size w v → Calls Tryz.prog 30 #[.string p] v fun e w' => e = .returned (.bool true) ∧ Below v.heap.size v w')
     (Rp : ∀ v : World, Below w.heap.size w v → Calls Tryz.prog 33 #[.string p] v fun e w' => e = .returned (.bool false) ∧ Below v.heap.size v w') :
    Calls Tryz.prog 4 #[.string p, .string q, .int .i64 n] w fun e w' => e = .returned (.bool true) ∧ Below w.heap.size w w' := by
  have HE : Hid _ := hE
  clear hE
  have HB := Below.refl w.heap.size w
  go_enter Tryz.func4, Tryz.ntmps4
  go_wp2_with fail
  refine (Em _ HB).mono ?_
  rintro e w11 ⟨rfl, h11⟩
  replace HB := bl_trans HB h11
  clear h11
  go_wp2_with fail
  refine (Ep _ HB).mono ?_
  rintro e w12 ⟨rfl, h12⟩
  replace HB := bl_trans HB h12
  clear h12
  go_wp2_with fail
  refine (Es _ HB).mono ?_
  rintro e w13 ⟨rfl, h13⟩
  replace HB := bl_trans HB h13
  clear h13
  go_wp2_with fail
  refine (En _ HB).mono ?_
  rintro e w14 ⟨rfl, h14⟩
  replace HB := bl_trans HB h14
  clear h14
  go_wp2_with fail
  refine (Er _ HB).mono ?_
  rintro e w15 ⟨rfl, h15⟩
  replace HB := bl_trans HB h15
  clear h15
  go_wp2_with fail
  refine (Eg _ (bl_alloc HB _)).mono ?_
  rintro e w16 ⟨rfl, h16⟩
  have kk := h16
  replace HB := bl_trans (bl_alloc HB _) h16
  clear h16
  clear kk
  go_wp2_with fail
  refine (Rp _ HB).mono ?_
  rintro e w17 ⟨rfl, h17⟩
  replace HB := bl_trans HB h17
  clear h17
  go_wp2_with fail
  refine (awake_below aF aZ _ _ HE.out HB).mono ?_
  rintro e w18 ⟨rfl, h18⟩
  have HR : Hid _ := h18
  clear h18 HB
  go_wp2
  go_ret
  exact ⟨rfl, HR.out⟩

set_option maxHeartbeats 4000000 in
theorem makes_outbig1 (p q X1 X2 NG : ByteArray) (sg : Int) (n : Int) (aF aZ : Addr) (w : World) (hE : Er w aF aZ) (h0 : ¬ 60 < p.size) (h1 : ¬ 60 < q.size) (hn0 : ¬ n < 0) (hn : 6 < n)
    (Em : ∀ v : World, Below w.heap.size w v → Calls Tryz.prog 26 #[.string p, .string q] v fun e w' => e = .returned (.tuple #[.string ⟨#[]⟩, .int .i64 2]) ∧ Below v.heap.size v w')
    (Ep : ∀ v : World, Below w.heap.size w v → Calls Tryz.prog 27 #[.string p, .int .i64 n] v fun e w' => e = .returned (.tuple #[.string ⟨#[]⟩, .int .i64 1]) ∧ Below v.heap.size v w')
    (Es : ∀ v : World, Below w.heap.size w v → Calls Tryz.prog 28 #[.string p] v fun e w' => e = .returned (.tuple #[.int .i64 sg, .int .i64 0]) ∧ Below v.heap.size v w')
    (En : ∀ v : World, Below w.heap.size w v → Calls Tryz.prog 29 #[.string p] v fun e w' => e = .returned (.tuple #[.string NG, .int .i64 0]) ∧ Below v.heap.size v w')
    (Er : ∀ v : World, Below w.heap.size w v → Calls Tryz.prog 20 #[.string p] v fun e w' => e = .returned (.tuple #[.agg #[.string X1, .string X2], .bool true]) ∧ Below v.heap.size v w')
    (Eg : ∀ v : World, Below w.heap.size w v → Calls Tryz.prog 30 #[.string p] v fun e w' => e = .returned (.bool true) ∧ Below v.heap.size v w')
     (Rp : ∀ v : World, Below w.heap.size w v → Calls Tryz.prog 33 #[.string p] v fun e w' => e = .returned (.bool false) ∧ Below v.heap.size v w') :
    Calls Tryz.prog 4 #[.string p, .string q, .int .i64 n] w fun e w' => e = .returned (.bool true) ∧ Below w.heap.size w w' := by
  have HE : Hid _ := hE
  clear hE
  have HB := Below.refl w.heap.size w
  go_enter Tryz.func4, Tryz.ntmps4
  go_wp2_with fail
  refine (Em _ HB).mono ?_
  rintro e w19 ⟨rfl, h19⟩
  replace HB := bl_trans HB h19
  clear h19
  go_wp2_with fail
  refine (Ep _ HB).mono ?_
  rintro e w20 ⟨rfl, h20⟩
  replace HB := bl_trans HB h20
  clear h20
  go_wp2_with fail
  refine (Es _ HB).mono ?_
  rintro e w21 ⟨rfl, h21⟩
  replace HB := bl_trans HB h21
  clear h21
  go_wp2_with fail
  refine (En _ HB).mono ?_
  rintro e w22 ⟨rfl, h22⟩
  replace HB := bl_trans HB h22
  clear h22
  go_wp2_with fail
  refine (Er _ HB).mono ?_
  rintro e w23 ⟨rfl, h23⟩
  replace HB := bl_trans HB h23
  clear h23
  go_wp2_with fail
  refine (Eg _ (bl_alloc HB _)).mono ?_
  rintro e w24 ⟨rfl, h24⟩
  have kk := h24
  replace HB := bl_trans (bl_alloc HB _) h24
  clear h24
  clear kk
  go_wp2_with fail
  refine (Rp _ HB).mono ?_
  rintro e w25 ⟨rfl, h25⟩
  replace HB := bl_trans HB h25
  clear h25
  go_wp2_with fail
  refine (awake_below aF aZ _ _ HE.out HB).mono ?_
  rintro e w26 ⟨rfl, h26⟩
  have HR : Hid _ := h26
  clear h26 HB
  go_wp2
  go_ret
  exact ⟨rfl, HR.out⟩

set_option maxHeartbeats 4000000 in
theorem makes_in1 (p q X1 X2 NG PW Y1 Y2 V1 V2 : ByteArray) (sg : Int) (n : Int) (aF aZ : Addr) (w : World) (hE : Er w aF aZ) (h0 : ¬ 60 < p.size) (h1 : ¬ 60 < q.size) (hn0 : ¬ n < 0) (hn : ¬ 6 < n)
    (Em : ∀ v : World, Below w.heap.size w v → Calls Tryz.prog 26 #[.string p, .string q] v fun e w' => e = .returned (.tuple #[.string ⟨#[]⟩, .int .i64 2]) ∧ Below v.heap.size v w')
    (Ep : ∀ v : World, Below w.heap.size w v → Calls Tryz.prog 27 #[.string p, .int .i64 n] v fun e w' => e = .returned (.tuple #[.string PW, .int .i64 0]) ∧ Below v.heap.size v w')
    (Es : ∀ v : World, Below w.heap.size w v → Calls Tryz.prog 28 #[.string p] v fun e w' => e = .returned (.tuple #[.int .i64 sg, .int .i64 0]) ∧ Below v.heap.size v w')
    (En : ∀ v : World, Below w.heap.size w v → Calls Tryz.prog 29 #[.string p] v fun e w' => e = .returned (.tuple #[.string NG, .int .i64 0]) ∧ Below v.heap.size v w')
    (Er : ∀ v : World, Below w.heap.size w v → Calls Tryz.prog 20 #[.string p] v fun e w' => e = .returned (.tuple #[.agg #[.string X1, .string X2], .bool true]) ∧ Below v.heap.size v w')
    (Eg : ∀ v : World, Below w.heap.size w v → Calls Tryz.prog 30 #[.string p] v fun e w' => e = .returned (.bool true) ∧ Below v.heap.size v w')
    (Qp : ∀ v : World, Below w.heap.size w v → Calls Tryz.prog 31 #[.agg #[.string X1, .string X2], .int .i64 n] v fun e w' => e = .returned (.agg #[.string Y1, .string Y2]) ∧ Below v.heap.size v w')
    (Qt : ∀ v : World, Below w.heap.size w v → Calls Tryz.prog 21 #[.agg #[.string Y1, .string Y2]] v fun e w' => e = .returned (.string PW) ∧ Below v.heap.size v w')
    (Qs : ∀ v : World, Below w.heap.size w v → Calls Tryz.prog 32 #[.string X1] v fun e w' => e = .returned (.int .i64 sg) ∧ Below v.heap.size v w')
    (Qn : ∀ v : World, Below w.heap.size w v → Calls Tryz.prog 23 #[.agg #[.string X1, .string X2]] v fun e w' => e = .returned (.agg #[.string V1, .string V2]) ∧ Below v.heap.size v w')
    (Qv : ∀ v : World, Below w.heap.size w v → Calls Tryz.prog 21 #[.agg #[.string V1, .string V2]] v fun e w' => e = .returned (.string NG) ∧ Below v.heap.size v w')
     (Rp : ∀ v : World, Below w.heap.size w v → Calls Tryz.prog 33 #[.string p] v fun e w' => e = .returned (.bool false) ∧ Below v.heap.size v w') :
    Calls Tryz.prog 4 #[.string p, .string q, .int .i64 n] w fun e w' => e = .returned (.bool true) ∧ Below w.heap.size w w' := by
  have HE : Hid _ := hE
  clear hE
  have HB := Below.refl w.heap.size w
  go_enter Tryz.func4, Tryz.ntmps4
  go_wp2_with fail
  refine (Em _ HB).mono ?_
  rintro e w27 ⟨rfl, h27⟩
  replace HB := bl_trans HB h27
  clear h27
  go_wp2_with fail
  refine (Ep _ HB).mono ?_
  rintro e w28 ⟨rfl, h28⟩
  replace HB := bl_trans HB h28
  clear h28
  go_wp2_with fail
  refine (Es _ HB).mono ?_
  rintro e w29 ⟨rfl, h29⟩
  replace HB := bl_trans HB h29
  clear h29
  go_wp2_with fail
  refine (En _ HB).mono ?_
  rintro e w30 ⟨rfl, h30⟩
  replace HB := bl_trans HB h30
  clear h30
  go_wp2_with fail
  refine (Er _ HB).mono ?_
  rintro e w31 ⟨rfl, h31⟩
  replace HB := bl_trans HB h31
  clear h31
  go_wp2_with fail
  refine (Eg _ (bl_alloc HB _)).mono ?_
  rintro e w32 ⟨rfl, h32⟩
  have kk := h32
  replace HB := bl_trans (bl_alloc HB _) h32
  clear h32
  have r0 := (own1 (w := w31) kk).1 0
  have r1 := (own1 (w := w31) kk).1 1
  simp at r0 r1
  go_wp2_with fail
  refine (Qp _ HB).mono ?_
  rintro e w33 ⟨rfl, h33⟩
  replace HB := bl_trans HB h33
  replace kk := bl_trans kk h33
  clear h33 r0 r1
  have r0 := (own1 (w := w31) kk).1 0
  have r1 := (own1 (w := w31) kk).1 1
  simp at r0 r1
  go_wp2_with fail
  refine (Qt _ HB).mono ?_
  rintro e w34 ⟨rfl, h34⟩
  replace HB := bl_trans HB h34
  replace kk := bl_trans kk h34
  clear h34 r0 r1
  have r0 := (own1 (w := w31) kk).1 0
  have r1 := (own1 (w := w31) kk).1 1
  simp at r0 r1
  go_wp2_with fail
  refine (Qs _ HB).mono ?_
  rintro e w35 ⟨rfl, h35⟩
  replace HB := bl_trans HB h35
  replace kk := bl_trans kk h35
  clear h35 r0 r1
  have r0 := (own1 (w := w31) kk).1 0
  have r1 := (own1 (w := w31) kk).1 1
  simp at r0 r1
  go_wp2_with fail
  refine (Qn _ HB).mono ?_
  rintro e w36 ⟨rfl, h36⟩
  replace HB := bl_trans HB h36
  replace kk := bl_trans kk h36
  clear h36 r0 r1
  have r0 := (own1 (w := w31) kk).1 0
  have r1 := (own1 (w := w31) kk).1 1
  simp at r0 r1
  go_wp2_with fail
  refine (Qv _ HB).mono ?_
  rintro e w37 ⟨rfl, h37⟩
  replace HB := bl_trans HB h37
  replace kk := bl_trans kk h37
  clear h37 r0 r1
  have r0 := (own1 (w := w31) kk).1 0
  have r1 := (own1 (w := w31) kk).1 1
  simp at r0 r1
  go_wp2_with fail
  refine (Rp _ HB).mono ?_
  rintro e w38 ⟨rfl, h38⟩
  replace HB := bl_trans HB h38
  replace kk := bl_trans kk h38
  clear h38 r0 r1
  have r0 := (own1 (w := w31) kk).1 0
  have r1 := (own1 (w := w31) kk).1 1
  simp at r0 r1
  go_wp2_with fail
  refine (awake_below aF aZ _ _ HE.out HB).mono ?_
  rintro e w39 ⟨rfl, h39⟩
  have HR : Hid _ := h39
  clear h39 HB
  go_wp2
  go_ret
  exact ⟨rfl, HR.out⟩

set_option maxHeartbeats 4000000 in
theorem makes_outneg2 (p q X1 X2 NG : ByteArray) (sg : Int) (n : Int) (aF aZ : Addr) (w : World) (hE : Er w aF aZ) (h0 : ¬ 60 < p.size) (h1 : ¬ 60 < q.size) (hn : n < 0)
    (Em : ∀ v : World, Below w.heap.size w v → Calls Tryz.prog 26 #[.string p, .string q] v fun e w' => e = .returned (.tuple #[.string ⟨#[]⟩, .int .i64 2]) ∧ Below v.heap.size v w')
    (Ep : ∀ v : World, Below w.heap.size w v → Calls Tryz.prog 27 #[.string p, .int .i64 n] v fun e w' => e = .returned (.tuple #[.string ⟨#[]⟩, .int .i64 1]) ∧ Below v.heap.size v w')
    (Es : ∀ v : World, Below w.heap.size w v → Calls Tryz.prog 28 #[.string p] v fun e w' => e = .returned (.tuple #[.int .i64 sg, .int .i64 0]) ∧ Below v.heap.size v w')
    (En : ∀ v : World, Below w.heap.size w v → Calls Tryz.prog 29 #[.string p] v fun e w' => e = .returned (.tuple #[.string NG, .int .i64 0]) ∧ Below v.heap.size v w')
    (Er : ∀ v : World, Below w.heap.size w v → Calls Tryz.prog 20 #[.string p] v fun e w' => e = .returned (.tuple #[.agg #[.string X1, .string X2], .bool true]) ∧ Below v.heap.size v w')
    (Eg : ∀ v : World, Below w.heap.size w v → Calls Tryz.prog 30 #[.string p] v fun e w' => e = .returned (.bool true) ∧ Below v.heap.size v w')
     (Rp : ∀ v : World, Below w.heap.size w v → Calls Tryz.prog 33 #[.string p] v fun e w' => e = .returned (.bool true) ∧ Below v.heap.size v w') (Rq : ∀ v : World, Below w.heap.size w v → Calls Tryz.prog 33 #[.string q] v fun e w' => e = .returned (.bool false) ∧ Below v.heap.size v w') :
    Calls Tryz.prog 4 #[.string p, .string q, .int .i64 n] w fun e w' => e = .returned (.bool true) ∧ Below w.heap.size w w' := by
  have HE : Hid _ := hE
  clear hE
  have HB := Below.refl w.heap.size w
  go_enter Tryz.func4, Tryz.ntmps4
  go_wp2_with fail
  refine (Em _ HB).mono ?_
  rintro e w40 ⟨rfl, h40⟩
  replace HB := bl_trans HB h40
  clear h40
  go_wp2_with fail
  refine (Ep _ HB).mono ?_
  rintro e w41 ⟨rfl, h41⟩
  replace HB := bl_trans HB h41
  clear h41
  go_wp2_with fail
  refine (Es _ HB).mono ?_
  rintro e w42 ⟨rfl, h42⟩
  replace HB := bl_trans HB h42
  clear h42
  go_wp2_with fail
  refine (En _ HB).mono ?_
  rintro e w43 ⟨rfl, h43⟩
  replace HB := bl_trans HB h43
  clear h43
  go_wp2_with fail
  refine (Er _ HB).mono ?_
  rintro e w44 ⟨rfl, h44⟩
  replace HB := bl_trans HB h44
  clear h44
  go_wp2_with fail
  refine (Eg _ (bl_alloc HB _)).mono ?_
  rintro e w45 ⟨rfl, h45⟩
  have kk := h45
  replace HB := bl_trans (bl_alloc HB _) h45
  clear h45
  clear kk
  go_wp2_with fail
  refine (Rp _ HB).mono ?_
  rintro e w46 ⟨rfl, h46⟩
  replace HB := bl_trans HB h46
  clear h46
  go_wp2_with fail
  refine (Rq _ HB).mono ?_
  rintro e w47 ⟨rfl, h47⟩
  replace HB := bl_trans HB h47
  clear h47
  go_wp2_with fail
  refine (awake_below aF aZ _ _ HE.out HB).mono ?_
  rintro e w48 ⟨rfl, h48⟩
  have HR : Hid _ := h48
  clear h48 HB
  go_wp2
  go_ret
  exact ⟨rfl, HR.out⟩

set_option maxHeartbeats 4000000 in
theorem makes_outbig2 (p q X1 X2 NG : ByteArray) (sg : Int) (n : Int) (aF aZ : Addr) (w : World) (hE : Er w aF aZ) (h0 : ¬ 60 < p.size) (h1 : ¬ 60 < q.size) (hn0 : ¬ n < 0) (hn : 6 < n)
    (Em : ∀ v : World, Below w.heap.size w v → Calls Tryz.prog 26 #[.string p, .string q] v fun e w' => e = .returned (.tuple #[.string ⟨#[]⟩, .int .i64 2]) ∧ Below v.heap.size v w')
    (Ep : ∀ v : World, Below w.heap.size w v → Calls Tryz.prog 27 #[.string p, .int .i64 n] v fun e w' => e = .returned (.tuple #[.string ⟨#[]⟩, .int .i64 1]) ∧ Below v.heap.size v w')
    (Es : ∀ v : World, Below w.heap.size w v → Calls Tryz.prog 28 #[.string p] v fun e w' => e = .returned (.tuple #[.int .i64 sg, .int .i64 0]) ∧ Below v.heap.size v w')
    (En : ∀ v : World, Below w.heap.size w v → Calls Tryz.prog 29 #[.string p] v fun e w' => e = .returned (.tuple #[.string NG, .int .i64 0]) ∧ Below v.heap.size v w')
    (Er : ∀ v : World, Below w.heap.size w v → Calls Tryz.prog 20 #[.string p] v fun e w' => e = .returned (.tuple #[.agg #[.string X1, .string X2], .bool true]) ∧ Below v.heap.size v w')
    (Eg : ∀ v : World, Below w.heap.size w v → Calls Tryz.prog 30 #[.string p] v fun e w' => e = .returned (.bool true) ∧ Below v.heap.size v w')
     (Rp : ∀ v : World, Below w.heap.size w v → Calls Tryz.prog 33 #[.string p] v fun e w' => e = .returned (.bool true) ∧ Below v.heap.size v w') (Rq : ∀ v : World, Below w.heap.size w v → Calls Tryz.prog 33 #[.string q] v fun e w' => e = .returned (.bool false) ∧ Below v.heap.size v w') :
    Calls Tryz.prog 4 #[.string p, .string q, .int .i64 n] w fun e w' => e = .returned (.bool true) ∧ Below w.heap.size w w' := by
  have HE : Hid _ := hE
  clear hE
  have HB := Below.refl w.heap.size w
  go_enter Tryz.func4, Tryz.ntmps4
  go_wp2_with fail
  refine (Em _ HB).mono ?_
  rintro e w49 ⟨rfl, h49⟩
  replace HB := bl_trans HB h49
  clear h49
  go_wp2_with fail
  refine (Ep _ HB).mono ?_
  rintro e w50 ⟨rfl, h50⟩
  replace HB := bl_trans HB h50
  clear h50
  go_wp2_with fail
  refine (Es _ HB).mono ?_
  rintro e w51 ⟨rfl, h51⟩
  replace HB := bl_trans HB h51
  clear h51
  go_wp2_with fail
  refine (En _ HB).mono ?_
  rintro e w52 ⟨rfl, h52⟩
  replace HB := bl_trans HB h52
  clear h52
  go_wp2_with fail
  refine (Er _ HB).mono ?_
  rintro e w53 ⟨rfl, h53⟩
  replace HB := bl_trans HB h53
  clear h53
  go_wp2_with fail
  refine (Eg _ (bl_alloc HB _)).mono ?_
  rintro e w54 ⟨rfl, h54⟩
  have kk := h54
  replace HB := bl_trans (bl_alloc HB _) h54
  clear h54
  clear kk
  go_wp2_with fail
  refine (Rp _ HB).mono ?_
  rintro e w55 ⟨rfl, h55⟩
  replace HB := bl_trans HB h55
  clear h55
  go_wp2_with fail
  refine (Rq _ HB).mono ?_
  rintro e w56 ⟨rfl, h56⟩
  replace HB := bl_trans HB h56
  clear h56
  go_wp2_with fail
  refine (awake_below aF aZ _ _ HE.out HB).mono ?_
  rintro e w57 ⟨rfl, h57⟩
  have HR : Hid _ := h57
  clear h57 HB
  go_wp2
  go_ret
  exact ⟨rfl, HR.out⟩

set_option maxHeartbeats 4000000 in
theorem makes_in2 (p q X1 X2 NG PW Y1 Y2 V1 V2 : ByteArray) (sg : Int) (n : Int) (aF aZ : Addr) (w : World) (hE : Er w aF aZ) (h0 : ¬ 60 < p.size) (h1 : ¬ 60 < q.size) (hn0 : ¬ n < 0) (hn : ¬ 6 < n)
    (Em : ∀ v : World, Below w.heap.size w v → Calls Tryz.prog 26 #[.string p, .string q] v fun e w' => e = .returned (.tuple #[.string ⟨#[]⟩, .int .i64 2]) ∧ Below v.heap.size v w')
    (Ep : ∀ v : World, Below w.heap.size w v → Calls Tryz.prog 27 #[.string p, .int .i64 n] v fun e w' => e = .returned (.tuple #[.string PW, .int .i64 0]) ∧ Below v.heap.size v w')
    (Es : ∀ v : World, Below w.heap.size w v → Calls Tryz.prog 28 #[.string p] v fun e w' => e = .returned (.tuple #[.int .i64 sg, .int .i64 0]) ∧ Below v.heap.size v w')
    (En : ∀ v : World, Below w.heap.size w v → Calls Tryz.prog 29 #[.string p] v fun e w' => e = .returned (.tuple #[.string NG, .int .i64 0]) ∧ Below v.heap.size v w')
    (Er : ∀ v : World, Below w.heap.size w v → Calls Tryz.prog 20 #[.string p] v fun e w' => e = .returned (.tuple #[.agg #[.string X1, .string X2], .bool true]) ∧ Below v.heap.size v w')
    (Eg : ∀ v : World, Below w.heap.size w v → Calls Tryz.prog 30 #[.string p] v fun e w' => e = .returned (.bool true) ∧ Below v.heap.size v w')
    (Qp : ∀ v : World, Below w.heap.size w v → Calls Tryz.prog 31 #[.agg #[.string X1, .string X2], .int .i64 n] v fun e w' => e = .returned (.agg #[.string Y1, .string Y2]) ∧ Below v.heap.size v w')
    (Qt : ∀ v : World, Below w.heap.size w v → Calls Tryz.prog 21 #[.agg #[.string Y1, .string Y2]] v fun e w' => e = .returned (.string PW) ∧ Below v.heap.size v w')
    (Qs : ∀ v : World, Below w.heap.size w v → Calls Tryz.prog 32 #[.string X1] v fun e w' => e = .returned (.int .i64 sg) ∧ Below v.heap.size v w')
    (Qn : ∀ v : World, Below w.heap.size w v → Calls Tryz.prog 23 #[.agg #[.string X1, .string X2]] v fun e w' => e = .returned (.agg #[.string V1, .string V2]) ∧ Below v.heap.size v w')
    (Qv : ∀ v : World, Below w.heap.size w v → Calls Tryz.prog 21 #[.agg #[.string V1, .string V2]] v fun e w' => e = .returned (.string NG) ∧ Below v.heap.size v w')
     (Rp : ∀ v : World, Below w.heap.size w v → Calls Tryz.prog 33 #[.string p] v fun e w' => e = .returned (.bool true) ∧ Below v.heap.size v w') (Rq : ∀ v : World, Below w.heap.size w v → Calls Tryz.prog 33 #[.string q] v fun e w' => e = .returned (.bool false) ∧ Below v.heap.size v w') :
    Calls Tryz.prog 4 #[.string p, .string q, .int .i64 n] w fun e w' => e = .returned (.bool true) ∧ Below w.heap.size w w' := by
  have HE : Hid _ := hE
  clear hE
  have HB := Below.refl w.heap.size w
  go_enter Tryz.func4, Tryz.ntmps4
  go_wp2_with fail
  refine (Em _ HB).mono ?_
  rintro e w58 ⟨rfl, h58⟩
  replace HB := bl_trans HB h58
  clear h58
  go_wp2_with fail
  refine (Ep _ HB).mono ?_
  rintro e w59 ⟨rfl, h59⟩
  replace HB := bl_trans HB h59
  clear h59
  go_wp2_with fail
  refine (Es _ HB).mono ?_
  rintro e w60 ⟨rfl, h60⟩
  replace HB := bl_trans HB h60
  clear h60
  go_wp2_with fail
  refine (En _ HB).mono ?_
  rintro e w61 ⟨rfl, h61⟩
  replace HB := bl_trans HB h61
  clear h61
  go_wp2_with fail
  refine (Er _ HB).mono ?_
  rintro e w62 ⟨rfl, h62⟩
  replace HB := bl_trans HB h62
  clear h62
  go_wp2_with fail
  refine (Eg _ (bl_alloc HB _)).mono ?_
  rintro e w63 ⟨rfl, h63⟩
  have kk := h63
  replace HB := bl_trans (bl_alloc HB _) h63
  clear h63
  have r0 := (own1 (w := w62) kk).1 0
  have r1 := (own1 (w := w62) kk).1 1
  simp at r0 r1
  go_wp2_with fail
  refine (Qp _ HB).mono ?_
  rintro e w64 ⟨rfl, h64⟩
  replace HB := bl_trans HB h64
  replace kk := bl_trans kk h64
  clear h64 r0 r1
  have r0 := (own1 (w := w62) kk).1 0
  have r1 := (own1 (w := w62) kk).1 1
  simp at r0 r1
  go_wp2_with fail
  refine (Qt _ HB).mono ?_
  rintro e w65 ⟨rfl, h65⟩
  replace HB := bl_trans HB h65
  replace kk := bl_trans kk h65
  clear h65 r0 r1
  have r0 := (own1 (w := w62) kk).1 0
  have r1 := (own1 (w := w62) kk).1 1
  simp at r0 r1
  go_wp2_with fail
  refine (Qs _ HB).mono ?_
  rintro e w66 ⟨rfl, h66⟩
  replace HB := bl_trans HB h66
  replace kk := bl_trans kk h66
  clear h66 r0 r1
  have r0 := (own1 (w := w62) kk).1 0
  have r1 := (own1 (w := w62) kk).1 1
  simp at r0 r1
  go_wp2_with fail
  refine (Qn _ HB).mono ?_
  rintro e w67 ⟨rfl, h67⟩
  replace HB := bl_trans HB h67
  replace kk := bl_trans kk h67
  clear h67 r0 r1
  have r0 := (own1 (w := w62) kk).1 0
  have r1 := (own1 (w := w62) kk).1 1
  simp at r0 r1
  go_wp2_with fail
  refine (Qv _ HB).mono ?_
  rintro e w68 ⟨rfl, h68⟩
  replace HB := bl_trans HB h68
  replace kk := bl_trans kk h68
  clear h68 r0 r1
  have r0 := (own1 (w := w62) kk).1 0
  have r1 := (own1 (w := w62) kk).1 1
  simp at r0 r1
  go_wp2_with fail
  refine (Rp _ HB).mono ?_
  rintro e w69 ⟨rfl, h69⟩
  replace HB := bl_trans HB h69
  replace kk := bl_trans kk h69
  clear h69 r0 r1
  have r0 := (own1 (w := w62) kk).1 0
  have r1 := (own1 (w := w62) kk).1 1
  simp at r0 r1
  go_wp2_with fail
  refine (Rq _ HB).mono ?_
  rintro e w70 ⟨rfl, h70⟩
  replace HB := bl_trans HB h70
  replace kk := bl_trans kk h70
  clear h70 r0 r1
  have r0 := (own1 (w := w62) kk).1 0
  have r1 := (own1 (w := w62) kk).1 1
  simp at r0 r1
  go_wp2_with fail
  refine (awake_below aF aZ _ _ HE.out HB).mono ?_
  rintro e w71 ⟨rfl, h71⟩
  have HR : Hid _ := h71
  clear h71 HB
  go_wp2
  go_ret
  exact ⟨rfl, HR.out⟩

set_option maxHeartbeats 4000000 in
theorem makes_outneg3 (p q X1 X2 NG : ByteArray) (sg : Int) (n : Int) (aF aZ : Addr) (w : World) (hE : Er w aF aZ) (h0 : ¬ 60 < p.size) (h1 : ¬ 60 < q.size) (hn : n < 0)
    (Em : ∀ v : World, Below w.heap.size w v → Calls Tryz.prog 26 #[.string p, .string q] v fun e w' => e = .returned (.tuple #[.string ⟨#[]⟩, .int .i64 3]) ∧ Below v.heap.size v w')
    (Ep : ∀ v : World, Below w.heap.size w v → Calls Tryz.prog 27 #[.string p, .int .i64 n] v fun e w' => e = .returned (.tuple #[.string ⟨#[]⟩, .int .i64 1]) ∧ Below v.heap.size v w')
    (Es : ∀ v : World, Below w.heap.size w v → Calls Tryz.prog 28 #[.string p] v fun e w' => e = .returned (.tuple #[.int .i64 sg, .int .i64 0]) ∧ Below v.heap.size v w')
    (En : ∀ v : World, Below w.heap.size w v → Calls Tryz.prog 29 #[.string p] v fun e w' => e = .returned (.tuple #[.string NG, .int .i64 0]) ∧ Below v.heap.size v w')
    (Er : ∀ v : World, Below w.heap.size w v → Calls Tryz.prog 20 #[.string p] v fun e w' => e = .returned (.tuple #[.agg #[.string X1, .string X2], .bool true]) ∧ Below v.heap.size v w')
    (Eg : ∀ v : World, Below w.heap.size w v → Calls Tryz.prog 30 #[.string p] v fun e w' => e = .returned (.bool true) ∧ Below v.heap.size v w')
     (Rp : ∀ v : World, Below w.heap.size w v → Calls Tryz.prog 33 #[.string p] v fun e w' => e = .returned (.bool true) ∧ Below v.heap.size v w') (Rq : ∀ v : World, Below w.heap.size w v → Calls Tryz.prog 33 #[.string q] v fun e w' => e = .returned (.bool true) ∧ Below v.heap.size v w') (hq : (q.toList == [48]) = true) :
    Calls Tryz.prog 4 #[.string p, .string q, .int .i64 n] w fun e w' => e = .returned (.bool true) ∧ Below w.heap.size w w' := by
  have HE : Hid _ := hE
  clear hE
  have HB := Below.refl w.heap.size w
  go_enter Tryz.func4, Tryz.ntmps4
  go_wp2_with fail
  refine (Em _ HB).mono ?_
  rintro e w72 ⟨rfl, h72⟩
  replace HB := bl_trans HB h72
  clear h72
  go_wp2_with fail
  refine (Ep _ HB).mono ?_
  rintro e w73 ⟨rfl, h73⟩
  replace HB := bl_trans HB h73
  clear h73
  go_wp2_with fail
  refine (Es _ HB).mono ?_
  rintro e w74 ⟨rfl, h74⟩
  replace HB := bl_trans HB h74
  clear h74
  go_wp2_with fail
  refine (En _ HB).mono ?_
  rintro e w75 ⟨rfl, h75⟩
  replace HB := bl_trans HB h75
  clear h75
  go_wp2_with fail
  refine (Er _ HB).mono ?_
  rintro e w76 ⟨rfl, h76⟩
  replace HB := bl_trans HB h76
  clear h76
  go_wp2_with fail
  refine (Eg _ (bl_alloc HB _)).mono ?_
  rintro e w77 ⟨rfl, h77⟩
  have kk := h77
  replace HB := bl_trans (bl_alloc HB _) h77
  clear h77
  clear kk
  go_wp2_with fail
  refine (Rp _ HB).mono ?_
  rintro e w78 ⟨rfl, h78⟩
  replace HB := bl_trans HB h78
  clear h78
  go_wp2_with fail
  refine (Rq _ HB).mono ?_
  rintro e w79 ⟨rfl, h79⟩
  replace HB := bl_trans HB h79
  clear h79
  go_wp2_with fail
  refine (awake_below aF aZ _ _ HE.out HB).mono ?_
  rintro e w80 ⟨rfl, h80⟩
  have HR : Hid _ := h80
  clear h80 HB
  go_wp2
  go_ret
  exact ⟨rfl, HR.out⟩

set_option maxHeartbeats 4000000 in
theorem makes_outbig3 (p q X1 X2 NG : ByteArray) (sg : Int) (n : Int) (aF aZ : Addr) (w : World) (hE : Er w aF aZ) (h0 : ¬ 60 < p.size) (h1 : ¬ 60 < q.size) (hn0 : ¬ n < 0) (hn : 6 < n)
    (Em : ∀ v : World, Below w.heap.size w v → Calls Tryz.prog 26 #[.string p, .string q] v fun e w' => e = .returned (.tuple #[.string ⟨#[]⟩, .int .i64 3]) ∧ Below v.heap.size v w')
    (Ep : ∀ v : World, Below w.heap.size w v → Calls Tryz.prog 27 #[.string p, .int .i64 n] v fun e w' => e = .returned (.tuple #[.string ⟨#[]⟩, .int .i64 1]) ∧ Below v.heap.size v w')
    (Es : ∀ v : World, Below w.heap.size w v → Calls Tryz.prog 28 #[.string p] v fun e w' => e = .returned (.tuple #[.int .i64 sg, .int .i64 0]) ∧ Below v.heap.size v w')
    (En : ∀ v : World, Below w.heap.size w v → Calls Tryz.prog 29 #[.string p] v fun e w' => e = .returned (.tuple #[.string NG, .int .i64 0]) ∧ Below v.heap.size v w')
    (Er : ∀ v : World, Below w.heap.size w v → Calls Tryz.prog 20 #[.string p] v fun e w' => e = .returned (.tuple #[.agg #[.string X1, .string X2], .bool true]) ∧ Below v.heap.size v w')
    (Eg : ∀ v : World, Below w.heap.size w v → Calls Tryz.prog 30 #[.string p] v fun e w' => e = .returned (.bool true) ∧ Below v.heap.size v w')
     (Rp : ∀ v : World, Below w.heap.size w v → Calls Tryz.prog 33 #[.string p] v fun e w' => e = .returned (.bool true) ∧ Below v.heap.size v w') (Rq : ∀ v : World, Below w.heap.size w v → Calls Tryz.prog 33 #[.string q] v fun e w' => e = .returned (.bool true) ∧ Below v.heap.size v w') (hq : (q.toList == [48]) = true) :
    Calls Tryz.prog 4 #[.string p, .string q, .int .i64 n] w fun e w' => e = .returned (.bool true) ∧ Below w.heap.size w w' := by
  have HE : Hid _ := hE
  clear hE
  have HB := Below.refl w.heap.size w
  go_enter Tryz.func4, Tryz.ntmps4
  go_wp2_with fail
  refine (Em _ HB).mono ?_
  rintro e w81 ⟨rfl, h81⟩
  replace HB := bl_trans HB h81
  clear h81
  go_wp2_with fail
  refine (Ep _ HB).mono ?_
  rintro e w82 ⟨rfl, h82⟩
  replace HB := bl_trans HB h82
  clear h82
  go_wp2_with fail
  refine (Es _ HB).mono ?_
  rintro e w83 ⟨rfl, h83⟩
  replace HB := bl_trans HB h83
  clear h83
  go_wp2_with fail
  refine (En _ HB).mono ?_
  rintro e w84 ⟨rfl, h84⟩
  replace HB := bl_trans HB h84
  clear h84
  go_wp2_with fail
  refine (Er _ HB).mono ?_
  rintro e w85 ⟨rfl, h85⟩
  replace HB := bl_trans HB h85
  clear h85
  go_wp2_with fail
  refine (Eg _ (bl_alloc HB _)).mono ?_
  rintro e w86 ⟨rfl, h86⟩
  have kk := h86
  replace HB := bl_trans (bl_alloc HB _) h86
  clear h86
  clear kk
  go_wp2_with fail
  refine (Rp _ HB).mono ?_
  rintro e w87 ⟨rfl, h87⟩
  replace HB := bl_trans HB h87
  clear h87
  go_wp2_with fail
  refine (Rq _ HB).mono ?_
  rintro e w88 ⟨rfl, h88⟩
  replace HB := bl_trans HB h88
  clear h88
  go_wp2_with fail
  refine (awake_below aF aZ _ _ HE.out HB).mono ?_
  rintro e w89 ⟨rfl, h89⟩
  have HR : Hid _ := h89
  clear h89 HB
  go_wp2
  go_ret
  exact ⟨rfl, HR.out⟩

set_option maxHeartbeats 4000000 in
theorem makes_in3 (p q X1 X2 NG PW Y1 Y2 V1 V2 : ByteArray) (sg : Int) (n : Int) (aF aZ : Addr) (w : World) (hE : Er w aF aZ) (h0 : ¬ 60 < p.size) (h1 : ¬ 60 < q.size) (hn0 : ¬ n < 0) (hn : ¬ 6 < n)
    (Em : ∀ v : World, Below w.heap.size w v → Calls Tryz.prog 26 #[.string p, .string q] v fun e w' => e = .returned (.tuple #[.string ⟨#[]⟩, .int .i64 3]) ∧ Below v.heap.size v w')
    (Ep : ∀ v : World, Below w.heap.size w v → Calls Tryz.prog 27 #[.string p, .int .i64 n] v fun e w' => e = .returned (.tuple #[.string PW, .int .i64 0]) ∧ Below v.heap.size v w')
    (Es : ∀ v : World, Below w.heap.size w v → Calls Tryz.prog 28 #[.string p] v fun e w' => e = .returned (.tuple #[.int .i64 sg, .int .i64 0]) ∧ Below v.heap.size v w')
    (En : ∀ v : World, Below w.heap.size w v → Calls Tryz.prog 29 #[.string p] v fun e w' => e = .returned (.tuple #[.string NG, .int .i64 0]) ∧ Below v.heap.size v w')
    (Er : ∀ v : World, Below w.heap.size w v → Calls Tryz.prog 20 #[.string p] v fun e w' => e = .returned (.tuple #[.agg #[.string X1, .string X2], .bool true]) ∧ Below v.heap.size v w')
    (Eg : ∀ v : World, Below w.heap.size w v → Calls Tryz.prog 30 #[.string p] v fun e w' => e = .returned (.bool true) ∧ Below v.heap.size v w')
    (Qp : ∀ v : World, Below w.heap.size w v → Calls Tryz.prog 31 #[.agg #[.string X1, .string X2], .int .i64 n] v fun e w' => e = .returned (.agg #[.string Y1, .string Y2]) ∧ Below v.heap.size v w')
    (Qt : ∀ v : World, Below w.heap.size w v → Calls Tryz.prog 21 #[.agg #[.string Y1, .string Y2]] v fun e w' => e = .returned (.string PW) ∧ Below v.heap.size v w')
    (Qs : ∀ v : World, Below w.heap.size w v → Calls Tryz.prog 32 #[.string X1] v fun e w' => e = .returned (.int .i64 sg) ∧ Below v.heap.size v w')
    (Qn : ∀ v : World, Below w.heap.size w v → Calls Tryz.prog 23 #[.agg #[.string X1, .string X2]] v fun e w' => e = .returned (.agg #[.string V1, .string V2]) ∧ Below v.heap.size v w')
    (Qv : ∀ v : World, Below w.heap.size w v → Calls Tryz.prog 21 #[.agg #[.string V1, .string V2]] v fun e w' => e = .returned (.string NG) ∧ Below v.heap.size v w')
     (Rp : ∀ v : World, Below w.heap.size w v → Calls Tryz.prog 33 #[.string p] v fun e w' => e = .returned (.bool true) ∧ Below v.heap.size v w') (Rq : ∀ v : World, Below w.heap.size w v → Calls Tryz.prog 33 #[.string q] v fun e w' => e = .returned (.bool true) ∧ Below v.heap.size v w') (hq : (q.toList == [48]) = true) :
    Calls Tryz.prog 4 #[.string p, .string q, .int .i64 n] w fun e w' => e = .returned (.bool true) ∧ Below w.heap.size w w' := by
  have HE : Hid _ := hE
  clear hE
  have HB := Below.refl w.heap.size w
  go_enter Tryz.func4, Tryz.ntmps4
  go_wp2_with fail
  refine (Em _ HB).mono ?_
  rintro e w90 ⟨rfl, h90⟩
  replace HB := bl_trans HB h90
  clear h90
  go_wp2_with fail
  refine (Ep _ HB).mono ?_
  rintro e w91 ⟨rfl, h91⟩
  replace HB := bl_trans HB h91
  clear h91
  go_wp2_with fail
  refine (Es _ HB).mono ?_
  rintro e w92 ⟨rfl, h92⟩
  replace HB := bl_trans HB h92
  clear h92
  go_wp2_with fail
  refine (En _ HB).mono ?_
  rintro e w93 ⟨rfl, h93⟩
  replace HB := bl_trans HB h93
  clear h93
  go_wp2_with fail
  refine (Er _ HB).mono ?_
  rintro e w94 ⟨rfl, h94⟩
  replace HB := bl_trans HB h94
  clear h94
  go_wp2_with fail
  refine (Eg _ (bl_alloc HB _)).mono ?_
  rintro e w95 ⟨rfl, h95⟩
  have kk := h95
  replace HB := bl_trans (bl_alloc HB _) h95
  clear h95
  have r0 := (own1 (w := w94) kk).1 0
  have r1 := (own1 (w := w94) kk).1 1
  simp at r0 r1
  go_wp2_with fail
  refine (Qp _ HB).mono ?_
  rintro e w96 ⟨rfl, h96⟩
  replace HB := bl_trans HB h96
  replace kk := bl_trans kk h96
  clear h96 r0 r1
  have r0 := (own1 (w := w94) kk).1 0
  have r1 := (own1 (w := w94) kk).1 1
  simp at r0 r1
  go_wp2_with fail
  refine (Qt _ HB).mono ?_
  rintro e w97 ⟨rfl, h97⟩
  replace HB := bl_trans HB h97
  replace kk := bl_trans kk h97
  clear h97 r0 r1
  have r0 := (own1 (w := w94) kk).1 0
  have r1 := (own1 (w := w94) kk).1 1
  simp at r0 r1
  go_wp2_with fail
  refine (Qs _ HB).mono ?_
  rintro e w98 ⟨rfl, h98⟩
  replace HB := bl_trans HB h98
  replace kk := bl_trans kk h98
  clear h98 r0 r1
  have r0 := (own1 (w := w94) kk).1 0
  have r1 := (own1 (w := w94) kk).1 1
  simp at r0 r1
  go_wp2_with fail
  refine (Qn _ HB).mono ?_
  rintro e w99 ⟨rfl, h99⟩
  replace HB := bl_trans HB h99
  replace kk := bl_trans kk h99
  clear h99 r0 r1
  have r0 := (own1 (w := w94) kk).1 0
  have r1 := (own1 (w := w94) kk).1 1
  simp at r0 r1
  go_wp2_with fail
  refine (Qv _ HB).mono ?_
  rintro e w100 ⟨rfl, h100⟩
  replace HB := bl_trans HB h100
  replace kk := bl_trans kk h100
  clear h100 r0 r1
  have r0 := (own1 (w := w94) kk).1 0
  have r1 := (own1 (w := w94) kk).1 1
  simp at r0 r1
  go_wp2_with fail
  refine (Rp _ HB).mono ?_
  rintro e w101 ⟨rfl, h101⟩
  replace HB := bl_trans HB h101
  replace kk := bl_trans kk h101
  clear h101 r0 r1
  have r0 := (own1 (w := w94) kk).1 0
  have r1 := (own1 (w := w94) kk).1 1
  simp at r0 r1
  go_wp2_with fail
  refine (Rq _ HB).mono ?_
  rintro e w102 ⟨rfl, h102⟩
  replace HB := bl_trans HB h102
  replace kk := bl_trans kk h102
  clear h102 r0 r1
  have r0 := (own1 (w := w94) kk).1 0
  have r1 := (own1 (w := w94) kk).1 1
  simp at r0 r1
  go_wp2_with fail
  refine (awake_below aF aZ _ _ HE.out HB).mono ?_
  rintro e w103 ⟨rfl, h103⟩
  have HR : Hid _ := h103
  clear h103 HB
  go_wp2
  go_ret
  exact ⟨rfl, HR.out⟩

set_option maxHeartbeats 4000000 in
theorem makes_outneg4 (p q X1 X2 NG M L1 L2 : ByteArray) (sg : Int) (n : Int) (aF aZ : Addr) (w : World) (hE : Er w aF aZ) (h0 : ¬ 60 < p.size) (h1 : ¬ 60 < q.size) (hn : n < 0)
    (Em : ∀ v : World, Below w.heap.size w v → Calls Tryz.prog 26 #[.string p, .string q] v fun e w' => e = .returned (.tuple #[.string M, .int .i64 0]) ∧ Below v.heap.size v w')
    (Ep : ∀ v : World, Below w.heap.size w v → Calls Tryz.prog 27 #[.string p, .int .i64 n] v fun e w' => e = .returned (.tuple #[.string ⟨#[]⟩, .int .i64 1]) ∧ Below v.heap.size v w')
    (Es : ∀ v : World, Below w.heap.size w v → Calls Tryz.prog 28 #[.string p] v fun e w' => e = .returned (.tuple #[.int .i64 sg, .int .i64 0]) ∧ Below v.heap.size v w')
    (En : ∀ v : World, Below w.heap.size w v → Calls Tryz.prog 29 #[.string p] v fun e w' => e = .returned (.tuple #[.string NG, .int .i64 0]) ∧ Below v.heap.size v w')
    (Er : ∀ v : World, Below w.heap.size w v → Calls Tryz.prog 20 #[.string p] v fun e w' => e = .returned (.tuple #[.agg #[.string X1, .string X2], .bool true]) ∧ Below v.heap.size v w')
    (Eg : ∀ v : World, Below w.heap.size w v → Calls Tryz.prog 30 #[.string p] v fun e w' => e = .returned (.bool true) ∧ Below v.heap.size v w')
     (Rp : ∀ v : World, Below w.heap.size w v → Calls Tryz.prog 33 #[.string p] v fun e w' => e = .returned (.bool true) ∧ Below v.heap.size v w') (Rq : ∀ v : World, Below w.heap.size w v → Calls Tryz.prog 33 #[.string q] v fun e w' => e = .returned (.bool true) ∧ Below v.heap.size v w') (hq : (q.toList == [48]) = false) (El : ∀ v : World, Below w.heap.size w v → Calls Tryz.prog 25 #[.string p, .string q] v fun e w' => e = .returned (.agg #[.string L1, .string L2]) ∧ Below v.heap.size v w') (Et : ∀ v : World, Below w.heap.size w v → Calls Tryz.prog 21 #[.agg #[.string L1, .string L2]] v fun e w' => e = .returned (.string M) ∧ Below v.heap.size v w') :
    Calls Tryz.prog 4 #[.string p, .string q, .int .i64 n] w fun e w' => e = .returned (.bool true) ∧ Below w.heap.size w w' := by
  have HE : Hid _ := hE
  clear hE
  have HB := Below.refl w.heap.size w
  go_enter Tryz.func4, Tryz.ntmps4
  go_wp2_with fail
  refine (Em _ HB).mono ?_
  rintro e w104 ⟨rfl, h104⟩
  replace HB := bl_trans HB h104
  clear h104
  go_wp2_with fail
  refine (Ep _ HB).mono ?_
  rintro e w105 ⟨rfl, h105⟩
  replace HB := bl_trans HB h105
  clear h105
  go_wp2_with fail
  refine (Es _ HB).mono ?_
  rintro e w106 ⟨rfl, h106⟩
  replace HB := bl_trans HB h106
  clear h106
  go_wp2_with fail
  refine (En _ HB).mono ?_
  rintro e w107 ⟨rfl, h107⟩
  replace HB := bl_trans HB h107
  clear h107
  go_wp2_with fail
  refine (Er _ HB).mono ?_
  rintro e w108 ⟨rfl, h108⟩
  replace HB := bl_trans HB h108
  clear h108
  go_wp2_with fail
  refine (Eg _ (bl_alloc HB _)).mono ?_
  rintro e w109 ⟨rfl, h109⟩
  have kk := h109
  replace HB := bl_trans (bl_alloc HB _) h109
  clear h109
  clear kk
  go_wp2_with fail
  refine (Rp _ HB).mono ?_
  rintro e w110 ⟨rfl, h110⟩
  replace HB := bl_trans HB h110
  clear h110
  go_wp2_with fail
  refine (Rq _ HB).mono ?_
  rintro e w111 ⟨rfl, h111⟩
  replace HB := bl_trans HB h111
  clear h111
  go_wp2_with fail
  refine (El _ HB).mono ?_
  rintro e w112 ⟨rfl, h112⟩
  replace HB := bl_trans HB h112
  clear h112
  go_wp2_with fail
  refine (Et _ HB).mono ?_
  rintro e w113 ⟨rfl, h113⟩
  replace HB := bl_trans HB h113
  clear h113
  go_wp2_with fail
  refine (awake_below aF aZ _ _ HE.out HB).mono ?_
  rintro e w114 ⟨rfl, h114⟩
  have HR : Hid _ := h114
  clear h114 HB
  go_wp2
  go_ret
  exact ⟨rfl, HR.out⟩

set_option maxHeartbeats 4000000 in
theorem makes_outbig4 (p q X1 X2 NG M L1 L2 : ByteArray) (sg : Int) (n : Int) (aF aZ : Addr) (w : World) (hE : Er w aF aZ) (h0 : ¬ 60 < p.size) (h1 : ¬ 60 < q.size) (hn0 : ¬ n < 0) (hn : 6 < n)
    (Em : ∀ v : World, Below w.heap.size w v → Calls Tryz.prog 26 #[.string p, .string q] v fun e w' => e = .returned (.tuple #[.string M, .int .i64 0]) ∧ Below v.heap.size v w')
    (Ep : ∀ v : World, Below w.heap.size w v → Calls Tryz.prog 27 #[.string p, .int .i64 n] v fun e w' => e = .returned (.tuple #[.string ⟨#[]⟩, .int .i64 1]) ∧ Below v.heap.size v w')
    (Es : ∀ v : World, Below w.heap.size w v → Calls Tryz.prog 28 #[.string p] v fun e w' => e = .returned (.tuple #[.int .i64 sg, .int .i64 0]) ∧ Below v.heap.size v w')
    (En : ∀ v : World, Below w.heap.size w v → Calls Tryz.prog 29 #[.string p] v fun e w' => e = .returned (.tuple #[.string NG, .int .i64 0]) ∧ Below v.heap.size v w')
    (Er : ∀ v : World, Below w.heap.size w v → Calls Tryz.prog 20 #[.string p] v fun e w' => e = .returned (.tuple #[.agg #[.string X1, .string X2], .bool true]) ∧ Below v.heap.size v w')
    (Eg : ∀ v : World, Below w.heap.size w v → Calls Tryz.prog 30 #[.string p] v fun e w' => e = .returned (.bool true) ∧ Below v.heap.size v w')
     (Rp : ∀ v : World, Below w.heap.size w v → Calls Tryz.prog 33 #[.string p] v fun e w' => e = .returned (.bool true) ∧ Below v.heap.size v w') (Rq : ∀ v : World, Below w.heap.size w v → Calls Tryz.prog 33 #[.string q] v fun e w' => e = .returned (.bool true) ∧ Below v.heap.size v w') (hq : (q.toList == [48]) = false) (El : ∀ v : World, Below w.heap.size w v → Calls Tryz.prog 25 #[.string p, .string q] v fun e w' => e = .returned (.agg #[.string L1, .string L2]) ∧ Below v.heap.size v w') (Et : ∀ v : World, Below w.heap.size w v → Calls Tryz.prog 21 #[.agg #[.string L1, .string L2]] v fun e w' => e = .returned (.string M) ∧ Below v.heap.size v w') :
    Calls Tryz.prog 4 #[.string p, .string q, .int .i64 n] w fun e w' => e = .returned (.bool true) ∧ Below w.heap.size w w' := by
  have HE : Hid _ := hE
  clear hE
  have HB := Below.refl w.heap.size w
  go_enter Tryz.func4, Tryz.ntmps4
  go_wp2_with fail
  refine (Em _ HB).mono ?_
  rintro e w115 ⟨rfl, h115⟩
  replace HB := bl_trans HB h115
  clear h115
  go_wp2_with fail
  refine (Ep _ HB).mono ?_
  rintro e w116 ⟨rfl, h116⟩
  replace HB := bl_trans HB h116
  clear h116
  go_wp2_with fail
  refine (Es _ HB).mono ?_
  rintro e w117 ⟨rfl, h117⟩
  replace HB := bl_trans HB h117
  clear h117
  go_wp2_with fail
  refine (En _ HB).mono ?_
  rintro e w118 ⟨rfl, h118⟩
  replace HB := bl_trans HB h118
  clear h118
  go_wp2_with fail
  refine (Er _ HB).mono ?_
  rintro e w119 ⟨rfl, h119⟩
  replace HB := bl_trans HB h119
  clear h119
  go_wp2_with fail
  refine (Eg _ (bl_alloc HB _)).mono ?_
  rintro e w120 ⟨rfl, h120⟩
  have kk := h120
  replace HB := bl_trans (bl_alloc HB _) h120
  clear h120
  clear kk
  go_wp2_with fail
  refine (Rp _ HB).mono ?_
  rintro e w121 ⟨rfl, h121⟩
  replace HB := bl_trans HB h121
  clear h121
  go_wp2_with fail
  refine (Rq _ HB).mono ?_
  rintro e w122 ⟨rfl, h122⟩
  replace HB := bl_trans HB h122
  clear h122
  go_wp2_with fail
  refine (El _ HB).mono ?_
  rintro e w123 ⟨rfl, h123⟩
  replace HB := bl_trans HB h123
  clear h123
  go_wp2_with fail
  refine (Et _ HB).mono ?_
  rintro e w124 ⟨rfl, h124⟩
  replace HB := bl_trans HB h124
  clear h124
  go_wp2_with fail
  refine (awake_below aF aZ _ _ HE.out HB).mono ?_
  rintro e w125 ⟨rfl, h125⟩
  have HR : Hid _ := h125
  clear h125 HB
  go_wp2
  go_ret
  exact ⟨rfl, HR.out⟩

set_option maxHeartbeats 4000000 in
theorem makes_in4 (p q X1 X2 NG PW Y1 Y2 V1 V2 M L1 L2 : ByteArray) (sg : Int) (n : Int) (aF aZ : Addr) (w : World) (hE : Er w aF aZ) (h0 : ¬ 60 < p.size) (h1 : ¬ 60 < q.size) (hn0 : ¬ n < 0) (hn : ¬ 6 < n)
    (Em : ∀ v : World, Below w.heap.size w v → Calls Tryz.prog 26 #[.string p, .string q] v fun e w' => e = .returned (.tuple #[.string M, .int .i64 0]) ∧ Below v.heap.size v w')
    (Ep : ∀ v : World, Below w.heap.size w v → Calls Tryz.prog 27 #[.string p, .int .i64 n] v fun e w' => e = .returned (.tuple #[.string PW, .int .i64 0]) ∧ Below v.heap.size v w')
    (Es : ∀ v : World, Below w.heap.size w v → Calls Tryz.prog 28 #[.string p] v fun e w' => e = .returned (.tuple #[.int .i64 sg, .int .i64 0]) ∧ Below v.heap.size v w')
    (En : ∀ v : World, Below w.heap.size w v → Calls Tryz.prog 29 #[.string p] v fun e w' => e = .returned (.tuple #[.string NG, .int .i64 0]) ∧ Below v.heap.size v w')
    (Er : ∀ v : World, Below w.heap.size w v → Calls Tryz.prog 20 #[.string p] v fun e w' => e = .returned (.tuple #[.agg #[.string X1, .string X2], .bool true]) ∧ Below v.heap.size v w')
    (Eg : ∀ v : World, Below w.heap.size w v → Calls Tryz.prog 30 #[.string p] v fun e w' => e = .returned (.bool true) ∧ Below v.heap.size v w')
    (Qp : ∀ v : World, Below w.heap.size w v → Calls Tryz.prog 31 #[.agg #[.string X1, .string X2], .int .i64 n] v fun e w' => e = .returned (.agg #[.string Y1, .string Y2]) ∧ Below v.heap.size v w')
    (Qt : ∀ v : World, Below w.heap.size w v → Calls Tryz.prog 21 #[.agg #[.string Y1, .string Y2]] v fun e w' => e = .returned (.string PW) ∧ Below v.heap.size v w')
    (Qs : ∀ v : World, Below w.heap.size w v → Calls Tryz.prog 32 #[.string X1] v fun e w' => e = .returned (.int .i64 sg) ∧ Below v.heap.size v w')
    (Qn : ∀ v : World, Below w.heap.size w v → Calls Tryz.prog 23 #[.agg #[.string X1, .string X2]] v fun e w' => e = .returned (.agg #[.string V1, .string V2]) ∧ Below v.heap.size v w')
    (Qv : ∀ v : World, Below w.heap.size w v → Calls Tryz.prog 21 #[.agg #[.string V1, .string V2]] v fun e w' => e = .returned (.string NG) ∧ Below v.heap.size v w')
     (Rp : ∀ v : World, Below w.heap.size w v → Calls Tryz.prog 33 #[.string p] v fun e w' => e = .returned (.bool true) ∧ Below v.heap.size v w') (Rq : ∀ v : World, Below w.heap.size w v → Calls Tryz.prog 33 #[.string q] v fun e w' => e = .returned (.bool true) ∧ Below v.heap.size v w') (hq : (q.toList == [48]) = false) (El : ∀ v : World, Below w.heap.size w v → Calls Tryz.prog 25 #[.string p, .string q] v fun e w' => e = .returned (.agg #[.string L1, .string L2]) ∧ Below v.heap.size v w') (Et : ∀ v : World, Below w.heap.size w v → Calls Tryz.prog 21 #[.agg #[.string L1, .string L2]] v fun e w' => e = .returned (.string M) ∧ Below v.heap.size v w') :
    Calls Tryz.prog 4 #[.string p, .string q, .int .i64 n] w fun e w' => e = .returned (.bool true) ∧ Below w.heap.size w w' := by
  have HE : Hid _ := hE
  clear hE
  have HB := Below.refl w.heap.size w
  go_enter Tryz.func4, Tryz.ntmps4
  go_wp2_with fail
  refine (Em _ HB).mono ?_
  rintro e w126 ⟨rfl, h126⟩
  replace HB := bl_trans HB h126
  clear h126
  go_wp2_with fail
  refine (Ep _ HB).mono ?_
  rintro e w127 ⟨rfl, h127⟩
  replace HB := bl_trans HB h127
  clear h127
  go_wp2_with fail
  refine (Es _ HB).mono ?_
  rintro e w128 ⟨rfl, h128⟩
  replace HB := bl_trans HB h128
  clear h128
  go_wp2_with fail
  refine (En _ HB).mono ?_
  rintro e w129 ⟨rfl, h129⟩
  replace HB := bl_trans HB h129
  clear h129
  go_wp2_with fail
  refine (Er _ HB).mono ?_
  rintro e w130 ⟨rfl, h130⟩
  replace HB := bl_trans HB h130
  clear h130
  go_wp2_with fail
  refine (Eg _ (bl_alloc HB _)).mono ?_
  rintro e w131 ⟨rfl, h131⟩
  have kk := h131
  replace HB := bl_trans (bl_alloc HB _) h131
  clear h131
  have r0 := (own1 (w := w130) kk).1 0
  have r1 := (own1 (w := w130) kk).1 1
  simp at r0 r1
  go_wp2_with fail
  refine (Qp _ HB).mono ?_
  rintro e w132 ⟨rfl, h132⟩
  replace HB := bl_trans HB h132
  replace kk := bl_trans kk h132
  clear h132 r0 r1
  have r0 := (own1 (w := w130) kk).1 0
  have r1 := (own1 (w := w130) kk).1 1
  simp at r0 r1
  go_wp2_with fail
  refine (Qt _ HB).mono ?_
  rintro e w133 ⟨rfl, h133⟩
  replace HB := bl_trans HB h133
  replace kk := bl_trans kk h133
  clear h133 r0 r1
  have r0 := (own1 (w := w130) kk).1 0
  have r1 := (own1 (w := w130) kk).1 1
  simp at r0 r1
  go_wp2_with fail
  refine (Qs _ HB).mono ?_
  rintro e w134 ⟨rfl, h134⟩
  replace HB := bl_trans HB h134
  replace kk := bl_trans kk h134
  clear h134 r0 r1
  have r0 := (own1 (w := w130) kk).1 0
  have r1 := (own1 (w := w130) kk).1 1
  simp at r0 r1
  go_wp2_with fail
  refine (Qn _ HB).mono ?_
  rintro e w135 ⟨rfl, h135⟩
  replace HB := bl_trans HB h135
  replace kk := bl_trans kk h135
  clear h135 r0 r1
  have r0 := (own1 (w := w130) kk).1 0
  have r1 := (own1 (w := w130) kk).1 1
  simp at r0 r1
  go_wp2_with fail
  refine (Qv _ HB).mono ?_
  rintro e w136 ⟨rfl, h136⟩
  replace HB := bl_trans HB h136
  replace kk := bl_trans kk h136
  clear h136 r0 r1
  have r0 := (own1 (w := w130) kk).1 0
  have r1 := (own1 (w := w130) kk).1 1
  simp at r0 r1
  go_wp2_with fail
  refine (Rp _ HB).mono ?_
  rintro e w137 ⟨rfl, h137⟩
  replace HB := bl_trans HB h137
  replace kk := bl_trans kk h137
  clear h137 r0 r1
  have r0 := (own1 (w := w130) kk).1 0
  have r1 := (own1 (w := w130) kk).1 1
  simp at r0 r1
  go_wp2_with fail
  refine (Rq _ HB).mono ?_
  rintro e w138 ⟨rfl, h138⟩
  replace HB := bl_trans HB h138
  replace kk := bl_trans kk h138
  clear h138 r0 r1
  have r0 := (own1 (w := w130) kk).1 0
  have r1 := (own1 (w := w130) kk).1 1
  simp at r0 r1
  go_wp2_with fail
  refine (El _ HB).mono ?_
  rintro e w139 ⟨rfl, h139⟩
  replace HB := bl_trans HB h139
  replace kk := bl_trans kk h139
  clear h139 r0 r1
  have r0 := (own1 (w := w130) kk).1 0
  have r1 := (own1 (w := w130) kk).1 1
  simp at r0 r1
  go_wp2_with fail
  refine (Et _ HB).mono ?_
  rintro e w140 ⟨rfl, h140⟩
  replace HB := bl_trans HB h140
  replace kk := bl_trans kk h140
  clear h140 r0 r1
  have r0 := (own1 (w := w130) kk).1 0
  have r1 := (own1 (w := w130) kk).1 1
  simp at r0 r1
  go_wp2_with fail
  refine (awake_below aF aZ _ _ HE.out HB).mono ?_
  rintro e w141 ⟨rfl, h141⟩
  have HR : Hid _ := h141
  clear h141 HB
  go_wp2
  go_ret
  exact ⟨rfl, HR.out⟩

theorem rtextB (r : Rat) (v : World) (h : Bd r 10000) : Calls Tryz.prog 21 #[fr r] v fun e w' => e = .returned (.string (R r)) ∧ Below v.heap.size v w' :=
  (rtext_R r v h).mono fun _ _ ⟨he, hb⟩ => ⟨he, by rw [hb]; exact bl_alloc (Below.refl _ v) _⟩
theorem wh_ra {s : ByteArray} (h : wh s = true) : ra s = true := by
  obtain ⟨z, rfl⟩ := W_of h
  have : W z = R (z : Rat) := by rw [R_one (show ((z : Int) : Rat).den = 1 from rfl)]; rfl
  rw [this]; exact ra_R _
theorem makes_any (p q : ByteArray) (n : Int) (hw : (Lit.int .i64 n).wf = true) (aF aZ : Addr) (w : World) (hE : Er w aF aZ) :
    Calls Tryz.prog 4 #[.string p, .string q, .int .i64 n] w fun e w' => e = .returned (.bool true) ∧ Below w.heap.size w w' := by
  by_cases h0 : 60 < p.size
  · exact makes_long0 p q n aF aZ w hE h0
  by_cases h1 : 60 < q.size
  · exact makes_long1 p q n aF aZ w hE h0 h1
  have Rp := fun (b : Bool) (e : wh p = b) (v : World) (_ : Below w.heap.size w v) => calm_same (refRightw_is p b v (by omega) e)
  have Rq := fun (b : Bool) (e : wh q = b) (v : World) (_ : Below w.heap.size w v) => calm_same (refRightw_is q b v (by omega) e)
  cases hr : ra p with
  | false =>
    have hp : wh p = false := by
      cases c : wh p with
      | false => rfl
      | true => rw [wh_ra c] at hr; cases hr
    have M := fun v h => Make_no p q aF aZ v (hE.below h) (by omega) (by omega) (by rw [hp]; rfl)
    have P := fun v h => PowerR_no p n aF aZ v (hE.below h) (by omega) hr
    have S' := fun v h => SignR_no p aF aZ v (hE.below h) (by omega) hr
    have G := fun v h => NegR_no p aF aZ v (hE.below h) (by omega) hr
    have K := fun v h => Right_no p aF aZ v (hE.below h) (by omega) hr
    obtain ⟨X1, X2, D⟩ := Read_one p (by omega) hr
    exact makes_a p q X1 X2 n aF aZ w hE h0 h1 M P S' G (fun v _ => D v) K (Rp false hp)
  | true =>
    obtain ⟨r, rfl⟩ := R_of hr
    have bd : Bd r 60 := Bd.of_size (by omega)
    have D := fun v (_ : Below w.heap.size w v) => Read_R r v (by omega)
    have K := fun v (_ : Below w.heap.size w v) => Right_R r v (by omega)
    have S' := fun v (_ : Below w.heap.size w v) => Sign_R r v (by omega)
    have G := fun v (_ : Below w.heap.size w v) => Neg_R r v (by omega)
    have Qs := fun v (_ : Below w.heap.size w v) => calm_same (refSign_W r.num v (by have := bd.1; omega))
    have Qn := fun v (_ : Below w.heap.size w v) => rneg_R r v (bd.mono (by omega))
    have Qv := fun v (_ : Below w.heap.size w v) => rtextB (-r) v (bd.neg.mono (by omega))
    have out : (n < 0 ∨ 6 < n) → ∀ v : World, Below w.heap.size w v → Calls Tryz.prog 27 #[.string (R r), .int .i64 n] v fun e w' => e = .returned (.tuple #[.string ⟨#[]⟩, .int .i64 1]) ∧ Below v.heap.size v w' := fun ho v h => Power_out r n aF aZ v (hE.below h) (by omega) ho
    have inn : ¬ n < 0 → ¬ 6 < n → ∃ m : Nat, n = (m : Int) ∧ m ≤ 6 := fun a b => ⟨n.toNat, by omega, by omega⟩
    -- what Make gives, and the walks
    cases hp : wh (R r) with
    | false =>
      have M := fun v h => Make_no (R r) q aF aZ v (hE.below h) (by omega) (by omega) (by rw [hp]; rfl)
      by_cases n0 : n < 0
      · exact makes_outneg1 _ _ _ _ _ _ n aF aZ w hE h0 h1 n0 M (out (.inl n0)) S' G D K (Rp false hp)
      by_cases n6 : 6 < n
      · exact makes_outbig1 _ _ _ _ _ _ n aF aZ w hE h0 h1 n0 n6 M (out (.inr n6)) S' G D K (Rp false hp)
      obtain ⟨m, rfl, hm⟩ := inn n0 n6
      exact makes_in1 _ _ _ _ _ _ _ _ _ _ _ _ aF aZ w hE h0 h1 n0 n6 M (fun v _ => Power_R r m v (by omega) hm) S' G D K (fun v _ => rpow_R r m v hm bd) (fun v _ => rtextB (r ^ m) v ((bd.pow (by omega) m).mono (by have : m * 60 ≤ 6 * 60 := Nat.mul_le_mul_right _ hm; omega))) Qs Qn Qv (Rp false hp)
    | true =>
      cases hq : wh q with
      | false =>
        have M := fun v h => Make_no (R r) q aF aZ v (hE.below h) (by omega) (by omega) (by rw [hp, hq]; rfl)
        by_cases n0 : n < 0
        · exact makes_outneg2 _ _ _ _ _ _ n aF aZ w hE h0 h1 n0 M (out (.inl n0)) S' G D K (Rp true hp) (Rq false hq)
        by_cases n6 : 6 < n
        · exact makes_outbig2 _ _ _ _ _ _ n aF aZ w hE h0 h1 n0 n6 M (out (.inr n6)) S' G D K (Rp true hp) (Rq false hq)
        obtain ⟨m, rfl, hm⟩ := inn n0 n6
        exact makes_in2 _ _ _ _ _ _ _ _ _ _ _ _ aF aZ w hE h0 h1 n0 n6 M (fun v _ => Power_R r m v (by omega) hm) S' G D K (fun v _ => rpow_R r m v hm bd) (fun v _ => rtextB (r ^ m) v ((bd.pow (by omega) m).mono (by have : m * 60 ≤ 6 * 60 := Nat.mul_le_mul_right _ hm; omega))) Qs Qn Qv (Rp true hp) (Rq false hq)
      | true =>
        obtain ⟨z, ez⟩ := W_of hp
        have RP := Rp true hp
        have RQ := Rq true hq
        obtain ⟨k, rfl⟩ := W_of hq
        have tz : tl z.natAbs ≤ 60 := by have := tl_W z; rw [← ez] at this; omega
        have tk : tl k.natAbs ≤ 60 := by have := tl_W k; omega
        by_cases k0 : k = 0
        · have M := fun v h => Make_zero z aF aZ v (hE.below h) (by omega)
          rw [← ez, ← k0] at M
          have e0 : ((W k).toList == [48]) = true := by rw [k0, W0, toList_data]; rfl
          by_cases n0 : n < 0
          · exact makes_outneg3 _ _ _ _ _ _ n aF aZ w hE h0 h1 n0 M (out (.inl n0)) S' G D K RP RQ e0
          by_cases n6 : 6 < n
          · exact makes_outbig3 _ _ _ _ _ _ n aF aZ w hE h0 h1 n0 n6 M (out (.inr n6)) S' G D K RP RQ e0
          obtain ⟨m, rfl, hm⟩ := inn n0 n6
          exact makes_in3 _ _ _ _ _ _ _ _ _ _ _ _ aF aZ w hE h0 h1 n0 n6 M (fun v _ => Power_R r m v (by omega) hm) S' G D K (fun v _ => rpow_R r m v hm bd) (fun v _ => rtextB (r ^ m) v ((bd.pow (by omega) m).mono (by have : m * 60 ≤ 6 * 60 := Nat.mul_le_mul_right _ hm; omega))) Qs Qn Qv RP RQ e0
        · have M := fun v (_ : Below w.heap.size w v) => Make_W z k v (by omega) (by omega) k0
          have El := fun v (_ : Below w.heap.size w v) => low_W z k v (by omega) (by omega) k0
          have Et := fun v (_ : Below w.heap.size w v) => rtextB (by' z k) v ((Bd.by' k0 tz tk).mono (by omega))
          rw [← ez] at M El
          by_cases n0 : n < 0
          · exact makes_outneg4 _ _ _ _ _ _ _ _ _ n aF aZ w hE h0 h1 n0 M (out (.inl n0)) S' G D K RP RQ (notW0 k0) El Et
          by_cases n6 : 6 < n
          · exact makes_outbig4 _ _ _ _ _ _ _ _ _ n aF aZ w hE h0 h1 n0 n6 M (out (.inr n6)) S' G D K RP RQ (notW0 k0) El Et
          obtain ⟨m, rfl, hm⟩ := inn n0 n6
          exact makes_in4 _ _ _ _ _ _ _ _ _ _ _ _ _ _ _ aF aZ w hE h0 h1 n0 n6 M (fun v _ => Power_R r m v (by omega) hm) S' G D K (fun v _ => rpow_R r m v hm bd) (fun v _ => rtextB (r ^ m) v ((bd.pow (by omega) m).mono (by have : m * 60 ≤ 6 * 60 := Nat.mul_le_mul_right _ hm; omega))) Qs Qn Qv RP RQ (notW0 k0) El Et
end
end Go.Proofs.YtpmnfgbbkmodpaaGreatDoor
namespace Go.Proofs.YtpmnfgbbkmodpaaGreatDoor.ratMakes
section
open Go.ChangeShapes Go.WideShapes Go.ChangeAt Go.RowKit
open Go.ChangeMaps (open_string shut_string)
set_option linter.unusedVariables false

theorem own : ownKnob Tryz.prog.godebug = none := by kernel_rfl

set_option maxRecDepth 100000 in
theorem lifted (os : Os) (started : os.Started) (H : Type) (enc : TypeId × Value → H) :
    ReturnsInHanded {} Tryz.checked os 4 .any (fun w args => (Rows.ratMakesSpec.pre enc Tryz.prog Tryz.f4 [] false w args ∧ laidMetH Tryz.prog listed w) ∧ sizedMet enc Tryz.prog Tryz.f4 (OpenSpec.ofChange Rows.ratMakesSpec) false w args)
      (Rows.ratMakesSpec.post enc Tryz.prog Tryz.f4 false true false false) := by
  refine returnsInHanded_of_change_and (C := Tryz.checked) (X := fun w _ => laidMetH Tryz.prog listed w) (fun _ _ _ hh h => h.of_heap hh) own started (by kernel_rfl) Tryz.func4
    (ChangeSpec.witness_shaped (enc := enc) (C := Tryz.checked) (os := os) (X := fun w _ => laidMetH Tryz.prog listed w) false (World.doorLaid Tryz.prog 400 os) #[.string ByteArray.empty, .string ByteArray.empty, .int .i64 0] 8 rfl (door_shaped os _) (by kernel_rfl) (by kernel_rfl) (by kernel_rfl) (door_met os _)) ?_
  intro W base args ds gs before hval0 hW _ _ hL _
  have hval : ∀ (j : Nat) t v, Tryz.f4.params[j]? = some t → args[j]? = some v → Value.okWide Tryz.prog W .any base t v := hval0
  have hW' := hW
  obtain ⟨p, q, hA0, hV, rfl, hfz, hnd⟩ := hW
  have hA : DataW.TrodAll enc Tryz.prog W 0 (fun _ => true) true Tryz.f4.params.toList args.toList ds p := hA0
  rw [Tryz.params4] at hA hval
  obtain ⟨v0, vs0, d0, ds0, p0, q0, hargs, rfl, rfl, h0, r0⟩ := trodAll_cons hA
  obtain ⟨v1, vs1, d1, ds1, p1, q1, rfl, rfl, rfl, h1, r1⟩ := trodAll_cons r0
  obtain ⟨v2, vs2, d2, ds2, p2, q2, rfl, rfl, rfl, h2, r2⟩ := trodAll_cons r1
  obtain ⟨rfl, rfl, rfl⟩ := trodAll_nil r2
  obtain rfl : args = #[v0, v1, v2] := by cases args; simp_all
  obtain ⟨rfl, rfl⟩ := trodVars_none hV
  obtain ⟨a0, rfl, rfl, rfl, w0⟩ := open_string Tryz.underlying9 (hval 0 9 v0 rfl rfl) h0
  obtain ⟨a1, rfl, rfl, rfl, w1⟩ := open_string Tryz.underlying9 (hval 1 9 v1 rfl rfl) h1
  obtain ⟨a2, rfl, rfl, rfl, w2⟩ := open_int Tryz.underlying3 (hval 2 3 v2 rfl rfl) h2
  obtain ⟨aF, aZ, hE⟩ := er_of hL
  clear hA0 hval0
  simp only [List.append_nil] at hW'
  refine (Go.Proofs.YtpmnfgbbkmodpaaGreatDoor.makes_any a0 a1 a2 w2 aF aZ W hE).mono fun e W' ⟨he, bel⟩ => ?_
  subst he
  exact ⟨_, rfl, _, _, _, [], [], [], hW', trodAll_mk1 (shut_bool Tryz.underlying4 _), (trodAll_cons_mk (shut_string Tryz.underlying9 w0) (trodAll_cons_mk (shut_string Tryz.underlying9 w1) (trodAll_cons_mk (shut_int Tryz.underlying3 w2) trodAll_mk0))), rfl, bel.frame _, fun h => by cases h⟩

theorem row : Rows.RatMakesSaid :=
  OpenClaim.holds_of_wide 4 Tryz.f4 rfl rfl rfl rfl rfl rfl rfl ⟨rfl, rfl, rfl, rfl, rfl⟩ rfl rfl rfl rfl rfl (by kernel_rfl) Tryz.func4 (by kernel_rfl)
    (of_decide_eq_true (by kernel_rfl)) (by unfold Func.isWrapper; first | (rw [if_pos (by decide +kernel)]; kernel_rfl) | (rw [if_neg (by decide +kernel)]; exact ⟨rfl, rfl⟩))
    (fun os started H enc _ => lifted os started H enc)

theorem proved : Rows.RatMakesCardSaid :=
  Claim7.holds_tied_plain_at .later [] [.handle, .sentinel, .sentinel] true (true, "1a3ddbcb9d29070d83cd072e95934012661a20515207d1b69a103a806a1e4cc8") true
    row (fun _ h => by cases h) (by kernel_rfl) (fun _ h => by cases h) ratMakes_row_tie rfl ⟨rfl, rfl⟩ (by kernel_rfl) rfl
    (fun f fn hf hfn => by
      obtain rfl : f = 4 := Option.some.inj ((show Tryz.prog.funcNamed "tapewright/tapewrightlaw03.RatMakes" = some 4 by kernel_rfl).symm.trans hf) |>.symm
      obtain rfl : fn = Tryz.f4 := (Option.some.inj (Tryz.func4.symm.trans hfn)).symm
      exact ⟨by kernel_rfl, fun j t ht => by
        rw [Tryz.params4] at ht
        have hm : t ∈ ([9, 9, 3] : List Nat) := by
          have := List.mem_of_getElem? (l := [9, 9, 3]) (i := j) (a := t) (by simpa using ht)
          exact this
        simp only [List.mem_cons, List.not_mem_nil, or_false] at hm
        rcases hm with rfl | rfl | rfl
        · exact stand9
        · exact stand9
        · exact stand3⟩)
    (by kernel_rfl)
#print axioms proved
end
end Go.Proofs.YtpmnfgbbkmodpaaGreatDoor.ratMakes
