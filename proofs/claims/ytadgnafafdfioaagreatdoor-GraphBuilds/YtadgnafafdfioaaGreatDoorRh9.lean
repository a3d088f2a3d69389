/-
  THE WORDS BEHIND =: what is made of them. Conditions: each theorem's own.
-/
import Derived.Test.YtadgnafafdfioaaGreatDoorRg9
namespace Go.Proofs.YtadgnafafdfioaaGreatDoor.Rd
set_option maxRecDepth 100000
open Go.RowKit Nm
set_option linter.unusedVariables false
set_option linter.unusedSimpArgs false

abbrev z7 : Array Value := #[.string ⟨#[]⟩, .string ⟨#[]⟩, .slice none 0 0, .slice none 0 0, .string ⟨#[]⟩, .int .i64 0, .slice none 0 0]
/-- a statement's block of one's own, as it was made -/
theorem own7 {w v : World} {r : TypeId} (h : Below (w.alloc (.cells z7 r)).heap.size (w.alloc (.cells z7 r)) v) :
    v.cell? ⟨w.heap.size, 0, none⟩ = some (.string ⟨#[]⟩) ∧ v.cell? ⟨w.heap.size, 1, none⟩ = some (.string ⟨#[]⟩) ∧ v.cell? ⟨w.heap.size, 2, none⟩ = some (.slice none 0 0) ∧ v.cell? ⟨w.heap.size, 3, none⟩ = some (.slice none 0 0) ∧ v.cell? ⟨w.heap.size, 4, none⟩ = some (.string ⟨#[]⟩) ∧
    v.cell? ⟨w.heap.size, 5, none⟩ = some (.int .i64 0) ∧ v.cell? ⟨w.heap.size, 6, none⟩ = some (.slice none 0 0) ∧ (∀ i, v.frozen? ⟨w.heap.size, i, none⟩ = false) ∧ Below w.heap.size w v := by
  obtain ⟨o1, f1, hB⟩ := own1 h
  exact ⟨o1 0, o1 1, o1 2, o1 3, o1 4, o1 5, o1 6, f1, hB⟩
/-- where the words behind an operation's names stand -/
def Ae (b off c k : Nat) (A : Addr) : Prop := ∃ o1, Ad b off c ⟨b, o1, none⟩ ∧ (if c = k + 1 then some (⟨b, o1, none⟩ : Addr) else some ⟨b, o1 + k, none⟩) = some A
set_option maxHeartbeats 4000000 in
theorem op_yes1 (name op : ByteArray) (b off n c : Nat) (w : World) (hn : nmb name = true) (hl : n ≤ 1000000) (hcap : n + 1 ≤ c) (hcm : c ≤ maxLen) (hc : w.cell? ⟨b, off, none⟩ = some (.string op)) (ha : ari op = 1) (hs : 1 ≤ n) (hM : ∀ A, Ad b off c A → ∀ v, Below w.heap.size w v → Calls Tryz.prog 77 #[.slice (some A) 1 (c - 1), .func (.func 49) #[] #[]] v fun e w' => e = .returned (.bool true) ∧ w' = v)
    (args : List ByteArray) (hlen : args.length = 1) (hC : ∀ A, Ad b off c A → ∀ v, Below w.heap.size w v → Calls Tryz.prog 66 #[.slice (some A) 1 (c - 1)] v fun e w' => ∃ u, e = .returned u ∧ w'.ownsRow v.heap.size 9 1 u args.length (txts args) ∧ Below v.heap.size v w')
    (s : Sm) (hsa : s.args = args) (hsd : s.data = []) (hF : ∀ A, Ae b off c 1 A → ∀ a1 c1 v, Below w.heap.size w v → Calls Tryz.prog 78 #[sv name op (.slice a1 1 c1) nils em 0 nils, .slice (some A) (n - 1) (c - 1 - 1)] v fun e w' => ∃ a2 m2 c2, e = .returned (.tuple #[sv s.name s.op (.slice a1 1 c1) (.slice a2 m2 c2) s.k s.n nils, .bool true]) ∧ Od w' v.heap.size (.slice a2 m2 c2) s.dims ∧ Below v.heap.size v w') :
    Calls Tryz.prog 60 #[.string name, .slice (some ⟨b, off, none⟩) (n + 1) c] w fun e w' => (∃ v, e = .returned (.tuple #[v, .bool true]) ∧ So w' w.heap.size v s) ∧ Below w.heap.size w w' := by
  have hN := Lx.name_any name
  unfold nmb at hn
  rw [hn] at hN
  have hA := arity_any op
  rw [ha] at hA
  have hlt : b < w.heap.size := row_lt hc
  obtain ⟨o1, ho1⟩ : ∃ o1, (if c = 1 then some (⟨b, off, none⟩ : Addr) else some ⟨b, off + 1, none⟩) = some ⟨b, o1, none⟩ := by
    by_cases q : c = 1
    · exact ⟨off, if_pos q⟩
    · exact ⟨off + 1, if_neg q⟩
  obtain ⟨o2, ho2⟩ : ∃ o2, (if c = 1 + 1 then some (⟨b, o1, none⟩ : Addr) else some ⟨b, o1 + 1, none⟩) = some ⟨b, o2, none⟩ := by
    by_cases q : c = 1 + 1
    · exact ⟨o1, if_pos q⟩
    · exact ⟨o1 + 1, if_neg q⟩
  have hM1 := hM ⟨b, o1, none⟩ ho1
  have hC1 := hC ⟨b, o1, none⟩ ho1
  have hF1 := hF ⟨b, o2, none⟩ ⟨o1, ho1, ho2⟩
  have HC : Hid _ := hC1
  have HF : Hid _ := hF1
  clear hM hC hC1 hF hF1
  go_enter Tryz.func60, Tryz.ntmps60
  go_wp2_with fail
  refine (hN _).mono ?_
  rintro e w1 ⟨rfl, rfl⟩
  go_wp2_with fail
  go_region
  clear hc hN ho1
  go_wp2_with fail
  refine (hA _).mono ?_
  rintro e w1 ⟨rfl, rfl⟩
  clear hA
  simp only [Int.natCast_one]
  go_wp2_with fail
  refine (hM1 _ (((Below.refl _ _).alloc (Nat.le_refl _) _).drew)).mono ?_
  rintro e w1 ⟨rfl, rfl⟩
  clear hM1
  go_wp2_with fail
  refine (HC.out _ (((Below.refl _ _).alloc (Nat.le_refl _) _).drew)).mono ?_
  rintro e w2 ⟨u, rfl, hO, h2⟩
  have HO : Hid _ := hO
  rw [hlen] at hO
  obtain ⟨a1, c1, rfl, -⟩ := Row.of_own hO
  have HB2 : Hid _ := h2
  clear hO h2
  have hb2 : Below w.heap.size w w2 := (((Below.refl _ _).alloc (Nat.le_refl _) _).drew).trans (HB2.out.mono (by simp))
  have HW : Hid _ := hb2
  clear hb2
  simp only [show 1 + 1 = 2 from rfl] at ho2
  go_wp2_with fail
  go_region_with (go_at_call 78; refine (HF.out _ _ _ (bl_drew (bl_alloc HW.out _))).mono ?_; rintro e w3 ⟨a2, m2, c2, rfl, hD, h3⟩; have hb3 := (HB2.out.trans ((bl_drew (bl_alloc (Below.refl w2.heap.size w2) _)).mono HB2.out.size)).trans (h3.mono (Nat.le_trans HB2.out.size (by simp))); obtain ⟨q0, q1, q2, q3, q4, q5, q6, f1, hB⟩ := own7 (r := 41) ((Below.drew (Below.refl (w.alloc (.cells z7 41)).heap.size (w.alloc (.cells z7 41)))).trans hb3); have HB23 := (bl_drew (bl_alloc (Below.refl w2.heap.size w2) _)).trans (h3.mono (by simp)); have HA : Hid _ := Lx.own_mono (Lx.own_below HO.out HB23) (show w.heap.size + 1 ≤ _ by simp); have HB3 : Hid _ := hB; have HD : Hid _ := Lx.own_mono hD (show w.heap.size + 1 ≤ _ by have := HB2.out.size; simp at this ⊢; omega); clear hD; clear h3 hB hb3 HB23)
  all_goals go_wp2
  all_goals refine bodyPost_ret (v := .tuple #[sv s.name s.op (.slice a1 1 c1) (.slice a2 m2 c2) s.k s.n nils, .bool true]) (by simp [results, Tryz.results60, go_sem, q0, q1, q2, q3, q4, q5, q6]) rfl ⟨⟨_, rfl, _, _, _, rfl, ?_, ?_, ?_⟩, ?_⟩
  all_goals first
    | (rw [hsa]; exact Lx.own_mono (base := w.heap.size + 1) (by iterate 7 refine own_set ?_ (by simp) _
                                                                 exact HA.out) (by omega))
    | (exact Lx.own_mono (base := w.heap.size + 1) (by iterate 7 refine own_set ?_ (by simp) _
                                                       exact HD.out) (by omega))
    | (exact ⟨by rw [hsd]; exact Ob.nil _ _, .inr rfl⟩)
    | (iterate 7 refine Below.setCell ?_ (by simp) _
       exact HB3.out)
set_option maxHeartbeats 4000000 in
theorem op_no1 (name op : ByteArray) (b off n c : Nat) (w : World) (hn : nmb name = true) (hl : n ≤ 1000000) (hcap : n + 1 ≤ c) (hcm : c ≤ maxLen) (hc : w.cell? ⟨b, off, none⟩ = some (.string op)) (ha : ari op = 1) (hs : 1 ≤ n) (hM : ∀ A, Ad b off c A → ∀ v, Below w.heap.size w v → Calls Tryz.prog 77 #[.slice (some A) 1 (c - 1), .func (.func 49) #[] #[]] v fun e w' => e = .returned (.bool true) ∧ w' = v)
    (args : List ByteArray) (hlen : args.length = 1) (hC : ∀ A, Ad b off c A → ∀ v, Below w.heap.size w v → Calls Tryz.prog 66 #[.slice (some A) 1 (c - 1)] v fun e w' => ∃ u, e = .returned u ∧ w'.ownsRow v.heap.size 9 1 u args.length (txts args) ∧ Below v.heap.size v w')
    (hF : ∀ A, Ae b off c 1 A → ∀ a1 c1 v, Below w.heap.size w v → Calls Tryz.prog 78 #[sv name op (.slice a1 1 c1) nils em 0 nils, .slice (some A) (n - 1) (c - 1 - 1)] v fun e w' => e = .returned (.tuple #[zv, .bool false]) ∧ Below v.heap.size v w') :
    Calls Tryz.prog 60 #[.string name, .slice (some ⟨b, off, none⟩) (n + 1) c] w fun e w' => (e = .returned (.tuple #[zv, .bool false])) ∧ Below w.heap.size w w' := by
  have hN := Lx.name_any name
  unfold nmb at hn
  rw [hn] at hN
  have hA := arity_any op
  rw [ha] at hA
  have hlt : b < w.heap.size := row_lt hc
  obtain ⟨o1, ho1⟩ : ∃ o1, (if c = 1 then some (⟨b, off, none⟩ : Addr) else some ⟨b, off + 1, none⟩) = some ⟨b, o1, none⟩ := by
    by_cases q : c = 1
    · exact ⟨off, if_pos q⟩
    · exact ⟨off + 1, if_neg q⟩
  obtain ⟨o2, ho2⟩ : ∃ o2, (if c = 1 + 1 then some (⟨b, o1, none⟩ : Addr) else some ⟨b, o1 + 1, none⟩) = some ⟨b, o2, none⟩ := by
    by_cases q : c = 1 + 1
    · exact ⟨o1, if_pos q⟩
    · exact ⟨o1 + 1, if_neg q⟩
  have hM1 := hM ⟨b, o1, none⟩ ho1
  have hC1 := hC ⟨b, o1, none⟩ ho1
  have hF1 := hF ⟨b, o2, none⟩ ⟨o1, ho1, ho2⟩
  have HC : Hid _ := hC1
  have HF : Hid _ := hF1
  clear hM hC hC1 hF hF1
  go_enter Tryz.func60, Tryz.ntmps60
  go_wp2_with fail
  refine (hN _).mono ?_
  rintro e w1 ⟨rfl, rfl⟩
  go_wp2_with fail
  go_region
  clear hc hN ho1
  go_wp2_with fail
  refine (hA _).mono ?_
  rintro e w1 ⟨rfl, rfl⟩
  clear hA
  simp only [Int.natCast_one]
  go_wp2_with fail
  refine (hM1 _ (((Below.refl _ _).alloc (Nat.le_refl _) _).drew)).mono ?_
  rintro e w1 ⟨rfl, rfl⟩
  clear hM1
  go_wp2_with fail
  refine (HC.out _ (((Below.refl _ _).alloc (Nat.le_refl _) _).drew)).mono ?_
  rintro e w2 ⟨u, rfl, hO, h2⟩
  have HO : Hid _ := hO
  rw [hlen] at hO
  obtain ⟨a1, c1, rfl, -⟩ := Row.of_own hO
  have HB2 : Hid _ := h2
  clear hO h2
  have hb2 : Below w.heap.size w w2 := (((Below.refl _ _).alloc (Nat.le_refl _) _).drew).trans (HB2.out.mono (by simp))
  have HW : Hid _ := hb2
  clear hb2
  simp only [show 1 + 1 = 2 from rfl] at ho2
  go_wp2_with fail
  go_region_with (go_at_call 78; refine (HF.out _ _ _ (bl_drew (bl_alloc HW.out _))).mono ?_; rintro e w3 ⟨rfl, h3⟩; have hb3 := (HB2.out.trans ((bl_drew (bl_alloc (Below.refl w2.heap.size w2) _)).mono HB2.out.size)).trans (h3.mono (Nat.le_trans HB2.out.size (by simp))); obtain ⟨q0, q1, q2, q3, q4, q5, q6, f1, hB⟩ := own7 (r := 41) ((Below.drew (Below.refl (w.alloc (.cells z7 41)).heap.size (w.alloc (.cells z7 41)))).trans hb3); have HB23 := (bl_drew (bl_alloc (Below.refl w2.heap.size w2) _)).trans (h3.mono (by simp)); have HA : Hid _ := Lx.own_mono (Lx.own_below HO.out HB23) (show w.heap.size + 1 ≤ _ by simp); have HB3 : Hid _ := hB; clear h3 hB hb3 HB23)
  all_goals go_wp2
  all_goals refine bodyPost_ret (v := .tuple #[zv, .bool false]) (by simp [results, Tryz.results60, go_sem, q0, q1, q2, q3, q4, q5, q6]) rfl ⟨rfl, ?_⟩
  all_goals
    iterate 7 refine Below.setCell ?_ (by simp) _
    exact HB3.out
set_option maxHeartbeats 4000000 in
theorem op_yes2 (name op : ByteArray) (b off n c : Nat) (w : World) (hn : nmb name = true) (hl : n ≤ 1000000) (hcap : n + 1 ≤ c) (hcm : c ≤ maxLen) (hc : w.cell? ⟨b, off, none⟩ = some (.string op)) (ha : ari op = 2) (hs : 2 ≤ n) (hM : ∀ A, Ad b off c A → ∀ v, Below w.heap.size w v → Calls Tryz.prog 77 #[.slice (some A) 2 (c - 1), .func (.func 49) #[] #[]] v fun e w' => e = .returned (.bool true) ∧ w' = v)
    (args : List ByteArray) (hlen : args.length = 2) (hC : ∀ A, Ad b off c A → ∀ v, Below w.heap.size w v → Calls Tryz.prog 66 #[.slice (some A) 2 (c - 1)] v fun e w' => ∃ u, e = .returned u ∧ w'.ownsRow v.heap.size 9 1 u args.length (txts args) ∧ Below v.heap.size v w')
    (s : Sm) (hsa : s.args = args) (hsd : s.data = []) (hF : ∀ A, Ae b off c 2 A → ∀ a1 c1 v, Below w.heap.size w v → Calls Tryz.prog 78 #[sv name op (.slice a1 2 c1) nils em 0 nils, .slice (some A) (n - 2) (c - 1 - 2)] v fun e w' => ∃ a2 m2 c2, e = .returned (.tuple #[sv s.name s.op (.slice a1 2 c1) (.slice a2 m2 c2) s.k s.n nils, .bool true]) ∧ Od w' v.heap.size (.slice a2 m2 c2) s.dims ∧ Below v.heap.size v w') :
    Calls Tryz.prog 60 #[.string name, .slice (some ⟨b, off, none⟩) (n + 1) c] w fun e w' => (∃ v, e = .returned (.tuple #[v, .bool true]) ∧ So w' w.heap.size v s) ∧ Below w.heap.size w w' := by
  have hN := Lx.name_any name
  unfold nmb at hn
  rw [hn] at hN
  have hA := arity_any op
  rw [ha] at hA
  have hlt : b < w.heap.size := row_lt hc
  obtain ⟨o1, ho1⟩ : ∃ o1, (if c = 1 then some (⟨b, off, none⟩ : Addr) else some ⟨b, off + 1, none⟩) = some ⟨b, o1, none⟩ := by
    by_cases q : c = 1
    · exact ⟨off, if_pos q⟩
    · exact ⟨off + 1, if_neg q⟩
  obtain ⟨o2, ho2⟩ : ∃ o2, (if c = 2 + 1 then some (⟨b, o1, none⟩ : Addr) else some ⟨b, o1 + 2, none⟩) = some ⟨b, o2, none⟩ := by
    by_cases q : c = 2 + 1
    · exact ⟨o1, if_pos q⟩
    · exact ⟨o1 + 2, if_neg q⟩
  have hM1 := hM ⟨b, o1, none⟩ ho1
  have hC1 := hC ⟨b, o1, none⟩ ho1
  have hF1 := hF ⟨b, o2, none⟩ ⟨o1, ho1, ho2⟩
  have HC : Hid _ := hC1
  have HF : Hid _ := hF1
  clear hM hC hC1 hF hF1
  go_enter Tryz.func60, Tryz.ntmps60
  go_wp2_with fail
  refine (hN _).mono ?_
  rintro e w1 ⟨rfl, rfl⟩
  go_wp2_with fail
  go_region
  clear hc hN ho1
  go_wp2_with fail
  refine (hA _).mono ?_
  rintro e w1 ⟨rfl, rfl⟩
  clear hA
  simp only [Int.cast_ofNat_Int]
  go_wp2_with fail
  refine (hM1 _ (((Below.refl _ _).alloc (Nat.le_refl _) _).drew)).mono ?_
  rintro e w1 ⟨rfl, rfl⟩
  clear hM1
  go_wp2_with fail
  refine (HC.out _ (((Below.refl _ _).alloc (Nat.le_refl _) _).drew)).mono ?_
  rintro e w2 ⟨u, rfl, hO, h2⟩
  have HO : Hid _ := hO
  rw [hlen] at hO
  obtain ⟨a1, c1, rfl, -⟩ := Row.of_own hO
  have HB2 : Hid _ := h2
  clear hO h2
  have hb2 : Below w.heap.size w w2 := (((Below.refl _ _).alloc (Nat.le_refl _) _).drew).trans (HB2.out.mono (by simp))
  have HW : Hid _ := hb2
  clear hb2
  simp only [show 2 + 1 = 3 from rfl] at ho2
  go_wp2_with fail
  go_region_with (go_at_call 78; refine (HF.out _ _ _ (bl_drew (bl_alloc HW.out _))).mono ?_; rintro e w3 ⟨a2, m2, c2, rfl, hD, h3⟩; have hb3 := (HB2.out.trans ((bl_drew (bl_alloc (Below.refl w2.heap.size w2) _)).mono HB2.out.size)).trans (h3.mono (Nat.le_trans HB2.out.size (by simp))); obtain ⟨q0, q1, q2, q3, q4, q5, q6, f1, hB⟩ := own7 (r := 41) ((Below.drew (Below.refl (w.alloc (.cells z7 41)).heap.size (w.alloc (.cells z7 41)))).trans hb3); have HB23 := (bl_drew (bl_alloc (Below.refl w2.heap.size w2) _)).trans (h3.mono (by simp)); have HA : Hid _ := Lx.own_mono (Lx.own_below HO.out HB23) (show w.heap.size + 1 ≤ _ by simp); have HB3 : Hid _ := hB; have HD : Hid _ := Lx.own_mono hD (show w.heap.size + 1 ≤ _ by have := HB2.out.size; simp at this ⊢; omega); clear hD; clear h3 hB hb3 HB23)
  all_goals go_wp2
  all_goals refine bodyPost_ret (v := .tuple #[sv s.name s.op (.slice a1 2 c1) (.slice a2 m2 c2) s.k s.n nils, .bool true]) (by simp [results, Tryz.results60, go_sem, q0, q1, q2, q3, q4, q5, q6]) rfl ⟨⟨_, rfl, _, _, _, rfl, ?_, ?_, ?_⟩, ?_⟩
  all_goals first
    | (rw [hsa]; exact Lx.own_mono (base := w.heap.size + 1) (by iterate 7 refine own_set ?_ (by simp) _
                                                                 exact HA.out) (by omega))
    | (exact Lx.own_mono (base := w.heap.size + 1) (by iterate 7 refine own_set ?_ (by simp) _
                                                       exact HD.out) (by omega))
    | (exact ⟨by rw [hsd]; exact Ob.nil _ _, .inr rfl⟩)
    | (iterate 7 refine Below.setCell ?_ (by simp) _
       exact HB3.out)
set_option maxHeartbeats 4000000 in
theorem op_no2 (name op : ByteArray) (b off n c : Nat) (w : World) (hn : nmb name = true) (hl : n ≤ 1000000) (hcap : n + 1 ≤ c) (hcm : c ≤ maxLen) (hc : w.cell? ⟨b, off, none⟩ = some (.string op)) (ha : ari op = 2) (hs : 2 ≤ n) (hM : ∀ A, Ad b off c A → ∀ v, Below w.heap.size w v → Calls Tryz.prog 77 #[.slice (some A) 2 (c - 1), .func (.func 49) #[] #[]] v fun e w' => e = .returned (.bool true) ∧ w' = v)
    (args : List ByteArray) (hlen : args.length = 2) (hC : ∀ A, Ad b off c A → ∀ v, Below w.heap.size w v → Calls Tryz.prog 66 #[.slice (some A) 2 (c - 1)] v fun e w' => ∃ u, e = .returned u ∧ w'.ownsRow v.heap.size 9 1 u args.length (txts args) ∧ Below v.heap.size v w')
    (hF : ∀ A, Ae b off c 2 A → ∀ a1 c1 v, Below w.heap.size w v → Calls Tryz.prog 78 #[sv name op (.slice a1 2 c1) nils em 0 nils, .slice (some A) (n - 2) (c - 1 - 2)] v fun e w' => e = .returned (.tuple #[zv, .bool false]) ∧ Below v.heap.size v w') :
    Calls Tryz.prog 60 #[.string name, .slice (some ⟨b, off, none⟩) (n + 1) c] w fun e w' => (e = .returned (.tuple #[zv, .bool false])) ∧ Below w.heap.size w w' := by
  have hN := Lx.name_any name
  unfold nmb at hn
  rw [hn] at hN
  have hA := arity_any op
  rw [ha] at hA
  have hlt : b < w.heap.size := row_lt hc
  obtain ⟨o1, ho1⟩ : ∃ o1, (if c = 1 then some (⟨b, off, none⟩ : Addr) else some ⟨b, off + 1, none⟩) = some ⟨b, o1, none⟩ := by
    by_cases q : c = 1
    · exact ⟨off, if_pos q⟩
    · exact ⟨off + 1, if_neg q⟩
  obtain ⟨o2, ho2⟩ : ∃ o2, (if c = 2 + 1 then some (⟨b, o1, none⟩ : Addr) else some ⟨b, o1 + 2, none⟩) = some ⟨b, o2, none⟩ := by
    by_cases q : c = 2 + 1
    · exact ⟨o1, if_pos q⟩
    · exact ⟨o1 + 2, if_neg q⟩
  have hM1 := hM ⟨b, o1, none⟩ ho1
  have hC1 := hC ⟨b, o1, none⟩ ho1
  have hF1 := hF ⟨b, o2, none⟩ ⟨o1, ho1, ho2⟩
  have HC : Hid _ := hC1
  have HF : Hid _ := hF1
  clear hM hC hC1 hF hF1
  go_enter Tryz.func60, Tryz.ntmps60
  go_wp2_with fail
  refine (hN _).mono ?_
  rintro e w1 ⟨rfl, rfl⟩
  go_wp2_with fail
  go_region
  clear hc hN ho1
  go_wp2_with fail
  refine (hA _).mono ?_
  rintro e w1 ⟨rfl, rfl⟩
  clear hA
  simp only [Int.cast_ofNat_Int]
  go_wp2_with fail
  refine (hM1 _ (((Below.refl _ _).alloc (Nat.le_refl _) _).drew)).mono ?_
  rintro e w1 ⟨rfl, rfl⟩
  clear hM1
  go_wp2_with fail
  refine (HC.out _ (((Below.refl _ _).alloc (Nat.le_refl _) _).drew)).mono ?_
  rintro e w2 ⟨u, rfl, hO, h2⟩
  have HO : Hid _ := hO
  rw [hlen] at hO
  obtain ⟨a1, c1, rfl, -⟩ := Row.of_own hO
  have HB2 : Hid _ := h2
  clear hO h2
  have hb2 : Below w.heap.size w w2 := (((Below.refl _ _).alloc (Nat.le_refl _) _).drew).trans (HB2.out.mono (by simp))
  have HW : Hid _ := hb2
  clear hb2
  simp only [show 2 + 1 = 3 from rfl] at ho2
  go_wp2_with fail
  go_region_with (go_at_call 78; refine (HF.out _ _ _ (bl_drew (bl_alloc HW.out _))).mono ?_; rintro e w3 ⟨rfl, h3⟩; have hb3 := (HB2.out.trans ((bl_drew (bl_alloc (Below.refl w2.heap.size w2) _)).mono HB2.out.size)).trans (h3.mono (Nat.le_trans HB2.out.size (by simp))); obtain ⟨q0, q1, q2, q3, q4, q5, q6, f1, hB⟩ := own7 (r := 41) ((Below.drew (Below.refl (w.alloc (.cells z7 41)).heap.size (w.alloc (.cells z7 41)))).trans hb3); have HB23 := (bl_drew (bl_alloc (Below.refl w2.heap.size w2) _)).trans (h3.mono (by simp)); have HA : Hid _ := Lx.own_mono (Lx.own_below HO.out HB23) (show w.heap.size + 1 ≤ _ by simp); have HB3 : Hid _ := hB; clear h3 hB hb3 HB23)
  all_goals go_wp2
  all_goals refine bodyPost_ret (v := .tuple #[zv, .bool false]) (by simp [results, Tryz.results60, go_sem, q0, q1, q2, q3, q4, q5, q6]) rfl ⟨rfl, ?_⟩
  all_goals
    iterate 7 refine Below.setCell ?_ (by simp) _
    exact HB3.out
end Go.Proofs.YtadgnafafdfioaaGreatDoor.Rd
