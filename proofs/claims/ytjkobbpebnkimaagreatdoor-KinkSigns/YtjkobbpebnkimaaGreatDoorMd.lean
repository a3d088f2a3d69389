/-
  TENSORS MADE NUMBER BY NUMBER: what a call of made gives. Conditions: each theorem's own.
-/
import Derived.Test.YtjkobbpebnkimaaGreatDoorTn
namespace Go.Proofs.YtjkobbpebnkimaaGreatDoor.Tn
set_option maxRecDepth 100000
open Go.RowKit Nm
set_option linter.unusedVariables false

theorem frz_below {w v : World} (h : Below w.heap.size w v) {a : Addr} (hl : a.block < w.heap.size) (e : w.frozen? a = false) : v.frozen? a = false := by
  rw [← e]; unfold World.frozen?; rw [h.block _ hl]

/-- the first n cells of a block hold these texts, and may be written -/
structure Os (w : World) (b : Nat) (f : Nat → ByteArray) (n : Nat) : Prop where
  cell : ∀ i, i < n → w.cell? ⟨b, i, none⟩ = some (.string (f i))
  frz : ∀ i, w.frozen? ⟨b, i, none⟩ = false
  lt : b < w.heap.size
def put (f : Nat → ByteArray) (j : Nat) (v : ByteArray) : Nat → ByteArray := fun i => if i = j then v else f i
theorem put_same (f : Nat → ByteArray) (j : Nat) (v : ByteArray) : put f j v j = v := by simp [put]
theorem put_other (f : Nat → ByteArray) {j i : Nat} (v : ByteArray) (h : i ≠ j) : put f j v i = f i := by simp [put, h]
theorem Os.store {w : World} {b n : Nat} {f : Nat → ByteArray} (h : Os w b f n) {j : Nat} (hj : j < n) (v : ByteArray) : Os (w.setCell ⟨b, j, none⟩ (.string v)) b (put f j v) n := by
  refine ⟨fun i hi => ?_, fun i => ?_, ?_⟩
  · by_cases e : i = j
    · subst e; rw [World.cell?_setCell_same _ _ _ (h.cell i hi), put_same]
    · rw [World.cell?_setCell_other _ _ _ _ (by intro x; injection x with _ h2; exact e h2.symm), h.cell i hi, put_other f v e]
  · rw [World.frozen?_setCell]; exact h.frz i
  · simpa [World.setCell] using h.lt
theorem Os.below {w w' : World} {b n : Nat} {f : Nat → ByteArray} (h : Os w b f n) (hb : Below w.heap.size w w') : Os w' b f n :=
  ⟨fun i hi => by rw [hb.cell (p := ⟨b, i, none⟩) h.lt]; exact h.cell i hi, fun i => frz_below hb (a := ⟨b, i, none⟩) h.lt (h.frz i), Nat.lt_of_lt_of_le h.lt hb.size⟩
theorem Os.of_own {w : World} {base e n cap g : Nat} (h : w.ownsRow base e 1 (.slice (some ⟨g, 0, none⟩) n cap) n (madeCells #[Value.string ByteArray.empty] n).toList) : Os w g (fun _ => ByteArray.empty) n := by
  refine ⟨fun i hi => ?_, fun i => h.frozenAt i, (h.lt g rfl).2⟩
  rw [h.cellAt i (by omega), toList_madeCells_one]
  simp [hi]
theorem Os.row {w : World} {b : Nat} {f : Nat → ByteArray} {n : Nat} (h : Os w b f n) {xs : List ByteArray} (hl : xs.length = n) (e : ∀ i, i < n → f i = xs.getD i ByteArray.empty) : Row w (some ⟨b, 0, none⟩) (txts xs) := by
  intro i v hi
  have hi' : i < n := by have := (List.getElem?_eq_some_iff.1 hi).1; rw [txts_len, hl] at this; exact this
  rw [txts_at (by omega)] at hi
  cases hi
  exact ⟨b, 0, rfl, by rw [Nat.zero_add, h.cell i hi', e i hi']⟩

/-- a tensor of one's own that is still empty, and may be written -/
structure Bx (w : World) (b : Nat) : Prop where
  c0 : w.cell? ⟨b, 0, none⟩ = some (.slice none 0 0)
  c1 : w.cell? ⟨b, 1, none⟩ = some (.slice none 0 0)
  f0 : w.frozen? ⟨b, 0, none⟩ = false
  f1 : w.frozen? ⟨b, 1, none⟩ = false
theorem Bx.lt {w : World} {b : Nat} (h : Bx w b) : b < w.heap.size := row_lt h.c0
theorem Bx.below {w w' : World} {b : Nat} (h : Bx w b) (hb : Below w.heap.size w w') : Bx w' b :=
  ⟨by rw [hb.cell (p := ⟨b, 0, none⟩) h.lt]; exact h.c0, by rw [hb.cell (p := ⟨b, 1, none⟩) h.lt]; exact h.c1, frz_below hb (a := ⟨b, 0, none⟩) h.lt h.f0, frz_below hb (a := ⟨b, 1, none⟩) h.lt h.f1⟩
theorem Bx.new (w : World) : Bx (w.alloc (.cells #[.slice none 0 0, .slice none 0 0] 25)) w.heap.size := by
  constructor <;> simp
theorem Bx.grown {w w' : World} {b : Nat} {r : Option Nat} (h : Bx w b) (hg : w.grownBy w' r) (hr : ∀ k, r = some k → k ≠ b) : Bx w' b := by
  have hb : w'.heap[b]? = w.heap[b]? := hg.block b h.lt (fun e => hr b e.symm rfl)
  have c : ∀ i, w'.cell? ⟨b, i, none⟩ = w.cell? ⟨b, i, none⟩ := fun i => by unfold World.cell?; rw [hb]
  have f : ∀ i, w'.frozen? ⟨b, i, none⟩ = w.frozen? ⟨b, i, none⟩ := fun i => by unfold World.frozen?; rw [hb]
  exact ⟨by rw [c]; exact h.c0, by rw [c]; exact h.c1, by rw [f]; exact h.f0, by rw [f]; exact h.f1⟩
theorem Bx.set {w : World} {b : Nat} (h : Bx w b) {a : Addr} (ha : a.block ≠ b) (v : Value) : Bx (w.setCell a v) b := by
  refine ⟨?_, ?_, ?_, ?_⟩
  · rw [World.cell?_setCell_other _ _ _ _ (by intro x; apply ha; rw [x])]; exact h.c0
  · rw [World.cell?_setCell_other _ _ _ _ (by intro x; apply ha; rw [x])]; exact h.c1
  · rw [World.frozen?_setCell]; exact h.f0
  · rw [World.frozen?_setCell]; exact h.f1
theorem bl_set {B : Nat} {w v : World} (h : Below B w v) {a : Addr} (ha : B ≤ a.block) (x : Value) : Below B w (v.setCell a x) := h.setCell ha x

theorem row_set {w : World} {ao : Option Addr} {vs : List Value} (h : Row w ao vs) {B : Nat} (hf : Fresh B ao) {a : Addr} (ha : a.block < B) (v : Value) : Row (w.setCell a v) ao vs := by
  intro i u hi
  obtain ⟨b, off, e, hc⟩ := h i u hi
  have := hf b off none e
  exact ⟨b, off, e, by rw [World.cell?_setCell_other _ _ _ _ (by intro x; rw [x] at ha; simp at ha; omega)]; exact hc⟩
/-- a tensor in memory, behind block B -/
structure Tm (w : World) (B : Nat) (a1 b1 : Option Addr) (zs : List Int) (xs : List ByteArray) : Prop where
  s : Sp.Sl w a1 zs
  r : Row w b1 (txts xs)
  fa : Fresh B a1
  fb : Fresh B b1
theorem Tm.below {w w' : World} {B : Nat} {a1 b1 : Option Addr} {zs : List Int} {xs : List ByteArray} (h : Tm w B a1 b1 zs xs) (hb : Below w.heap.size w w') : Tm w' B a1 b1 zs xs :=
  ⟨h.s.below hb, h.r.below hb, h.fa, h.fb⟩
theorem Tm.set {w : World} {B : Nat} {a1 b1 : Option Addr} {zs : List Int} {xs : List ByteArray} (h : Tm w B a1 b1 zs xs) {a : Addr} (ha : a.block < B) (v : Value) : Tm (w.setCell a v) B a1 b1 zs xs :=
  ⟨row_sl (row_set (row_of_sl h.s) h.fa ha v), row_set h.r h.fb ha v, h.fa, h.fb⟩
theorem Tm.mono {w : World} {B C : Nat} {a1 b1 : Option Addr} {zs : List Int} {xs : List ByteArray} (h : Tm w B a1 b1 zs xs) (hc : C ≤ B) : Tm w C a1 b1 zs xs :=
  ⟨h.s, h.r, fun b off sp e => Nat.le_trans hc (h.fa b off sp e), fun b off sp e => Nat.le_trans hc (h.fb b off sp e)⟩

theorem two_set {w : World} {b : Nat} {u v : Value} (h0 : w.cell? ⟨b, 0, none⟩ = some u) (h1 : w.cell? ⟨b, 1, none⟩ = some v) (x y : Value) :
    ((w.setCell ⟨b, 0, none⟩ x).setCell ⟨b, 1, none⟩ y).cell? ⟨b, 0, none⟩ = some x ∧ ((w.setCell ⟨b, 0, none⟩ x).setCell ⟨b, 1, none⟩ y).cell? ⟨b, 1, none⟩ = some y := by
  have e1 : (w.setCell ⟨b, 0, none⟩ x).cell? ⟨b, 1, none⟩ = some v := by rw [World.cell?_setCell_other _ _ _ _ (by intro e; injection e with _ e2; cases e2)]; exact h1
  exact ⟨by rw [World.cell?_setCell_other _ _ _ _ (by intro e; injection e with _ e2; cases e2), World.cell?_setCell_same _ _ _ h0], World.cell?_setCell_same _ _ _ e1⟩

theorem inf9 : (Tryz.prog.info? 9).map (fun i => (i.zero, i.size, i.bytes)) = some (some (.string ByteArray.empty), 1, 16) := by kernel_rfl

set_option maxHeartbeats 2000000 in
theorem made_any (ao : Option Addr) (zs : List Int) (c f : Nat) (caps : Array Value) (xs : List ByteArray) (w : World) (hr : Sp.Rgt zs) (hS : Sp.Sl w ao zs) (hx : xs.length = Sp.szI zs)
    (hcf : ∀ (args : Array Value) (w : World), (callFunc f args).run Tryz.prog w = .ok (.enter f args) w)
    (HF : ∀ (k : Nat) (v : World), k < xs.length → Below w.heap.size w v → Calls Tryz.prog f (#[.int .i64 (k : Int)] ++ caps) v fun e v' => e = .returned (.tuple #[.string (xs.getD k ByteArray.empty), .int .i64 0]) ∧ Below v.heap.size v v') :
    Calls Tryz.prog 44 #[.slice ao zs.length c, .func (.func f) #[] caps] w fun e w' => ∃ a1 c1 b1 d1, e = .returned (.tuple #[.agg #[.slice a1 zs.length c1, .slice b1 xs.length d1], .int .i64 0]) ∧ Tm w' w.heap.size a1 b1 zs xs ∧ Below w.heap.size w w' := by
  have hl4 := hr.1
  have h64 := Sp.szI_le zs
  have hsz := fun (v : World) (h : Below w.heap.size w v) => Sp.size_any ao zs c v (by omega) (hS.below h)
  have hcl := fun (v : World) (h : Below w.heap.size w v) => clone_any ao zs c v (by omega) (hS.below h)
  rw [← hx] at hsz h64
  obtain ⟨n, hn⟩ : ∃ n, xs.length = n := ⟨_, rfl⟩
  obtain ⟨m, hm⟩ : ∃ m, zs.length = m := ⟨_, rfl⟩
  rw [hn] at hsz h64 ⊢
  rw [hm] at hl4 hsz hcl ⊢
  have HN : Hid (xs.length = n) := hn
  have HF' : Hid _ := HF
  clear hr hS hx HF hn hm
  obtain ⟨i0, hi, hz0, hz1, hz2⟩ := info_parts inf9
  go_enter Tryz.func44, Tryz.ntmps44
  go_wp2_with fail
  refine (hsz _ ((Below.refl _ _).alloc (Nat.le_refl _) _)).mono ?_
  rintro e w1 ⟨rfl, rfl⟩
  clear hsz
  go_wp2_with (first | (at_make; refine wpList_make_full _ rfl _ _ 23 rfl (w.heap.size + 1) 9 i0 (.string ByteArray.empty) 1 Tryz.underlying23 hi hz0 hz1 _ _ _ _ n rfl rfl (by omega) (by omega) (by rw [hz2]; omega) (by unfold maxLen; omega) (by simp) ?_))
  intro w2 hown1 hgrow1
  go_wp2_with fail
  have hO1 := Os.of_own hown1
  have hX1 := (Bx.new w).grown hgrow1 (fun k h => by cases h)
  have hB1 : Below w.heap.size w w2 := ((Below.refl _ _).alloc (Nat.le_refl _) _).grown hgrow1 (by simp) (fun k h => by cases h)
  clear hown1 hgrow1
  go_loopw [7, 8, 9, 15] (fun _ _ _ i wr => ∃ (k : Nat) (o : Nat → ByteArray), k ≤ n ∧ i = .int .i64 k ∧ Os wr (w.heap.size + 1) o n ∧ (∀ j, j < k → o j = xs.getD j ByteArray.empty) ∧ Bx wr w.heap.size ∧ Below w.heap.size w wr) (fun _ _ _ i _ => n - (intOf i).toNat)
  case atStart => exact ⟨0, _, by omega, rfl, hO1, fun j hj => by omega, hX1, hB1⟩
  case round =>
    clear hO1 hX1 hB1
    obtain ⟨k, o, hk, rfl, hO, ho, hX, hB⟩ := hrel
    by_cases h : k < n
    · have hc := HF'.out k wr (by rw [HN.out]; exact h) hB
      obtain ⟨t, ht⟩ : ∃ t, xs.getD k ByteArray.empty = t := ⟨_, rfl⟩
      rw [ht] at hc
      have HT : Hid _ := ht
      have HO : Hid _ := And.intro hO (And.intro ho (And.intro hX hB))
      clear hO ho hX hB ht
      go_wp2_with fail
      refine hc.mono ?_
      rintro e w3 ⟨rfl, hB3⟩
      obtain ⟨hO, ho, hX, hB⟩ := HO.out
      have hO3 := hO.below hB3
      have HX3 : Hid _ := hX.below hB3
      have HB3 : Hid _ := hB.trans (hB3.mono hB.size)
      have hcl2 := hO3.cell k h
      have hfz := hO3.frz k
      have HO3 : Hid _ := And.intro hO3 ho
      clear hO ho hX hB hO3 hB3 HO
      go_wp2
      go_roundw
      case rel =>
        refine ⟨k + 1, put o k t, by omega, by go_num, HO3.out.1.store h t, fun j hj => ?_, HX3.out.set (by simp) _, bl_set HB3.out (by simp) _⟩
        by_cases ej : j = k
        · rw [ej, put_same, HT.out]
        · rw [put_other o t ej]; exact HO3.out.2 j (by omega)
      case measure => simp [intOf]; omega
    · have hc := hcl wr hB
      have HO : Hid _ := And.intro hO (And.intro ho (And.intro hX hB))
      clear hO ho hX hB
      go_wp2_with fail
      refine hc.mono ?_
      rintro e w3 ⟨a1, c1, rfl, hS3, hF3, hB3⟩
      obtain ⟨hO, ho, hX, hB⟩ := HO.out
      have HO3 : Hid _ := And.intro (hO.below hB3) ho
      have hX3 := hX.below hB3
      have HB3 : Hid _ := hB.trans (hB3.mono hB.size)
      have HS3 : Hid _ := And.intro hS3 (And.intro hF3 hO.lt)
      have hx0 := hX3.c0
      have hx1 := hX3.c1
      have hx2 := hX3.f0
      have hx3 := hX3.f1
      have HX3 : Hid _ := hX3
      clear hO ho hX hB hB3 HO hc hS3 hX3 hF3
      go_wp2
      refine bodyPost_ret (v := .tuple #[.agg #[.slice a1 m c1, .slice (some ⟨w.heap.size + 1, 0, none⟩) n n], .int .i64 0]) (by simp [results, Tryz.results44, go_sem, (two_set HX3.out.c0 HX3.out.c1 _ _).1, (two_set HX3.out.c0 HX3.out.c1 _ _).2]) rfl ⟨a1, c1, some ⟨w.heap.size + 1, 0, none⟩, n, rfl, ?_, ?_⟩
      · have ek : k = n := by omega
        subst ek
        have hT : Tm w3 (w.heap.size + 1) a1 (some ⟨w.heap.size + 1, 0, none⟩) zs xs := ⟨HS3.out.1, HO3.out.1.row HN.out HO3.out.2, fun b off sp e => by have := HS3.out.2.1 b off sp e; have := HS3.out.2.2; omega, fun b off sp e => by cases e; exact Nat.le_refl _⟩
        exact ((hT.set (by simp) _).set (by simp) _).mono (by omega)
      · exact bl_set (bl_set HB3.out (by simp) _) (by simp) _

set_option maxHeartbeats 2000000 in
theorem made_fail (ao : Option Addr) (zs : List Int) (c f : Nat) (caps : Array Value) (s0 : ByteArray) (er : Int) (w : World) (hr : Sp.Rgt zs) (hS : Sp.Sl w ao zs) (her : er ≠ 0)
    (hcf : ∀ (args : Array Value) (w : World), (callFunc f args).run Tryz.prog w = .ok (.enter f args) w)
    (HF : ∀ (v : World), Below w.heap.size w v → Calls Tryz.prog f (#[.int .i64 0] ++ caps) v fun e v' => e = .returned (.tuple #[.string s0, .int .i64 er]) ∧ Below v.heap.size v v') :
    Calls Tryz.prog 44 #[.slice ao zs.length c, .func (.func f) #[] caps] w fun e w' => e = .returned (.tuple #[.agg #[.slice none 0 0, .slice none 0 0], .int .i64 er]) ∧ Below w.heap.size w w' := by
  have hl4 := hr.1
  have h64 := Sp.szI_le zs
  have h1 := (Sp.szI_pos zs).2 hr
  have hsz := fun (v : World) (h : Below w.heap.size w v) => Sp.size_any ao zs c v (by omega) (hS.below h)
  obtain ⟨n, hn⟩ : ∃ n, Sp.szI zs = n := ⟨_, rfl⟩
  obtain ⟨m, hm⟩ : ∃ m, zs.length = m := ⟨_, rfl⟩
  rw [hn] at hsz h64 h1
  rw [hm] at hl4 hsz ⊢
  have HF' : Hid _ := HF
  clear hr hS HF hn hm
  have hne : (er != 0) = true := by simp [her]
  obtain ⟨i0, hi, hz0, hz1, hz2⟩ := info_parts inf9
  go_enter Tryz.func44, Tryz.ntmps44
  go_wp2_with fail
  refine (hsz _ ((Below.refl _ _).alloc (Nat.le_refl _) _)).mono ?_
  rintro e w1 ⟨rfl, rfl⟩
  clear hsz
  go_wp2_with (first | (at_make; refine wpList_make_full _ rfl _ _ 23 rfl (w.heap.size + 1) 9 i0 (.string ByteArray.empty) 1 Tryz.underlying23 hi hz0 hz1 _ _ _ _ n rfl rfl (by omega) (by omega) (by rw [hz2]; omega) (by unfold maxLen; omega) (by simp) ?_))
  intro w2 hown1 hgrow1
  go_wp2_with fail
  have hX1 := (Bx.new w).grown hgrow1 (fun k h => by cases h)
  have hB1 : Below w.heap.size w w2 := ((Below.refl _ _).alloc (Nat.le_refl _) _).grown hgrow1 (by simp) (fun k h => by cases h)
  clear hown1 hgrow1
  refine wp_loop_rounds 1 ?_
  rw [rounds_succ]
  have hc := HF'.out w2 hB1
  have HX1 : Hid _ := And.intro hX1 hB1
  clear hX1 hB1
  have hn0 : (0 : Int) < n := by omega
  go_wp2_with fail
  refine hc.mono ?_
  rintro e w3 ⟨rfl, hB3⟩
  have hX3 := HX1.out.1.below hB3
  have HB3 : Hid _ := HX1.out.2.trans (hB3.mono HX1.out.2.size)
  have hx0 := hX3.c0
  have hx1 := hX3.c1
  have hx2 := hX3.f0
  have hx3 := hX3.f1
  have HX3 : Hid _ := hX3
  clear hX3 hB3 hc HX1
  go_wp2
  refine bodyPost_ret (v := .tuple #[.agg #[.slice none 0 0, .slice none 0 0], .int .i64 er]) (by simp [results, Tryz.results44, go_sem, (two_set HX3.out.c0 HX3.out.c1 _ _).1, (two_set HX3.out.c0 HX3.out.c1 _ _).2]) rfl ⟨rfl, ?_⟩
  exact bl_set (bl_set HB3.out (by simp) _) (by simp) _
end Go.Proofs.YtjkobbpebnkimaaGreatDoor.Tn
