/-
  THE PLACES OF NAMES. Conditions: each theorem's own.
-/
import Derived.Test.YtadgnafafdfioaaGreatDoorB1
import Derived.Test.YtadgnafafdfioaaGreatDoorGx
namespace Go.Proofs.YtadgnafafdfioaaGreatDoor.Gr
open Go.Proofs.YtadgnafafdfioaaGreatDoor.Rd
set_option maxRecDepth 100000
open Go.RowKit
set_option linter.unusedVariables false
set_option linter.unusedSimpArgs false

theorem inf3g : (Tryz.prog.info? 3).map (fun i => (i.zero, i.size, i.bytes)) = some (some (.int .i64 0), 1, 8) := by kernel_rfl
theorem run_zero3b (w : World) : (zeroValue 3).run Tryz.prog w = .ok (.int .i64 0) w := by kernel_rfl
/-- places as numbers -/
def ints (ks : List Nat) : List Int := ks.map fun k : Nat => (k : Int)
/-- what find tells -/
def Fnd (w' : World) (o : Option (List Nat)) (e : Ending) : Prop :=
  match o with
  | some ks => ∃ a c, e = .returned (.tuple #[.slice a ks.length c, .bool true]) ∧ Sp.Sl w' a (ints ks)
  | none => e = .returned (.tuple #[.slice none 0 0, .bool false])
theorem fnds_snoc (ns : List ByteArray) : ∀ (l : List ByteArray) (x : ByteArray), fnds ns (l ++ [x]) = match fnds ns l, fnd ns x with
    | some ks, some k => some (ks ++ [k])
    | _, _ => none
  | [], x => by
    show fnds ns [x] = _
    unfold fnds
    cases fnd ns x <;> rfl
  | y :: l, x => by
    rw [List.cons_append]
    unfold fnds
    rw [fnds_snoc ns l x]
    cases fnd ns y <;> cases fnds ns l <;> cases fnd ns x <;> rfl
theorem fnds_app_none {ns l r : List ByteArray} (h : fnds ns l = none) : fnds ns (l ++ r) = none := by
  induction l with
  | nil => cases h
  | cons y l ih =>
    rw [List.cons_append]
    unfold fnds at h ⊢
    cases h1 : fnd ns y with
    | none => rfl
    | some k =>
      cases h2 : fnds ns l with
      | none => rw [ih h2]
      | some ks => simp [h1, h2] at h
theorem take_snoc_ba (l : List ByteArray) (k : Nat) (h : k < l.length) : l.take (k + 1) = l.take k ++ [l.getD k em] := by
  rw [List.take_add_one, List.getElem?_eq_getElem h]; simp [List.getD, h]
theorem fnds_next {ns args : List ByteArray} {k j : Nat} {ks : List Nat} (hk : k < args.length) (h : fnds ns (args.take k) = some ks) (hj : fnd ns (args.getD k em) = some j) : fnds ns (args.take (k + 1)) = some (ks ++ [j]) := by
  rw [take_snoc_ba args k hk, fnds_snoc, h, hj]
theorem fnds_stop {ns args : List ByteArray} {k : Nat} (hk : k < args.length) (hj : fnd ns (args.getD k em) = none) : fnds ns args = none := by
  have h1 : fnds ns (args.take (k + 1)) = none := by
    rw [take_snoc_ba args k hk, fnds_snoc, hj]
    cases fnds ns (args.take k) <;> rfl
  have := fnds_app_none (r := args.drop (k + 1)) h1
  rwa [List.take_append_drop] at this
theorem nums_nil : Tn.nums (ints []) = [] := rfl
theorem nums_ints_snoc (ks : List Nat) (j : Nat) : Tn.nums (ints (ks ++ [j])) = Tn.nums (ints ks) ++ [.int .i64 (j : Int)] := by simp [ints, Tn.nums]
theorem own_sl {w : World} {B n c : Nat} {ao : Option Addr} {zs : List Int} (h : w.ownsRow B 3 1 (.slice ao n c) n (Tn.nums zs)) : Sp.Sl w ao zs := by
  obtain ⟨a, c', e, hR, _⟩ := Row.of_own h
  simp only [Value.slice.injEq] at e
  rw [e.1]; exact Tn.row_sl hR
theorem own_slice {w : World} {B n : Nat} {v : Value} {xs : List Value} (h : w.ownsRow B 3 1 v n xs) : ∃ a c, v = .slice a n c := by
  obtain ⟨a, c', e, _⟩ := Row.of_own h
  exact ⟨a, c', e⟩
set_option maxHeartbeats 4000000 in
theorem find_any (ns args : List ByteArray) (D M : Nat) (aa : Option Addr) (cc : Nat) (w : World) (hC1 : w.cell? ⟨D, 1, none⟩ = some (.map (some M))) (hM : Mz w M (bps ns 0)) (hR : Row w aa (txts args)) (hl : args.length ≤ 1000) (hsz : ∀ i, i < args.length → (args.getD i em).size ≤ maxLen) :
    Calls Tryz.prog 64 #[.pointer (some ⟨D, 0, none⟩), .slice aa args.length cc] w fun e w' => Fnd w' (fnds ns args) e ∧ Below w.heap.size w w' := by
  obtain ⟨i0, hi, hz0, hz1, hz2⟩ := info_parts inf3g
  have HSt : Hid (∀ k, k < args.length → fnd ns (args.getD k em) = none → fnds ns args = none) := fun k hk h => fnds_stop hk h
  have HNx : Hid (∀ k j ks, k < args.length → fnds ns (args.take k) = some ks → fnd ns (args.getD k em) = some j → fnds ns (args.take (k + 1)) = some (ks ++ [j])) := fun k j ks hk h hj => fnds_next hk h hj
  have HRx : Hid (∀ v, Below w.heap.size w v → ∀ i, i < args.length → ∃ b off, aa = some ⟨b, off, none⟩ ∧ v.cell? ⟨b, off + i, none⟩ = some (.string (args.getD i em))) := fun v hv i hi => row_s (Row.below hR hv) hi
  have HAll : Hid (args.take args.length = args) := List.take_length
  have HSz : Hid _ := hsz
  have HMz : Hid (Mz w M (bps ns 0)) := hM
  have HC : Hid _ := hC1
  obtain ⟨N, hN⟩ : ∃ N, args.length = N := ⟨_, rfl⟩
  rw [hN] at HSt HNx HRx HSz HAll hl ⊢
  clear hN hR hM hC1 hsz
  go_enter Tryz.func64, Tryz.ntmps64
  go_wp2_with fail
  go_loopw [6, 13] (fun o i wr => ∃ (k : Nat) (ks : List Nat), k ≤ N ∧ i = .int .i64 (k : Int) ∧ fnds ns (args.take k) = some ks ∧ ks.length = k ∧ wr.ownsRow w.heap.size 3 1 o k (Tn.nums (ints ks)) ∧ Below w.heap.size w wr) (fun _ i _ => N - (intOf i).toNat)
  case atStart => exact ⟨0, [], Nat.zero_le _, rfl, rfl, rfl, World.ownsRow_nil _ _ 3 1, Below.refl _ _⟩
  case round =>
    obtain ⟨k, ks, hk, rfl, hf, hkl, hown, hb⟩ := hrel
    have HF : Hid _ := hf
    have HKL : Hid _ := hkl
    have HBk : Hid _ := hb
    clear hf hkl
    by_cases h : k < N
    · obtain ⟨b, off, rfl, hcx⟩ := HRx.out wr hb k h
      have hc1 := cell_below hb HC.out
      have hm := Mz.below HMz.out hb HMz.out.lt
      have hs := HSz.out k h
      obtain ⟨x, hx⟩ : ∃ z, args.getD k em = z := ⟨_, rfl⟩
      rw [hx] at hcx hs
      have HX : Hid _ := hx
      clear hx hb
      obtain ⟨v, hv⟩ : ∃ v, fnd ns x = v := ⟨_, rfl⟩
      have hfp := bps_fp ns x 0
      rw [hv] at hfp
      cases v with
      | none =>
        have hlk := Mz.look_no (P := Tryz.prog) hm Tryz.underlying50 Tryz.underlying9 hs hfp (run_zero3b wr)
        have HNn : Hid (fnds ns args = none) := HSt.out k h (by rw [HX.out]; exact hv)
        clear hm hs hfp hv hown
        go_wp2
        go_ret2
        exact ⟨by rw [HNn.out]; rfl, HBk.out⟩
      | some j =>
        have hfp' : fp (bps ns 0) x = some (j : Int) := by rw [hfp]; simp
        have hlk := Mz.look (P := Tryz.prog) hm Tryz.underlying50 Tryz.underlying9 hs hfp'
        have HNs : Hid (fnds ns (args.take (k + 1)) = some (ks ++ [j])) := HNx.out k j ks h HF.out (by rw [HX.out]; exact hv)
        have hsize := HBk.out.size
        clear hm hs hfp hfp' hv
        go_wp2_with (first | (at_builtin; refine wpList_append_own _ rfl _ _ 25 rfl w.heap.size 3 i0 _ 1 8 Tryz.underlying25 hi hz0 hz1 hz2 rfl (by decide) _ k (Tn.nums (ints ks)) rfl (hown.alloc _) ⟨wr.heap.size, 0, none⟩ 1 1 [.int .i64 (j : Int)] rfl rfl ?_ ?_ ?_ ?_ ?_ ?_))
        · exact (Row.one (by go_simp)).news
        · intro u hu
          simp only [List.mem_cons, List.not_mem_nil, or_false] at hu
          subst hu; rfl
        · unfold maxLen; omega
        · omega
        · simp; omega
        · intro v' w3 hown3 hgrow _
          have hB3 : Below w.heap.size w w3 := (HBk.out.alloc HBk.out.size _).grown hgrow (by simp; omega) (fun x hx => (hown.lt x hx).1)
          have HO3 : Hid (w3.ownsRow w.heap.size 3 1 v' (k + 1) (Tn.nums (ints (ks ++ [j])))) := by rw [nums_ints_snoc]; exact hown3
          have HB3 : Hid _ := hB3
          clear hown3 hgrow hown hB3 hsize
          go_wp2
          go_roundw
          case rel => exact ⟨k + 1, ks ++ [j], by omega, by go_num, HNs.out, by rw [List.length_append, HKL.out]; rfl, HO3.out, HB3.out⟩
          case measure => simp [intOf]; omega
    · obtain rfl : k = N := by omega
      have HE1 : Hid (fnds ns args = some ks) := by have := HF.out; rw [HAll.out] at this; exact this
      obtain ⟨a, c', rfl⟩ := own_slice hown
      have HSl : Hid _ := own_sl hown
      clear hown hb
      go_wp2
      go_ret2
      exact ⟨by rw [HE1.out]; exact ⟨a, c', by rw [HKL.out]; rfl, HSl.out⟩, HBk.out⟩
end Go.Proofs.YtadgnafafdfioaaGreatDoor.Gr
