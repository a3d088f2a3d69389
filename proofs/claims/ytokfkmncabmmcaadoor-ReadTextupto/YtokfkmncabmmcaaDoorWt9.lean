/-
  THE WALK OF ReadText: the call gives true, where each text has at most 1,100,000 bytes. Conditions: the theorem's own (what the argument holds; the package's error stands where it was laid).
-/
import Derived.Test.YtokfkmncabmmcaaDoorRe9
import Derived.Test.YtokfkmncabmmcaaDoorPn
import Derived.Test.YtokfkmncabmmcaaDoorRt9
namespace Go.Proofs.YtokfkmncabmmcaaDoor.Rd
set_option maxRecDepth 100000
open Go.RowKit
set_option linter.unusedVariables false
set_option linter.unusedSimpArgs false

/-- t is k lines that are read, of m statements -/
def Tq (t : ByteArray) (k m : Nat) : Prop := ∃ L S, Sq t.data.toList k L ∧ alls L = some S ∧ S.length = m
theorem app_list' (a b : ByteArray) : (a ++ b).data.toList = a.data.toList ++ b.data.toList := by
  rw [ByteArray.data_append, Array.toList_append]
theorem Tq.nil : Tq ⟨#[]⟩ 0 0 := ⟨[], [], Sq.nil, rfl, rfl⟩
theorem Tq.snoc {t x : ByteArray} {k m : Nat} {SS : List Sm} (h : Tq t k m) (hx : ∀ b ∈ x.data.toList, b ≠ 10) (hs : alls (Lx.lns x.data.toList) = some SS) : Tq (t ++ (x ++ ⟨#[10]⟩)) (k + 1) (m + SS.length) := by
  obtain ⟨L, S, h1, h2, h3⟩ := h
  refine ⟨L ++ (Lx.lns x.data.toList).map (Lx.far k), S ++ SS, ?_, ?_, ?_⟩
  · rw [app_list', app_list', ← List.append_assoc]
    exact h1.snoc hx
  · rw [(alls_app h2).1, alls_far, hs]; rfl
  · rw [List.length_append, h3]
theorem Tq.all {t : ByteArray} {k m : Nat} (h : Tq t k m) : ∃ S, alls (Lx.lns t.data.toList) = some S ∧ S.length = m := by
  obtain ⟨L, S, h1, h2, h3⟩ := h
  exact ⟨S, by rw [h1.all]; exact h2, h3⟩
theorem Tq.more {t : ByteArray} {k m : Nat} (h : Tq t k m) : alls (Lx.lns (t ++ ⟨#[110, 111, 116, 104, 105, 110, 103]⟩).data.toList) = none ∧ bad (Lx.lns (t ++ ⟨#[110, 111, 116, 104, 105, 110, 103]⟩).data.toList) = k + 1 := by
  obtain ⟨L, S, h1, h2, h3⟩ := h
  rw [app_list']
  exact h1.more h2
theorem app_size (a b : ByteArray) : (a ++ b).size = a.size + b.size := ByteArray.size_append ..
/-- what All gives, told -/
theorem Ao.none' {w' : World} {B : Nat} {L : List (Nat × List (List UInt8))} {e : Ending} (h : Ao w' B L e) (hn : alls L = none) : e = .returned (.tuple #[.slice none 0 0, .int .i64 (bad L : Nat), .int .i64 2]) := by
  unfold Ao at h; rw [hn] at h; exact h
theorem Ao.some' {w' : World} {B : Nat} {L : List (Nat × List (List UInt8))} {e : Ending} {S : List Sm} (h : Ao w' B L e) (hn : alls L = some S) : ∃ a c, e = .returned (.tuple #[.slice a S.length c, .int .i64 0, .int .i64 0]) := by
  unfold Ao at h; rw [hn] at h
  obtain ⟨v, us, he, hl⟩ := h
  obtain ⟨a, c, rfl⟩ := hl.form
  exact ⟨a, c, he⟩
theorem no_ten {x : ByteArray} (h : ∀ j (hj : j < x.size), x[j] ≠ 10) : ∀ b ∈ x.data.toList, b ≠ 10 := by
  intro b hb
  obtain ⟨i, hi, rfl⟩ := List.getElem_of_mem hb
  have := h i (by simpa using hi)
  simpa [ByteArray.getElem_eq_getElem_data] using this

set_option maxHeartbeats 4000000 in
theorem readText_any (ao : Option Addr) (zs : List ByteArray) (c : Nat) (aF aZ : Addr) (w : World) (hE : Er w aF aZ) (hS : Row w ao (txts zs)) (hcap : zs.length ≤ c) (hcm : c ≤ maxLen) (hsz : ∀ y ∈ zs, y.size ≤ 1100000) :
    Calls Tryd.prog 5 #[.slice ao zs.length c] w fun e w' => e = .returned (.bool true) ∧ Below w.heap.size w w' := by
  have HA : Hid (∀ v, Below w.heap.size w v → Calls Tryd.prog 6 #[] v fun e w' => e = .returned (.bool true) ∧ Below v.heap.size v w') := fun v hv => awake_any aF aZ v (hE.below hv)
  have HAll : Hid (∀ (x : ByteArray) v, x.size ≤ 1100000 → Below w.heap.size w v → Calls Tryd.prog 10 #[.string x] v fun e w' => Ao w' v.heap.size (Lx.lns x.data.toList) e ∧ Below v.heap.size v w') := fun x v hx hv => All_any x aF aZ v (hE.below hv) hx
  have HR : Hid (∀ v, Below w.heap.size w v → ∀ i, i < zs.length → ∃ b off, ao = some ⟨b, off, none⟩ ∧ v.cell? ⟨b, off + i, none⟩ = some (.string (zs.getD i em))) := fun v hv i hi => row_str (hS.below hv) hi
  have HZ : Hid (∀ i, i < zs.length → (zs.getD i em).size ≤ 1100000) := fun i hi => hsz _ (by simp [List.getD, hi])
  clear hS hE hsz
  obtain ⟨N, hN⟩ : ∃ N, zs.length = N := ⟨_, rfl⟩
  rw [hN] at HR HZ hcap ⊢
  clear hN
  by_cases h20 : 20 < N
  · go_enter Tryd.func5, Tryd.ntmps5
    go_wp2_with fail
    refine (HA.out _ (Below.refl _ _)).mono ?_
    rintro e w1 ⟨rfl, hB⟩
    go_wp2
    go_ret
    exact ⟨rfl, hB⟩
  go_enter Tryd.func5, Tryd.ntmps5
  go_wp2_with fail
  go_loopw [3, 4, 23] (fun v u i wr => ∃ (k m : Nat) (t : ByteArray), k ≤ N ∧ i = .int .i64 (k : Int) ∧ v = .string t ∧ u = .int .i64 (m : Int) ∧ Tq t k m ∧ t.size ≤ 41 * k ∧ m ≤ 1100001 * k ∧ Below w.heap.size w wr) (fun _ _ i _ => N - (intOf i).toNat)
  case atStart => exact ⟨0, 0, ⟨#[]⟩, by omega, rfl, rfl, rfl, Tq.nil, by decide, by omega, Below.refl _ _⟩
  case round =>
    obtain ⟨k, m, t, hk, rfl, rfl, rfl, hT, htz, hm, hBr⟩ := hrel
    have HT : Hid _ := hT
    have HBr : Hid _ := hBr
    clear hT hBr
    by_cases h : k < N
    · obtain ⟨b, off, rfl, hc⟩ := HR.out _ HBr.out k h
      obtain ⟨x, hx⟩ : ∃ z, zs.getD k em = z := ⟨_, rfl⟩
      have hxs : x.size ≤ 1100000 := by rw [← hx]; exact HZ.out k h
      rw [hx] at hc
      clear hx
      go_wp2_with fail
      go_loop [29] (fun i => ∃ j : Nat, j ≤ x.size ∧ i = .int .i64 (j : Int) ∧ Hid (∀ l (hl : l < x.size), l < j → x[l] ≠ 10)) (fun i => x.size - (intOf i).toNat)
      case atStart => exact ⟨0, by omega, rfl, fun l hl hj => by omega⟩
      case round =>
        obtain ⟨j, hj, rfl, HJ⟩ := hrel
        by_cases hjx : j < x.size
        · obtain ⟨y, hy⟩ : ∃ y, x[j] = y := ⟨_, rfl⟩
          have HY : Hid (x[j] = y) := hy
          by_cases hy10 : y = 10
          · subst hy10
            go_wp2_with fail
            refine (HA.out _ HBr.out).mono ?_
            rintro e wz ⟨rfl, hBz⟩
            have HBz : Hid _ := HBr.out.trans (hBz.mono HBr.out.size)
            clear hBz
            go_wp2
            go_ret
            exact ⟨rfl, HBz.out⟩
          · have hyn : ¬ ((y.toNat : Int) = 10) := fun e => hy10 (UInt8.toNat_inj.1 (by show y.toNat = 10; omega))
            go_wp2_with fail
            go_round
            case rel =>
              refine ⟨j + 1, by omega, by go_num, fun l hl hlj => ?_⟩
              by_cases e : l = j
              · subst e; rw [HY.out]; exact hy10
              · exact HJ.out l hl (by omega)
            case measure => simp [intOf]; omega
        · obtain rfl : j = x.size := by omega
          have HX : Hid _ := no_ten (fun l hl => HJ.out l hl hl)
          clear HJ hj hjx
          cases hq : alls (Lx.lns x.data.toList) with
          | none =>
            go_wp2_with fail
            refine (HAll.out x _ hxs HBr.out).mono ?_
            rintro e w1 ⟨hA1, hB1⟩
            obtain rfl := hA1.none' hq
            have HB1 : Hid _ := HBr.out.trans (hB1.mono HBr.out.size)
            clear hA1 hB1 hq
            go_wp2_with fail
            refine (HA.out _ HB1.out).mono ?_
            rintro e wz ⟨rfl, hBz⟩
            have HBz : Hid _ := HB1.out.trans (hBz.mono HB1.out.size)
            clear hBz
            go_wp2
            go_ret
            exact ⟨rfl, HBz.out⟩
          | some SS =>
            go_wp2_with fail
            refine (HAll.out x _ hxs HBr.out).mono ?_
            rintro e w1 ⟨hA1, hB1⟩
            obtain ⟨sa, sc, rfl⟩ := hA1.some' hq
            have HB1 : Hid _ := HBr.out.trans (hB1.mono HBr.out.size)
            have HQ : Hid _ := hq
            have hSS : SS.length ≤ 1100001 := by rw [alls_len hq]; have := lns_len x; omega
            obtain ⟨q, hq2⟩ : ∃ q, SS.length = q := ⟨_, rfl⟩
            have HQ2 : Hid (SS.length = q) := hq2
            rw [hq2] at hSS ⊢
            clear hA1 hB1 hq hq2
            by_cases h40 : 40 < x.size
            · go_wp2_with fail
              refine (HA.out _ HB1.out).mono ?_
              rintro e wz ⟨rfl, hBz⟩
              have HBz : Hid _ := HB1.out.trans (hBz.mono HB1.out.size)
              clear hBz
              go_wp2
              go_ret
              exact ⟨rfl, HBz.out⟩
            · have hT2 : Tq (t ++ (x ++ ⟨#[10]⟩)) (k + 1) (m + q) := by
                have := Tq.snoc HT.out HX.out HQ.out
                rw [HQ2.out] at this
                exact this
              have HT2 : Hid _ := hT2
              have hz2 : Hid ((t ++ (x ++ ⟨#[10]⟩)).size ≤ 41 * (k + 1)) := by
                show _ ≤ _
                rw [app_size, app_size]
                show t.size + (x.size + 1) ≤ _
                omega
              clear hT2
              go_wp2_with fail
              go_roundw
              case rel => exact ⟨k + 1, m + q, _, by omega, by go_num, rfl, by go_num, HT2.out, hz2.out, by omega, HB1.out⟩
              case measure => simp [intOf]; omega
    · obtain rfl : k = N := by omega
      obtain ⟨S, hS1, hS2⟩ := Tq.all HT.out
      obtain ⟨hn1, hn2⟩ := Tq.more HT.out
      have hsum : (t ++ ⟨#[110, 111, 116, 104, 105, 110, 103]⟩).size = t.size + 7 := app_size _ _
      go_wp2_with fail
      refine (HAll.out t _ (by omega) HBr.out).mono ?_
      rintro e w1 ⟨hA1, hB1⟩
      obtain ⟨sa, sc, rfl⟩ := hA1.some' hS1
      rw [hS2]
      have HB1 : Hid _ := HBr.out.trans (hB1.mono HBr.out.size)
      clear hA1 hB1 hS1 hS2
      go_wp2_with fail
      refine (HAll.out _ _ (by rw [hsum]; omega) HB1.out).mono ?_
      rintro e w2 ⟨hA2, hB2⟩
      obtain rfl := hA2.none' hn1
      rw [hn2]
      have HB2 : Hid _ := HB1.out.trans (hB2.mono HB1.out.size)
      clear hA2 hB2 hn1 hn2
      go_wp2_with fail
      refine (HA.out _ HB2.out).mono ?_
      rintro e wz ⟨rfl, hBz⟩
      have HBz : Hid _ := HB2.out.trans (hBz.mono HB2.out.size)
      clear hBz
      go_wp2
      go_ret
      exact ⟨rfl, HBz.out⟩
end Go.Proofs.YtokfkmncabmmcaaDoor.Rd
