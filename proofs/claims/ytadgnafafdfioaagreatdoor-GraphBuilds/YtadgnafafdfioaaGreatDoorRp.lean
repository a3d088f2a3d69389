/-
  LISTS OF WORDS: ALL OF A KIND, COPIED, WHERE = STANDS; DIMS. Conditions: each theorem's own.
-/
import Derived.Test.YtadgnafafdfioaaGreatDoorRo
namespace Go.Proofs.YtadgnafafdfioaaGreatDoor.Rd
set_option maxRecDepth 100000
open Go.RowKit Nm
set_option linter.unusedVariables false

theorem inf3 : (Tryz.prog.info? 3).map (fun i => (i.zero, i.size, i.bytes)) = some (some (.int .i64 0), 1, 8) := by kernel_rfl
theorem inf9 : (Tryz.prog.info? 9).map (fun i => (i.zero, i.size, i.bytes)) = some (some (.string ⟨#[]⟩), 1, 16) := by kernel_rfl

theorem row_str {w : World} {bo : Option Addr} {xs : List ByteArray} (h : Row w bo (txts xs)) {i : Nat} (hi : i < xs.length) : ∃ b off, bo = some ⟨b, off, none⟩ ∧ w.cell? ⟨b, off + i, none⟩ = some (.string (xs.getD i em)) := h i _ (txts_at hi)
theorem all_yes {p : ByteArray → Bool} {xs : List ByteArray} (h : ∀ i, i < xs.length → p (xs.getD i em) = true) : xs.all p = true := by
  rw [List.all_eq_true]
  intro x hx
  obtain ⟨i, hi, rfl⟩ := List.getElem_of_mem hx
  have := h i hi
  simpa [List.getD, hi] using this
theorem all_no {p : ByteArray → Bool} {xs : List ByteArray} {i : Nat} (hi : i < xs.length) (h : p (xs.getD i em) = false) : xs.all p = false := by
  apply Bool.eq_false_iff.2
  intro c
  have := List.all_eq_true.1 c (xs.getD i em) (by simp [List.getD, hi])
  rw [h] at this; cases this

theorem allName_any (bo : Option Addr) (xs : List ByteArray) (d : Nat) (w : World) (hl : xs.length ≤ 1000000) (hR : Row w bo (txts xs)) :
    Calls Tryz.prog 77 #[.slice bo xs.length d, .func (.func 49) #[] #[]] w fun e w' => e = .returned (.bool (xs.all nmb)) ∧ w' = w := by
  have HM : Hid ((∀ i, i < xs.length → nmb (xs.getD i em) = true) → xs.all nmb = true) := all_yes
  have HN : Hid (∀ i, i < xs.length → nmb (xs.getD i em) = false → xs.all nmb = false) := fun i hi h => all_no hi h
  have HR : Hid _ := fun i (h : i < xs.length) => row_str hR h
  generalize xs.all nmb = al at HM HN ⊢
  obtain ⟨n, hn⟩ : ∃ n, xs.length = n := ⟨_, rfl⟩
  rw [hn] at HM HN HR hl ⊢
  clear hR hn
  go_enter Tryz.func77, Tryz.ntmps77
  go_wp2_with fail
  go_loop [9] (fun i => ∃ k : Nat, k ≤ n ∧ i = .int .i64 (k : Int) ∧ ∀ j, j < k → nmb (xs.getD j em) = true) (fun i => n - (intOf i).toNat)
  case atStart => exact ⟨0, by omega, rfl, fun j hj => by omega⟩
  case round =>
    obtain ⟨k, hk, rfl, hj⟩ := hrel
    have HJ : Hid _ := hj
    clear hj
    by_cases h : k < n
    · obtain ⟨b, off, rfl, hc⟩ := HR.out k h
      obtain ⟨x, hx⟩ : ∃ z, xs.getD k em = z := ⟨_, rfl⟩
      rw [hx] at hc
      have HX : Hid _ := hx
      clear hx
      go_wp2_with fail
      refine (Lx.name_any x _).mono ?_
      rintro e w1 ⟨rfl, rfl⟩
      obtain ⟨r, hr⟩ : ∃ r, Lx.nm x.data.toList = r := ⟨_, rfl⟩
      have HRa : Hid (nmb x = r) := hr
      rw [hr]
      clear hr
      cases r with
      | true =>
        go_wp2
        go_round
        case rel =>
          refine ⟨k + 1, by omega, by go_num, fun j hj => ?_⟩
          by_cases e : j = k
          · rw [e, HX.out]; exact HRa.out
          · exact HJ.out j (by omega)
        case measure => simp [intOf]; omega
      | false =>
        go_wp2
        go_ret
        exact ⟨Sp.ret_bool (HN.out k h (by rw [HX.out]; exact HRa.out)).symm, rfl⟩
    · go_wp2
      go_ret
      exact ⟨Sp.ret_bool (HM.out (fun i hi => HJ.out i (by omega))).symm, rfl⟩

theorem allRat_any (bo : Option Addr) (xs : List ByteArray) (d : Nat) (aF aZ : Addr) (w : World) (hE : Er w aF aZ) (hl : xs.length ≤ 1000000) (hR : Row w bo (txts xs)) (hs : ∀ i, i < xs.length → (xs.getD i em).size ≤ 200000) :
    Calls Tryz.prog 77 #[.slice bo xs.length d, .func (.func 50) #[] #[]] w fun e w' => e = .returned (.bool (xs.all ra)) ∧ Below w.heap.size w w' := by
  have HM : Hid ((∀ i, i < xs.length → ra (xs.getD i em) = true) → xs.all ra = true) := all_yes
  have HN : Hid (∀ i, i < xs.length → ra (xs.getD i em) = false → xs.all ra = false) := fun i hi h => all_no hi h
  have HR : Hid _ := fun (v : World) (hb : Below w.heap.size w v) i (h : i < xs.length) => row_str (hR.below hb) h
  have HS : Hid _ := hs
  have HE : Hid _ := hE
  generalize xs.all ra = al at HM HN ⊢
  obtain ⟨n, hn⟩ : ∃ n, xs.length = n := ⟨_, rfl⟩
  rw [hn] at HM HN HR HS hl ⊢
  clear hR hn hs hE
  go_enter Tryz.func77, Tryz.ntmps77
  go_wp2_with fail
  go_loopw [9] (fun i wr => ∃ k : Nat, k ≤ n ∧ i = .int .i64 (k : Int) ∧ (∀ j, j < k → ra (xs.getD j em) = true) ∧ Below w.heap.size w wr) (fun i _ => n - (intOf i).toNat)
  case atStart => exact ⟨0, by omega, rfl, fun j hj => by omega, Below.refl _ _⟩
  case round =>
    obtain ⟨k, hk, rfl, hj, hb⟩ := hrel
    have HJ : Hid _ := And.intro hj hb
    clear hj
    by_cases h : k < n
    · obtain ⟨b, off, rfl, hc⟩ := HR.out wr hb k h
      have hsz := HS.out k h
      clear hb
      obtain ⟨x, hx⟩ : ∃ z, xs.getD k em = z := ⟨_, rfl⟩
      rw [hx] at hc hsz
      have HX : Hid _ := hx
      clear hx
      obtain ⟨r, hr⟩ : ∃ r, ra x = r := ⟨_, rfl⟩
      have HRa : Hid _ := hr
      clear hr
      go_wp2_with fail
      refine (Right_is x r aF aZ _ (HE.out.below HJ.out.2) hsz HRa.out).mono ?_
      rintro e w1 ⟨rfl, h1⟩
      have H1 : Hid _ := HJ.out.2.trans (h1.mono HJ.out.2.size)
      clear h1 hc
      cases r with
      | true =>
        go_wp2
        go_roundw
        case rel =>
          refine ⟨k + 1, by omega, by go_num, fun j hj => ?_, H1.out⟩
          by_cases e : j = k
          · rw [e, HX.out]; exact HRa.out
          · exact HJ.out.1 j (by omega)
        case measure => simp [intOf]; omega
      | false =>
        go_wp2
        go_ret
        exact ⟨Sp.ret_bool (HN.out k h (by rw [HX.out]; exact HRa.out)).symm, H1.out⟩
    · clear hb
      go_wp2
      go_ret
      exact ⟨Sp.ret_bool (HM.out (fun i hi => HJ.out.1 i (by omega))).symm, HJ.out.2⟩

/-- a word stands first at i; -1: nowhere -/
def Ix (v : ByteArray) (xs : List ByteArray) (n : Nat) (i : Int) : Prop := (i = -1 ∧ ∀ j, j < n → (v.toList == (xs.getD j em).toList) = false) ∨ ∃ k : Nat, i = (k : Int) ∧ k < n ∧ (v.toList == (xs.getD k em).toList) = true ∧ ∀ j, j < k → (v.toList == (xs.getD j em).toList) = false
theorem index_any (ao : Option Addr) (xs : List ByteArray) (c : Nat) (v : ByteArray) (w : World) (hl : xs.length ≤ 1000000) (hR : Row w ao (txts xs)) :
    Calls Tryz.prog 80 #[.slice ao xs.length c, .string v] w fun e w' => ∃ i : Int, e = .returned (.int .i64 i) ∧ Ix v xs xs.length i ∧ w' = w := by
  have HR : Hid _ := fun i (h : i < xs.length) => row_str hR h
  clear hR
  obtain ⟨n, hn⟩ : ∃ n, xs.length = n := ⟨_, rfl⟩
  rw [hn] at HR hl ⊢
  clear hn
  go_enter Tryz.func80, Tryz.ntmps80
  go_wp2_with fail
  go_loop [8] (fun i => ∃ k : Nat, k ≤ n ∧ i = .int .i64 (k : Int) ∧ (∀ j, j < k → (v.toList == (xs.getD j em).toList) = false)) (fun i => n - (intOf i).toNat)
  case atStart => exact ⟨0, by omega, rfl, fun j hj => by omega⟩
  case round =>
    obtain ⟨k, hk, rfl, hj⟩ := hrel
    have HJ : Hid _ := hj
    clear hj
    by_cases h : k < n
    · obtain ⟨b, off, rfl, hc⟩ := HR.out k h
      obtain ⟨x, hx⟩ : ∃ z, xs.getD k em = z := ⟨_, rfl⟩
      rw [hx] at hc
      have HX : Hid _ := hx
      clear hx
      cases he : v.toList == x.toList with
      | true =>
        have HE : Hid _ := he
        go_wp2
        go_ret
        exact ⟨k, rfl, Or.inr ⟨k, rfl, h, by rw [HX.out]; exact HE.out, HJ.out⟩, rfl⟩
      | false =>
        have HE : Hid _ := he
        go_wp2
        go_round
        case rel =>
          refine ⟨k + 1, by omega, by go_num, fun j hj => ?_⟩
          by_cases e : j = k
          · rw [e, HX.out]; exact HE.out
          · exact HJ.out j (by omega)
        case measure => simp [intOf]; omega
    · go_wp2
      go_ret
      exact ⟨-1, rfl, Or.inl ⟨rfl, fun j hj => HJ.out j (by omega)⟩, rfl⟩

theorem nil9 (w : World) (ao : Option Addr) (n c : Nat) : World.ownsRow w w.heap.size 9 1 (.slice none 0 0) 0 [] := World.ownsRow_nil w _ 9 1
/-- a copy of words -/
theorem clone_any (ao : Option Addr) (xs : List ByteArray) (c : Nat) (w : World) (hl : xs.length ≤ 1000000) (hS : Row w ao (txts xs)) :
    Calls Tryz.prog 66 #[.slice ao xs.length c] w fun e w' => ∃ v, e = .returned v ∧ w'.ownsRow w.heap.size 9 1 v xs.length (txts xs) ∧ Below w.heap.size w w' := by
  obtain ⟨i0, hi, hz0, hz1, hz2⟩ := info_parts inf9
  cases ao with
  | none =>
    have e0 : xs = [] := by
      cases xs with
      | nil => rfl
      | cons a l => obtain ⟨b, off, e, _⟩ := hS 0 (.string a) rfl; cases e
    subst e0
    clear hS hl
    have hnil := fun (w : World) => Lib.run_eql_slice_nil (P := Tryz.prog) w 26 9 none 0 c 0 0 Tryz.underlying26
    go_enter Tryz.func66, Tryz.ntmps66
    go_wp2
    go_ret
    exact ⟨_, rfl, World.ownsRow_nil w _ 9 1, Below.refl _ _⟩
  | some ad =>
    have m2 : (w.alloc (.cells #[] 9)).ownsRow w.heap.size 9 1 (.slice (some ⟨w.heap.size, 0, none⟩) 0 0) 0 [] := World.ownsRow_made w #[] 0 (Nat.le_refl _) (by simp) (by simp)
    have hR2 : Row (w.alloc (.cells #[] 9)) (some ad) (txts xs) := hS.below ((Below.refl _ _).alloc (Nat.le_refl _) _)
    have hnl := txts_len xs
    obtain ⟨n, hn⟩ : ∃ n, xs.length = n := ⟨_, rfl⟩
    rw [hn] at hl hnl ⊢
    clear hS
    have hnil := fun (w : World) => Lib.run_eql_slice_nil (P := Tryz.prog) w 26 9 (some ad) n c 0 0 Tryz.underlying26
    go_enter Tryz.func66, Tryz.ntmps66
    go_wp2_with (first | (at_builtin; refine wpList_append_row _ _ 26 rfl w.heap.size 9 i0 (.string ⟨#[]⟩) 16 Tryz.underlying26 hi hz0 hz1 hz2 rfl _ 0 [] rfl m2 (some ad) n c (txts xs) rfl hnl hR2 (txts_one xs) (fun h => by cases h) (by unfold maxLen; omega) (by omega) (by simp) (by first | rfl | go_simp) ?_))
    intro v w4 hown hgrow
    have hB4 : Below w.heap.size w w4 := ((Below.refl _ _).alloc (Nat.le_refl _) _).grown hgrow (by simp) (fun k h => by simp [Value.ownBlock] at h; omega)
    have hown' : w4.ownsRow w.heap.size 9 1 v n (txts xs) := by simpa using hown
    clear hown hgrow m2 hR2
    go_wp2
    go_ret
    exact ⟨_, rfl, hown', hB4⟩
end Go.Proofs.YtadgnafafdfioaaGreatDoor.Rd
