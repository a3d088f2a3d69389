/-
  DIMS: words as a shape's numbers. Conditions: each theorem's own.
-/
import Derived.Test.YtadgnafafdfioaaGreatDoorRp
import Derived.Test.YtadgnafafdfioaaGreatDoorMl
namespace Go.Proofs.YtadgnafafdfioaaGreatDoor.Rd
set_option maxRecDepth 100000
open Go.RowKit Nm
set_option linter.unusedVariables false

/-- numbers, as cells -/
def ints (zs : List Int) : List Value := zs.map (Value.int .i64)
theorem ints_len (zs : List Int) : (ints zs).length = zs.length := by simp [ints]
/-- a slice of numbers of one's own -/
def Od (w : World) (B : Nat) (v : Value) (zs : List Int) : Prop := w.ownsRow B 3 1 v zs.length (ints zs)
theorem Od.below {w w' : World} {B : Nat} {v : Value} {zs : List Int} (h : Od w B v zs) (hb : Below w.heap.size w w') : Od w' B v zs := Lx.own_below h hb
theorem Od.mono {w : World} {B B' : Nat} {v : Value} {zs : List Int} (h : Od w B v zs) (hb : B' ≤ B) : Od w B' v zs := Lx.own_mono h hb
theorem Od.nil (w : World) (B : Nat) : Od w B (.slice none 0 0) [] := World.ownsRow_nil w B 3 1
theorem row_ints {w : World} {ao : Option Addr} {zs : List Int} (h : Row w ao (ints zs)) : Sp.Sl w ao zs := by
  intro i hi
  obtain ⟨b, off, e, hc⟩ := h i (.int .i64 (zs.getD i 0)) (by simp [ints, List.getD, hi])
  exact ⟨b, off, e, hc⟩
theorem Od.form {w : World} {B : Nat} {v : Value} {zs : List Int} (h : Od w B v zs) : ∃ ao cap, v = .slice ao zs.length cap ∧ Sp.Sl w ao zs := by
  obtain ⟨ao, cap, e, hR, _⟩ := Row.of_own h
  exact ⟨ao, cap, e, row_ints hR⟩
/-- a slice of words of one's own -/
def Ob (w : World) (B : Nat) (v : Value) (xs : List ByteArray) : Prop := w.ownsRow B 9 1 v xs.length (txts xs)
theorem Ob.below {w w' : World} {B : Nat} {v : Value} {xs : List ByteArray} (h : Ob w B v xs) (hb : Below w.heap.size w w') : Ob w' B v xs := Lx.own_below h hb
theorem Ob.mono {w : World} {B B' : Nat} {v : Value} {xs : List ByteArray} (h : Ob w B v xs) (hb : B' ≤ B) : Ob w B' v xs := Lx.own_mono h hb
theorem Ob.nil (w : World) (B : Nat) : Ob w B (.slice none 0 0) [] := World.ownsRow_nil w B 9 1
theorem Ob.form {w : World} {B : Nat} {v : Value} {xs : List ByteArray} (h : Ob w B v xs) : ∃ ao cap, v = .slice ao xs.length cap ∧ Row w ao (txts xs) ∧ (ao = none → cap = 0) := by
  obtain ⟨ao, cap, e, hR, hN, _⟩ := Row.of_own h
  exact ⟨ao, cap, e, hR, fun h => (hN h).2⟩

def dmo (xs : List ByteArray) : Bool := (dms xs).isSome
def dmv (xs : List ByteArray) : List Int := (dms xs).getD []
theorem dm_no {xs : List ByteArray} (h : dms xs = none) : dmo xs = false ∧ dmv xs = [] := by unfold dmo dmv; rw [h]; exact ⟨rfl, rfl⟩
theorem dm_yes {xs : List ByteArray} {d : List Int} (h : dms xs = some d) : dmo xs = true ∧ dmv xs = d := by unfold dmo dmv; rw [h]; exact ⟨rfl, rfl⟩

theorem right_as (ao : Option Addr) (zs : List Int) (cap n : Nat) (r : Bool) (w : World) (hn : zs.length = n) (hl : n ≤ 1000) (hr : decide (Sp.Rgt zs) = r) (hS : Sp.Sl w ao zs) :
    Calls Tryz.prog 22 #[.slice ao n cap] w fun e w' => e = .returned (.bool r) ∧ w' = w := by
  subst hn hr
  exact Sp.right_any ao zs cap w hl hS
theorem dims_any (ao : Option Addr) (xs : List ByteArray) (c : Nat) (w : World) (hR : Row w ao (txts xs)) :
    Calls Tryz.prog 79 #[.slice ao xs.length c] w fun e w' => ∃ v, e = .returned (.tuple #[v, .bool (dmo xs)]) ∧ Od w' w.heap.size v (dmv xs) ∧ Below w.heap.size w w' := by
  obtain ⟨i0, hi, hz0, hz1, hz2⟩ := info_parts inf3
  have no : dms xs = none → dmo xs = false ∧ dmv xs = [] := dm_no
  have ys : ∀ d, dms xs = some d → dmo xs = true ∧ dmv xs = d := fun d => dm_yes
  have H4 : Hid (4 < xs.length → dms xs = none) := dms_long
  have HK : Hid (∀ k zs n, k < xs.length → nus (xs.take k) = some zs → num (xs.getD k em).data.toList = some n → nus (xs.take (k + 1)) = some (zs ++ [(n : Int)])) := fun k zs n a b c => nus_take a b c
  have HF : Hid (∀ k, k < xs.length → num (xs.getD k em).data.toList = none → dms xs = none) := fun k a b => dms_no (nus_none a b)
  have HZ : Hid (∀ zs, nus (xs.take xs.length) = some zs → dms xs = if Sp.Rgt zs then some zs else none) := fun zs h => dms_of (by rw [List.take_length] at h; exact h)
  have HR : Hid _ := fun (v : World) (hb : Below w.heap.size w v) i (h : i < xs.length) => row_str (hR.below hb) h
  clear hR
  have NO : Hid _ := no
  have YS : Hid _ := ys
  clear no ys
  generalize dmo xs = o at NO YS ⊢
  generalize dmv xs = dv at NO YS ⊢
  obtain ⟨n, hn⟩ : ∃ n, xs.length = n := ⟨_, rfl⟩
  rw [hn] at H4 HK HF HZ HR ⊢
  clear hn
  by_cases h4 : 4 < n
  · obtain ⟨rfl, rfl⟩ := NO.out (H4.out h4)
    go_enter Tryz.func79, Tryz.ntmps79
    go_wp2
    go_ret2
    exact ⟨_, rfl, Od.nil _ _, Below.refl _ _⟩
  · go_enter Tryz.func79, Tryz.ntmps79
    go_wp2_with fail
    go_loopw [4, 14] (fun v i wr => ∃ (k : Nat) (zs : List Int), k ≤ n ∧ i = .int .i64 (k : Int) ∧ zs.length = k ∧ nus (xs.take k) = some zs ∧ Od wr w.heap.size v zs ∧ Below w.heap.size w wr) (fun _ i _ => n - (intOf i).toNat)
    case atStart => exact ⟨0, [], by omega, rfl, rfl, rfl, Od.nil _ _, Below.refl _ _⟩
    case round =>
      obtain ⟨k, zs, hk, rfl, hzl, hz, hO, hB⟩ := hrel
      have HZs : Hid _ := hz
      clear hz
      by_cases h : k < n
      · obtain ⟨b, off, rfl, hc⟩ := HR.out wr hB k h
        obtain ⟨x, hx⟩ : ∃ z, xs.getD k em = z := ⟨_, rfl⟩
        rw [hx] at hc
        have HX : Hid _ := hx
        clear hx
        go_wp2_with fail
        refine (number_any x _).mono ?_
        rintro e w1 ⟨rfl, rfl⟩
        cases hnum : num x.data.toList with
        | none =>
          obtain ⟨e1, e2⟩ := numv_no hnum
          rw [e1, e2]
          obtain ⟨rfl, rfl⟩ := NO.out (HF.out k h (by rw [HX.out]; exact hnum))
          clear e1 e2 hnum
          go_wp2
          go_ret2
          exact ⟨_, rfl, Od.nil _ _, hB⟩
        | some m =>
          obtain ⟨e1, e2⟩ := numv_of hnum
          rw [e1, e2]
          have HM : Hid (nus (xs.take (k + 1)) = some (zs ++ [(m : Int)])) := HK.out k zs m h HZs.out (by rw [HX.out]; exact hnum)
          clear e1 e2 hnum
          have hown : w1.ownsRow w.heap.size 3 1 u4 k (ints zs) := by rw [← hzl]; exact hO
          go_wp2_with (first | (at_builtin; refine wpList_append_own _ rfl _ _ 25 rfl w.heap.size 3 i0 _ 1 8 Tryz.underlying25 hi hz0 hz1 hz2 rfl (by decide) _ k (ints zs) rfl (hown.alloc _) ⟨w1.heap.size, 0, none⟩ 1 1 [.int .i64 (m : Int)] rfl rfl ?_ ?_ ?_ ?_ ?_ ?_))
          · exact (Row.one (by go_simp)).news
          · intro x hx
            rw [List.mem_singleton.1 hx]; rfl
          · unfold maxLen; omega
          · omega
          · have := hB.size; simp; omega
          · intro v' w3 hown3 hgrow _
            have hO3 : Od w3 w.heap.size v' (zs ++ [(m : Int)]) := by
              unfold Od ints
              rw [List.length_append, hzl, List.map_append]
              exact hown3
            have hB3 : Below w.heap.size w w3 := (hB.alloc hB.size _).grown hgrow (by have := hB.size; simp; omega) (fun x hx => (hown.lt x hx).1)
            clear hown3 hgrow hown hO hB
            go_wp2
            go_roundw
            case rel => exact ⟨k + 1, zs ++ [(m : Int)], by omega, by go_num, by rw [List.length_append, hzl]; rfl, HM.out, hO3, hB3⟩
            case measure => simp [intOf]; omega
      · obtain rfl : k = n := by omega
        have HD : Hid (dms xs = if Sp.Rgt zs then some zs else none) := HZ.out zs HZs.out
        have hO' : Hid (Od wr w.heap.size u4 zs) := hO
        obtain ⟨a1, c1, rfl, hS⟩ := hO.form
        clear hO
        rw [hzl] at hO' ⊢
        go_wp2_with fail
        obtain ⟨r, hr⟩ : ∃ r, decide (Sp.Rgt zs) = r := ⟨_, rfl⟩
        refine (right_as a1 zs c1 k r wr hzl (by omega) hr hS).mono ?_
        rintro e w1 ⟨rfl, rfl⟩
        cases r with
        | true =>
          have hr := of_decide_eq_true hr
          obtain ⟨rfl, rfl⟩ := YS.out zs (by rw [HD.out, if_pos hr])
          go_wp2
          go_ret2
          exact ⟨_, rfl, hO'.out, hB⟩
        | false =>
          have hr := of_decide_eq_false hr
          obtain ⟨rfl, rfl⟩ := NO.out (by rw [HD.out, if_neg hr])
          go_wp2
          go_ret2
          exact ⟨_, rfl, Od.nil _ _, hB⟩
end Go.Proofs.YtadgnafafdfioaaGreatDoor.Rd
