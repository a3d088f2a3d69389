/-
  THE DOCUMENT's NUMBERS, DIMS, OPERATIONS, RATIONALS. Conditions: each theorem's own.
-/
import Derived.Test.YtokfkmncabmmcaaGreatDoorRt9
import Derived.Test.YtokfkmncabmmcaaGreatDoorReadR
namespace Go.Proofs.YtokfkmncabmmcaaGreatDoor.Rd
set_option maxRecDepth 100000
open Go.RowKit
set_option linter.unusedVariables false
set_option linter.unusedSimpArgs false

theorem refNumber_any (s : ByteArray) (w : World) : Calls Tryz.prog 15 #[.string s] w fun e w' => e = .returned (.tuple #[.int .i64 (numv s.data.toList : Nat), .bool (nok s.data.toList)]) ∧ w' = w := by
  by_cases h0 : s.size = 0
  · have e0 := size_zero h0
    have e1 : s = ⟨#[]⟩ := by cases s; simp at e0; rw [e0]
    subst e1
    go_enter Tryz.func15, Tryz.ntmps15
    go_wp2
    go_ret2
    exact ⟨rfl, rfl⟩
  · have he := is_empty (s := s) (by omega)
    generalize hv : numv s.data.toList = v
    generalize ho : nok s.data.toList = o
    have HO : Hid (numv s.data.toList = v ∧ nok s.data.toList = o) := ⟨hv, ho⟩
    have no : num s.data.toList = none → v = 0 ∧ o = false := fun h => by rw [← hv, ← ho]; exact numv_no h
    have ys : ∀ n, num s.data.toList = some n → v = n ∧ o = true := fun n h => by rw [← hv, ← ho]; exact numv_of h
    have NO : Hid _ := no
    have YS : Hid _ := ys
    clear hv ho no ys
    by_cases h2 : 2 < s.size
    · obtain ⟨rfl, rfl⟩ := NO.out (num_more h2)
      go_enter Tryz.func15, Tryz.ntmps15
      go_wp2
      go_ret2
      exact ⟨rfl, rfl⟩
    · have h1 : 0 < s.size := by omega
      by_cases hz : s.size = 2 ∧ s[0] = 48
      · obtain ⟨rfl, rfl⟩ := NO.out (num_zero hz.1 hz.2)
        obtain ⟨z1, z2⟩ := hz
        go_enter Tryz.func15, Tryz.ntmps15
        go_wp2
        go_ret2
        exact ⟨rfl, rfl⟩
      · have HZ : Hid (s.size = 2 → s[0] ≠ 48) := fun a b => hz ⟨a, b⟩
        by_cases e2 : s.size = 2
        · have b0 : (((s[0].toNat : Nat) : Int) == 48) = false := by
            apply Bool.eq_false_iff.2
            intro c
            have c' : ((s[0].toNat : Nat) : Int) = 48 := by simpa using c
            exact hz ⟨e2, UInt8.toNat_inj.1 (by show s[0].toNat = 48; omega)⟩
          clear hz
          go_enter Tryz.func15, Tryz.ntmps15
          go_wp2_with fail
          go_loop [4, 5] (fun n i => ∃ k m : Nat, i = .int .i64 (k : Int) ∧ n = .int .i64 (m : Int) ∧ k ≤ 2 ∧ m ≤ 99 ∧ (k ≤ 1 → m ≤ 9) ∧ Nu s k m) (fun _ i => 2 - (intOf i).toNat)
          case atStart => exact ⟨0, 0, rfl, rfl, by omega, by omega, fun _ => by omega, Or.inl ⟨rfl, rfl⟩⟩
          case round =>
            obtain ⟨k, m, rfl, rfl, hk, hm, hm9, hN⟩ := hrel
            have HN : Hid (Nu s k m) := hN
            clear hN
            by_cases hks : k < 2
            · have hks' : k < s.size := by omega
              obtain ⟨b, hb⟩ : ∃ b, s[k] = b := ⟨_, rfl⟩
              have HB : Hid (s[k] = b) := hb
              have hm9 : m ≤ 9 := hm9 (by omega)
              by_cases c : (b.toNat : Int) < 48
              · obtain ⟨rfl, rfl⟩ := NO.out (num_bad hks' (by rw [HB.out]; exact Lx.dgt_low c))
                go_wp2
                go_ret2
                exact ⟨rfl, rfl⟩
              · by_cases d : (57 : Int) < (b.toNat : Int)
                · obtain ⟨rfl, rfl⟩ := NO.out (num_bad hks' (by rw [HB.out]; exact Lx.dgt_high d))
                  go_wp2
                  go_ret2
                  exact ⟨rfl, rfl⟩
                · have hd := Lx.dgt_yes c d
                  have NX : Hid (Nu s (k + 1) (10 * m + (b.toNat - 48))) := by
                    have := HN.out.next hks' (by omega) (by rw [HB.out]; exact hd)
                    rw [HB.out] at this
                    exact this
                  clear hd
                  have e1 : (10 * (m : Int) + ((b.toNat : Int) - 48)) = ((10 * m + (b.toNat - 48) : Nat) : Int) := by omega
                  have l1 : 10 * m + (b.toNat - 48) ≤ 99 := by omega
                  go_wp2
                  go_round
                  case rel => exact ⟨k + 1, 10 * m + (b.toNat - 48), by go_num, by go_num, by omega, l1, fun h => by have := NX.out.le; omega, NX.out⟩
                  case measure => simp [intOf]; omega
            · obtain rfl : k = 2 := by omega
              obtain ⟨rfl, rfl⟩ := YS.out m (by have := HN.out; rw [← e2] at this; exact this.num h1 HZ.out)
              go_wp2
              go_ret2
              exact ⟨rfl, rfl⟩
        · have e1 : s.size = 1 := by omega
          clear hz
          go_enter Tryz.func15, Tryz.ntmps15
          go_wp2_with fail
          go_loop [4, 5] (fun n i => ∃ k m : Nat, i = .int .i64 (k : Int) ∧ n = .int .i64 (m : Int) ∧ k ≤ 1 ∧ m ≤ 99 ∧ (k ≤ 1 → m ≤ 9) ∧ Nu s k m) (fun _ i => 1 - (intOf i).toNat)
          case atStart => exact ⟨0, 0, rfl, rfl, by omega, by omega, fun _ => by omega, Or.inl ⟨rfl, rfl⟩⟩
          case round =>
            obtain ⟨k, m, rfl, rfl, hk, hm, hm9, hN⟩ := hrel
            have HN : Hid (Nu s k m) := hN
            clear hN
            by_cases hks : k < 1
            · have hks' : k < s.size := by omega
              obtain ⟨b, hb⟩ : ∃ b, s[k] = b := ⟨_, rfl⟩
              have HB : Hid (s[k] = b) := hb
              have hm9 : m ≤ 9 := hm9 (by omega)
              by_cases c : (b.toNat : Int) < 48
              · obtain ⟨rfl, rfl⟩ := NO.out (num_bad hks' (by rw [HB.out]; exact Lx.dgt_low c))
                go_wp2
                go_ret2
                exact ⟨rfl, rfl⟩
              · by_cases d : (57 : Int) < (b.toNat : Int)
                · obtain ⟨rfl, rfl⟩ := NO.out (num_bad hks' (by rw [HB.out]; exact Lx.dgt_high d))
                  go_wp2
                  go_ret2
                  exact ⟨rfl, rfl⟩
                · have hd := Lx.dgt_yes c d
                  have NX : Hid (Nu s (k + 1) (10 * m + (b.toNat - 48))) := by
                    have := HN.out.next hks' (by omega) (by rw [HB.out]; exact hd)
                    rw [HB.out] at this
                    exact this
                  clear hd
                  have e1 : (10 * (m : Int) + ((b.toNat : Int) - 48)) = ((10 * m + (b.toNat - 48) : Nat) : Int) := by omega
                  have l1 : 10 * m + (b.toNat - 48) ≤ 99 := by omega
                  go_wp2
                  go_round
                  case rel => exact ⟨k + 1, 10 * m + (b.toNat - 48), by go_num, by go_num, by omega, l1, fun h => by have := NX.out.le; omega, NX.out⟩
                  case measure => simp [intOf]; omega
            · obtain rfl : k = 1 := by omega
              obtain ⟨rfl, rfl⟩ := YS.out m (by have := HN.out; rw [← e1] at this; exact this.num h1 HZ.out)
              go_wp2
              go_ret2
              exact ⟨rfl, rfl⟩

theorem refRight_as (ao : Option Addr) (zs : List Int) (cap n : Nat) (r : Bool) (w : World) (hn : zs.length = n) (hl : n ≤ 1000) (hr : decide (Sp.Rgt zs) = r) (hS : Sp.Sl w ao zs) :
    Calls Tryz.prog 26 #[.slice ao n cap] w fun e w' => e = .returned (.bool r) ∧ w' = w := by
  subst hn hr
  exact Sp.refRight_any ao zs cap w hl hS
/-- what is known of dims -/
def Dk (w : World) (B : Nat) (a : Option Addr) (n : Nat) (o : Option (List Int)) : Prop := ∀ d, o = some d → n = d.length ∧ Sp.Sl w a d ∧ ∀ b off sp, a = some ⟨b, off, sp⟩ → B ≤ b
theorem Dk.no (w : World) (B : Nat) (a : Option Addr) (n : Nat) : Dk w B a n none := fun d h => by cases h
theorem Dk.mono {w : World} {B B' : Nat} {a : Option Addr} {n : Nat} {o : Option (List Int)} (h : Dk w B a n o) (hb : B' ≤ B) : Dk w B' a n o := fun d e => ⟨(h d e).1, (h d e).2.1, fun b off sp he => Nat.le_trans hb ((h d e).2.2 b off sp he)⟩
theorem Dk.below {w w' : World} {B : Nat} {a : Option Addr} {n : Nat} {o : Option (List Int)} (h : Dk w B a n o) (hb : Below w.heap.size w w') : Dk w' B a n o := fun d e => ⟨(h d e).1, (h d e).2.1.below hb, (h d e).2.2⟩
theorem Dk.set {w : World} {B : Nat} {a : Option Addr} {n : Nat} {o : Option (List Int)} (h : Dk w B a n o) {p : Addr} (hp : p.block < B) (x : Value) : Dk (w.setCell p x) B a n o := fun d e => by
  obtain ⟨h1, h2, h3⟩ := h d e
  refine ⟨h1, fun i hi => ?_, h3⟩
  obtain ⟨b, off, rfl, hc⟩ := h2 i hi
  have := h3 b off none rfl
  exact ⟨b, off, rfl, by rw [cell_set (show b ≠ p.block by omega)]; exact hc⟩
theorem Od.fresh {w : World} {B : Nat} {v : Value} {zs : List Int} (h : Od w B v zs) : ∃ ao cap, v = .slice ao zs.length cap ∧ Sp.Sl w ao zs ∧ ∀ b off sp, ao = some ⟨b, off, sp⟩ → B ≤ b := by
  obtain ⟨ao, cap, e, hR, _, _, _, hf⟩ := Row.of_own h
  exact ⟨ao, cap, e, row_ints hR, fun b off sp he => (hf b off sp he).2.1⟩
theorem refDims_any (ao : Option Addr) (xs : List ByteArray) (c : Nat) (w : World) (hl : xs.length ≤ 1000) (hR : Row w ao (txts xs)) :
    Calls Tryz.prog 16 #[.slice ao xs.length c] w fun e w' => ∃ a m d, e = .returned (.tuple #[.slice a m d, .bool (dmo xs)]) ∧ Dk w' w.heap.size a m (dms xs) ∧ Below w.heap.size w w' := by
  obtain ⟨i0, hi, hz0, hz1, hz2⟩ := info_parts inf3
  have no : dms xs = none → dmo xs = false ∧ ∀ w B a n, Dk w B a n (dms xs) := fun h => ⟨(dm_no h).1, fun w B a n => by rw [h]; exact Dk.no _ _ _ _⟩
  have ys : ∀ d, dms xs = some d → dmo xs = true ∧ ∀ w B a, Sp.Sl w a d → (∀ b off sp, a = some ⟨b, off, sp⟩ → B ≤ b) → Dk w B a d.length (dms xs) := fun d h => ⟨(dm_yes h).1, fun w B a hs hf => by rw [h]; exact fun d' e => by cases e; exact ⟨rfl, hs, hf⟩⟩
  have HK : Hid (∀ k zs n, k < xs.length → nus (xs.take k) = some zs → num (xs.getD k em).data.toList = some n → nus (xs.take (k + 1)) = some (zs ++ [(n : Int)])) := fun k zs n a b c => nus_take a b c
  have HF : Hid (∀ k, k < xs.length → num (xs.getD k em).data.toList = none → dms xs = none) := fun k a b => dms_no (nus_none a b)
  have HZ : Hid (∀ zs, nus (xs.take xs.length) = some zs → dms xs = if Sp.Rgt zs then some zs else none) := fun zs h => dms_of (by rw [List.take_length] at h; exact h)
  have HR : Hid _ := fun (v : World) (hb : Below w.heap.size w v) i (h : i < xs.length) => row_str (hR.below hb) h
  clear hR
  have NO : Hid _ := no
  have YS : Hid _ := ys
  clear no ys
  generalize dmo xs = o at NO YS ⊢
  generalize dms xs = dq at NO YS HF HZ ⊢
  obtain ⟨n, hn⟩ : ∃ n, xs.length = n := ⟨_, rfl⟩
  rw [hn] at HK HF HZ HR hl ⊢
  clear hn
  go_enter Tryz.func16, Tryz.ntmps16
  go_wp2_with fail
  go_loopw [4, 5] (fun v i wr => ∃ (k : Nat) (zs : List Int), k ≤ n ∧ i = .int .i64 (k : Int) ∧ zs.length = k ∧ nus (xs.take k) = some zs ∧ Od wr w.heap.size v zs ∧ Below w.heap.size w wr) (fun _ i _ => n - (intOf i).toNat)
  case atStart => exact ⟨0, [], by omega, rfl, rfl, rfl, Od.nil _ _, Below.refl _ _⟩
  case round =>
    obtain ⟨k, zs, hk, rfl, hzl, hz, hO, hB⟩ := hrel
    have HZs : Hid _ := hz
    clear hz
    by_cases h : k < n
    · obtain ⟨b, off, rfl, hc⟩ := HR.out wr hB k h
      obtain ⟨x, hx⟩ : ∃ z, xs.getD k em = z := ⟨_, rfl⟩
      rw [hx] at hc
      have HX : Hid _ := hx
      clear hx
      go_wp2_with fail
      refine (refNumber_any x _).mono ?_
      rintro e w1 ⟨rfl, rfl⟩
      cases hnum : num x.data.toList with
      | none =>
        obtain ⟨e1, e2⟩ := numv_no hnum
        rw [e1, e2]
        obtain ⟨rfl, hd⟩ := NO.out (HF.out k h (by rw [HX.out]; exact hnum))
        have HDk : Hid _ := hd
        clear e1 e2 hnum hd
        go_wp2
        go_ret2
        exact ⟨_, _, _, rfl, HDk.out _ _ _ _, hB⟩
      | some m =>
        obtain ⟨e1, e2⟩ := numv_of hnum
        rw [e1, e2]
        have HM : Hid (nus (xs.take (k + 1)) = some (zs ++ [(m : Int)])) := HK.out k zs m h HZs.out (by rw [HX.out]; exact hnum)
        clear e1 e2 hnum
        have hown : w1.ownsRow w.heap.size 3 1 u4 k (ints zs) := by rw [← hzl]; exact hO
        go_wp2_with (first | (at_builtin; refine wpList_append_own _ rfl _ _ 24 rfl w.heap.size 3 i0 _ 1 8 Tryz.underlying24 hi hz0 hz1 hz2 rfl (by decide) _ k (ints zs) rfl (hown.alloc _) ⟨w1.heap.size, 0, none⟩ 1 1 [.int .i64 (m : Int)] rfl rfl ?_ ?_ ?_ ?_ ?_ ?_))
        · exact (Row.one (by go_simp)).news
        · intro x hx
          rw [List.mem_singleton.1 hx]; rfl
        · unfold maxLen; omega
        · omega
        · have := hB.size; simp; omega
        · intro v' w3 hown3 hgrow _
          have hO3 : Od w3 w.heap.size v' (zs ++ [(m : Int)]) := by
            unfold Od ints
            rw [List.length_append, hzl, List.map_append]
            exact hown3
          have hB3 : Below w.heap.size w w3 := (hB.alloc hB.size _).grown hgrow (by have := hB.size; simp; omega) (fun x hx => (hown.lt x hx).1)
          clear hown3 hgrow hown hO hB
          go_wp2
          go_roundw
          case rel => exact ⟨k + 1, zs ++ [(m : Int)], by omega, by go_num, by rw [List.length_append, hzl]; rfl, HM.out, hO3, hB3⟩
          case measure => simp [intOf]; omega
    · obtain rfl : k = n := by omega
      have HD : Hid (dq = if Sp.Rgt zs then some zs else none) := HZ.out zs HZs.out
      obtain ⟨a1, c1, rfl, hS, hf⟩ := hO.fresh
      have HSl : Hid _ := hS
      have HFr : Hid _ := hf
      clear hf
      clear hO
      rw [hzl]
      go_wp2_with fail
      obtain ⟨r, hr⟩ : ∃ r, decide (Sp.Rgt zs) = r := ⟨_, rfl⟩
      refine (refRight_as a1 zs c1 k r wr hzl (by omega) hr hS).mono ?_
      rintro e w1 ⟨rfl, rfl⟩
      clear hS
      cases r with
      | true =>
        have hr := of_decide_eq_true hr
        obtain ⟨rfl, hd⟩ := YS.out zs (by rw [HD.out, if_pos hr])
        have HDk : Hid _ := hd
        clear hd
        go_wp2
        go_ret2
        exact ⟨_, _, _, rfl, by have := HDk.out _ w.heap.size a1 HSl.out HFr.out; rw [hzl] at this; exact this, hB⟩
      | false =>
        have hr := of_decide_eq_false hr
        obtain ⟨rfl, hd⟩ := NO.out (by rw [HD.out, if_neg hr])
        have HDk : Hid _ := hd
        clear hd
        go_wp2
        go_ret2
        exact ⟨_, _, _, rfl, HDk.out _ _ _ _, hB⟩

theorem rationals_any (bo : Option Addr) (xs : List ByteArray) (d : Nat) (w : World) (hl : xs.length ≤ 1000000) (hR : Row w bo (txts xs)) (hs : ∀ i, i < xs.length → (xs.getD i em).size ≤ 20000) :
    Calls Tryz.prog 14 #[.slice bo xs.length d] w fun e w' => e = .returned (.bool (xs.all ra)) ∧ Below w.heap.size w w' := by
  have HM : Hid ((∀ i, i < xs.length → ra (xs.getD i em) = true) → xs.all ra = true) := all_yes
  have HN : Hid (∀ i, i < xs.length → ra (xs.getD i em) = false → xs.all ra = false) := fun i hi h => all_no hi h
  have HR : Hid _ := fun (v : World) (hb : Below w.heap.size w v) i (h : i < xs.length) => row_str (hR.below hb) h
  have HS : Hid _ := hs
  generalize xs.all ra = al at HM HN ⊢
  obtain ⟨n, hn⟩ : ∃ n, xs.length = n := ⟨_, rfl⟩
  rw [hn] at HM HN HR HS hl ⊢
  clear hR hn hs
  go_enter Tryz.func14, Tryz.ntmps14
  go_wp2_with fail
  go_loopw [3] (fun i wr => ∃ k : Nat, k ≤ n ∧ i = .int .i64 (k : Int) ∧ (∀ j, j < k → ra (xs.getD j em) = true) ∧ Below w.heap.size w wr) (fun i _ => n - (intOf i).toNat)
  case atStart => exact ⟨0, by omega, rfl, fun j hj => by omega, Below.refl _ _⟩
  case round =>
    obtain ⟨k, hk, rfl, hj, hb⟩ := hrel
    have HJ : Hid _ := And.intro hj hb
    clear hj
    by_cases h : k < n
    · obtain ⟨b, off, rfl, hc⟩ := HR.out wr hb k h
      have hsz := HS.out k h
      clear hb
      obtain ⟨x, hx⟩ : ∃ z, xs.getD k em = z := ⟨_, rfl⟩
      rw [hx] at hc hsz
      have HX : Hid _ := hx
      clear hx
      cases hr : ra x with
      | true =>
        have HRa : Hid _ := hr
        obtain ⟨q, rfl⟩ := R_of hr
        clear hr
        go_wp2_with fail
        refine (Read_R q _ hsz).mono ?_
        rintro e w1 ⟨rfl, h1⟩
        unfold fr
        have H1 : Hid (Below w.heap.size w w1) := HJ.out.2.trans (h1.mono HJ.out.2.size)
        have H1s := H1.out.size
        clear h1 hc
        go_wp2
        go_roundw
        case rel =>
          refine ⟨k + 1, by omega, by go_num, fun j hj => ?_, H1.out.alloc (by omega) _⟩
          by_cases e : j = k
          · rw [e, HX.out]; exact HRa.out
          · exact HJ.out.1 j (by omega)
        case measure => simp [intOf]; omega
      | false =>
        have HRa : Hid _ := hr
        obtain ⟨X, Y, hread⟩ := Read_one x hsz hr
        clear hr
        go_wp2_with fail
        refine (hread _).mono ?_
        rintro e w1 ⟨rfl, h1⟩
        have H1 : Hid (Below w.heap.size w w1) := HJ.out.2.trans (h1.mono HJ.out.2.size)
        have H1s := H1.out.size
        clear h1 hc hread
        go_wp2
        go_ret
        exact ⟨Sp.ret_bool (HN.out k h (by rw [HX.out]; exact HRa.out)).symm, H1.out.alloc (by omega) _⟩
    · clear hb
      go_wp2
      go_ret
      exact ⟨Sp.ret_bool (HM.out (fun i hi => HJ.out.1 i (by omega))).symm, HJ.out.2⟩
end Go.Proofs.YtokfkmncabmmcaaGreatDoor.Rd
