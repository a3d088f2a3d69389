/-
  WHAT THE DOCUMENT's Shape GIVES OF ANY NODE. Conditions: the theorem's own.
-/
import Derived.Test.YtadgnafafdfioaaGreatDoorGS
import Derived.Test.YtadgnafafdfioaaGreatDoorGP
import Derived.Test.YtadgnafafdfioaaGreatDoorGWA
import Derived.Test.YtadgnafafdfioaaGreatDoorGWB
import Derived.Test.YtadgnafafdfioaaGreatDoorGWC
namespace Go.Proofs.YtadgnafafdfioaaGreatDoor.Gr
open Go.Proofs.YtadgnafafdfioaaGreatDoor.Rd
set_option maxRecDepth 100000
open Go.RowKit
set_option linter.unusedVariables false
set_option linter.unusedSimpArgs false

theorem Shp.rgo {w' : World} {a : Option Addr} {zs : List Int} {c : Nat} {e : Ending} (h : e = .returned (.tuple #[.slice a zs.length c, .bool (decide (Sp.Rgt zs))])) (hS : Sp.Sl w' a zs) : Shp w' (rgo zs) e := by
  unfold Gr.rgo
  by_cases hr : Sp.Rgt zs
  · rw [if_pos hr]; exact ⟨a, c, by rw [h, decide_eq_true hr], hS⟩
  · rw [if_neg hr]; exact ⟨a, _, c, by rw [h, decide_eq_false hr]⟩
theorem Shp.no {w' : World} {e : Ending} (h : ∃ a n c, e = .returned (.tuple #[.slice a n c, .bool false])) : Shp w' none e := h
theorem fok_iff {n : Nd} : fok n = true ↔ (isw n.op lScale = true ∨ n.k.size = 0) ∧ (isw n.op lPower = true ∨ n.n = 0) ∧ (isw n.op lConst = true ∨ n.data.length = 0) := by
  simp [fok, and_assoc]
theorem prv_some {x : ByteArray} {m : Nat} (h : prs x = some m) : prv x = (m : Int) := by unfold prv; rw [h]
theorem sl_list2 {w : World} {a : Option Addr} {x y : Int} (h : Sp.Sl w a [x, y]) : ∃ b off, a = some ⟨b, off, none⟩ ∧ w.cell? ⟨b, off, none⟩ = some (.int .i64 x) ∧ w.cell? ⟨b, off + 1, none⟩ = some (.int .i64 y) := by
  obtain ⟨b, off, e, h0⟩ := h 0 (by simp)
  obtain ⟨b', off', e', h1⟩ := h 1 (by simp)
  rw [e] at e'
  simp at e'
  obtain ⟨rfl, rfl⟩ := e'
  exact ⟨b, off, e, h0, h1⟩
theorem len_two {xs : List Int} (h : xs.length = 2) : ∃ x y, xs = [x, y] := by
  match xs, h with
  | [x, y], _ => exact ⟨x, y, rfl⟩

theorem one_no {op : ByteArray} (h : prs op = some 1) : isw op lParam = false ∧ isw op lInput = false ∧ isw op lConst = false := by
  rcases cases_one h with e | e | e | e | e | e | e | e | e | e <;> rw [e] <;> decide
theorem two_no {op : ByteArray} (h : prs op = some 2) : isw op lParam = false ∧ isw op lInput = false ∧ isw op lConst = false ∧ isw op lScale = false ∧ isw op lPower = false := by
  rcases cases_two h with e | e | e | e | e | e <;> rw [e] <;> decide
theorem refShape_bad (l : List Nd) (op name K : ByteArray) (A B n : Int) (zs : List Int) (data : List ByteArray) (sc dc c : Nat) (sa da ao : Option Addr) (w : World) (hns : name.size ≤ 20000)
    (h : ∀ m, prs op = some m → ¬ (pok m l.length A B = true ∧ nok op name = true ∧ fok ⟨op, A, B, name, zs, K, n, data⟩ = true)) :
    Calls Tryz.prog 11 #[.slice ao l.length c, .agg #[.string op, .int .i64 A, .int .i64 B, .string name, .slice sa zs.length sc, .string K, .int .i64 n, .slice da data.length dc]] w fun e w' => (∃ a n c, e = .returned (.tuple #[.slice a n c, .bool false])) ∧ Below w.heap.size w w' := by
  cases hm : prs op with
  | none => exact refShape_op op name K A B n _ sc _ dc _ c sa da ao w (by unfold prv; rw [hm])
  | some m =>
    have hv := prv_some hm
    have h' := h m hm
    clear h
    rcases prs_le hm with rfl | rfl | rfl
    · rw [pok0, fok_iff] at h'
      by_cases hA : A = 0
      rotate_left
      · exact refShape_0a op name K A B n _ sc _ dc _ c sa da ao w hv hA
      by_cases hB : B = 0
      rotate_left
      · exact refShape_0b op name K A B n _ sc _ dc _ c sa da ao w hv hA hB
      simp only [hA, hB, decide_true, Bool.and_self, true_and] at h'
      rcases cases_no hm with e | e | e
      · have hno : nok op name = nmb name := by rw [e]; rfl
        rw [hno] at h'
        by_cases hnm : nmb name = true
        · exact refShape_P_fok op name K A B n _ sc _ dc _ c sa da ao w hv hA hB (by rw [e]; decide) (by rw [e]; decide) (by rw [e]; decide) (by rw [e]; decide) hns hnm (fun hc => h' ⟨hnm, .inr hc.1, .inr hc.2.1, .inr hc.2.2⟩)
        · exact refShape_P_name op name K A B n _ sc _ dc _ c sa da ao w hv hA hB (by rw [e]; decide) (by rw [e]; decide) (by rw [e]; decide) (by rw [e]; decide) hns (show nmb name = false by simpa using hnm)
      · have hno : nok op name = nmb name := by rw [e]; rfl
        rw [hno] at h'
        by_cases hnm : nmb name = true
        · exact refShape_I_fok op name K A B n _ sc _ dc _ c sa da ao w hv hA hB (by rw [e]; decide) (by rw [e]; decide) (by rw [e]; decide) (by rw [e]; decide) (by rw [e]; decide) hns hnm (fun hc => h' ⟨hnm, .inr hc.1, .inr hc.2.1, .inr hc.2.2⟩)
        · exact refShape_I_name op name K A B n _ sc _ dc _ c sa da ao w hv hA hB (by rw [e]; decide) (by rw [e]; decide) (by rw [e]; decide) (by rw [e]; decide) (by rw [e]; decide) hns (show nmb name = false by simpa using hnm)
      · have hno : nok op name = decide (name.size = 0) := by rw [e]; rfl
        rw [hno] at h'
        by_cases hnm : name.size = 0
        · exact refShape_C_fok op name K A B n _ sc _ dc _ c sa da ao w hv hA hB (by rw [e]; decide) (by rw [e]; decide) (by rw [e]; decide) (by rw [e]; decide) (by rw [e]; decide) hnm (fun hc => h' ⟨by simp [hnm], .inr hc.1, .inr hc.2, .inl (by rw [e]; decide)⟩)
        · exact refShape_C_name op name K A B n _ sc _ dc _ c sa da ao w hv hA hB (by rw [e]; decide) (by rw [e]; decide) (by rw [e]; decide) (by rw [e]; decide) (by rw [e]; decide) hnm
    · rw [pok1, fok_iff, (nok_one (name := name) hm (by omega)).1] at h'
      by_cases hB : B = 0
      rotate_left
      · exact refShape_1b op name K A B n _ sc _ dc _ c sa da ao w hv hB
      by_cases hA : A < 0
      · exact refShape_1a op name K A B n _ sc _ dc _ c sa da ao w hv hB hA
      by_cases hA2 : (l.length : Int) ≤ A
      · exact refShape_1l op name K A B n _ sc _ dc _ c sa da ao w hv hB hA hA2
      have hin : inl l.length A = true := inl_iff.2 ⟨by omega, by omega⟩
      simp only [hB, hin, decide_true, Bool.and_self, true_and, decide_eq_true_eq] at h'
      by_cases hS : isw op lScale = true
      · have e := isw_eq hS
        by_cases hnm : name.size = 0
        · exact refShape_S_fok op name K A B n _ sc _ dc _ c sa da ao w hv hA hA2 hB (by rw [e]; decide) (by rw [e]; decide) (by rw [e]; decide) (by rw [e]; decide) (by rw [e]; decide) hnm (fun hc => h' ⟨hnm, .inl hS, .inr hc.1, .inr hc.2⟩)
        · exact refShape_S_name op name K A B n _ sc _ dc _ c sa da ao w hv hA hA2 hB (by rw [e]; decide) (by rw [e]; decide) (by rw [e]; decide) (by rw [e]; decide) (by rw [e]; decide) hnm
      by_cases hP : isw op lPower = true
      · have e := isw_eq hP
        by_cases hnm : name.size = 0
        · exact refShape_W_fok op name K A B n _ sc _ dc _ c sa da ao w hv hA hA2 hB (by rw [e]; decide) (by rw [e]; decide) (by rw [e]; decide) (by rw [e]; decide) (by rw [e]; decide) hnm (fun hc => h' ⟨hnm, .inr hc.1, .inl hP, .inr hc.2⟩)
        · exact refShape_W_name op name K A B n _ sc _ dc _ c sa da ao w hv hA hA2 hB (by rw [e]; decide) (by rw [e]; decide) (by rw [e]; decide) (by rw [e]; decide) (by rw [e]; decide) hnm
      obtain ⟨f1, f2, f3⟩ := one_no hm
      by_cases hnm : name.size = 0
      · exact refShape_O_fok op name K A B n _ sc _ dc _ c sa da ao w hv hA hA2 hB f1 f2 (by simpa using hS) (by simpa using hP) f3 hnm (fun hc => h' ⟨hnm, .inr hc.1, .inr hc.2.1, .inr hc.2.2⟩)
      · exact refShape_O_name op name K A B n _ sc _ dc _ c sa da ao w hv hA hA2 hB f1 f2 (by simpa using hS) (by simpa using hP) f3 hnm
    · rw [pok2, fok_iff, (nok_one (name := name) hm (by omega)).1] at h'
      by_cases hA : A < 0
      · exact refShape_2a op name K A B n _ sc _ dc _ c sa da ao w hv hA
      by_cases hA2 : (l.length : Int) ≤ A
      · exact refShape_2l op name K A B n _ sc _ dc _ c sa da ao w hv hA hA2
      by_cases hB : B < 0
      · exact refShape_2b op name K A B n _ sc _ dc _ c sa da ao w hv hA hA2 hB
      by_cases hB2 : (l.length : Int) ≤ B
      · exact refShape_2k op name K A B n _ sc _ dc _ c sa da ao w hv hA hA2 hB hB2
      have hin : inl l.length A = true := inl_iff.2 ⟨by omega, by omega⟩
      have hin2 : inl l.length B = true := inl_iff.2 ⟨by omega, by omega⟩
      simp only [hin, hin2, decide_true, Bool.and_self, true_and, decide_eq_true_eq] at h'
      obtain ⟨f1, f2, f3, f4, f5⟩ := two_no hm
      by_cases hnm : name.size = 0
      · exact refShape_T_fok op name K A B n _ sc _ dc _ c sa da ao w hv hA hA2 hB hB2 f1 f2 f4 f5 f3 hnm (fun hc => h' ⟨hnm, .inr hc.1, .inr hc.2.1, .inr hc.2.2⟩)
      · exact refShape_T_name op name K A B n _ sc _ dc _ c sa da ao w hv hA hA2 hB hB2 f1 f2 f4 f5 f3 hnm

theorem refShape_good0 (l : List Nd) (op name K : ByteArray) (A B n : Int) (zs : List Int) (data : List ByteArray) (sc dc c : Nat) (sa da ao : Option Addr) (w : World)
    (hm : prs op = some 0) (hp : pok 0 l.length A B = true) (hn : nok op name = true) (hf : fok ⟨op, A, B, name, zs, K, n, data⟩ = true)
    (hS : Sp.Sl w sa zs) (hD : Row w da (txts data)) (hzs : zs.length ≤ 1000) (hns : name.size ≤ 20000) (hds : ∀ x ∈ data, x.size ≤ 20000) :
    Calls Tryz.prog 11 #[.slice ao l.length c, .agg #[.string op, .int .i64 A, .int .i64 B, .string name, .slice sa zs.length sc, .string K, .int .i64 n, .slice da data.length dc]] w fun e w' => Shp w' (own ⟨op, A, B, name, zs, K, n, data⟩ [] []) e ∧ Below w.heap.size w w' := by
  have hv := prv_some hm
  rw [pok0] at hp
  simp only [Bool.and_eq_true, decide_eq_true_eq] at hp
  obtain ⟨hA, hB⟩ := hp
  rw [fok_iff] at hf
  obtain ⟨hk, hn', hd⟩ := hf
  simp only at hk hn' hd
  rcases cases_no hm with e | e | e
  · have ho : own ⟨op, A, B, name, zs, K, n, data⟩ [] [] = rgo zs := by simp [own, e, isw_str_eq]
    have hno : nok op name = nmb name := by rw [e]; rfl
    rw [hno] at hn
    have hk' : K.size = 0 := hk.resolve_left (by rw [e]; decide)
    have hn'' : n = 0 := hn'.resolve_left (by rw [e]; decide)
    have hd' : data.length = 0 := hd.resolve_left (by rw [e]; decide)
    rw [ho]
    refine (refShape_Param_yes op name K A B n zs sc _ dc _ c sa da ao w hv hA hB (by rw [e]; decide) (by rw [e]; decide) (by rw [e]; decide) (by rw [e]; decide) (by rw [e]; decide) (by rw [e]; decide) (by rw [e]; decide) (by rw [e]; decide) (by rw [e]; decide) (by rw [e]; decide) hns hn hk' hn'' hd' hzs hS).mono ?_
    rintro e w' ⟨he, hb⟩
    exact ⟨Shp.rgo he (sl_below hS hb), hb⟩
  · have ho : own ⟨op, A, B, name, zs, K, n, data⟩ [] [] = rgo zs := by simp [own, e, isw_str_eq]
    have hno : nok op name = nmb name := by rw [e]; rfl
    rw [hno] at hn
    have hk' : K.size = 0 := hk.resolve_left (by rw [e]; decide)
    have hn'' : n = 0 := hn'.resolve_left (by rw [e]; decide)
    have hd' : data.length = 0 := hd.resolve_left (by rw [e]; decide)
    rw [ho]
    refine (refShape_Input_yes op name K A B n zs sc _ dc _ c sa da ao w hv hA hB (by rw [e]; decide) (by rw [e]; decide) (by rw [e]; decide) (by rw [e]; decide) (by rw [e]; decide) (by rw [e]; decide) (by rw [e]; decide) (by rw [e]; decide) (by rw [e]; decide) (by rw [e]; decide) hns hn hk' hn'' hd' hzs hS).mono ?_
    rintro e w' ⟨he, hb⟩
    exact ⟨Shp.rgo he (sl_below hS hb), hb⟩
  · have ho : own ⟨op, A, B, name, zs, K, n, data⟩ [] [] = if Sp.Rgt zs ∧ data.length = Sp.szI zs ∧ data.all ra = true then some zs else none := by simp [own, e, isw_str_eq]
    have hno : nok op name = decide (name.size = 0) := by rw [e]; rfl
    rw [hno, decide_eq_true_eq] at hn
    have hk' : K.size = 0 := hk.resolve_left (by rw [e]; decide)
    have hn'' : n = 0 := hn'.resolve_left (by rw [e]; decide)
    rw [ho]
    by_cases hr : Sp.Rgt zs
    rotate_left
    · rw [if_neg fun c => hr c.1]
      exact refShape_Const_na op name K A B n zs data sc dc _ c sa da ao w hv hA hB (by rw [e]; decide) (by rw [e]; decide) (by rw [e]; decide) (by rw [e]; decide) (by rw [e]; decide) (by rw [e]; decide) (by rw [e]; decide) (by rw [e]; decide) (by rw [e]; decide) (by rw [e]; decide) hn hk' hn'' hzs hS hr
    by_cases he : data.length = Sp.szI zs
    rotate_left
    · rw [if_neg fun c => he c.2.1]
      exact refShape_Const_nb op name K A B n zs data sc dc _ c sa da ao w hv hA hB (by rw [e]; decide) (by rw [e]; decide) (by rw [e]; decide) (by rw [e]; decide) (by rw [e]; decide) (by rw [e]; decide) (by rw [e]; decide) (by rw [e]; decide) (by rw [e]; decide) (by rw [e]; decide) hn hk' hn'' hzs hS hr he
    refine (refShape_Const_any op name K A B n zs data sc dc _ c sa da ao w hv hA hB (by rw [e]; decide) (by rw [e]; decide) (by rw [e]; decide) (by rw [e]; decide) (by rw [e]; decide) (by rw [e]; decide) (by rw [e]; decide) (by rw [e]; decide) (by rw [e]; decide) (by rw [e]; decide) hn hk' hn'' hzs hS hr he hD (fun i hi => by
      rw [List.getD_eq_getElem?_getD, List.getElem?_eq_getElem hi]; exact hds _ (List.getElem_mem hi))).mono ?_
    rintro e w' ⟨he', hb⟩
    refine ⟨?_, hb⟩
    cases hal : data.all ra with
    | true =>
      rw [hal] at he'
      rw [if_pos ⟨hr, he, rfl⟩]
      exact ⟨sa, sc, he', sl_below hS hb⟩
    | false =>
      rw [hal] at he'
      rw [if_neg fun c => by have := c.2.2; cases this]
      exact he'

theorem refShape_good1 (l : List Nd) (op name K : ByteArray) (i : Nat) (B n : Int) (zs xs : List Int) (data : List ByteArray) (sc dc c bl ol ac : Nat) (sa da aa : Option Addr) (w : World)
    (hm : prs op = some 1) (hi : i < l.length) (hB : B = 0) (hn0 : name.size = 0) (hf : fok ⟨op, i, B, name, zs, K, n, data⟩ = true)
    (hS : Sp.Sl w sa zs) (hT : Sp.Sl w aa xs) (hC : w.cell? ⟨bl, ol + i * 8 + 4, none⟩ = some (.slice aa xs.length ac)) (hzs : zs.length ≤ 1000) (hxs : xs.length ≤ 1000) (hks : K.size ≤ 20000) :
    Calls Tryz.prog 11 #[.slice (some ⟨bl, ol, none⟩) l.length c, .agg #[.string op, .int .i64 (i : Int), .int .i64 B, .string name, .slice sa zs.length sc, .string K, .int .i64 n, .slice da data.length dc]] w fun e w' => Shp w' (own ⟨op, i, B, name, zs, K, n, data⟩ xs []) e ∧ Below w.heap.size w w' := by
  have hv := prv_some hm
  rw [fok_iff] at hf
  obtain ⟨hk, hn', hd⟩ := hf
  simp only at hk hn' hd
  have hd' : data.length = 0 := hd.resolve_left (by rw [(one_no hm).2.2]; decide)
  rcases cases_one hm with e | e | e | e | e | e | e | e | e | e
  · have ho : own ⟨op, i, B, name, zs, K, n, data⟩ xs [] = rgo xs := by simp [own, e, isw_str_eq]
    have hk' : K.size = 0 := hk.resolve_left (by rw [e]; decide)
    have hn'' : n = 0 := hn'.resolve_left (by rw [e]; decide)
    rw [ho]
    refine (refShape_O1_yes op name K i B n zs xs sc _ dc _ c bl ol ac sa da aa w hv hi hB (by rw [e]; decide) (by rw [e]; decide) (by rw [e]; decide) (by rw [e]; decide) (by rw [e]; decide) (by rw [e]; decide) (by rw [e]; decide) (by rw [e]; decide) (by rw [e]; decide) (by rw [e]; decide) hn0 hk' hn'' hd' hxs hT hC).mono ?_
    rintro e w' ⟨he, hb⟩
    exact ⟨Shp.rgo he (sl_below hT hb), hb⟩
  · have ho : own ⟨op, i, B, name, zs, K, n, data⟩ xs [] = rgo xs := by simp [own, e, isw_str_eq]
    have hk' : K.size = 0 := hk.resolve_left (by rw [e]; decide)
    have hn'' : n = 0 := hn'.resolve_left (by rw [e]; decide)
    rw [ho]
    refine (refShape_O1_yes op name K i B n zs xs sc _ dc _ c bl ol ac sa da aa w hv hi hB (by rw [e]; decide) (by rw [e]; decide) (by rw [e]; decide) (by rw [e]; decide) (by rw [e]; decide) (by rw [e]; decide) (by rw [e]; decide) (by rw [e]; decide) (by rw [e]; decide) (by rw [e]; decide) hn0 hk' hn'' hd' hxs hT hC).mono ?_
    rintro e w' ⟨he, hb⟩
    exact ⟨Shp.rgo he (sl_below hT hb), hb⟩
  · have ho : own ⟨op, i, B, name, zs, K, n, data⟩ xs [] = rgo xs := by simp [own, e, isw_str_eq]
    have hk' : K.size = 0 := hk.resolve_left (by rw [e]; decide)
    have hn'' : n = 0 := hn'.resolve_left (by rw [e]; decide)
    rw [ho]
    refine (refShape_O1_yes op name K i B n zs xs sc _ dc _ c bl ol ac sa da aa w hv hi hB (by rw [e]; decide) (by rw [e]; decide) (by rw [e]; decide) (by rw [e]; decide) (by rw [e]; decide) (by rw [e]; decide) (by rw [e]; decide) (by rw [e]; decide) (by rw [e]; decide) (by rw [e]; decide) hn0 hk' hn'' hd' hxs hT hC).mono ?_
    rintro e w' ⟨he, hb⟩
    exact ⟨Shp.rgo he (sl_below hT hb), hb⟩
  · have ho : own ⟨op, i, B, name, zs, K, n, data⟩ xs [] = rgo xs := by simp [own, e, isw_str_eq]
    have hk' : K.size = 0 := hk.resolve_left (by rw [e]; decide)
    have hn'' : n = 0 := hn'.resolve_left (by rw [e]; decide)
    rw [ho]
    refine (refShape_O1_yes op name K i B n zs xs sc _ dc _ c bl ol ac sa da aa w hv hi hB (by rw [e]; decide) (by rw [e]; decide) (by rw [e]; decide) (by rw [e]; decide) (by rw [e]; decide) (by rw [e]; decide) (by rw [e]; decide) (by rw [e]; decide) (by rw [e]; decide) (by rw [e]; decide) hn0 hk' hn'' hd' hxs hT hC).mono ?_
    rintro e w' ⟨he, hb⟩
    exact ⟨Shp.rgo he (sl_below hT hb), hb⟩
  · have ho : own ⟨op, i, B, name, zs, K, n, data⟩ xs [] = if ra K = true then rgo xs else none := by simp [own, e, isw_str_eq]
    have hn'' : n = 0 := hn'.resolve_left (by rw [e]; decide)
    rw [ho]
    cases hra : ra K with
    | true =>
      rw [if_pos rfl]
      refine (refShape_Scale_yes op name K i B n zs xs sc _ dc _ c bl ol ac sa da aa w hv hi hB (by rw [e]; decide) (by rw [e]; decide) (by rw [e]; decide) (by rw [e]; decide) (by rw [e]; decide) (by rw [e]; decide) (by rw [e]; decide) (by rw [e]; decide) (by rw [e]; decide) (by rw [e]; decide) hn0 hn'' hd' hks hra hxs hT hC).mono ?_
      rintro e w' ⟨he, hb⟩
      exact ⟨Shp.rgo he (sl_below hT hb), hb⟩
    | false =>
      rw [if_neg (by decide)]
      exact refShape_Scale_no op name K i B n zs xs sc _ dc _ c bl ol ac sa da aa w hv hi hB (by rw [e]; decide) (by rw [e]; decide) (by rw [e]; decide) (by rw [e]; decide) (by rw [e]; decide) (by rw [e]; decide) (by rw [e]; decide) (by rw [e]; decide) (by rw [e]; decide) (by rw [e]; decide) hn0 hn'' hd' hks hra hC
  · have ho : own ⟨op, i, B, name, zs, K, n, data⟩ xs [] = if 0 ≤ n ∧ n ≤ 6 then rgo xs else none := by simp [own, e, isw_str_eq]
    have hk' : K.size = 0 := hk.resolve_left (by rw [e]; decide)
    rw [ho]
    by_cases h0 : n < 0
    · rw [if_neg (by omega)]
      exact refShape_Power_na op name K i B n zs xs sc _ dc _ c bl ol ac sa da aa w hv hi hB (by rw [e]; decide) (by rw [e]; decide) (by rw [e]; decide) (by rw [e]; decide) (by rw [e]; decide) (by rw [e]; decide) (by rw [e]; decide) (by rw [e]; decide) (by rw [e]; decide) (by rw [e]; decide) hn0 hk' hd' h0 hC
    by_cases h6 : 6 < n
    · rw [if_neg (by omega)]
      exact refShape_Power_nb op name K i B n zs xs sc _ dc _ c bl ol ac sa da aa w hv hi hB (by rw [e]; decide) (by rw [e]; decide) (by rw [e]; decide) (by rw [e]; decide) (by rw [e]; decide) (by rw [e]; decide) (by rw [e]; decide) (by rw [e]; decide) (by rw [e]; decide) (by rw [e]; decide) hn0 hk' hd' h0 h6 hC
    rw [if_pos (by omega)]
    refine (refShape_Power_yes op name K i B n zs xs sc _ dc _ c bl ol ac sa da aa w hv hi hB (by rw [e]; decide) (by rw [e]; decide) (by rw [e]; decide) (by rw [e]; decide) (by rw [e]; decide) (by rw [e]; decide) (by rw [e]; decide) (by rw [e]; decide) (by rw [e]; decide) (by rw [e]; decide) hn0 hk' hd' h0 h6 hxs hT hC).mono ?_
    rintro e w' ⟨he, hb⟩
    exact ⟨Shp.rgo he (sl_below hT hb), hb⟩
  · have ho : own ⟨op, i, B, name, zs, K, n, data⟩ xs [] = if xs.length = 2 then rgo [xs.getD 1 0, xs.getD 0 0] else none := by simp [own, e, isw_str_eq]
    have hk' : K.size = 0 := hk.resolve_left (by rw [e]; decide)
    have hn'' : n = 0 := hn'.resolve_left (by rw [e]; decide)
    rw [ho]
    by_cases h2 : xs.length = 2
    rotate_left
    · rw [if_neg h2]
      exact refShape_Transpose_no op name K i B n zs sc _ dc _ c bl ol ac _ sa da aa w hv hi hB (by rw [e]; decide) (by rw [e]; decide) (by rw [e]; decide) (by rw [e]; decide) (by rw [e]; decide) (by rw [e]; decide) (by rw [e]; decide) (by rw [e]; decide) (by rw [e]; decide) (by rw [e]; decide) hn0 hk' hn'' hd' h2 hC
    rw [if_pos h2]
    obtain ⟨x0, x1, rfl⟩ := len_two h2
    obtain ⟨xb, xo, haa, hX, hY⟩ := sl_list2 hT
    refine (refShape_Transpose_yes op name K i B n zs sc _ dc _ c bl ol ac sa da aa x0 x1 xb xo w hv hi hB (by rw [e]; decide) (by rw [e]; decide) (by rw [e]; decide) (by rw [e]; decide) (by rw [e]; decide) (by rw [e]; decide) (by rw [e]; decide) (by rw [e]; decide) (by rw [e]; decide) (by rw [e]; decide) hn0 hk' hn'' hd' hC haa hX hY).mono ?_
    rintro e w' ⟨⟨a, c', he, hs⟩, hb⟩
    exact ⟨Shp.rgo he hs, hb⟩
  · have ho : own ⟨op, i, B, name, zs, K, n, data⟩ xs [] = some [] := by simp [own, e, isw_str_eq]
    have hk' : K.size = 0 := hk.resolve_left (by rw [e]; decide)
    have hn'' : n = 0 := hn'.resolve_left (by rw [e]; decide)
    rw [ho]
    refine (refShape_Sum_yes op name K i B n zs sc _ dc _ c bl ol ac _ sa da aa w hv hi hB (by rw [e]; decide) (by rw [e]; decide) (by rw [e]; decide) (by rw [e]; decide) (by rw [e]; decide) (by rw [e]; decide) (by rw [e]; decide) (by rw [e]; decide) (by rw [e]; decide) (by rw [e]; decide) hn0 hk' hn'' hd' hC).mono ?_
    rintro e w' ⟨⟨a, c', he⟩, hb⟩
    exact ⟨⟨a, c', he, Sp.Sl.nil _ _⟩, hb⟩
  · have ho : own ⟨op, i, B, name, zs, K, n, data⟩ xs [] = if Sp.Rgt zs ∧ Sp.Rgt xs ∧ Sp.szI zs = Sp.szI xs then some zs else none := by simp [own, e, isw_str_eq]
    have hk' : K.size = 0 := hk.resolve_left (by rw [e]; decide)
    have hn'' : n = 0 := hn'.resolve_left (by rw [e]; decide)
    rw [ho]
    by_cases hr : Sp.Rgt zs
    rotate_left
    · rw [if_neg fun c => hr c.1]
      exact refShape_Reshape_na op name K i B n zs xs sc _ dc _ c bl ol ac sa da aa w hv hi hB (by rw [e]; decide) (by rw [e]; decide) (by rw [e]; decide) (by rw [e]; decide) (by rw [e]; decide) (by rw [e]; decide) (by rw [e]; decide) (by rw [e]; decide) (by rw [e]; decide) (by rw [e]; decide) hn0 hk' hn'' hd' hzs hxs hS hT hC hr
    by_cases hq : Sp.Rgt xs
    rotate_left
    · rw [if_neg fun c => hq c.2.1]
      exact refShape_Reshape_nb op name K i B n zs xs sc _ dc _ c bl ol ac sa da aa w hv hi hB (by rw [e]; decide) (by rw [e]; decide) (by rw [e]; decide) (by rw [e]; decide) (by rw [e]; decide) (by rw [e]; decide) (by rw [e]; decide) (by rw [e]; decide) (by rw [e]; decide) (by rw [e]; decide) hn0 hk' hn'' hd' hzs hxs hS hT hC hr hq
    by_cases he : Sp.szI zs = Sp.szI xs
    rotate_left
    · rw [if_neg fun c => he c.2.2]
      exact refShape_Reshape_nc op name K i B n zs xs sc _ dc _ c bl ol ac sa da aa w hv hi hB (by rw [e]; decide) (by rw [e]; decide) (by rw [e]; decide) (by rw [e]; decide) (by rw [e]; decide) (by rw [e]; decide) (by rw [e]; decide) (by rw [e]; decide) (by rw [e]; decide) (by rw [e]; decide) hn0 hk' hn'' hd' hzs hxs hS hT hC hr hq he
    rw [if_pos ⟨hr, hq, he⟩, ← rgo_of hr]
    refine (refShape_Reshape_yes op name K i B n zs xs sc _ dc _ c bl ol ac sa da aa w hv hi hB (by rw [e]; decide) (by rw [e]; decide) (by rw [e]; decide) (by rw [e]; decide) (by rw [e]; decide) (by rw [e]; decide) (by rw [e]; decide) (by rw [e]; decide) (by rw [e]; decide) (by rw [e]; decide) hn0 hk' hn'' hd' hzs hxs hS hT hC hr hq he).mono ?_
    rintro e w' ⟨he, hb⟩
    exact ⟨Shp.rgo he (sl_below hS hb), hb⟩
  · have ho : own ⟨op, i, B, name, zs, K, n, data⟩ xs [] = if xs.length = 0 then rgo zs else none := by simp [own, e, isw_str_eq]
    have hk' : K.size = 0 := hk.resolve_left (by rw [e]; decide)
    have hn'' : n = 0 := hn'.resolve_left (by rw [e]; decide)
    rw [ho]
    by_cases h0 : xs.length = 0
    rotate_left
    · rw [if_neg h0]
      exact refShape_Spread_no op name K i B n zs sc _ dc _ c bl ol ac _ sa da aa w hv hi hB (by rw [e]; decide) (by rw [e]; decide) (by rw [e]; decide) (by rw [e]; decide) (by rw [e]; decide) (by rw [e]; decide) (by rw [e]; decide) (by rw [e]; decide) (by rw [e]; decide) (by rw [e]; decide) hn0 hk' hn'' hd' h0 hC
    rw [if_pos h0]
    refine (refShape_Spread_yes op name K i B n zs sc _ dc _ c bl ol ac _ sa da aa w hv hi hB (by rw [e]; decide) (by rw [e]; decide) (by rw [e]; decide) (by rw [e]; decide) (by rw [e]; decide) (by rw [e]; decide) (by rw [e]; decide) (by rw [e]; decide) (by rw [e]; decide) (by rw [e]; decide) hn0 hk' hn'' hd' h0 hzs hS hC).mono ?_
    rintro e w' ⟨he, hb⟩
    exact ⟨Shp.rgo he (sl_below hS hb), hb⟩

theorem refShape_good2 (l : List Nd) (op name K : ByteArray) (i j : Nat) (n : Int) (zs xs ys : List Int) (data : List ByteArray) (sc dc c bl ol ac bc : Nat) (sa da aa ba : Option Addr) (w : World)
    (hm : prs op = some 2) (hi : i < l.length) (hj : j < l.length) (hn0 : name.size = 0) (hf : fok ⟨op, i, j, name, zs, K, n, data⟩ = true)
    (hT : Sp.Sl w aa xs) (hU : Sp.Sl w ba ys) (hC : w.cell? ⟨bl, ol + i * 8 + 4, none⟩ = some (.slice aa xs.length ac)) (hD : w.cell? ⟨bl, ol + j * 8 + 4, none⟩ = some (.slice ba ys.length bc)) (hxs : xs.length ≤ 1000) (hys : ys.length ≤ 1000) :
    Calls Tryz.prog 11 #[.slice (some ⟨bl, ol, none⟩) l.length c, .agg #[.string op, .int .i64 (i : Int), .int .i64 (j : Int), .string name, .slice sa zs.length sc, .string K, .int .i64 n, .slice da data.length dc]] w fun e w' => Shp w' (own ⟨op, i, j, name, zs, K, n, data⟩ xs ys) e ∧ Below w.heap.size w w' := by
  have hv := prv_some hm
  rw [fok_iff] at hf
  obtain ⟨hk, hn', hd⟩ := hf
  simp only at hk hn' hd
  obtain ⟨_, _, f3, f4, f5⟩ := two_no hm
  have hk' : K.size = 0 := hk.resolve_left (by rw [f4]; decide)
  have hn'' : n = 0 := hn'.resolve_left (by rw [f5]; decide)
  have hd' : data.length = 0 := hd.resolve_left (by rw [f3]; decide)
  rcases cases_two hm with e | e | e | e | e | e
  · have ho : own ⟨op, i, j, name, zs, K, n, data⟩ xs ys = if xs = ys then rgo xs else none := by simp [own, e, isw_str_eq]
    rw [ho]
    by_cases hxy : xs = ys
    rotate_left
    · rw [if_neg hxy]
      exact refShape_O2_no op name K i j n zs xs ys sc _ dc _ c bl ol ac bc sa da aa ba w hv hi hj (by rw [e]; decide) (by rw [e]; decide) (by rw [e]; decide) (by rw [e]; decide) (by rw [e]; decide) (by rw [e]; decide) (by rw [e]; decide) (by rw [e]; decide) (by rw [e]; decide) (by rw [e]; decide) hn0 hk' hn'' hd' hxs hys hT hU hC hD hxy
    rw [if_pos hxy]
    refine (refShape_O2_yes op name K i j n zs xs ys sc _ dc _ c bl ol ac bc sa da aa ba w hv hi hj (by rw [e]; decide) (by rw [e]; decide) (by rw [e]; decide) (by rw [e]; decide) (by rw [e]; decide) (by rw [e]; decide) (by rw [e]; decide) (by rw [e]; decide) (by rw [e]; decide) (by rw [e]; decide) hn0 hk' hn'' hd' hxs hys hT hU hC hD hxy).mono ?_
    rintro e w' ⟨he, hb⟩
    exact ⟨Shp.rgo he (sl_below hT hb), hb⟩
  · have ho : own ⟨op, i, j, name, zs, K, n, data⟩ xs ys = if xs = ys then rgo xs else none := by simp [own, e, isw_str_eq]
    rw [ho]
    by_cases hxy : xs = ys
    rotate_left
    · rw [if_neg hxy]
      exact refShape_O2_no op name K i j n zs xs ys sc _ dc _ c bl ol ac bc sa da aa ba w hv hi hj (by rw [e]; decide) (by rw [e]; decide) (by rw [e]; decide) (by rw [e]; decide) (by rw [e]; decide) (by rw [e]; decide) (by rw [e]; decide) (by rw [e]; decide) (by rw [e]; decide) (by rw [e]; decide) hn0 hk' hn'' hd' hxs hys hT hU hC hD hxy
    rw [if_pos hxy]
    refine (refShape_O2_yes op name K i j n zs xs ys sc _ dc _ c bl ol ac bc sa da aa ba w hv hi hj (by rw [e]; decide) (by rw [e]; decide) (by rw [e]; decide) (by rw [e]; decide) (by rw [e]; decide) (by rw [e]; decide) (by rw [e]; decide) (by rw [e]; decide) (by rw [e]; decide) (by rw [e]; decide) hn0 hk' hn'' hd' hxs hys hT hU hC hD hxy).mono ?_
    rintro e w' ⟨he, hb⟩
    exact ⟨Shp.rgo he (sl_below hT hb), hb⟩
  · have ho : own ⟨op, i, j, name, zs, K, n, data⟩ xs ys = if xs = ys then rgo xs else none := by simp [own, e, isw_str_eq]
    rw [ho]
    by_cases hxy : xs = ys
    rotate_left
    · rw [if_neg hxy]
      exact refShape_O2_no op name K i j n zs xs ys sc _ dc _ c bl ol ac bc sa da aa ba w hv hi hj (by rw [e]; decide) (by rw [e]; decide) (by rw [e]; decide) (by rw [e]; decide) (by rw [e]; decide) (by rw [e]; decide) (by rw [e]; decide) (by rw [e]; decide) (by rw [e]; decide) (by rw [e]; decide) hn0 hk' hn'' hd' hxs hys hT hU hC hD hxy
    rw [if_pos hxy]
    refine (refShape_O2_yes op name K i j n zs xs ys sc _ dc _ c bl ol ac bc sa da aa ba w hv hi hj (by rw [e]; decide) (by rw [e]; decide) (by rw [e]; decide) (by rw [e]; decide) (by rw [e]; decide) (by rw [e]; decide) (by rw [e]; decide) (by rw [e]; decide) (by rw [e]; decide) (by rw [e]; decide) hn0 hk' hn'' hd' hxs hys hT hU hC hD hxy).mono ?_
    rintro e w' ⟨he, hb⟩
    exact ⟨Shp.rgo he (sl_below hT hb), hb⟩
  · have ho : own ⟨op, i, j, name, zs, K, n, data⟩ xs ys = if xs = ys then rgo xs else none := by simp [own, e, isw_str_eq]
    rw [ho]
    by_cases hxy : xs = ys
    rotate_left
    · rw [if_neg hxy]
      exact refShape_O2_no op name K i j n zs xs ys sc _ dc _ c bl ol ac bc sa da aa ba w hv hi hj (by rw [e]; decide) (by rw [e]; decide) (by rw [e]; decide) (by rw [e]; decide) (by rw [e]; decide) (by rw [e]; decide) (by rw [e]; decide) (by rw [e]; decide) (by rw [e]; decide) (by rw [e]; decide) hn0 hk' hn'' hd' hxs hys hT hU hC hD hxy
    rw [if_pos hxy]
    refine (refShape_O2_yes op name K i j n zs xs ys sc _ dc _ c bl ol ac bc sa da aa ba w hv hi hj (by rw [e]; decide) (by rw [e]; decide) (by rw [e]; decide) (by rw [e]; decide) (by rw [e]; decide) (by rw [e]; decide) (by rw [e]; decide) (by rw [e]; decide) (by rw [e]; decide) (by rw [e]; decide) hn0 hk' hn'' hd' hxs hys hT hU hC hD hxy).mono ?_
    rintro e w' ⟨he, hb⟩
    exact ⟨Shp.rgo he (sl_below hT hb), hb⟩
  · have ho : own ⟨op, i, j, name, zs, K, n, data⟩ xs ys = if xs = ys then rgo xs else none := by simp [own, e, isw_str_eq]
    rw [ho]
    by_cases hxy : xs = ys
    rotate_left
    · rw [if_neg hxy]
      exact refShape_O2_no op name K i j n zs xs ys sc _ dc _ c bl ol ac bc sa da aa ba w hv hi hj (by rw [e]; decide) (by rw [e]; decide) (by rw [e]; decide) (by rw [e]; decide) (by rw [e]; decide) (by rw [e]; decide) (by rw [e]; decide) (by rw [e]; decide) (by rw [e]; decide) (by rw [e]; decide) hn0 hk' hn'' hd' hxs hys hT hU hC hD hxy
    rw [if_pos hxy]
    refine (refShape_O2_yes op name K i j n zs xs ys sc _ dc _ c bl ol ac bc sa da aa ba w hv hi hj (by rw [e]; decide) (by rw [e]; decide) (by rw [e]; decide) (by rw [e]; decide) (by rw [e]; decide) (by rw [e]; decide) (by rw [e]; decide) (by rw [e]; decide) (by rw [e]; decide) (by rw [e]; decide) hn0 hk' hn'' hd' hxs hys hT hU hC hD hxy).mono ?_
    rintro e w' ⟨he, hb⟩
    exact ⟨Shp.rgo he (sl_below hT hb), hb⟩
  · have ho : own ⟨op, i, j, name, zs, K, n, data⟩ xs ys = if xs.length = 2 ∧ ys.length = 2 ∧ xs.getD 1 0 = ys.getD 0 0 then rgo [xs.getD 0 0, ys.getD 1 0] else none := by simp [own, e, isw_str_eq]
    rw [ho]
    by_cases h2 : xs.length = 2
    rotate_left
    · rw [if_neg fun c => h2 c.1]
      exact refShape_Matmul_na op name K i j n zs sc _ dc _ c bl ol ac bc _ _ sa da aa ba w hv hi hj (by rw [e]; decide) (by rw [e]; decide) (by rw [e]; decide) (by rw [e]; decide) (by rw [e]; decide) (by rw [e]; decide) (by rw [e]; decide) (by rw [e]; decide) (by rw [e]; decide) (by rw [e]; decide) hn0 hk' hn'' hd' h2 hC hD
    obtain ⟨x0, x1, rfl⟩ := len_two h2
    by_cases h3 : ys.length = 2
    rotate_left
    · rw [if_neg fun c => h3 c.2.1]
      exact refShape_Matmul_nb op name K i j n zs sc _ dc _ c bl ol ac bc _ sa da aa ba w hv hi hj (by rw [e]; decide) (by rw [e]; decide) (by rw [e]; decide) (by rw [e]; decide) (by rw [e]; decide) (by rw [e]; decide) (by rw [e]; decide) (by rw [e]; decide) (by rw [e]; decide) (by rw [e]; decide) hn0 hk' hn'' hd' h3 hC hD
    obtain ⟨y0, y1, rfl⟩ := len_two h3
    obtain ⟨xb, xo, haa, hX, hY⟩ := sl_list2 hT
    obtain ⟨yb, yo, hba, hZ, hV⟩ := sl_list2 hU
    by_cases hxy : x1 = y0
    rotate_left
    · rw [if_neg fun c => hxy c.2.2]
      exact refShape_Matmul_nc op name K i j n zs sc _ dc _ c bl ol ac bc sa da aa ba x0 x1 y0 y1 xb xo yb yo w hv hi hj (by rw [e]; decide) (by rw [e]; decide) (by rw [e]; decide) (by rw [e]; decide) (by rw [e]; decide) (by rw [e]; decide) (by rw [e]; decide) (by rw [e]; decide) (by rw [e]; decide) (by rw [e]; decide) hn0 hk' hn'' hd' hC hD haa hX hY hba hZ hV hxy
    rw [if_pos ⟨h2, h3, hxy⟩]
    refine (refShape_Matmul_yes op name K i j n zs sc _ dc _ c bl ol ac bc sa da aa ba x0 x1 y0 y1 xb xo yb yo w hv hi hj (by rw [e]; decide) (by rw [e]; decide) (by rw [e]; decide) (by rw [e]; decide) (by rw [e]; decide) (by rw [e]; decide) (by rw [e]; decide) (by rw [e]; decide) (by rw [e]; decide) (by rw [e]; decide) hn0 hk' hn'' hd' hC hD haa hX hY hba hZ hV hxy).mono ?_
    rintro e w' ⟨⟨a, c', he, hs⟩, hb⟩
    exact ⟨Shp.rgo he hs, hb⟩

/-- the document's Shape of any node behind any nodes -/
theorem refShape_any (l : List Nd) (nd : Nd) (sc dc c : Nat) (sa da ao : Option Addr) (w : World) (hl : Nl w ao l) (hS : Sp.Sl w sa nd.shape) (hD : Row w da (txts nd.data)) (hb : Nb nd) (hls : ∀ i, i < l.length → (l.getD i zn).shape.length ≤ 1000) :
    Calls Tryz.prog 11 #[.slice ao l.length c, nv nd sa sc da dc] w fun e w' => Shp w' (shp l nd) e ∧ Below w.heap.size w w' := by
  obtain ⟨op, A, B, name, zs, K, n, data⟩ := nd
  obtain ⟨hzs, hdl, hks, hns, hds⟩ := hb
  simp only at hS hD hzs hdl hks hns hds
  cases hm : prs op with
  | none =>
    have e : shp l ⟨op, A, B, name, zs, K, n, data⟩ = none := by unfold shp; simp only [hm]
    rw [e]
    exact refShape_bad l op name K A B n zs data sc dc c sa da ao w hns (fun m h => by rw [hm] at h; cases h)
  | some m =>
    by_cases hc : pok m l.length A B = true ∧ nok op name = true ∧ fok ⟨op, A, B, name, zs, K, n, data⟩ = true
    rotate_left
    · have e : shp l ⟨op, A, B, name, zs, K, n, data⟩ = none := by unfold shp; simp only [hm]; rw [if_neg hc]
      rw [e]
      exact refShape_bad l op name K A B n zs data sc dc c sa da ao w hns (fun m' h => by rw [hm] at h; cases h; exact hc)
    · have e : shp l ⟨op, A, B, name, zs, K, n, data⟩ = own ⟨op, A, B, name, zs, K, n, data⟩ (if 0 < m then sha l A else []) (if 1 < m then sha l B else []) := by unfold shp; simp only [hm]; rw [if_pos hc]
      rw [e]
      obtain ⟨h1, h2, h3⟩ := hc
      rcases prs_le hm with rfl | rfl | rfl
      · exact refShape_good0 l op name K A B n zs data sc dc c sa da ao w hm h1 h2 h3 hS hD hzs hns hds
      · rw [(nok_one (name := name) hm (by omega)).1, decide_eq_true_eq] at h2
        rw [pok1, Bool.and_eq_true, decide_eq_true_eq, inl_iff] at h1
        obtain ⟨i, rfl⟩ : ∃ i : Nat, A = i := ⟨A.toNat, by omega⟩
        have hi : i < l.length := by omega
        obtain ⟨bl, ol, aa, ac, rfl, hC, hT⟩ := hl.shape hi
        have es : sha l (i : Int) = (l.getD i zn).shape := rfl
        rw [if_pos (by omega), if_neg (by omega), es]
        exact refShape_good1 l op name K i B n zs _ data sc dc c bl ol ac sa da aa w hm hi h1.1 h2 h3 hS hT hC hzs (hls i hi) hks
      · rw [(nok_one (name := name) hm (by omega)).1, decide_eq_true_eq] at h2
        rw [pok2, Bool.and_eq_true, inl_iff, inl_iff] at h1
        obtain ⟨i, rfl⟩ : ∃ i : Nat, A = i := ⟨A.toNat, by omega⟩
        obtain ⟨j, rfl⟩ : ∃ j : Nat, B = j := ⟨B.toNat, by omega⟩
        have hi : i < l.length := by omega
        have hj : j < l.length := by omega
        obtain ⟨bl, ol, aa, ac, rfl, hC, hT⟩ := hl.shape hi
        obtain ⟨bl', ol', ba, bc, e', hD', hU⟩ := hl.shape hj
        simp only [Option.some.injEq, Addr.mk.injEq, and_true] at e'
        obtain ⟨rfl, rfl⟩ := e'
        have es : sha l (i : Int) = (l.getD i zn).shape := rfl
        have es2 : sha l (j : Int) = (l.getD j zn).shape := rfl
        rw [if_pos (by omega), if_pos (by omega), es, es2]
        exact refShape_good2 l op name K i j n zs _ _ data sc dc c bl ol ac bc sa da aa ba w hm hi hj h2 h3 hT hU hC hD' (hls i hi) (hls j hj)
end Go.Proofs.YtadgnafafdfioaaGreatDoor.Gr
