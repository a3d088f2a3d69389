/-
  THE STATEMENT ReadAll: a text's statements are those of its lines, or the first that is none is told
  Conditions: none but the row's own and the card's: the listed package variable reads as the program's text lays it.
-/
import Derived.Test.YtokfkmncabmmcaaGreatDoorRows
import Derived.Test.YtokfkmncabmmcaaGreatDoorTell
import Derived.Test.YtokfkmncabmmcaaGreatDoorRq
import Derived.Stop.LaidErr
import Derived.LaidMore
import Derived.Lib.LaidTab
import Derived.LaidHandle
import Derived.SevenTiedAt
import Derived.ProofKit
import Derived.OpenShut
import Derived.SliceStrings
import Derived.Test.YtokfkmncabmmcaaGreatDoorRy9
import Derived.Test.YtokfkmncabmmcaaGreatDoorRz9
import Derived.Test.YtokfkmncabmmcaaGreatDoorQc9
import Derived.Test.YtokfkmncabmmcaaGreatDoorRt9
import Derived.Test.YtokfkmncabmmcaaGreatDoorDl
import Derived.Deep.RegionWith
import Derived.Test.YtokfkmncabmmcaaGreatDoorCards
import Derived.Test.YtokfkmncabmmcaaGreatDoorTie
import Derived.WalkKit
import Derived.ShutString
import Derived.Stop.Joined
namespace Go.Proofs.YtokfkmncabmmcaaGreatDoor.Rd
set_option maxRecDepth 100000
open Go.RowKit Go.ChangeShapes Go.WideShapes
set_option linter.unusedVariables false

/-- what the rows list -/
abbrev listed : List (String × DataW Unit) := [("tapewright/rat.errForm", Rows.laid_tapewright_rat_errForm)]
theorem door_met (os : Os) (args : Array Value) : laidMetH Tryz.prog listed ((World.doorLaid Tryz.prog 400 os).forCall (fun _ _ => 0) ⟨#[], args, []⟩).memory :=
  laidMetH_of_parts3 (fuel := 8) (laidMet_of_run' 8 (by kernel_rfl) (by kernel_rfl)) (by kernel_rfl) (by kernel_rfl)
theorem door_shaped (os : Os) (args : Array Value) : World.Shaped Tryz.prog ((World.doorLaid Tryz.prog 400 os).forCall (fun _ _ => 0) ⟨#[], args, []⟩) :=
  World.shaped_of_RefB (by kernel_rfl) (by kernel_rfl)
theorem stand9 : Tryz.prog.wantsStandIn 9 = false := by kernel_rfl
theorem stand22 : Tryz.prog.wantsStandIn 22 = false := by kernel_rfl
theorem star_is : "*" ++ "errors.errorString" = "*errors.errorString" := by decide
theorem row_ptr (u : TypeId) (h : Tryz.prog.typeName? 3 u = some "*errors.errorString") : u = 143 :=
  typeName_ptr_named (nm := "errors.errorString") (by rw [star_is]; kernel_rfl) (by kernel_rfl) (by decide) u (by rw [star_is]; exact h)
theorem er_of {W : World} (h : laidMetH Tryz.prog listed W) : ∃ aF aZ, Er W aF aZ := by
  have hl : laidMet Tryz.prog [("tapewright/rat.errForm", Rows.laid_tapewright_rat_errForm)] W := h
  have gF : Tryz.prog.globalNamed "tapewright/rat.errForm" = some 0 := by kernel_rfl
  have tF : (Tryz.prog.globals[0]?).map (·.type) = some 80 := by kernel_rfl
  have c182 : Tryz.prog.cellsOf 158 = 1 := by kernel_rfl
  have c9 : Tryz.prog.cellsOf 9 = 1 := by kernel_rfl
  obtain ⟨a0, s0, hv0, _⟩ := laid_sentinel hl gF tF Tryz.underlying80 row_ptr Tryz.underlying143 Tryz.underlying158 rfl rfl Tryz.underlying9 c182 c9
  exact ⟨a0, a0, ⟨by simpa using World.var?_cell gF hv0 0⟩⟩

theorem cells9 : Tryz.prog.cellsOf 9 = 1 := by kernel_rfl
theorem laidOut : laidOutB Tryz.prog = true := by kernel_rfl
theorem opened {H : Type} {enc : TypeId × Value → H} {W : World} {d : DataW H} {p : List MemPlace} {a : Option Addr} {len cap : Nat}
    (h : DataW.Trod enc Tryz.prog W 0 (fun _ => true) true 22 (.slice a len cap) d p) : ∃ zs : List ByteArray, len = zs.length ∧ Row W a (txts zs) ∧ len ≤ cap ∧ cap ≤ maxLen := by
  obtain ⟨fuel, hf⟩ := h
  rcases Go.ChangeShapes.open_strings Tryz.underlying22 Tryz.underlying9 cells9 hf with ⟨hcs, hx⟩ | ⟨a', len', cap', zs, hcs, _, hl, hm, hz, hx, hcell, hwz⟩
  · simp [Value.cells] at hcs
    obtain ⟨rfl, rfl, rfl⟩ := hcs
    exact ⟨[], rfl, Row.nil _ _, Nat.le_refl _, by unfold maxLen; omega⟩
  · simp [Value.cells] at hcs
    obtain ⟨rfl, rfl, rfl⟩ := hcs
    rw [if_pos rfl] at hz
    refine ⟨zs.take len, by simp; omega, fun i v hi => ?_, hl, hm⟩
    have hil : i < len := by
      have := (List.getElem?_eq_some_iff.1 hi).1
      simp [txts] at this; omega
    have hc := hcell i (by omega)
    have hv : v = .string (zs.getD i ByteArray.empty) := by
      have hiz : i < zs.length := by omega
      unfold txts at hi
      rw [List.getElem?_map, List.getElem?_take, if_pos hil, List.getElem?_eq_getElem hiz] at hi
      simp only [Option.map_some, Option.some.injEq] at hi
      rw [← hi, List.getD_eq_getElem?_getD, List.getElem?_eq_getElem hiz]
      rfl
    obtain ⟨b, off, spot⟩ := a'
    have hspot : spot = none := by simpa [Addr.add] using World.cell?_spot (hcell 0 (by omega))
    subst hspot
    exact ⟨b, off, rfl, by rw [← row_add, hv]; exact hc⟩
end Go.Proofs.YtokfkmncabmmcaaGreatDoor.Rd
namespace Go.Proofs.YtokfkmncabmmcaaGreatDoor.Rd
set_option maxRecDepth 100000
open Go.RowKit
set_option linter.unusedVariables false
set_option linter.unusedSimpArgs false

/-- what the document tells of words -/
def Pk (w' : World) (o : Option Sm) (e : Ending) : Prop :=
  match o with
  | none => e = .returned (.tuple #[zv, .bool false])
  | some s => ∃ v, e = .returned (.tuple #[v, .bool true]) ∧ Sr w' v s

theorem ari_kn {x : ByteArray} (h : ari x = 2) : knd x = 0 := by
  cases ht : twos.any (isw x) with
  | true => exact (twos_kn ht).2
  | false =>
    unfold ari at h
    rw [ht] at h
    simp only [Bool.false_eq_true, if_false] at h
    split at h <;> omega
theorem knd_le (x : ByteArray) : knd x = 0 ∨ knd x = 1 ∨ knd x = 2 ∨ knd x = 3 := by
  unfold knd
  split
  · exact Or.inr (Or.inl rfl)
  · split
    · exact Or.inr (Or.inr (Or.inl rfl))
    · split
      · exact Or.inr (Or.inr (Or.inr rfl))
      · exact Or.inl rfl
theorem fin_k {name op : ByteArray} {args rest : List ByteArray} :
    (knd op = 0 → fin name op args rest = if rest = [] then some ⟨name, op, args, [], em, 0, []⟩ else none) ∧
    (knd op = 1 → fin name op args rest = match rest with | [x] => if ra x then some ⟨name, op, args, [], x, 0, []⟩ else none | _ => none) ∧
    (knd op = 2 → fin name op args rest = match rest with | [x] => (match num x.data.toList with | some n => if n ≤ 6 then some ⟨name, op, args, [], em, n, []⟩ else none | none => none) | _ => none) ∧
    (knd op = 3 → fin name op args rest = (dms rest).map fun d => ⟨name, op, args, d, em, 0, []⟩) := by
  unfold fin
  refine ⟨fun h => by rw [h, if_neg (by decide), if_neg (by decide), if_neg (by decide)], fun h => ?_, fun h => ?_, fun h => by rw [h, if_pos rfl]⟩
  · rw [h, if_neg (by decide), if_pos rfl]
    match rest with
    | [] => rfl
    | [x] => rfl
    | x :: y :: l => rfl
  · rw [h, if_neg (by decide), if_neg (by decide), if_pos rfl]
    match rest with
    | [] => rfl
    | [x] => rfl
    | x :: y :: l => rfl
theorem opn_few {a : ByteArray} {r : List ByteArray} (h : r.length ≤ 1) : opn a r = none := by
  match r, h with
  | [], _ => rfl
  | [op], _ =>
    rw [opn_cons, if_neg]
    rintro ⟨_, h1, h2, _⟩
    simp at h2
    exact h1 h2
theorem nm_eq {x : ByteArray} (h : isw x lEq = true) : nmb x = false := by
  rw [isw_eq h]; decide
theorem giv_nm {a x : ByteArray} {r : List ByteArray} (h : nmb x = false) : giv a x r = none := by
  unfold giv
  cases dms r with
  | none => rfl
  | some d => simp [h]
theorem con_nm {a x : ByteArray} {r : List ByteArray} (h : nmb x = false) : con a x r = none := by
  unfold con
  cases cutEq r with
  | none => rfl
  | some p => simp [h]
theorem par_nm {a x : ByteArray} {r : List ByteArray} (hx : isw x lEq = false) (h : nmb x = false) : par (a :: x :: r) = none := by
  rw [par_two, hx, giv_nm h, con_nm h, h]
  simp
theorem take_all_iff {parts : List ByteArray} {n : Nat} (hn : n ≤ parts.length) : (∀ k, k < n → nmb ((parts.take n).getD k em) = true) ↔ (parts.take n).all nmb = true := by
  have hl : (parts.take n).length = n := by rw [List.length_take]; omega
  constructor
  · intro h
    exact all_yes fun i hi => h i (by omega)
  · intro h k hk
    rw [List.all_eq_true] at h
    refine h _ ?_
    rw [List.getD_eq_getElem?_getD, List.getElem?_eq_getElem (by omega)]
    exact List.getElem_mem _

theorem refOpn_any (a x op : ByteArray) (parts : List ByteArray) (b off c : Nat) (w : World) (hx : isw x lEq = true) (hp : 1 ≤ parts.length) (hR : Row w (some ⟨b, off, none⟩) (txts (a :: x :: op :: parts))) (hl : parts.length + 3 ≤ 1000) (hcap : parts.length + 3 ≤ c) (hcm : c ≤ maxLen) (hs : ∀ y ∈ a :: x :: op :: parts, y.size ≤ 20000) :
    Calls Tryz.prog 7 #[.slice (some ⟨b, off, none⟩) (parts.length + 3) c] w fun e w' => Pk w' (opn a (op :: parts)) e ∧ Below w.heap.size w w' := by
  have hcell : ∀ (i : Nat) (y : ByteArray), (a :: x :: op :: parts)[i]? = some y → w.cell? ⟨b, off + i, none⟩ = some (.string y) := by
    intro i y hi
    obtain ⟨b', off', e, hc⟩ := hR i (.string y) (by unfold txts; rw [List.getElem?_map, hi]; rfl)
    cases e
    exact hc
  have hc0 : w.cell? ⟨b, off, none⟩ = some (.string a) := hcell 0 a rfl
  have hc1 : w.cell? ⟨b, off + 1, none⟩ = some (.string ⟨#[61]⟩) := by have := hcell 1 x rfl; rw [isw_eq hx] at this; exact this
  have hc2 : w.cell? ⟨b, off + 2, none⟩ = some (.string op) := hcell 2 op rfl
  have ha0 : a.size ≤ 1000000 := by have := hs a (by simp); omega
  have h4 : 3 < parts.length + 3 := by omega
  have hlen : (a :: x :: op :: parts).length ≤ c := by simp only [List.length_cons]; omega
  obtain ⟨o3, ho3⟩ := ag_some b off c 3
  have hr3 : Row w (some ⟨b, o3, none⟩) (txts parts) := row_ag (k := 3) hR hlen ho3
  have hsz : ∀ n k, k < n → n ≤ parts.length → ((parts.take n).getD k em).size ≤ 1000000 := by
    intro n k hk hn
    have : (parts.take n).getD k em ∈ parts.take n := by
      rw [List.getD_eq_getElem?_getD, List.getElem?_eq_getElem (by rw [List.length_take]; omega)]; exact List.getElem_mem _
    have := hs _ (List.mem_cons_of_mem _ (List.mem_cons_of_mem _ (List.mem_cons_of_mem _ (List.mem_of_mem_take this))))
    omega
  have hargs : ∀ n, n ≤ parts.length → ∀ k, k < n → w.cell? ⟨b, o3 + k, none⟩ = some (.string ((parts.take n).getD k em)) := by
    intro n hn k hk
    have hlt : (parts.take n).length = n := by rw [List.length_take]; omega
    obtain ⟨b', off', e, hc⟩ := row_str (bo := some ⟨b, o3, none⟩) (xs := parts.take n) (by rw [← txts_take]; exact Row.take' hr3 n) (i := k) (by omega)
    cases e
    exact hc
  have hPa : ∀ n w', n ≤ parts.length → Below w.heap.size w w' → Row w' (some ⟨b, o3, none⟩) (txts (parts.take n)) := fun n w' hn hb => by
    rw [← txts_take]
    exact Row.take' (hr3.below hb) n
  have hsl : ∀ w' : World, Sp.Sl w' none [] := fun w' => Sp.Sl.nil _ _
  by_cases h0 : ari op = 0
  · rw [opn_no (fun h => h.2.1 h0)]
    exact (rp_zero a op b off _ c w hl h4 hcap hcm ha0 hc0 hc1 hc2 _ h0 rfl).mono fun e w' h => h
  · by_cases hsh : ari op ≤ parts.length
    · cases hn : nmb a with
      | false =>
        rw [opn_no (fun h => by rw [hn] at h; cases h.1)]
        rcases ari_le op with h | h | h
        · exact absurd h h0
        · exact (rp_name1 a op b off _ c w hl h4 hcap hcm ha0 hc0 hc1 hc2 _ h rfl (by omega) hn).mono fun e w' h => h
        · exact (rp_name2 a op b off _ c w hl h4 hcap hcm ha0 hc0 hc1 hc2 _ h rfl (by omega) hn).mono fun e w' h => h
      | true =>
        cases hall : (parts.take (ari op)).all nmb with
        | false =>
          rw [opn_no (fun h => by rw [hall] at h; cases h.2.2.2)]
          have hbad : ¬ ∀ k, k < ari op → nmb ((parts.take (ari op)).getD k em) = true := fun h => by rw [(take_all_iff hsh).1 h] at hall; cases hall
          rcases ari_le op with h | h | h
          · exact absurd h h0
          · rw [h] at hsh hbad
            exact (rp_args1 a op b off _ c w hl h4 hcap hcm ha0 hc0 hc1 hc2 _ h rfl (by omega) hn (parts.take 1) o3 ho3 (hargs 1 hsh) (fun k hk => hsz 1 k hk hsh) hbad).mono fun e w' h => h
          · rw [h] at hsh hbad
            exact (rp_args2 a op b off _ c w hl h4 hcap hcm ha0 hc0 hc1 hc2 _ h rfl (by omega) hn (parts.take 2) o3 ho3 (hargs 2 hsh) (fun k hk => hsz 2 k hk hsh) hbad).mono fun e w' h => h
        | true =>
          rw [opn_cons, if_pos ⟨hn, h0, hsh, hall⟩]
          have hnames := (take_all_iff hsh).2 hall
          rcases ari_le op with h | h | h
          · exact absurd h h0
          · rw [h] at hsh hnames ⊢
            obtain ⟨o4, ho4⟩ := ag_some b off c 4
            have hr4 : Row w (some ⟨b, o4, none⟩) (txts (parts.drop 1)) := row_ag (k := 4) hR hlen ho4
            have hlt : (parts.take 1).length = 1 := by rw [List.length_take]; omega
            obtain ⟨k0, k1, k2, k3⟩ := @fin_k a op (parts.take 1) (parts.drop 1)
            rcases knd_le op with hk | hk | hk | hk
            · rw [k0 hk]
              by_cases hz : parts.length = 1
              · rw [if_pos (List.drop_eq_nil_of_le (by omega))]
                refine (rp_plain1 a op b off _ c w hl h4 hcap hcm ha0 hc0 hc1 hc2 h hk (by omega) hn (parts.take 1) o3 ho3 (hargs 1 hsh) (fun k hk => hsz 1 k hk hsh) hnames o4 ho4 (by omega)).mono ?_
                rintro e w' ⟨rfl, hb⟩
                exact ⟨⟨_, rfl, some ⟨b, o3, none⟩, c - 3, none, 0, none, 0, by rw [hlt]; rfl, hPa 1 w' hsh hb, hsl _, Row.nil _ _⟩, hb⟩
              · rw [if_neg (fun e => hz (by have := congrArg List.length e; simp at this; omega))]
                exact (rp_len10 a op b off _ c w hl h4 hcap hcm ha0 hc0 hc1 hc2 h hk (by omega) hn (parts.take 1) o3 ho3 (hargs 1 hsh) (fun k hk => hsz 1 k hk hsh) hnames o4 ho4 (bne_iff_ne.2 (by omega))).mono fun e w' h => h
            · rw [k1 hk]
              match hd : parts.drop 1 with
              | [] =>
                exact (rp_len11 a op b off _ c w hl h4 hcap hcm ha0 hc0 hc1 hc2 h hk (by omega) hn (parts.take 1) o3 ho3 (hargs 1 hsh) (fun k hk => hsz 1 k hk hsh) hnames o4 ho4 (bne_iff_ne.2 (by have := congrArg List.length hd; simp at this; omega))).mono fun e w' h => h
              | y :: z :: l =>
                exact (rp_len11 a op b off _ c w hl h4 hcap hcm ha0 hc0 hc1 hc2 h hk (by omega) hn (parts.take 1) o3 ho3 (hargs 1 hsh) (fun k hk => hsz 1 k hk hsh) hnames o4 ho4 (bne_iff_ne.2 (by have := congrArg List.length hd; simp at this; omega))).mono fun e w' h => h
              | [y] =>
                have hN5 : parts.length + 3 = 5 := by have := congrArg List.length hd; simp at this; omega
                rw [hd] at hr4
                have hy : w.cell? ⟨b, o4, none⟩ = some (.string y) := by
                  obtain ⟨b', off', e, hc⟩ := hr4 0 (.string y) rfl
                  cases e
                  exact hc
                have hysz : y.size ≤ 20000 := hs y (by
                  have : y ∈ parts.drop 1 := by rw [hd]; simp
                  simp [List.mem_of_mem_drop this])
                have hF := fun (v : World) (hv : Below w.heap.size w v) => rationals_any (some ⟨b, o4, none⟩) [y] (c - 4) v (by simp) (hr4.below hv) (fun i hi => by
                  have : i = 0 := by simpa using hi
                  subst this
                  exact hysz)
                have hra : [y].all ra = ra y := by simp
                rw [hra] at hF
                show Calls _ _ _ _ fun e w' => Pk w' (if ra y = true then _ else none) e ∧ _
                cases hry : ra y with
                | false =>
                  rw [hry] at hF
                  exact (rp_ratN a op b off _ c w hl h4 hcap hcm ha0 hc0 hc1 hc2 h hk (by omega) hn (parts.take 1) o3 ho3 (hargs 1 hsh) (fun k hk => hsz 1 k hk hsh) hnames o4 ho4 hN5 y hy hF).mono fun e w' h => h
                | true =>
                  rw [hry] at hF
                  refine (rp_ratY a op b off _ c w hl h4 hcap hcm ha0 hc0 hc1 hc2 h hk (by omega) hn (parts.take 1) o3 ho3 (hargs 1 hsh) (fun k hk => hsz 1 k hk hsh) hnames o4 ho4 hN5 y hy hF).mono ?_
                  rintro e w' ⟨rfl, hb⟩
                  exact ⟨⟨_, rfl, some ⟨b, o3, none⟩, c - 3, none, 0, none, 0, by rw [hlt]; rfl, hPa 1 w' hsh hb, hsl _, Row.nil _ _⟩, hb⟩
            · rw [k2 hk]
              match hd : parts.drop 1 with
              | [] =>
                exact (rp_len12 a op b off _ c w hl h4 hcap hcm ha0 hc0 hc1 hc2 h hk (by omega) hn (parts.take 1) o3 ho3 (hargs 1 hsh) (fun k hk => hsz 1 k hk hsh) hnames o4 ho4 (bne_iff_ne.2 (by have := congrArg List.length hd; simp at this; omega))).mono fun e w' h => h
              | y :: z :: l =>
                exact (rp_len12 a op b off _ c w hl h4 hcap hcm ha0 hc0 hc1 hc2 h hk (by omega) hn (parts.take 1) o3 ho3 (hargs 1 hsh) (fun k hk => hsz 1 k hk hsh) hnames o4 ho4 (bne_iff_ne.2 (by have := congrArg List.length hd; simp at this; omega))).mono fun e w' h => h
              | [y] =>
                have hN5 : parts.length + 3 = 5 := by have := congrArg List.length hd; simp at this; omega
                rw [hd] at hr4
                have hy : w.cell? ⟨b, o4, none⟩ = some (.string y) := by
                  obtain ⟨b', off', e, hc⟩ := hr4 0 (.string y) rfl
                  cases e
                  exact hc
                show Calls _ _ _ _ fun e w' => Pk w' (match num y.data.toList with | some n => if n ≤ 6 then _ else none | none => none) e ∧ _
                cases hny : num y.data.toList with
                | none =>
                  obtain ⟨e1, e2⟩ := numv_no hny
                  exact (rp_powX a op b off _ c w hl h4 hcap hcm ha0 hc0 hc1 hc2 h hk (by omega) hn (parts.take 1) o3 ho3 (hargs 1 hsh) (fun k hk => hsz 1 k hk hsh) hnames o4 ho4 hN5 y hy _ e1 e2).mono fun e w' h => h
                | some v =>
                  obtain ⟨e1, e2⟩ := numv_of hny
                  show Calls _ _ _ _ fun e w' => Pk w' (if v ≤ 6 then _ else none) e ∧ _
                  by_cases h6 : v ≤ 6
                  · rw [if_pos h6]
                    refine (rp_powY a op b off _ c w hl h4 hcap hcm ha0 hc0 hc1 hc2 h hk (by omega) hn (parts.take 1) o3 ho3 (hargs 1 hsh) (fun k hk => hsz 1 k hk hsh) hnames o4 ho4 hN5 y hy v e1 e2 (decide_eq_true (by omega))).mono ?_
                    rintro e w' ⟨rfl, hb⟩
                    exact ⟨⟨_, rfl, some ⟨b, o3, none⟩, c - 3, none, 0, none, 0, by rw [hlt]; rfl, hPa 1 w' hsh hb, hsl _, Row.nil _ _⟩, hb⟩
                  · rw [if_neg h6]
                    exact (rp_powN a op b off _ c w hl h4 hcap hcm ha0 hc0 hc1 hc2 h hk (by omega) hn (parts.take 1) o3 ho3 (hargs 1 hsh) (fun k hk => hsz 1 k hk hsh) hnames o4 ho4 hN5 y hy v e1 e2 (decide_eq_false (by omega))).mono fun e w' h => h
            · rw [k3 hk]
              have hdl : (parts.drop 1).length = parts.length + 3 - 4 := by rw [List.length_drop]; omega
              have hF := fun (v : World) (hv : Below w.heap.size w v) => refDims_any (some ⟨b, o4, none⟩) (parts.drop 1) (c - 4) v (by omega) (hr4.below hv)
              rw [hdl] at hF
              cases hd : dms (parts.drop 1) with
              | none =>
                rw [(dm_no hd).1, hd] at hF
                exact (rp_dimsN a op b off _ c w hl h4 hcap hcm ha0 hc0 hc1 hc2 h hk (by omega) hn (parts.take 1) o3 ho3 (hargs 1 hsh) (fun k hk => hsz 1 k hk hsh) hnames o4 ho4 _ hF).mono fun e w' h => h
              | some dv =>
                rw [(dm_yes hd).1, hd] at hF
                refine (rp_dimsY a op b off _ c w hl h4 hcap hcm ha0 hc0 hc1 hc2 h hk (by omega) hn (parts.take 1) o3 ho3 (hargs 1 hsh) (fun k hk => hsz 1 k hk hsh) hnames o4 ho4 _ hF).mono ?_
                rintro e w' ⟨⟨a2, m2, c2, rfl, hD⟩, hb⟩
                obtain ⟨rfl, hS, _⟩ := hD dv rfl
                exact ⟨⟨_, rfl, some ⟨b, o3, none⟩, c - 3, a2, c2, none, 0, by rw [hlt]; rfl, hPa 1 w' hsh hb, hS, Row.nil _ _⟩, hb⟩
          · rw [h] at hsh hnames ⊢
            obtain ⟨o4, ho4⟩ := ag_some b off c 5
            have hlt : (parts.take 2).length = 2 := by rw [List.length_take]; omega
            have hk := ari_kn h
            rw [(@fin_k a op (parts.take 2) (parts.drop 2)).1 hk]
            by_cases hz : parts.length = 2
            · rw [if_pos (List.drop_eq_nil_of_le (by omega))]
              refine (rp_plain2 a op b off _ c w hl h4 hcap hcm ha0 hc0 hc1 hc2 h hk (by omega) hn (parts.take 2) o3 ho3 (hargs 2 hsh) (fun k hk => hsz 2 k hk hsh) hnames o4 ho4 (by omega)).mono ?_
              rintro e w' ⟨rfl, hb⟩
              exact ⟨⟨_, rfl, some ⟨b, o3, none⟩, c - 3, none, 0, none, 0, by rw [hlt]; rfl, hPa 2 w' hsh hb, hsl _, Row.nil _ _⟩, hb⟩
            · rw [if_neg (fun e => hz (by have := congrArg List.length e; simp at this; omega))]
              exact (rp_len20 a op b off _ c w hl h4 hcap hcm ha0 hc0 hc1 hc2 h hk (by omega) hn (parts.take 2) o3 ho3 (hargs 2 hsh) (fun k hk => hsz 2 k hk hsh) hnames o4 ho4 (bne_iff_ne.2 (by omega))).mono fun e w' h => h
    · rw [opn_no (fun h => hsh h.2.2.1)]
      rcases ari_le op with h | h | h
      · exact absurd h h0
      · omega
      · exact (rp_short2 a op b off _ c w hl h4 hcap hcm ha0 hc0 hc1 hc2 _ h rfl (by omega)).mono fun e w' h => h
theorem refOwn_any (a x : ByteArray) (r : List ByteArray) (b off c : Nat) (w : World) (hx : isw x lEq = false) (hR : Row w (some ⟨b, off, none⟩) (txts (a :: x :: r))) (hl : r.length + 2 ≤ 1000) (hcap : r.length + 2 ≤ c) (hcm : c ≤ maxLen) (hs : ∀ y ∈ a :: x :: r, y.size ≤ 20000) :
    Calls Tryz.prog 7 #[.slice (some ⟨b, off, none⟩) (r.length + 2) c] w fun e w' => Pk w' (par (a :: x :: r)) e ∧ Below w.heap.size w w' := by
  have hcell : ∀ (i : Nat) (y : ByteArray), (a :: x :: r)[i]? = some y → w.cell? ⟨b, off + i, none⟩ = some (.string y) := by
    intro i y hi
    obtain ⟨b', off', e, hc⟩ := hR i (.string y) (by unfold txts; rw [List.getElem?_map, hi]; rfl)
    cases e
    exact hc
  have hc0 : w.cell? ⟨b, off, none⟩ = some (.string a) := hcell 0 a rfl
  have hc1 : w.cell? ⟨b, off + 1, none⟩ = some (.string x) := hcell 1 x rfl
  have hx0 : x.size ≤ 1000000 := by have := hs x (by simp); omega
  have h2 : 2 ≤ r.length + 2 := by omega
  have hlen : (a :: x :: r).length ≤ c := hcap
  cases hn : nmb x with
  | false =>
    rw [par_nm hx hn]
    exact (rq_name a x b off _ c w hl h2 hcap hcm hx0 hc0 hc1 hx hn).mono fun e w' h => h
  | true =>
    rw [par_two, hx]
    rw [if_neg (by simp)]
    obtain ⟨o2, ho2⟩ := ag_some b off c 2
    have hr2 : Row w (some ⟨b, o2, none⟩) (txts r) := row_ag (k := 2) hR hlen ho2
    have hF : ∀ (v : World), Below w.heap.size w v → Calls Tryz.prog 16 #[.slice (some ⟨b, o2, none⟩) (r.length + 2 - 2) (c - 2)] v fun e w' => ∃ a2 m2 c2, e = .returned (.tuple #[.slice a2 m2 c2, .bool (dmo r)]) ∧ Dk w' v.heap.size a2 m2 (dms r) ∧ Below v.heap.size v w' :=
      fun v hv => refDims_any (some ⟨b, o2, none⟩) r (c - 2) v (by omega) (hr2.below hv)
    have hgiv : giv a x r = (dms r).map fun d => ⟨x, a, [], d, em, 0, []⟩ := by
      unfold giv
      cases dms r with
      | none => rfl
      | some d => simp [hn]
    cases h1 : isw a lParam with
    | true =>
      rw [if_pos (by simp), hgiv]
      cases hd : dms r with
      | none =>
        rw [(dm_no hd).1, hd] at hF
        exact (rq_paramN a x b off _ c w hl h2 hcap hcm hx0 hc0 hc1 hx hn (isw_eq h1) o2 ho2 _ hF).mono fun e w' h => h
      | some dv =>
        rw [(dm_yes hd).1, hd] at hF
        refine (rq_paramY a x b off _ c w hl h2 hcap hcm hx0 hc0 hc1 hx hn (isw_eq h1) o2 ho2 _ hF).mono ?_
        rintro e w' ⟨⟨a2, m2, c2, rfl, hD⟩, hb⟩
        obtain ⟨rfl, hS, _⟩ := hD dv rfl
        rw [isw_eq h1]
        exact ⟨⟨_, rfl, none, 0, a2, c2, none, 0, rfl, Row.nil _ _, hS, Row.nil _ _⟩, hb⟩
    | false =>
      cases h2' : isw a lInput with
      | true =>
        rw [if_pos (by simp), hgiv]
        cases hd : dms r with
        | none =>
          rw [(dm_no hd).1, hd] at hF
          exact (rq_inputN a x b off _ c w hl h2 hcap hcm hx0 hc0 hc1 hx hn (isw_eq h2') o2 ho2 _ hF).mono fun e w' h => h
        | some dv =>
          rw [(dm_yes hd).1, hd] at hF
          refine (rq_inputY a x b off _ c w hl h2 hcap hcm hx0 hc0 hc1 hx hn (isw_eq h2') o2 ho2 _ hF).mono ?_
          rintro e w' ⟨⟨a2, m2, c2, rfl, hD⟩, hb⟩
          obtain ⟨rfl, hS, _⟩ := hD dv rfl
          rw [isw_eq h2']
          exact ⟨⟨_, rfl, none, 0, a2, c2, none, 0, rfl, Row.nil _ _, hS, Row.nil _ _⟩, hb⟩
      | false =>
        rw [if_neg (by simp)]
        cases h3 : isw a lConst with
        | true =>
          rw [if_pos rfl]
          have hrow : ∀ m, m < r.length + 2 → w.cell? ⟨b, off + m, none⟩ = some (.string ((a :: x :: r).getD m em)) := by
            intro m hm
            obtain ⟨b', off', e, hc⟩ := row_str hR (i := m) hm
            cases e
            exact hc
          have hge : ∀ k, isw ((a :: x :: r).getD (k + 2) em) lEq = isw (r.getD k em) lEq := fun k => rfl
          rcases cut_cases r with ⟨hcn, hno⟩ | ⟨k, hk, hke, hkf, hcs⟩
          · have e0 : con a x r = none := by unfold con; rw [hcn]
            rw [e0]
            refine (rc_none a x b off _ c w hl h2 hcap hcm hx0 hc0 hc1 hx hn (isw_eq h3) (a :: x :: r) hrow ?_).mono fun e w' h => h
            intro m hm2 hm
            obtain ⟨m, rfl⟩ : ∃ q, m = q + 2 := ⟨m - 2, by omega⟩
            rw [hge]
            exact hno m (by omega)
          · have e1 : con a x r = match dms (r.take k) with
                | some d => if (r.drop (k + 1)).length = Sp.szI d ∧ (r.drop (k + 1)).all ra = true then some ⟨x, a, [], d, em, 0, r.drop (k + 1)⟩ else none
                | none => none := by
              unfold con; rw [hcs]
              simp only [hn, if_true]
              cases dms (r.take k) <;> rfl
            have hlt : (r.take k).length = k + 2 - 2 := by rw [List.length_take]; omega
            have hld : (r.drop (k + 1)).length = r.length + 2 - (k + 2 + 1) := by rw [List.length_drop]; omega
            have hje : isw ((a :: x :: r).getD (k + 2) em) lEq = true := by rw [hge]; exact hke
            have hjf : ∀ m, 2 ≤ m → m < k + 2 → isw ((a :: x :: r).getD m em) lEq = false := by
              intro m hm2 hm
              obtain ⟨m, rfl⟩ : ∃ q, m = q + 2 := ⟨m - 2, by omega⟩
              rw [hge]
              exact hkf m (by omega)
            obtain ⟨o3, ho3⟩ := ag_some b off c (k + 2 + 1)
            have hr3 : Row w (some ⟨b, o3, none⟩) (txts (r.drop (k + 1))) := row_ag (k := k + 2 + 1) hR hlen ho3
            have hFt : ∀ (v : World), Below w.heap.size w v → Calls Tryz.prog 16 #[.slice (some ⟨b, o2, none⟩) (k + 2 - 2) (c - 2)] v fun e w' => ∃ a2 m2 c2, e = .returned (.tuple #[.slice a2 m2 c2, .bool (dmo (r.take k))]) ∧ Dk w' v.heap.size a2 m2 (dms (r.take k)) ∧ Below v.heap.size v w' := by
              intro v hv
              have := refDims_any (some ⟨b, o2, none⟩) (r.take k) (c - 2) v (by omega) (by rw [← txts_take]; exact Row.take' (hr2.below hv) k)
              rw [hlt] at this
              exact this
            rw [e1]
            cases hd : dms (r.take k) with
            | none =>
              rw [(dm_no hd).1, hd] at hFt
              exact (rc_dims a x b off _ c w hl h2 hcap hcm hx0 hc0 hc1 hx hn (isw_eq h3) (a :: x :: r) hrow (k + 2) (by omega) (by omega) hje hjf o2 ho2 _ hFt o3 ho3).mono fun e w' h => h
            | some dv =>
              rw [(dm_yes hd).1, hd] at hFt
              have hrg := (dms_some hd).2
              obtain ⟨m, hm⟩ : ∃ m, Sp.szI dv = m := ⟨_, rfl⟩
              have hm64 : m ≤ 64 := by rw [← hm]; exact Sp.szI_le dv
              have hS : ∀ a2 m2 c2 v B, Dk v B a2 m2 (some dv) → Calls Tryz.prog 17 #[.slice a2 m2 c2] v fun e w' => e = .returned (.int .i64 (m : Int)) ∧ w' = v := by
                intro a2 m2 c2 v B hD
                obtain ⟨rfl, hSl, _⟩ := hD dv rfl
                rw [← hm]
                exact Sp.refSize_any a2 dv c2 v hrg hSl
              have hA : ∀ v, Below w.heap.size w v → Calls Tryz.prog 14 #[.slice (some ⟨b, o3, none⟩) (r.length + 2 - (k + 2 + 1)) (c - (k + 2 + 1))] v fun e w' => e = .returned (.bool ((r.drop (k + 1)).all ra)) ∧ Below v.heap.size v w' := by
                intro v hv
                have := rationals_any (some ⟨b, o3, none⟩) (r.drop (k + 1)) (c - (k + 2 + 1)) v (by omega) (hr3.below hv) (fun i hi => hs _ (by
                  have : (r.drop (k + 1)).getD i em ∈ r.drop (k + 1) := by
                    rw [List.getD_eq_getElem?_getD, List.getElem?_eq_getElem hi]; exact List.getElem_mem hi
                  exact List.mem_cons_of_mem _ (List.mem_cons_of_mem _ (List.mem_of_mem_drop this))))
                rw [hld] at this
                exact this
              show Calls _ _ _ _ fun e w' => Pk w' (if (r.drop (k + 1)).length = Sp.szI dv ∧ (r.drop (k + 1)).all ra = true then _ else none) e ∧ _
              rw [hm, hld]
              by_cases hq : r.length + 2 - (k + 2 + 1) = m
              · have hq' : (((r.length + 2 - (k + 2 + 1) : Nat) : Int) != (m : Int)) = false := by simp [hq]
                cases hall : (r.drop (k + 1)).all ra with
                | false =>
                  rw [if_neg (by simp)]
                  rw [hall] at hA
                  exact (rc_rat a x b off _ c w hl h2 hcap hcm hx0 hc0 hc1 hx hn (isw_eq h3) (a :: x :: r) hrow (k + 2) (by omega) (by omega) hje hjf o2 ho2 _ hFt o3 ho3 m hm64 hS hq' hA).mono fun e w' h => h
                | true =>
                  rw [if_pos ⟨hq, rfl⟩]
                  rw [hall] at hA
                  refine (rc_yes a x b off _ c w hl h2 hcap hcm hx0 hc0 hc1 hx hn (isw_eq h3) (a :: x :: r) hrow (k + 2) (by omega) (by omega) hje hjf o2 ho2 _ hFt o3 ho3 m hm64 hS hq' hA).mono ?_
                  rintro e w' ⟨⟨a2, m2, c2, rfl, hD⟩, hb⟩
                  obtain ⟨rfl, hSl, _⟩ := hD dv rfl
                  rw [isw_eq h3, ← hld]
                  exact ⟨⟨_, rfl, none, 0, a2, c2, some ⟨b, o3, none⟩, c - (k + 2 + 1), rfl, Row.nil _ _, hSl, hr3.below hb⟩, hb⟩
              · have hq' : (((r.length + 2 - (k + 2 + 1) : Nat) : Int) != (m : Int)) = true := bne_iff_ne.2 (by omega)
                rw [if_neg (fun h => hq h.1)]
                exact (rc_len a x b off _ c w hl h2 hcap hcm hx0 hc0 hc1 hx hn (isw_eq h3) (a :: x :: r) hrow (k + 2) (by omega) (by omega) hje hjf o2 ho2 _ hFt o3 ho3 m hm64 hS hq').mono fun e w' h => h
        | false =>
          rw [if_neg (by simp)]
          cases h4 : isw a lLoss with
          | true =>
            rw [if_pos rfl]
            cases r with
            | nil =>
              rw [if_pos ⟨hn, rfl⟩]
              obtain ⟨o1, ho1⟩ := ag_some b off c 1
              refine (rq_loss a x b off _ c w hl h2 hcap hcm hx0 hc0 hc1 hx hn (isw_eq h4) rfl o1 ho1).mono ?_
              rintro e w' ⟨rfl, hb⟩
              rw [isw_eq h4]
              have hr1 : Row w (some ⟨b, o1, none⟩) (txts [x]) := row_ag (k := 1) hR hlen ho1
              exact ⟨⟨_, rfl, some ⟨b, o1, none⟩, c - 1, none, 0, none, 0, rfl, hr1.below hb, Sp.Sl.nil _ _, Row.nil _ _⟩, hb⟩
            | cons y l =>
              rw [if_neg (by simp)]
              exact (rq_lossN a x b off _ c w hl h2 hcap hcm hx0 hc0 hc1 hx hn (isw_eq h4) (by simp; omega)).mono fun e w' h => h
          | false =>
            rw [if_neg (by simp)]
            exact (rq_other a x b off _ c w hl h2 hcap hcm hx0 hc0 hc1 hx hn h1 h2' h3 h4).mono fun e w' h => h

theorem refParse_any (ws : List ByteArray) (ao : Option Addr) (c : Nat) (w : World) (hR : Row w ao (txts ws)) (hl : ws.length ≤ 1000) (hcap : ws.length ≤ c) (hcm : c ≤ maxLen) (hs : ∀ y ∈ ws, y.size ≤ 20000) :
    Calls Tryz.prog 7 #[.slice ao ws.length c] w fun e w' => Pk w' (par ws) e ∧ Below w.heap.size w w' := by
  match ws, hR, hl, hcap, hs with
  | [], _, _, _, _ => exact (rq_short ao 0 c w (by omega)).mono fun e w' h => h
  | [a], _, _, _, _ => exact (rq_short ao 1 c w (by omega)).mono fun e w' h => h
  | a :: x :: r, hR, hl, hcap, hs =>
    obtain ⟨b, off, rfl, hc0, hc1⟩ := cell_two hR
    cases hx : isw x lEq with
    | false => exact refOwn_any a x r b off c w hx hR hl hcap hcm hs
    | true =>
      rw [par_two, if_pos hx]
      match r, hR, hl, hcap, hs with
      | [], _, hl, hcap, hs =>
        rw [opn_few (by simp)]
        exact (rq_few a x b off 2 c w hl (by omega) hcap hcm (by have := hs x (by simp); omega) hc0 hc1 (by omega) (nm_eq hx)).mono fun e w' h => h
      | [op], _, hl, hcap, hs =>
        rw [opn_few (by simp)]
        exact (rq_few a x b off 3 c w hl (by omega) hcap hcm (by have := hs x (by simp); omega) hc0 hc1 (by omega) (nm_eq hx)).mono fun e w' h => h
      | op :: q :: l, hR, hl, hcap, hs =>
        exact refOpn_any a x op (q :: l) b off c w hx (by simp) hR hl hcap hcm hs
end Go.Proofs.YtokfkmncabmmcaaGreatDoor.Rd
namespace Go.Proofs.YtokfkmncabmmcaaGreatDoor.Rd
set_option maxRecDepth 100000
open Go.RowKit
set_option linter.unusedVariables false
set_option linter.unusedSimpArgs false

def f1 : ByteArray := ⟨#[121, 32, 61, 32, 115, 99, 97, 108, 101, 32, 119, 32, 49, 47, 50]⟩
def f2 : ByteArray := ⟨#[108, 111, 115, 115, 32, 121, 10, 10, 119, 104, 97, 116]⟩
def s1 : Sm := ⟨⟨#[121]⟩, ⟨#[115, 99, 97, 108, 101]⟩, [⟨#[119]⟩], [], ⟨#[49, 47, 50]⟩, 0, []⟩
theorem aw1 : alls (Lx.lns f1.data.toList) = some [s1] := by kernel_rfl
theorem aw2 : alls (Lx.lns f2.data.toList) = none := by kernel_rfl
theorem aw3 : bad (Lx.lns f2.data.toList) = 3 := by kernel_rfl
theorem Lo.two {w : World} {base : Nat} {v : Value} {us : List Value} {ss : List Sm} (h : Lo w base v us ss) {i : Nat} {s : Sm} (hi : ss[i]? = some s) :
    ∃ g cap, v = .slice (some ⟨g, 0, none⟩) ss.length cap ∧ w.cell? ⟨g, i * 7 + 1, none⟩ = some (.string s.op) ∧ w.cell? ⟨g, i * 7 + 4, none⟩ = some (.string s.k) ∧ g < w.heap.size := by
  obtain ⟨g, cap, u, e, ⟨ua, ud, ut, rfl, _⟩, hc, hg⟩ := h.get hi
  exact ⟨g, cap, e, hc 1 (by omega), hc 4 (by omega), hg⟩
theorem All_f1 (aF aZ : Addr) (w : World) (hE : Er w aF aZ) : Calls Tryz.prog 9 #[.string ⟨#[121, 32, 61, 32, 115, 99, 97, 108, 101, 32, 119, 32, 49, 47, 50]⟩] w fun e w' => (∃ v us, e = .returned (.tuple #[v, .int .i64 0, .int .i64 0]) ∧ Lo w' w.heap.size v us [s1]) ∧ Below w.heap.size w w' := by
  refine (All_any f1 aF aZ w hE (by decide)).mono ?_
  rintro e w' ⟨h, hb⟩
  unfold Ao at h
  rw [aw1] at h
  exact ⟨h, hb⟩
theorem All_f2 (aF aZ : Addr) (w : World) (hE : Er w aF aZ) : Calls Tryz.prog 9 #[.string ⟨#[108, 111, 115, 115, 32, 121, 10, 10, 119, 104, 97, 116]⟩] w fun e w' => e = .returned (.tuple #[.slice none 0 0, .int .i64 3, .int .i64 2]) ∧ Below w.heap.size w w' := by
  refine (All_any f2 aF aZ w hE (by decide)).mono ?_
  rintro e w' ⟨h, hb⟩
  unfold Ao at h
  rw [aw2, aw3] at h
  exact ⟨h, hb⟩
set_option maxHeartbeats 1000000 in
theorem awake_any (aF aZ : Addr) (w : World) (hE : Er w aF aZ) : Calls Tryz.prog 5 #[] w fun e w' => e = .returned (.bool true) ∧ Below w.heap.size w w' := by
  have k2 := fun (v : World) (hv : Below w.heap.size w v) => All_f2 aF aZ v (hE.below hv)
  have HK : Hid _ := k2
  clear k2
  go_enter Tryz.func5, Tryz.ntmps5
  go_wp2_with fail
  refine (All_f1 aF aZ w hE).mono ?_
  rintro e w1 ⟨⟨v, us, rfl, hL⟩, hB1⟩
  obtain ⟨g, cap, rfl, hc1, hc2, hg⟩ := hL.two (i := 0) (s := s1) rfl
  simp only [Nat.zero_mul, Nat.zero_add, s1, List.length_singleton] at hc1 hc2 ⊢
  clear hL
  have HB1 : Hid _ := hB1
  clear hB1
  go_wp2_with fail
  refine (HK.out w1 HB1.out).mono ?_
  rintro e w2 ⟨rfl, hB2⟩
  have d1 := cell_below hB2 hc1
  have d2 := cell_below hB2 hc2
  have HB2 : Hid _ := HB1.out.trans (hB2.mono HB1.out.size)
  clear hc1 hc2 hB2
  go_wp2
  go_ret
  exact ⟨rfl, HB2.out⟩
end Go.Proofs.YtokfkmncabmmcaaGreatDoor.Rd
namespace Go.Proofs.YtokfkmncabmmcaaGreatDoor.Rd
set_option maxRecDepth 100000
open Go.RowKit
set_option linter.unusedVariables false
set_option linter.unusedSimpArgs false

theorem fin_len {name op : ByteArray} {args rest : List ByteArray} {s : Sm} (h : fin name op args rest = some s) : s.dims.length ≤ 4 ∧ s.data.length ≤ 64 := by
  refine ⟨?_, by rw [fin_data h]; simp⟩
  obtain ⟨k0, k1, k2, k3⟩ := @fin_k name op args rest
  rcases knd_le op with hk | hk | hk | hk
  · rw [k0 hk] at h
    split at h
    · cases h; simp
    · cases h
  · rw [k1 hk] at h
    split at h
    · split at h
      · cases h; simp
      · cases h
    · cases h
  · rw [k2 hk] at h
    split at h
    · split at h
      · split at h
        · cases h; simp
        · cases h
      · cases h
    · cases h
  · rw [k3 hk] at h
    cases hd : dms rest with
    | none => simp [hd] at h
    | some d => simp [hd] at h; subst h; exact (by have := dms_len hd; show d.length ≤ 4; omega)
theorem par_len {ws : List ByteArray} {s : Sm} (h : par ws = some s) : s.args.length ≤ 1000000 ∧ s.dims.length ≤ 1000 ∧ s.data.length ≤ 1000000 := by
  match ws, h with
  | [], h => cases h
  | [a], h => cases h
  | a :: b :: r, h =>
    rw [par_two] at h
    split at h
    · obtain ⟨parts, _, _, _, _, h3, h4⟩ := opn_some h
      have := fin_len h4
      refine ⟨?_, by omega, by omega⟩
      rw [h3, List.length_take]
      rcases ari_le s.op with h | h | h <;> omega
    · split at h
      · unfold giv at h
        cases hd : dms r with
        | none => simp [hd] at h
        | some d =>
          simp only [hd] at h
          split at h
          · cases h
            have := dms_len hd
            exact ⟨by simp, by show d.length ≤ 1000; omega, by simp⟩
          · cases h
      · split at h
        · unfold con at h
          cases hc : cutEq r with
          | none => simp [hc] at h
          | some p =>
            obtain ⟨x, y⟩ := p
            simp only [hc] at h
            split at h
            · cases hd : dms x with
              | none => simp [hd] at h
              | some d =>
                simp only [hd] at h
                split at h
                · rename_i hq
                  cases h
                  have := dms_len hd
                  have := Sp.szI_le d
                  exact ⟨by simp, by show d.length ≤ 1000; omega, by show y.length ≤ 1000000; omega⟩
                · cases h
            · cases h
        · split at h
          · split at h
            · cases h; exact ⟨by simp, by simp, by simp⟩
            · cases h
          · cases h

set_option maxHeartbeats 4000000 in
theorem readParses_any (ao : Option Addr) (zs : List ByteArray) (c : Nat) (aF aZ : Addr) (w : World) (hE : Er w aF aZ) (hS : Row w ao (txts zs)) (hcap : zs.length ≤ c) (hcm : c ≤ maxLen) :
    Calls Tryz.prog 3 #[.slice ao zs.length c] w fun e w' => e = .returned (.bool true) ∧ Below w.heap.size w w' := by
  have HA : Hid (∀ v, Below w.heap.size w v → Calls Tryz.prog 5 #[] v fun e w' => e = .returned (.bool true) ∧ Below v.heap.size v w') := fun v hv => awake_any aF aZ v (hE.below hv)
  have HP : Hid ((∀ y ∈ zs, y.size ≤ 40) → zs.length ≤ 90 → ∀ v, Below w.heap.size w v → Calls Tryz.prog 6 #[.agg #[.int .i64 1, .slice ao zs.length c]] v fun e w' => Po w' v.heap.size (par zs) e ∧ Below v.heap.size v w') :=
    fun h h90 v hv => Parse_any 1 zs ao c aF aZ v (hE.below hv) (hS.below hv) (by omega) hcap hcm (fun y hy => by have := h y hy; omega)
  have HD : Hid ((∀ y ∈ zs, y.size ≤ 40) → zs.length ≤ 90 → ∀ v, Below w.heap.size w v → Calls Tryz.prog 7 #[.slice ao zs.length c] v fun e w' => Pk w' (par zs) e ∧ Below v.heap.size v w') :=
    fun h h90 v hv => refParse_any zs ao c v (hS.below hv) (by omega) hcap hcm (fun y hy => by have := h y hy; omega)
  have HL : Hid (∀ s, par zs = some s → s.args.length ≤ 1000000 ∧ s.dims.length ≤ 1000 ∧ s.data.length ≤ 1000000) := fun s h => par_len h
  have HR : Hid _ := fun i (h : i < zs.length) => row_str hS h
  have HM : Hid ((∀ i, i < zs.length → (zs.getD i em).size ≤ 40) → ∀ y ∈ zs, y.size ≤ 40) := fun h y hy => by
    obtain ⟨i, hi, rfl⟩ := List.getElem_of_mem hy
    have := h i hi
    simpa [List.getD, hi] using this
  clear hS hE
  obtain ⟨N, hN⟩ : ∃ N, zs.length = N := ⟨_, rfl⟩
  rw [hN] at HP HD HR HM hcap ⊢
  clear hN
  by_cases h90 : 90 < N
  · go_enter Tryz.func3, Tryz.ntmps3
    go_wp2_with fail
    refine (HA.out _ (Below.refl _ _)).mono ?_
    rintro e w1 ⟨rfl, hB⟩
    go_wp2
    go_ret
    exact ⟨rfl, hB⟩
  go_enter Tryz.func3, Tryz.ntmps3
  go_wp2_with fail
  go_loop [15] (fun i => ∃ k : Nat, k ≤ N ∧ i = .int .i64 (k : Int) ∧ ∀ j, j < k → (zs.getD j em).size ≤ 40) (fun i => N - (intOf i).toNat)
  case atStart => exact ⟨0, by omega, rfl, fun j hj => by omega⟩
  case round =>
    obtain ⟨k, hk, rfl, hj⟩ := hrel
    have HJ : Hid _ := hj
    clear hj
    by_cases h : k < N
    · obtain ⟨b, off, rfl, hc⟩ := HR.out k h
      obtain ⟨x, hx⟩ : ∃ z, zs.getD k em = z := ⟨_, rfl⟩
      rw [hx] at hc
      have HX : Hid _ := hx
      clear hx
      by_cases h40 : 40 < x.size
      · go_wp2_with fail
        refine (HA.out _ (Below.refl _ _)).mono ?_
        rintro e w1 ⟨rfl, hB⟩
        go_wp2
        go_ret
        exact ⟨rfl, hB⟩
      · go_wp2
        go_round
        case rel =>
          refine ⟨k + 1, by omega, by go_num, fun j hj => ?_⟩
          by_cases e : j = k
          · rw [e, HX.out]; omega
          · exact HJ.out j (by omega)
        case measure => simp [intOf]; omega
    · obtain rfl : k = N := by omega
      have hall := HM.out (fun i hi => HJ.out i hi)
      have HP1 : Hid _ := HP.out hall (by omega)
      have HD1 : Hid _ := HD.out hall (by omega)
      clear HP HD HJ HM HR hall
      cases hp : par zs with
      | none =>
        rw [hp] at HP1 HD1
        go_wp2_with fail
        refine (HP1.out _ (Below.refl _ _)).mono ?_
        rintro e w1 ⟨rfl, hB1⟩
        have HB1 : Hid _ := hB1
        have hs1 := hB1.size
        clear hB1 HP1
        go_wp2_with fail
        refine (HD1.out _ (HB1.out.alloc HB1.out.size _)).mono ?_
        rintro e w2 ⟨rfl, hB2⟩
        obtain ⟨q0, q1, q2, q3, q4, q5, q6, f1, hBx⟩ := own7 (r := 26) hB2
        have HB2 : Hid (Below w.heap.size w w2) := HB1.out.trans (hBx.mono HB1.out.size)
        have hs2 : w1.heap.size < w2.heap.size := by have := hB2.size; simp at this; omega
        clear hB2 hBx HD1
        go_wp2_with fail
        refine (Equal_any _ _ zr _ (Sr.zero _) (Sr.zero _) ⟨by simp [zr], by simp [zr], by simp [zr]⟩).mono ?_
        rintro e w3 ⟨rfl, hB3⟩
        have HB3 : Hid (Below w.heap.size w w3) := (HB2.out.alloc HB2.out.size _).trans (hB3.mono (by have := HB2.out.size; simp; omega))
        clear hB3
        go_wp2_with fail
        refine (HA.out _ HB3.out).mono ?_
        rintro e w4 ⟨rfl, hB4⟩
        have HB4 : Hid _ := HB3.out.trans (hB4.mono HB3.out.size)
        clear hB4
        go_wp2
        go_ret
        exact ⟨rfl, HB4.out⟩
      | some s =>
        rw [hp] at HP1 HD1
        have hlen := HL.out s hp
        have HLen : Hid _ := hlen
        clear hlen hp HL
        go_wp2_with fail
        refine (HP1.out _ (Below.refl _ _)).mono ?_
        rintro e w1 ⟨⟨u, rfl, hU⟩, hB1⟩
        have HU : Hid (Sr w1 u s) := hU.read
        obtain ⟨a1, m1, c1, a2, m2, c2, a3, m3, c3, rfl⟩ := hU.form
        have HB1 : Hid _ := hB1
        clear hB1 hU HP1
        go_wp2_with fail
        refine (HD1.out _ (HB1.out.alloc HB1.out.size _)).mono ?_
        rintro e w2 ⟨⟨t, rfl, hT⟩, hB2⟩
        have HT : Hid (Sr w2 t s) := hT
        obtain ⟨b1, d1, b2, d2, b3, d3, rfl, -⟩ := hT
        obtain ⟨o1, -, hBx⟩ := own1 hB2
        have q0 := o1 0
        have q1 := o1 1
        have q2 := o1 2
        have q3 := o1 3
        have q4 := o1 4
        have q5 := o1 5
        have q6 := o1 6
        simp at q0 q1 q2 q3 q4 q5 q6
        have HB2 : Hid (Below w.heap.size w w2) := HB1.out.trans (hBx.mono HB1.out.size)
        have hs2 : w1.heap.size < w2.heap.size := by have := hB2.size; simp at this; omega
        have HU2 : Hid _ := Sr.below HU.out hBx
        clear hB2 hBx HD1 o1 HU
        go_wp2_with fail
        refine (Equal_any _ _ s _ (Sr.below HU2.out ((Below.refl _ _).alloc (Nat.le_refl _) _)) (Sr.below HT.out ((Below.refl _ _).alloc (Nat.le_refl _) _)) HLen.out).mono ?_
        rintro e w3 ⟨rfl, hB3⟩
        have HB3 : Hid (Below w.heap.size w w3) := (HB2.out.alloc HB2.out.size _).trans (hB3.mono (by have := HB2.out.size; simp; omega))
        clear hB3
        go_wp2_with fail
        refine (HA.out _ HB3.out).mono ?_
        rintro e w4 ⟨rfl, hB4⟩
        have HB4 : Hid _ := HB3.out.trans (hB4.mono HB3.out.size)
        clear hB4
        go_wp2
        go_ret
        exact ⟨rfl, HB4.out⟩
end Go.Proofs.YtokfkmncabmmcaaGreatDoor.Rd
namespace Go.Proofs.YtokfkmncabmmcaaGreatDoor.Rd
set_option maxRecDepth 100000
open Go.RowKit
set_option linter.unusedVariables false
set_option linter.unusedSimpArgs false

theorem tl_half : ∀ (s : List UInt8) (n : Nat) (W : List (List UInt8)) (w : List UInt8) (off : Bool), ∀ x ∈ Lx.tl n W w off s, 2 * x.2.length ≤ 2 * W.length + s.length + (if w = [] then 1 else 2)
  | [], n, W, w, off, x, h => by
    rw [Lx.tl] at h
    unfold Lx.ln1 at h
    split at h
    · simp at h
    · simp at h; subst h
      unfold Lx.fl
      split <;> simp <;> omega
  | b :: s, n, W, w, off, x, h => by
    have hf : 2 * (W ++ Lx.fl w).length ≤ 2 * W.length + (if w = [] then 0 else 2) := by
      unfold Lx.fl
      split <;> simp <;> omega
    rw [Lx.tl] at h
    split at h
    · rcases List.mem_append.1 h with h | h
      · unfold Lx.ln1 at h
        split at h
        · simp at h
        · simp at h; subst h
          simp only [List.length_cons]
          by_cases hw : w = [] <;> simp [hw] at hf ⊢ <;> omega
      · have := tl_half s (n + 1) [] [] false x h
        simp only [List.length_nil, List.length_cons, if_true] at *
        by_cases hw : w = [] <;> simp [hw] <;> omega
    · split at h
      · have := tl_half s n (W ++ Lx.fl w) [] (off || b == 35) x h
        rw [if_pos rfl] at this
        simp only [List.length_cons]
        by_cases hw : w = []
        · rw [if_pos hw] at hf ⊢; omega
        · rw [if_neg hw] at hf ⊢; omega
      · have := tl_half s n W (w ++ [b]) off x h
        rw [if_neg (by simp)] at this
        simp only [List.length_cons]
        by_cases hw : w = [] <;> simp [hw] <;> omega
theorem lns_half (s : ByteArray) : ∀ x ∈ Lx.lns s.data.toList, 2 * (bas x.2).length ≤ s.size + 1 := fun x hx => by
  have := tl_half s.data.toList 1 [] [] false x hx
  have h1 : s.data.toList.length = s.size := rfl
  rw [bas_len]
  simp only [List.length_nil, if_true] at this
  omega
set_option maxHeartbeats 8000000 in
theorem readAll_ok (s : ByteArray) (aF aZ : Addr) (w : World) (hE : Er w aF aZ) (hs : s.size ≤ 1024) (ss : List Sm) (hal : alls (Lx.lns s.data.toList) = some ss) :
    Calls Tryz.prog 4 #[.string s] w fun e w' => e = .returned (.bool true) ∧ Below w.heap.size w w' := by
  have HA : Hid (∀ v, Below w.heap.size w v → Calls Tryz.prog 5 #[] v fun e w' => e = .returned (.bool true) ∧ Below v.heap.size v w') := fun v hv => awake_any aF aZ v (hE.below hv)
  have hAll := All_any s aF aZ w hE (by omega)
  have HRl : Hid (∀ v, Calls Tryz.prog 10 #[.string s] v fun e w' => ∃ u us, e = .returned u ∧ Lx.Ls w' v.heap.size 42 u us (Lx.lns s.data.toList) ∧ Below v.heap.size v w') := fun v => Lx.refLines_any s v (by omega)
  have hll := lns_len s
  have hlw := lns_half s
  have hls := lns_size s
  unfold Ao at hAll
  rw [hal] at hAll
  generalize Lx.lns s.data.toList = L at hAll HRl hll hlw hls hal
  have HW : Hid _ := hlw
  have HS : Hid _ := hls
  have HAL : Hid _ := hal
  have hsl := alls_len hal
  clear hlw hls hE hal
  obtain ⟨N, hN⟩ : ∃ N, L.length = N := ⟨_, rfl⟩
  have HN : Hid (L.length = N) := hN
  rw [hN] at hll
  rw [hN] at hsl
  clear hN
  go_enter Tryz.func4, Tryz.ntmps4
  go_wp2_with fail
  refine hAll.mono ?_
  rintro e w1 ⟨⟨v, us, rfl, hLo⟩, hB1⟩
  have HLo : Hid _ := hLo
  obtain ⟨pa, pc, rfl⟩ := hLo.form
  rw [hsl] at HLo ⊢
  have HB1 : Hid _ := hB1
  clear hB1 hAll
  go_wp2_with fail
  refine (HRl.out _).mono ?_
  rintro e w2 ⟨u, ul, rfl, hL, hB2⟩
  obtain ⟨ao, cap, rfl, _, _⟩ := hL.form
  have HL : Hid _ := hL
  rw [HN.out] at HL ⊢
  have HB2 : Hid (Below w.heap.size w w2) := HB1.out.trans (hB2.mono HB1.out.size)
  have HLo2 : Hid _ := Lo.below HLo.out hB2
  clear hB2 hL HB1
  go_wp2_with fail
  go_loopw [25] (fun i wr => ∃ (k : Nat) (x : List Sm), k ≤ N ∧ i = .int .i64 (k : Int) ∧ alls (L.take k) = some x ∧ Below w2.heap.size w2 wr) (fun i _ => N - (intOf i).toNat)
  case atStart => exact ⟨0, [], Nat.zero_le _, rfl, rfl, Below.refl _ _⟩
  case round =>
    obtain ⟨k, x, hk, rfl, hx, hBr⟩ := hrel
    have HX : Hid _ := hx
    have HBr : Hid _ := hBr
    clear hx
    by_cases hkn : k < N
    · obtain ⟨⟨n, ws⟩, hy⟩ := getE L k (by rw [HN.out]; exact hkn)
      have hmem := List.mem_of_getElem? hy
      have hwl := HW.out _ hmem
      have hws := HS.out _ hmem
      simp only at hwl hws
      have hget := Lx.Ls.get (w := wr) (base := w1.heap.size) (e := 42) (v := .slice ao L.length cap) (us := ul) (ls := L) (by rw [HN.out]; exact Lx.Ls.below HL.out hBr) hy
      rw [HN.out] at hget
      obtain ⟨g, cap', u, hv, hc1, hc2, how, hg⟩ := hget
      obtain ⟨rfl, rfl⟩ : ao = some ⟨g, 0, none⟩ ∧ cap = cap' := by simpa using hv
      clear hv hmem
      have HY : Hid (L[k]? = some (n, ws)) := hy
      clear hy
      obtain ⟨a2, c2, rfl, hR, hcap, hcm⟩ := ow_full how
      clear how
      have HRow : Hid _ := hR
      have HWS : Hid _ := hws
      clear hR hws
      have hRw : ∀ v, Below wr.heap.size wr v → ∀ i, i < (bas ws).length → ∃ b off, a2 = some ⟨b, off, none⟩ ∧ v.cell? ⟨b, off + i, none⟩ = some (.string ((bas ws).getD i em)) := fun v hv i hi => row_str (Row.below HRow.out hv) hi
      have HRw : Hid _ := hRw
      clear hRw
      have hD : ∀ v, Below wr.heap.size wr v → Calls Tryz.prog 7 #[.slice a2 (bas ws).length c2] v fun e w' => Pk w' (par (bas ws)) e ∧ Below v.heap.size v w' := fun v hv => refParse_any (bas ws) a2 c2 v (Row.below HRow.out hv) (by omega) hcap hcm (fun y hy => by have := HWS.out y hy; omega)
      have HD : Hid _ := hD
      clear hD HRow HWS
      obtain ⟨M, hM⟩ : ∃ M, (bas ws).length = M := ⟨_, rfl⟩
      rw [hM] at hc2 hcap hwl HRw HD
      clear hM
      have hBa : Below wr.heap.size wr (wr.alloc (.cells #[.int .i64 (n : Int), .slice a2 M c2] 42)) := (Below.refl _ _).alloc (Nat.le_refl _) _
      have HBa : Hid _ := hBa
      clear hBa
      go_wp2_with fail
      go_loop [33] (fun i => ∃ m : Nat, m ≤ M ∧ i = .int .i64 (m : Int)) (fun i => M - (intOf i).toNat)
      case atStart => exact ⟨0, by omega, rfl⟩
      case round =>
        obtain ⟨m, hm, rfl⟩ := hrel
        by_cases hmm : m < M
        · obtain ⟨b, off, rfl, hcw⟩ := HRw.out _ HBa.out m hmm
          obtain ⟨y, hy⟩ : ∃ z, (bas ws).getD m em = z := ⟨_, rfl⟩
          rw [hy] at hcw
          clear hy
          by_cases h40 : 40 < y.size
          · go_wp2_with fail
            refine (HA.out _ ((HB2.out.trans (HBr.out.mono HB2.out.size)).trans (HBa.out.mono (Nat.le_trans HB2.out.size HBr.out.size)))).mono ?_
            rintro e w4 ⟨rfl, hB4⟩
            have HB4 : Hid (Below w.heap.size w w4) := ((HB2.out.trans (HBr.out.mono HB2.out.size)).trans (HBa.out.mono (Nat.le_trans HB2.out.size HBr.out.size))).trans (hB4.mono (by have := HB2.out.size; have := HBr.out.size; simp; omega))
            clear hB4
            go_wp2
            go_ret
            exact ⟨rfl, HB4.out⟩
          · go_wp2
            go_round
            case rel => exact ⟨m + 1, by omega, by go_num⟩
            case measure => simp [intOf]; omega
        · obtain rfl : m = M := by omega
          clear hm hmm hcap hcm
          cases hp : par (bas ws) with
          | none =>
            exfalso
            obtain ⟨s', h1, _⟩ := alls_at HAL.out HY.out
            rw [hp] at h1
            cases h1
          | some s' =>
            have HD' := HD.out
            rw [hp] at HD'
            have HDs : Hid _ := HD'
            obtain ⟨s2, h1, hsk⟩ := alls_at HAL.out HY.out
            rw [hp] at h1
            cases h1
            have HX2 : Hid _ := alls_next HX.out HY.out hp
            have HLen : Hid _ := par_len hp
            have hg2 := Lo.get (Lo.below HLo2.out (HBr.out)) hsk
            obtain ⟨g2, cap2, u2', hv2, hSo, hcl, hg2l⟩ := hg2
            rw [hsl] at hv2
            obtain ⟨rfl, rfl⟩ : pa = some ⟨g2, 0, none⟩ ∧ pc = cap2 := by simpa using hv2
            clear hv2 HD HD' hp hsk
            have HSr : Hid _ := So.read hSo
            obtain ⟨b1, m1, d1, b2, m2, d2, b3, m3, d3, rfl⟩ := hSo.form
            have p0 : wr.cell? ⟨g2, k * 7, none⟩ = some (.string s'.name) := hcl 0 (by omega)
            have p1 : wr.cell? ⟨g2, k * 7 + 1, none⟩ = some (.string s'.op) := hcl 1 (by omega)
            have p2 : wr.cell? ⟨g2, k * 7 + 2, none⟩ = some (.slice b1 m1 d1) := hcl 2 (by omega)
            have p3 : wr.cell? ⟨g2, k * 7 + 3, none⟩ = some (.slice b2 m2 d2) := hcl 3 (by omega)
            have p4 : wr.cell? ⟨g2, k * 7 + 4, none⟩ = some (.string s'.k) := hcl 4 (by omega)
            have p5 : wr.cell? ⟨g2, k * 7 + 5, none⟩ = some (.int .i64 (s'.n : Int)) := hcl 5 (by omega)
            have p6 : wr.cell? ⟨g2, k * 7 + 6, none⟩ = some (.slice b3 m3 d3) := hcl 6 (by omega)
            clear hcl hSo
            have HP : Hid _ := And.intro p0 (And.intro p1 (And.intro p2 (And.intro p3 (And.intro p4 (And.intro p5 p6)))))
            clear p0 p1 p2 p3 p4 p5 p6
            go_wp2_with fail
            refine (HDs.out _ HBa.out).mono ?_
            rintro e w4 ⟨⟨t, rfl, hT⟩, hB4⟩
            have HT : Hid (Sr w4 t s') := hT
            obtain ⟨e1, f1, e2, f2, e3, f3, rfl, -⟩ := hT
            have hB4' : Below wr.heap.size wr w4 := HBa.out.trans (hB4.mono HBa.out.size)
            have q0 := cell_below hB4' HP.out.1
            have q1 := cell_below hB4' HP.out.2.1
            have q2 := cell_below hB4' HP.out.2.2.1
            have q3 := cell_below hB4' HP.out.2.2.2.1
            have q4 := cell_below hB4' HP.out.2.2.2.2.1
            have q5 := cell_below hB4' HP.out.2.2.2.2.2.1
            have q6 := cell_below hB4' HP.out.2.2.2.2.2.2
            have hg4 : g2 ≠ w4.heap.size := by have := hB4'.size; omega
            have HSr4 : Hid _ := Sr.below HSr.out hB4'
            have HB4 : Hid (Below w2.heap.size w2 w4) := HBr.out.trans (hB4'.mono HBr.out.size)
            have k0 : (0 : Int) ≤ (k : Int) := by omega
            have k1 : (k : Int) < (N : Int) := by omega
            have hkd : decide ((N : Int) ≤ (k : Int)) = false := decide_eq_false (by omega)
            clear hB4 hB4' HP HSr hc1 hc2 HDs
            go_wp2_with fail
            obtain ⟨C, hC⟩ : ∃ C : World → Prop, C = fun v => Below (w4.alloc (.cells #[.string s'.name, .string s'.op, .slice e1 s'.args.length f1, .slice e2 s'.dims.length f2, .string s'.k, .int .i64 (s'.n : Int), .slice e3 s'.data.length f3] 32)).heap.size (w4.alloc (.cells #[.string s'.name, .string s'.op, .slice e1 s'.args.length f1, .slice e2 s'.dims.length f2, .string s'.k, .int .i64 (s'.n : Int), .slice e3 s'.data.length f3] 32)) v := ⟨_, rfl⟩
            have cT : ∀ u v, C u → Below u.heap.size u v → C v := fun u v h k => by subst hC; exact h.trans (k.mono h.size)
            have cI : C (w4.alloc (.cells #[.string s'.name, .string s'.op, .slice e1 s'.args.length f1, .slice e2 s'.dims.length f2, .string s'.k, .int .i64 (s'.n : Int), .slice e3 s'.data.length f3] 32)).drew := by subst hC; exact Below.drew (Below.refl _ _)
            have cb : ∀ v, C v → Below w4.heap.size w4 v := fun v h => by subst hC; exact ((Below.refl _ _).alloc (Nat.le_refl _) _).trans (h.mono (by simp))
            have g0 : ∀ v, C v → v.cell? ⟨g2, k * 7, none⟩ = some (.string s'.name) := fun v h => cell_below (cb v h) q0
            have h0 : ∀ v, C v → v.cell? ⟨w4.heap.size, 0, none⟩ = some (.string s'.name) := fun v h => by subst hC; exact (own1 h).1 0
            have g1 : ∀ v, C v → v.cell? ⟨g2, k * 7 + 1, none⟩ = some (.string s'.op) := fun v h => cell_below (cb v h) q1
            have h1 : ∀ v, C v → v.cell? ⟨w4.heap.size, 1, none⟩ = some (.string s'.op) := fun v h => by subst hC; exact (own1 h).1 1
            have gg2 : ∀ v, C v → v.cell? ⟨g2, k * 7 + 2, none⟩ = some (.slice b1 m1 d1) := fun v h => cell_below (cb v h) q2
            have h2 : ∀ v, C v → v.cell? ⟨w4.heap.size, 2, none⟩ = some (.slice e1 s'.args.length f1) := fun v h => by subst hC; exact (own1 h).1 2
            have g3 : ∀ v, C v → v.cell? ⟨g2, k * 7 + 3, none⟩ = some (.slice b2 m2 d2) := fun v h => cell_below (cb v h) q3
            have h3 : ∀ v, C v → v.cell? ⟨w4.heap.size, 3, none⟩ = some (.slice e2 s'.dims.length f2) := fun v h => by subst hC; exact (own1 h).1 3
            have g4 : ∀ v, C v → v.cell? ⟨g2, k * 7 + 4, none⟩ = some (.string s'.k) := fun v h => cell_below (cb v h) q4
            have h4 : ∀ v, C v → v.cell? ⟨w4.heap.size, 4, none⟩ = some (.string s'.k) := fun v h => by subst hC; exact (own1 h).1 4
            have g5 : ∀ v, C v → v.cell? ⟨g2, k * 7 + 5, none⟩ = some (.int .i64 (s'.n : Int)) := fun v h => cell_below (cb v h) q5
            have h5 : ∀ v, C v → v.cell? ⟨w4.heap.size, 5, none⟩ = some (.int .i64 (s'.n : Int)) := fun v h => by subst hC; exact (own1 h).1 5
            have g6 : ∀ v, C v → v.cell? ⟨g2, k * 7 + 6, none⟩ = some (.slice b3 m3 d3) := fun v h => cell_below (cb v h) q6
            have h6 : ∀ v, C v → v.cell? ⟨w4.heap.size, 6, none⟩ = some (.slice e3 s'.data.length f3) := fun v h => by subst hC; exact (own1 h).1 6
            have cE : ∀ v, C v → Calls Tryz.prog 8 #[.agg #[.string s'.name, .string s'.op, .slice b1 m1 d1, .slice b2 m2 d2, .string s'.k, .int .i64 (s'.n : Int), .slice b3 m3 d3], .agg #[.string s'.name, .string s'.op, .slice e1 s'.args.length f1, .slice e2 s'.dims.length f2, .string s'.k, .int .i64 (s'.n : Int), .slice e3 s'.data.length f3]] v fun e w' => e = .returned (.bool true) ∧ Below v.heap.size v w' := fun v h => Equal_any _ _ s' v (Sr.below HSr4.out (cb v h)) (Sr.below HT.out (cb v h)) HLen.out
            have cB : ∀ v, C v → Below w2.heap.size w2 v := fun v h => HB4.out.trans ((cb v h).mono HB4.out.size)
            clear hC q0 q1 q2 q3 q4 q5 q6 cb
            refine region_calm C (by kernel_rfl) (by kernel_rfl) cI ?_
            clear cI
            refine wpQuiet_step (fun K hK => ?_)
            go_simp
            refine ⟨_, fun v hv => rfl, hK _ ?_⟩
            clear hK K
            refine wpQuiet_step (fun K hK => ?_)
            go_simp
            refine ⟨_, fun v hv => rfl, hK _ ?_⟩
            clear hK K
            refine wpQuiet_step (fun K hK => ?_)
            go_simp
            refine ⟨_, fun v hv => rfl, hK _ ?_⟩
            clear hK K
            refine wpQuiet_step (fun K hK => ?_)
            go_simp
            refine ⟨_, fun v hv => rfl, hK _ ?_⟩
            clear hK K
            refine wpQuiet_step (fun K hK => ?_)
            go_simp
            refine ⟨_, fun v hv => rfl, hK _ ?_⟩
            clear hK K
            refine wpQuiet_step (fun K hK => ?_)
            go_simp
            refine ⟨_, fun v hv => rfl, hK _ ?_⟩
            clear hK K
            refine wpQuiet_step (fun K hK => ?_)
            go_simp
            refine ⟨_, fun v hv => rfl, hK _ ?_⟩
            clear hK K
            refine wpQuiet_step (fun K hK => ?_)
            go_simp
            refine ⟨_, fun v hv => rfl, hK _ ?_⟩
            clear hK K
            refine wpQuiet_step (fun K hK => ?_)
            go_simp
            refine ⟨_, fun v hv => rfl, hK _ ?_⟩
            clear hK K
            refine wpQuiet_step (fun K hK => ?_)
            go_simp
            refine ⟨_, fun v hv => rfl, hK _ ?_⟩
            clear hK K
            refine wpQuiet_step (fun K hK => ?_)
            go_simp
            refine ⟨_, fun v hv => rfl, hK _ ?_⟩
            clear hK K
            refine wpQuiet_step (fun K hK => ?_)
            go_simp
            refine ⟨.agg #[.string s'.name, .string s'.op, .slice b1 m1 d1, .slice b2 m2 d2, .string s'.k, .int .i64 (s'.n : Int), .slice b3 m3 d3], fun v hv => ?_, hK _ ?_⟩
            · simp [g0 v hv, g1 v hv, gg2 v hv, g3 v hv, g4 v hv, g5 v hv, g6 v hv]
            clear hK K
            refine wpQuiet_step (fun K hK => ?_)
            go_simp
            refine ⟨.agg #[.string s'.name, .string s'.op, .slice e1 s'.args.length f1, .slice e2 s'.dims.length f2, .string s'.k, .int .i64 (s'.n : Int), .slice e3 s'.data.length f3], fun v hv => ?_, hK _ ?_⟩
            · simp [h0 v hv, h1 v hv, h2 v hv, h3 v hv, h4 v hv, h5 v hv, h6 v hv]
            clear hK K
            refine wpQuiet_step (fun K hK => ?_)
            go_simp
            refine ⟨.bool true, fun v hv => ?_, hK _ ?_⟩
            · exact calm_call cT hv (cE v hv)
            clear hK K
            refine wpQuiet_step (fun K hK => ?_)
            go_simp
            refine ⟨_, fun v hv => rfl, hK _ ?_⟩
            clear hK K
            refine wpQuiet_step (fun K hK => ?_)
            go_simp
            refine ⟨_, fun v hv => rfl, hK _ ?_⟩
            clear hK K
            refine wpQuiet_step (fun K hK => ?_)
            go_simp
            refine ⟨_, fun v hv => rfl, hK _ ?_⟩
            clear hK K
            refine wpQuiet_nil ?_
            intro w5 C5
            have HB5 : Hid _ := cB _ C5
            clear C5 cB cE cT g0 g1 gg2 g3 g4 g5 g6 h0 h1 h2 h3 h4 h5 h6
            go_wp2
            go_roundw
            case rel => exact ⟨k + 1, _, by omega, by go_num, HX2.out, HB5.out⟩
            case measure => simp [intOf]; omega
    · obtain rfl : k = N := by omega
      have HBw : Hid (Below w.heap.size w wr) := HB2.out.trans (HBr.out.mono HB2.out.size)
      clear hBr
      go_wp2_with fail
      refine (HRl.out _).mono ?_
      rintro e w4 ⟨u, ul2, rfl, hL2, hB4⟩
      obtain ⟨ao2, cap2, rfl, _, _⟩ := hL2.form
      rw [HN.out]
      have HB4 : Hid (Below w.heap.size w w4) := HBw.out.trans (hB4.mono HBw.out.size)
      clear hL2 hB4
      go_wp2_with fail
      refine (HA.out _ HB4.out).mono ?_
      rintro e w5 ⟨rfl, hB5⟩
      have HB5 : Hid _ := HB4.out.trans (hB5.mono HB4.out.size)
      clear hB5
      go_wp2
      go_ret
      exact ⟨rfl, HB5.out⟩
set_option maxHeartbeats 8000000 in
theorem readAll_bad (s : ByteArray) (aF aZ : Addr) (w : World) (hE : Er w aF aZ) (hs : s.size ≤ 1024) (hal : alls (Lx.lns s.data.toList) = none) :
    Calls Tryz.prog 4 #[.string s] w fun e w' => e = .returned (.bool true) ∧ Below w.heap.size w w' := by
  have HA : Hid (∀ v, Below w.heap.size w v → Calls Tryz.prog 5 #[] v fun e w' => e = .returned (.bool true) ∧ Below v.heap.size v w') := fun v hv => awake_any aF aZ v (hE.below hv)
  have hAll := All_any s aF aZ w hE (by omega)
  have HRl : Hid (∀ v, Calls Tryz.prog 10 #[.string s] v fun e w' => ∃ u us, e = .returned u ∧ Lx.Ls w' v.heap.size 42 u us (Lx.lns s.data.toList) ∧ Below v.heap.size v w') := fun v => Lx.refLines_any s v (by omega)
  have hll := lns_len s
  have hlw := lns_half s
  have hls := lns_size s
  unfold Ao at hAll
  rw [hal] at hAll
  generalize Lx.lns s.data.toList = L at hAll HRl hll hlw hls hal
  have HW : Hid _ := hlw
  have HS : Hid _ := hls
  have HAL : Hid _ := hal
  clear hlw hls hE hal
  obtain ⟨N, hN⟩ : ∃ N, L.length = N := ⟨_, rfl⟩
  have HN : Hid (L.length = N) := hN
  rw [hN] at hll
  clear hN
  go_enter Tryz.func4, Tryz.ntmps4
  go_wp2_with fail
  refine hAll.mono ?_
  rintro e w1 ⟨rfl, hB1⟩
  obtain ⟨q, hq⟩ : ∃ q, bad L = q := ⟨_, rfl⟩
  have HQ : Hid (bad L = q) := hq
  rw [hq]
  clear hq
  have HB1 : Hid _ := hB1
  clear hB1 hAll
  go_wp2_with fail
  refine (HRl.out _).mono ?_
  rintro e w2 ⟨u, ul, rfl, hL, hB2⟩
  obtain ⟨ao, cap, rfl, _, _⟩ := hL.form
  have HL : Hid _ := hL
  rw [HN.out] at HL ⊢
  have HB2 : Hid (Below w.heap.size w w2) := HB1.out.trans (hB2.mono HB1.out.size)
  clear hB2 hL HB1
  go_wp2_with fail
  go_loopw [25] (fun i wr => ∃ (k : Nat) (x : List Sm), k ≤ N ∧ i = .int .i64 (k : Int) ∧ alls (L.take k) = some x ∧ Below w2.heap.size w2 wr) (fun i _ => N - (intOf i).toNat)
  case atStart => exact ⟨0, [], Nat.zero_le _, rfl, rfl, Below.refl _ _⟩
  case round =>
    obtain ⟨k, x, hk, rfl, hx, hBr⟩ := hrel
    have HX : Hid _ := hx
    have HBr : Hid _ := hBr
    clear hx
    by_cases hkn : k < N
    · obtain ⟨⟨n, ws⟩, hy⟩ := getE L k (by rw [HN.out]; exact hkn)
      have hmem := List.mem_of_getElem? hy
      have hwl := HW.out _ hmem
      have hws := HS.out _ hmem
      simp only at hwl hws
      have hget := Lx.Ls.get (w := wr) (base := w1.heap.size) (e := 42) (v := .slice ao L.length cap) (us := ul) (ls := L) (by rw [HN.out]; exact Lx.Ls.below HL.out hBr) hy
      rw [HN.out] at hget
      obtain ⟨g, cap', u, hv, hc1, hc2, how, hg⟩ := hget
      obtain ⟨rfl, rfl⟩ : ao = some ⟨g, 0, none⟩ ∧ cap = cap' := by simpa using hv
      clear hv hmem
      have HY : Hid (L[k]? = some (n, ws)) := hy
      clear hy
      obtain ⟨a2, c2, rfl, hR, hcap, hcm⟩ := ow_full how
      clear how
      have HRow : Hid _ := hR
      have HWS : Hid _ := hws
      clear hR hws
      have hRw : ∀ v, Below wr.heap.size wr v → ∀ i, i < (bas ws).length → ∃ b off, a2 = some ⟨b, off, none⟩ ∧ v.cell? ⟨b, off + i, none⟩ = some (.string ((bas ws).getD i em)) := fun v hv i hi => row_str (Row.below HRow.out hv) hi
      have HRw : Hid _ := hRw
      clear hRw
      have hD : ∀ v, Below wr.heap.size wr v → Calls Tryz.prog 7 #[.slice a2 (bas ws).length c2] v fun e w' => Pk w' (par (bas ws)) e ∧ Below v.heap.size v w' := fun v hv => refParse_any (bas ws) a2 c2 v (Row.below HRow.out hv) (by omega) hcap hcm (fun y hy => by have := HWS.out y hy; omega)
      have HD : Hid _ := hD
      clear hD HRow HWS
      obtain ⟨M, hM⟩ : ∃ M, (bas ws).length = M := ⟨_, rfl⟩
      rw [hM] at hc2 hcap hwl HRw HD
      clear hM
      have hBa : Below wr.heap.size wr (wr.alloc (.cells #[.int .i64 (n : Int), .slice a2 M c2] 42)) := (Below.refl _ _).alloc (Nat.le_refl _) _
      have HBa : Hid _ := hBa
      clear hBa
      go_wp2_with fail
      go_loop [33] (fun i => ∃ m : Nat, m ≤ M ∧ i = .int .i64 (m : Int)) (fun i => M - (intOf i).toNat)
      case atStart => exact ⟨0, by omega, rfl⟩
      case round =>
        obtain ⟨m, hm, rfl⟩ := hrel
        by_cases hmm : m < M
        · obtain ⟨b, off, rfl, hcw⟩ := HRw.out _ HBa.out m hmm
          obtain ⟨y, hy⟩ : ∃ z, (bas ws).getD m em = z := ⟨_, rfl⟩
          rw [hy] at hcw
          clear hy
          by_cases h40 : 40 < y.size
          · go_wp2_with fail
            refine (HA.out _ ((HB2.out.trans (HBr.out.mono HB2.out.size)).trans (HBa.out.mono (Nat.le_trans HB2.out.size HBr.out.size)))).mono ?_
            rintro e w4 ⟨rfl, hB4⟩
            have HB4 : Hid (Below w.heap.size w w4) := ((HB2.out.trans (HBr.out.mono HB2.out.size)).trans (HBa.out.mono (Nat.le_trans HB2.out.size HBr.out.size))).trans (hB4.mono (by have := HB2.out.size; have := HBr.out.size; simp; omega))
            clear hB4
            go_wp2
            go_ret
            exact ⟨rfl, HB4.out⟩
          · go_wp2
            go_round
            case rel => exact ⟨m + 1, by omega, by go_num⟩
            case measure => simp [intOf]; omega
        · obtain rfl : m = M := by omega
          clear hm hmm hcap hcm
          cases hp : par (bas ws) with
          | none =>
            have HD' := HD.out
            rw [hp] at HD'
            have HDs : Hid _ := HD'
            obtain rfl : n = q := by
              have := (alls_stop HX.out HY.out hp).2
              rw [HQ.out] at this
              exact this.symm
            clear HD HD' hp HX
            have HBw : Hid (Below w.heap.size w wr) := HB2.out.trans (HBr.out.mono HB2.out.size)
            go_wp2_with fail
            refine (HDs.out _ HBa.out).mono ?_
            rintro e w4 ⟨rfl, hB4⟩
            obtain ⟨o1, -, hBx⟩ := own1 hB4
            have p0 : w4.cell? ⟨wr.heap.size, 0, none⟩ = some (.int .i64 (n : Int)) := o1 0
            have hlt : wr.heap.size < w4.heap.size := row_lt p0
            have hne : wr.heap.size ≠ w4.heap.size := Nat.ne_of_lt hlt
            have HB4 : Hid (Below w.heap.size w w4) := HBw.out.trans (hBx.mono HBw.out.size)
            clear hB4 hBx o1 HDs hc1 hc2
            go_wp2_with fail
            refine (HA.out _ (HB4.out.alloc HB4.out.size _)).mono ?_
            rintro e w5 ⟨rfl, hB5⟩
            have HB5 : Hid _ := (HB4.out.alloc HB4.out.size _).trans (hB5.mono (by have := HB4.out.size; simp; omega))
            clear hB5
            go_wp2
            go_ret
            exact ⟨rfl, HB5.out⟩
          | some s' =>
            have HD' := HD.out
            rw [hp] at HD'
            have HDs : Hid _ := HD'
            have HX2 : Hid _ := alls_next HX.out HY.out hp
            clear HD HD' hp
            go_wp2_with fail
            refine (HDs.out _ HBa.out).mono ?_
            rintro e w4 ⟨⟨t, rfl, hT⟩, hB4⟩
            obtain ⟨e1, f1, e2, f2, e3, f3, rfl, -⟩ := hT
            have hB4' : Below wr.heap.size wr w4 := HBa.out.trans (hB4.mono HBa.out.size)
            have HB4 : Hid (Below w2.heap.size w2 w4) := HBr.out.trans (hB4'.mono HBr.out.size)
            clear hB4 hB4' hc1 hc2 HDs
            go_wp2_with fail
            go_region
            have HB5 : Hid _ := (HB4.out.alloc HB4.out.size (.cells #[.string s'.name, .string s'.op, .slice e1 s'.args.length f1, .slice e2 s'.dims.length f2, .string s'.k, .int .i64 (s'.n : Int), .slice e3 s'.data.length f3] 32)).drew
            go_wp2
            go_roundw
            case rel => exact ⟨k + 1, _, by omega, by go_num, HX2.out, HB5.out⟩
            case measure => simp [intOf]; omega
    · obtain rfl : k = N := by omega
      exfalso
      have := HX.out
      rw [take_all HN.out, HAL.out] at this
      cases this
theorem readAll_any (s : ByteArray) (aF aZ : Addr) (w : World) (hE : Er w aF aZ) : Calls Tryz.prog 4 #[.string s] w fun e w' => e = .returned (.bool true) ∧ Below w.heap.size w w' := by
  by_cases hg : 1024 < s.size
  · go_enter Tryz.func4, Tryz.ntmps4
    go_wp2_with fail
    refine (awake_any aF aZ _ hE).mono ?_
    rintro e w1 ⟨rfl, hB⟩
    go_wp2
    go_ret
    exact ⟨rfl, hB⟩
  · cases hal : alls (Lx.lns s.data.toList) with
    | none => exact readAll_bad s aF aZ w hE (by omega) hal
    | some ss => exact readAll_ok s aF aZ w hE (by omega) ss hal
end Go.Proofs.YtokfkmncabmmcaaGreatDoor.Rd
namespace Go.Proofs.YtokfkmncabmmcaaGreatDoor.readAll
open Go.ChangeShapes Go.WideShapes Go.ChangeAt Go.RowKit
open Go.ChangeMaps (open_string shut_string)
set_option linter.unusedVariables false
set_option linter.unusedSimpArgs false

theorem own : ownKnob Tryz.prog.godebug = none := by kernel_rfl

set_option maxHeartbeats 2000000 in
set_option maxRecDepth 100000 in
theorem lifted (os : Os) (started : os.Started) (H : Type) (enc : TypeId × Value → H) :
    ReturnsInHanded {} Tryz.checked os 4 .any (fun w args => (Rows.readAllSpec.pre enc Tryz.prog Tryz.f4 [] false w args ∧ laidMetH Tryz.prog Rd.listed w) ∧ sizedMet enc Tryz.prog Tryz.f4 (OpenSpec.ofChange Rows.readAllSpec) false w args)
      (Rows.readAllSpec.post enc Tryz.prog Tryz.f4 false true false false) := by
  refine returnsInHanded_of_change_and (C := Tryz.checked) (X := fun w _ => laidMetH Tryz.prog Rd.listed w) (fun _ _ _ hh h => h.of_heap hh) own started (by kernel_rfl) Tryz.func4
    (ChangeSpec.witness_shaped (enc := enc) (C := Tryz.checked) (os := os) (X := fun w _ => laidMetH Tryz.prog Rd.listed w) false (World.doorLaid Tryz.prog 400 os) #[.string ByteArray.empty] 8 rfl (Rd.door_shaped os #[.string ByteArray.empty]) (by kernel_rfl) (by kernel_rfl) (by kernel_rfl) (Rd.door_met os #[.string ByteArray.empty])) ?_
  intro W base args ds gs before hval0 hW _ _ hL _
  have hval : ∀ (j : Nat) t v, Tryz.f4.params[j]? = some t → args[j]? = some v → Value.okWide Tryz.prog W .any base t v := hval0
  have hW' := hW
  obtain ⟨p, q, hA0, hV, rfl, hfz, hnd⟩ := hW
  have hA : DataW.TrodAll enc Tryz.prog W 0 (fun _ => true) true Tryz.f4.params.toList args.toList ds p := hA0
  rw [Tryz.params4] at hA hval
  obtain ⟨v0, vs0, d0, ds0, p0, q0, hargs, rfl, rfl, h0, r0⟩ := trodAll_cons hA
  obtain ⟨rfl, rfl, rfl⟩ := trodAll_nil r0
  obtain rfl : args = #[v0] := by cases args; simp_all
  obtain ⟨rfl, rfl⟩ := trodVars_none hV
  obtain ⟨s0, rfl, rfl, rfl, w0⟩ := open_string Tryz.underlying9 (hval 0 9 v0 rfl rfl) h0
  obtain ⟨aF, aZ, hE⟩ := Rd.er_of hL
  clear hA0 hval0
  simp only [List.append_nil, List.nil_append] at hW'
  refine (Go.Proofs.YtokfkmncabmmcaaGreatDoor.Rd.readAll_any s0 aF aZ W hE).mono fun e W' ⟨he, bel⟩ => ?_
  subst he
  refine ⟨_, rfl, _, _, _, [], [], [], hW', trodAll_mk1 (shut_bool Tryz.underlying4 _), ?_, rfl, bel.frame _, fun h => by cases h⟩
  exact trodAll_cons_mk (shut_string Tryz.underlying9 w0) trodAll_mk0

theorem row : Rows.ReadAllSaid :=
  OpenClaim.holds_of_wide 4 Tryz.f4 rfl rfl rfl rfl rfl rfl rfl ⟨rfl, rfl, rfl, rfl, rfl⟩ rfl rfl rfl rfl rfl (by kernel_rfl) Tryz.func4 (by kernel_rfl)
    (of_decide_eq_true (by kernel_rfl)) (by unfold Func.isWrapper; first | (rw [if_pos (by decide +kernel)]; kernel_rfl) | (rw [if_neg (by decide +kernel)]; exact ⟨rfl, rfl⟩))
    (fun os started H enc _ => lifted os started H enc)

theorem proved : Rows.ReadAllCardSaid :=
  Claim7.holds_tied_plain_at .later [] [.sentinel] true (true, "bd3cfea3bf725f341759fcf39c3e2b14df97801970a0be14ee081743294fe225") false
    row (fun _ h => by cases h) (by kernel_rfl) (fun _ h => by cases h) readAll_row_tie rfl ⟨rfl, rfl⟩ (by kernel_rfl) rfl
    (fun f fn hf hfn => by
      obtain rfl : f = 4 := Option.some.inj ((show Tryz.prog.funcNamed "tapewright/tapewrightlaw09.ReadAll" = some 4 by kernel_rfl).symm.trans hf) |>.symm
      obtain rfl : fn = Tryz.f4 := (Option.some.inj (Tryz.func4.symm.trans hfn)).symm
      exact ⟨by kernel_rfl, fun j t ht => by
        rw [Tryz.params4] at ht
        have hm : t ∈ ([9] : List Nat) := by
          have := List.mem_of_getElem? (l := [9]) (i := j) (a := t) (by simpa using ht)
          exact this
        simp only [List.mem_cons, List.not_mem_nil, or_false] at hm
        rcases hm with rfl
        · exact Rd.stand9⟩)
    (by kernel_rfl)
#print axioms proved
end Go.Proofs.YtokfkmncabmmcaaGreatDoor.readAll
