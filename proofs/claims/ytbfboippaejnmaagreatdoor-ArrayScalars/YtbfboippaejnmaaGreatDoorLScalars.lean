/-
  ArrayScalars, WALKED: the call answers true, whatever text and numbers are handed in. Conditions: what the arguments hold.
-/
import Derived.Test.YtbfboippaejnmaaGreatDoorWScalars
namespace Go.Proofs.YtbfboippaejnmaaGreatDoor.Tn
set_option maxRecDepth 100000
open Go.RowKit Nm
set_option linter.unusedVariables false

theorem zerr_one {b c : Bool} (h : ¬ (b = true ∧ c = true)) : zerr b c = 1 := by
  unfold zerr
  rw [if_neg (by simpa using h)]
theorem scalars_any (a2 : Option Addr) (c2 : Nat) (us : List Int) (aF aZ : Addr) (w : World) (hE : Er w aF aZ) (k : ByteArray) (h2 : Sp.Sl w a2 us) :
    Calls Tryz.prog 10 #[.string k, .slice a2 us.length c2] w fun e w' => e = .returned (.bool true) ∧ Below w.heap.size w w' := by
  by_cases hk : 20 < k.size
  · exact scal_long1 k a2 _ c2 aF aZ w hE hk
  by_cases hl : 10 < us.length
  · exact scal_long2 k a2 _ c2 aF aZ w hE hk hl
  by_cases hb : tn [] [k] = true ∧ Sp.Rgt us ∧ (0 : Nat) = 0
  · obtain ⟨t1, hr, _⟩ := hb
    obtain ⟨qs, ex, _, hq⟩ := tn_of t1
    match qs, ex with
    | [y], ex =>
      simp only [List.map_cons, List.map_nil, List.cons.injEq, and_true] at ex
      subst ex
      exact scal_good y a2 _ c2 _ us aF aZ w hE hk hl h2 hr rfl rfl (Sp.szI_le us) ((Sp.szI_pos us).2 hr)
  · refine scal_no k a2 _ c2 aF aZ w hE hk hl fun v b hv hc => ?_
    have A : Ta v 0 none (some ⟨b, 0, none⟩) [] [k] := ⟨⟨Sp.Sl.nil _ _, Row.one hc, (fun _ _ _ e => by cases e), fun _ _ _ _ => Nat.zero_le _⟩, by simp, by simp, fun x hx => by rw [List.mem_singleton.1 hx]; omega⟩
    have K := zfail_spr (m1 := 0) (n1 := 1) (m2 := us.length) 0 1 c2 (hE.below hv) A (h2.below hv) (by omega) rfl rfl rfl hb
    rw [zerr_one (fun h => hb ⟨h.1, of_decide_eq_true h.2, rfl⟩)] at K
    exact K
end Go.Proofs.YtbfboippaejnmaaGreatDoor.Tn
