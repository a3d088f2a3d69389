/-
  A REGION THAT DRAWS, IN TWO PARTS, the first by an invariant: whatever order the first steps come in, the others stand behind them. Conditions: each theorem's own.
-/
import Derived.Test.YtbfboippaejnmaaGreatDoorBar
namespace Go.Proofs.YtbfboippaejnmaaGreatDoor.Tn
set_option maxRecDepth 100000
open Go.RowKit Nm
set_option linter.unusedVariables false

section
variable {P : Program} {md : Region.Mode} {l : List Oper} {m : Nat}
theorem full_zero {L : Array Bool} (hL : L.size = m) (hf : L.toList.count false = 0) : ∀ j, j < m → L.getD j false = true := by
  intro j hj
  have hlt : j < L.size := by omega
  cases hc : L.getD j false with
  | true => rfl
  | false =>
    exfalso
    have hm : false ∈ L.toList := by
      simp [hlt] at hc
      rw [← hc]
      simp
    exact absurd hm (List.count_eq_zero.1 hf)
theorem any_bar_inv (hl : barB md l m = true) {Q : Exit → Act → World → Prop} (I : Array Bool → Act → World → Prop) (k : Nat)
    (hs : ∀ L a w i, L.size = m → i < m → I L a w → i ∈ Region.ready md (l.take m).toArray L → wpOp P l.toArray Q i (fun a' w' => I (L.setIfInBounds i true) a' w') a w)
    (hd : ∀ L a w, (∀ j, j < m → on L j) → I L a w → wpAny P md l.toArray Q k (pad (Array.replicate m true) k) a w) :
    ∀ (f : Nat) (L : Array Bool) (a : Act) (w : World), L.size = m → shutB md l L → L.toList.count false = f → I L a w → wpAny P md l.toArray Q (f + k) (pad L k) a w := by
  intro f
  induction f with
  | zero =>
    intro L a w hL hsh hf h
    have hall := full_zero hL hf
    have := full_of hL hall
    rw [Nat.zero_add]
    have h2 := hd L a w hall h
    rw [← this] at h2
    exact h2
  | succ f ih =>
    intro L a w hL hsh hf h
    have hno : ¬ ∀ i, i < m → L.getD i false = true := fun c => by
      have := full_of hL c
      rw [this] at hf
      simp [List.count_replicate] at hf
    rw [show f + 1 + k = (f + k) + 1 by omega]
    refine ⟨fun h0 => ?_, fun i hi => ?_⟩
    · exfalso
      apply hno
      apply bar_all hl hL
      apply List.eq_nil_iff_forall_not_mem.2
      intro i hi
      have hin : i < m := by
        obtain ⟨_, o, ho, _⟩ := mem_ready.1 hi
        have := (Array.getElem?_eq_some_iff.1 ho).1
        simp at this
        omega
      have := (bar_ready hl (k := k) hL hin).2 hi
      rw [h0] at this; cases this
    · rcases Nat.lt_or_ge i m with hin | hin
      · have hr := (bar_ready hl hL hin).1 hi
        refine wpOp_mono (fun a' w' hK => ?_) (hs L a w i hL hin h hr)
        rw [pad_set (by omega)]
        refine ih _ a' w' (by simp [hL]) (shut_set hsh hL hin hr) ?_ hK
        have := count_less (mem_ready.1 hr).1
        omega
      · exact absurd (bar_later hl hL hsh hin hi) hno
theorem region_bar_inv {id : Nat} {Q : Exit → Act → World → Prop} {a : Act} {w : World} (m : Nat) (hm : P.follows .mixedOrders = true) (hl : barB .any l m = true) (I : Array Bool → Act → World → Prop)
    (h0 : I (Array.replicate m false) a w.drew)
    (hs : ∀ L a w i, L.size = m → i < m → I L a w → i ∈ Region.ready .any (l.take m).toArray L → wpOp P l.toArray Q i (fun a' w' => I (L.setIfInBounds i true) a' w') a w)
    (hd : ∀ L a w, (∀ j, j < m → on L j) → I L a w → wpAny P .any l.toArray Q (l.length - m) (pad (Array.replicate m true) (l.length - m)) a w) : (Code.region id l.toArray true).wp P Q a w := by
  have h1 := (bar_spec hl).2.1
  refine wp_region_any hm ?_
  have e : l.toArray.size = m + (l.length - m) := by simp; omega
  rw [e]
  have e2 : Array.replicate (m + (l.length - m)) false = pad (Array.replicate m false) (l.length - m) := by unfold pad; simp
  rw [e2]
  exact any_bar_inv hl I (l.length - m) hs hd m _ a _ (by simp) (fun j o hj => by
    rw [rep_off] at hj; cases hj) (by simp) h0
end
end Go.Proofs.YtbfboippaejnmaaGreatDoor.Tn
