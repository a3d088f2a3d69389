/-
  THE FIXED ANSWER OF STAGE 9. Conditions: the package's error stands where it was laid.
-/
import Derived.Test.YtokfkmncabmmcaaDoorRt9
namespace Go.Proofs.YtokfkmncabmmcaaDoor.Rd
set_option maxRecDepth 100000
open Go.RowKit
set_option linter.unusedVariables false
set_option linter.unusedSimpArgs false

def f1 : ByteArray := ⟨#[121, 32, 61, 32, 115, 99, 97, 108, 101, 32, 119, 32, 49, 47, 50]⟩
def f2 : ByteArray := ⟨#[108, 111, 115, 115, 32, 121, 10, 10, 119, 104, 97, 116]⟩
def s1 : Sm := ⟨⟨#[121]⟩, ⟨#[115, 99, 97, 108, 101]⟩, [⟨#[119]⟩], [], ⟨#[49, 47, 50]⟩, 0, []⟩
theorem aw1 : alls (Lx.lns f1.data.toList) = some [s1] := by kernel_rfl
theorem aw2 : alls (Lx.lns f2.data.toList) = none := by kernel_rfl
theorem aw3 : bad (Lx.lns f2.data.toList) = 3 := by kernel_rfl
theorem Lo.two {w : World} {base : Nat} {v : Value} {us : List Value} {ss : List Sm} (h : Lo w base v us ss) {i : Nat} {s : Sm} (hi : ss[i]? = some s) :
    ∃ g cap, v = .slice (some ⟨g, 0, none⟩) ss.length cap ∧ w.cell? ⟨g, i * 7 + 1, none⟩ = some (.string s.op) ∧ w.cell? ⟨g, i * 7 + 4, none⟩ = some (.string s.k) ∧ g < w.heap.size := by
  obtain ⟨g, cap, u, e, ⟨ua, ud, ut, rfl, _⟩, hc, hg⟩ := h.get hi
  exact ⟨g, cap, e, hc 1 (by omega), hc 4 (by omega), hg⟩
theorem All_f1 (aF aZ : Addr) (w : World) (hE : Er w aF aZ) : Calls Tryd.prog 10 #[.string ⟨#[121, 32, 61, 32, 115, 99, 97, 108, 101, 32, 119, 32, 49, 47, 50]⟩] w fun e w' => (∃ v us, e = .returned (.tuple #[v, .int .i64 0, .int .i64 0]) ∧ Lo w' w.heap.size v us [s1]) ∧ Below w.heap.size w w' := by
  refine (All_any f1 aF aZ w hE (by decide)).mono ?_
  rintro e w' ⟨h, hb⟩
  unfold Ao at h
  rw [aw1] at h
  exact ⟨h, hb⟩
theorem All_f2 (aF aZ : Addr) (w : World) (hE : Er w aF aZ) : Calls Tryd.prog 10 #[.string ⟨#[108, 111, 115, 115, 32, 121, 10, 10, 119, 104, 97, 116]⟩] w fun e w' => e = .returned (.tuple #[.slice none 0 0, .int .i64 3, .int .i64 2]) ∧ Below w.heap.size w w' := by
  refine (All_any f2 aF aZ w hE (by decide)).mono ?_
  rintro e w' ⟨h, hb⟩
  unfold Ao at h
  rw [aw2, aw3] at h
  exact ⟨h, hb⟩
set_option maxHeartbeats 1000000 in
theorem awake_any (aF aZ : Addr) (w : World) (hE : Er w aF aZ) : Calls Tryd.prog 6 #[] w fun e w' => e = .returned (.bool true) ∧ Below w.heap.size w w' := by
  have k2 := fun (v : World) (hv : Below w.heap.size w v) => All_f2 aF aZ v (hE.below hv)
  have HK : Hid _ := k2
  clear k2
  go_enter Tryd.func6, Tryd.ntmps6
  go_wp2_with fail
  refine (All_f1 aF aZ w hE).mono ?_
  rintro e w1 ⟨⟨v, us, rfl, hL⟩, hB1⟩
  obtain ⟨g, cap, rfl, hc1, hc2, hg⟩ := hL.two (i := 0) (s := s1) rfl
  simp only [Nat.zero_mul, Nat.zero_add, s1, List.length_singleton] at hc1 hc2 ⊢
  clear hL
  have HB1 : Hid _ := hB1
  clear hB1
  go_wp2_with fail
  refine (HK.out w1 HB1.out).mono ?_
  rintro e w2 ⟨rfl, hB2⟩
  have d1 := cell_below hB2 hc1
  have d2 := cell_below hB2 hc2
  have HB2 : Hid _ := HB1.out.trans (hB2.mono HB1.out.size)
  clear hc1 hc2 hB2
  go_wp2
  go_ret
  exact ⟨rfl, HB2.out⟩
end Go.Proofs.YtokfkmncabmmcaaDoor.Rd
