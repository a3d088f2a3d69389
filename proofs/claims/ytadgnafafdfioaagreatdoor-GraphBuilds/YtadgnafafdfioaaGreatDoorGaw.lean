/-
  THE FIXED ANSWER OF STAGE 10. Conditions: each theorem's own.
-/
import Derived.Test.YtadgnafafdfioaaGreatDoorBB
import Derived.Test.YtadgnafafdfioaaGreatDoorGr1
import Derived.Deep.RegionWith
namespace Go.Proofs.YtadgnafafdfioaaGreatDoor.Gr
open Go.Proofs.YtadgnafafdfioaaGreatDoor.Rd
set_option maxRecDepth 100000
open Go.RowKit
set_option linter.unusedVariables false
set_option linter.unusedSimpArgs false

def t1 : Rd.Sm := ⟨⟨#[119]⟩, ⟨#[112, 97, 114, 97, 109]⟩, [], [], em, 0, []⟩
def t2 : Rd.Sm := ⟨em, ⟨#[108, 111, 115, 115]⟩, [⟨#[119]⟩], [], em, 0, []⟩
def n1 : Nd := ⟨⟨#[112, 97, 114, 97, 109]⟩, 0, 0, ⟨#[119]⟩, [], em, 0, []⟩
theorem bld12 : bld s0 0 [t1, t2] = .ok ([n1], 0) := by kernel_rfl
theorem bld0 : bld s0 0 [] = .error (0, 7) := rfl
theorem pst1 : Pst t1 := by unfold Pst; decide
theorem pst2 : Pst t2 := by unfold Pst; decide
theorem grt1 : grt [n1] 0 = true := bld_right (fun s hs => by
  simp only [List.mem_cons, List.not_mem_nil, or_false] at hs
  rcases hs with rfl | rfl
  · exact pst1
  · exact pst2) Ok.zero bld12
theorem ssl12 (w : World) : Ssl ((w.alloc (.cells #[.string ⟨#[119]⟩] 9)).alloc (.cells #[.string ⟨#[119]⟩, .string ⟨#[112, 97, 114, 97, 109]⟩, .slice none 0 0, .slice none 0 0, .string ⟨#[]⟩, .int .i64 0, .slice none 0 0, .string ⟨#[]⟩, .string ⟨#[108, 111, 115, 115]⟩, .slice (some ⟨w.heap.size, 0, none⟩) 1 1, .slice none 0 0, .string ⟨#[]⟩, .int .i64 0, .slice none 0 0] 41)) (some ⟨w.heap.size + 1, 0, none⟩) [t1, t2] := by
  have e1 : (w.alloc (.cells #[.string ⟨#[119]⟩] 9)).heap.size = w.heap.size + 1 := by simp
  have hc : ∀ j, ((w.alloc (.cells #[.string ⟨#[119]⟩] 9)).alloc (.cells #[.string ⟨#[119]⟩, .string ⟨#[112, 97, 114, 97, 109]⟩, .slice none 0 0, .slice none 0 0, .string ⟨#[]⟩, .int .i64 0, .slice none 0 0, .string ⟨#[]⟩, .string ⟨#[108, 111, 115, 115]⟩, .slice (some ⟨w.heap.size, 0, none⟩) 1 1, .slice none 0 0, .string ⟨#[]⟩, .int .i64 0, .slice none 0 0] 41)).cell? ⟨w.heap.size + 1, j, none⟩ = (#[.string ⟨#[119]⟩, .string ⟨#[112, 97, 114, 97, 109]⟩, .slice none 0 0, .slice none 0 0, .string ⟨#[]⟩, .int .i64 0, .slice none 0 0, .string ⟨#[]⟩, .string ⟨#[108, 111, 115, 115]⟩, .slice (some ⟨w.heap.size, 0, none⟩) 1 1, .slice none 0 0, .string ⟨#[]⟩, .int .i64 0, .slice none 0 0] : Array Value)[j]? := fun j => by
    have := World.cell?_alloc_new (w.alloc (.cells #[.string ⟨#[119]⟩] 9)) #[.string ⟨#[119]⟩, .string ⟨#[112, 97, 114, 97, 109]⟩, .slice none 0 0, .slice none 0 0, .string ⟨#[]⟩, .int .i64 0, .slice none 0 0, .string ⟨#[]⟩, .string ⟨#[108, 111, 115, 115]⟩, .slice (some ⟨w.heap.size, 0, none⟩) 1 1, .slice none 0 0, .string ⟨#[]⟩, .int .i64 0, .slice none 0 0] 41 j
    rw [e1] at this
    exact this
  have ha : ((w.alloc (.cells #[.string ⟨#[119]⟩] 9)).alloc (.cells #[.string ⟨#[119]⟩, .string ⟨#[112, 97, 114, 97, 109]⟩, .slice none 0 0, .slice none 0 0, .string ⟨#[]⟩, .int .i64 0, .slice none 0 0, .string ⟨#[]⟩, .string ⟨#[108, 111, 115, 115]⟩, .slice (some ⟨w.heap.size, 0, none⟩) 1 1, .slice none 0 0, .string ⟨#[]⟩, .int .i64 0, .slice none 0 0] 41)).cell? ⟨w.heap.size, 0, none⟩ = some (.string ⟨#[119]⟩) := cell_below (bl_alloc (Below.refl _ _) _) (World.cell?_alloc_new w _ _ 0)
  intro i hi
  have hi' : i < 2 := hi
  have : i = 0 ∨ i = 1 := by omega
  rcases this with rfl | rfl
  · exact ⟨_, _, none, 0, none, 0, none, 0, rfl, Row.nil _ _, Sp.Sl.nil _ _, Row.nil _ _, hc 0, hc 1, hc 2, hc 3, hc 4, hc 5, hc 6⟩
  · exact ⟨_, _, some ⟨w.heap.size, 0, none⟩, 1, none, 0, none, 0, rfl, Row.one ha, Sp.Sl.nil _ _, Row.nil _ _, hc 7, hc 8, hc 9, hc 10, hc 11, hc 12, hc 13⟩
theorem sb1 : Sb t1 := ⟨by decide, (fun x hx => by cases hx), by decide, by decide, by decide, (fun x hx => by cases hx)⟩
theorem sb2 : Sb t2 := by
  refine ⟨by decide, fun x hx => ?_, by decide, by decide, by decide, fun x hx => (by cases hx)⟩
  have : x = ⟨#[119]⟩ := by simpa [t2] using hx
  rw [this]; decide
theorem build12 (aF aZ : Addr) (w : World) (hE : Er w aF aZ) : Calls Tryz.prog 14 #[.slice (some ⟨w.heap.size + 1, 0, none⟩) 2 2] ((w.alloc (.cells #[.string ⟨#[119]⟩] 9)).alloc (.cells #[.string ⟨#[119]⟩, .string ⟨#[112, 97, 114, 97, 109]⟩, .slice none 0 0, .slice none 0 0, .string ⟨#[]⟩, .int .i64 0, .slice none 0 0, .string ⟨#[]⟩, .string ⟨#[108, 111, 115, 115]⟩, .slice (some ⟨w.heap.size, 0, none⟩) 1 1, .slice none 0 0, .string ⟨#[]⟩, .int .i64 0, .slice none 0 0] 41)) fun e w' => (∃ ao c, e = .returned (.tuple #[.agg #[.slice ao 1 c, .int .i64 0], .int .i64 0, .int .i64 0]) ∧ Nl w' ao [n1] ∧ 1 ≤ c ∧ c ≤ maxLen) ∧ Below w.heap.size w w' := by
  have hb : Below w.heap.size w ((w.alloc (.cells #[.string ⟨#[119]⟩] 9)).alloc (.cells #[.string ⟨#[119]⟩, .string ⟨#[112, 97, 114, 97, 109]⟩, .slice none 0 0, .slice none 0 0, .string ⟨#[]⟩, .int .i64 0, .slice none 0 0, .string ⟨#[]⟩, .string ⟨#[108, 111, 115, 115]⟩, .slice (some ⟨w.heap.size, 0, none⟩) 1 1, .slice none 0 0, .string ⟨#[]⟩, .int .i64 0, .slice none 0 0] 41)) := bl_alloc (bl_alloc (Below.refl _ _) _) _
  refine (Build_any [t1, t2] (some ⟨w.heap.size + 1, 0, none⟩) 2 aF aZ ((w.alloc (.cells #[.string ⟨#[119]⟩] 9)).alloc (.cells #[.string ⟨#[119]⟩, .string ⟨#[112, 97, 114, 97, 109]⟩, .slice none 0 0, .slice none 0 0, .string ⟨#[]⟩, .int .i64 0, .slice none 0 0, .string ⟨#[]⟩, .string ⟨#[108, 111, 115, 115]⟩, .slice (some ⟨w.heap.size, 0, none⟩) 1 1, .slice none 0 0, .string ⟨#[]⟩, .int .i64 0, .slice none 0 0] 41)) (hE.below hb) (ssl12 w) (fun s hs => ?_) (fun s hs => ?_) (by decide)).mono ?_
  · simp only [List.mem_cons, List.not_mem_nil, or_false] at hs
    rcases hs with rfl | rfl
    · exact pst1
    · exact pst2
  · simp only [List.mem_cons, List.not_mem_nil, or_false] at hs
    rcases hs with rfl | rfl
    · exact sb1
    · exact sb2
  · rintro e w' ⟨h, h1⟩
    refine ⟨?_, hb.trans (h1.mono hb.size)⟩
    rw [bld12] at h
    obtain ⟨v, us, rfl, hg⟩ := h
    obtain ⟨ao, c, rfl, k1, k2⟩ := hg.form
    exact ⟨ao, c, rfl, hg.nl, k1, k2⟩
theorem build0 (aF aZ : Addr) (w : World) (hE : Er w aF aZ) : Calls Tryz.prog 14 #[.slice none 0 0] w fun e w' => e = .returned (.tuple #[.agg #[.slice none 0 0, .int .i64 0], .int .i64 0, .int .i64 7]) ∧ Below w.heap.size w w' := by
  refine (Build_any [] none 0 aF aZ w hE (fun i hi => by cases hi) (fun s hs => by cases hs) (fun s hs => by cases hs) (by decide)).mono ?_
  rintro e w' ⟨h, h1⟩
  rw [bld0] at h
  exact ⟨h, h1⟩
theorem nb1 : ∀ i, i < [n1].length → Nb ([n1].getD i zn) := fun i hi => by
  have h' : i < 1 := hi
  have : i = 0 := by omega
  subst this
  exact ⟨by decide, by decide, by decide, by decide, fun x hx => by cases hx⟩
set_option maxHeartbeats 4000000 in
theorem awake_any (aF aZ : Addr) (w : World) (hE : Er w aF aZ) : Calls Tryz.prog 7 #[] w fun e w' => e = .returned (.bool true) ∧ Below w.heap.size w w' := by
  have hb12 := build12 aF aZ w hE
  have HB0 : Hid (∀ v, Below w.heap.size w v → Calls Tryz.prog 14 #[.slice none 0 0] v fun e w' => e = .returned (.tuple #[.agg #[.slice none 0 0, .int .i64 0], .int .i64 0, .int .i64 7]) ∧ Below v.heap.size v w') := fun v hv => build0 aF aZ v (hE.below hv)
  have HRt : Hid (∀ v ao c, Below w.heap.size w v → Nl v ao [n1] → 1 ≤ c → c ≤ maxLen → Calls Tryz.prog 9 #[.agg #[.slice ao 1 c, .int .i64 0]] v fun e w' => e = .returned (.bool true) ∧ Below v.heap.size v w') := fun v ao c hv hn h1 h2 => by
    have := Right_any [n1] ao c 0 aF aZ v (hE.below hv) hn h1 h2 nb1
    rw [grt1] at this
    exact this
  clear hE
  go_enter Tryz.func7, Tryz.ntmps7
  go_wp2_with fail
  refine hb12.mono ?_
  rintro e w1 ⟨⟨ao, c, rfl, hn, hc1, hc2⟩, h1⟩
  have H1 : Hid _ := h1
  have HNl : Hid (∀ v, Below w1.heap.size w1 v → Nl v ao [n1]) := fun v hv => hn.below hv
  have HBa : Hid (∀ o, Below w1.heap.size w1 (w1.alloc o)) := fun o => bl_alloc (Below.refl _ _) o
  clear h1 hn hb12
  go_wp2_with fail
  refine (HB0.out _ (bl_alloc H1.out (.cells #[.slice ao 1 c, .int .i64 0] 24))).mono ?_
  rintro e w2 ⟨rfl, h2⟩
  have g0 : w2.cell? ⟨w1.heap.size, 0, none⟩ = some (.slice ao 1 c) := cell_below h2 (World.cell?_alloc_new w1 _ _ 0)
  have g1 : w2.cell? ⟨w1.heap.size, 1, none⟩ = some (.int .i64 0) := cell_below h2 (World.cell?_alloc_new w1 _ _ 1)
  have hb2 : Below w1.heap.size w1 w2 := (HBa.out (.cells #[.slice ao 1 c, .int .i64 0] 24)).trans (h2.mono (HBa.out _).size)
  have HB2 : Hid _ := hb2
  have hlt : w1.heap.size < w2.heap.size := Nat.lt_of_lt_of_le (by simp) h2.size
  have hr := HRt.out (w2.alloc (.cells #[.slice none 0 0, .int .i64 0] 24)) ao c (H1.out.trans ((bl_alloc (Below.refl _ _) _ |> fun k => hb2.trans (k.mono hb2.size)).mono H1.out.size)) (HNl.out _ (hb2.trans ((bl_alloc (Below.refl _ _) _).mono hb2.size))) hc1 hc2
  have gA : ∀ o, (w2.alloc o).cell? ⟨w1.heap.size, 0, none⟩ = some (.slice ao 1 c) := fun o => cell_below (bl_alloc (Below.refl _ _) o) g0
  have gB : ∀ o, (w2.alloc o).cell? ⟨w1.heap.size, 1, none⟩ = some (.int .i64 0) := fun o => cell_below (bl_alloc (Below.refl _ _) o) g1
  clear h2 hb2 g0 g1
  go_wp2_with fail
  refine hr.mono ?_
  rintro e w3 ⟨rfl, h3⟩
  have H3 : Hid (Below w.heap.size w w3) := H1.out.trans (((HB2.out.trans ((bl_alloc (Below.refl _ _) _).mono HB2.out.size)).trans (h3.mono (by have := HB2.out.size; simp; omega))).mono H1.out.size)
  clear h3 hr
  go_wp2
  go_ret
  exact ⟨rfl, H3.out⟩
end Go.Proofs.YtadgnafafdfioaaGreatDoor.Gr
