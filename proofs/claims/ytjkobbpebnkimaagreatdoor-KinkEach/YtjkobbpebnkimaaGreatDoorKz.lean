/-
  THE DOCUMENT'S TENSORS WITH A KINK: what a call of the document's Each gives. Conditions: sizes.
-/
import Derived.Test.YtjkobbpebnkimaaGreatDoorKo
import Derived.Test.YtjkobbpebnkimaaGreatDoorKc
import Derived.Test.YtjkobbpebnkimaaGreatDoorLb
namespace Go.Proofs.YtjkobbpebnkimaaGreatDoor.Tn
set_option maxRecDepth 100000
open Go.RowKit Nm
set_option linter.unusedVariables false

theorem owns_below {w w' : World} {base : Nat} {e : TypeId} {size : Nat} {v : Value} {n : Nat} {xs : List Value} (h : w.ownsRow base e size v n xs) (hb : Below w.heap.size w w') : w'.ownsRow base e size v n xs := by
  refine ⟨h.1, ?_⟩
  rcases h.2 with h1 | ⟨g, c, cur, h1, h2, h3, h4⟩
  · exact Or.inl h1
  · exact Or.inr ⟨g, c, cur, h1, h2, by rw [hb.block g (lt_of_block h3)]; exact h3, h4⟩
theorem row_own2 {w : World} {base e n : Nat} {v : Value} {vs : List Value} (h : w.ownsRow base e 2 v n vs) : ∃ ao cap, v = .slice ao n cap ∧ Row w ao vs := by
  have h0 := h
  rcases h.2 with ⟨h1, h2⟩ | ⟨g, c, cur, h1, h2, h3, h4, _⟩
  · subst h1 h2
    have : vs.length = 0 := by have := h.1; omega
    rw [List.eq_nil_of_length_eq_zero this]
    exact ⟨none, 0, rfl, Row.nil _ _⟩
  · subst h1
    refine ⟨some ⟨g, 0, none⟩, c, rfl, fun i u hi => ?_⟩
    have hi2 : i < n * 2 := by have := (List.getElem?_eq_some_iff.1 hi).1; have := h.1; omega
    exact ⟨g, 0, rfl, by rw [Nat.zero_add, h0.cellAt i hi2]; exact hi⟩
theorem inf51 : (Tryz.prog.info? 51).map (fun i => (i.zero, i.size, i.bytes)) = some (some (.agg #[.string ByteArray.empty, .string ByteArray.empty]), 2, 32) := by kernel_rfl
theorem Kd.new (w : World) (x1 x2 : Value) : Kd w ((w.alloc (.cells #[x1, x2] 25)).alloc (.cells #[.slice none 0 0, .slice none 0 0] 25)) x1 x2 := Kd.of (Below.refl _ _)
theorem Kd.keep {w v u : World} {x1 x2 : Value} (h : Kd w v x1 x2) (k : Below (w.heap.size + 1 + 1) v u) : Kd w u x1 x2 := by
  have f : ∀ b, b < w.heap.size + 1 + 1 → ∀ i, u.frozen? ⟨b, i, none⟩ = v.frozen? ⟨b, i, none⟩ := fun b hb i => World.frozen?_of_block (k.block b hb)
  have c : ∀ b, b < w.heap.size + 1 + 1 → ∀ i, u.cell? ⟨b, i, none⟩ = v.cell? ⟨b, i, none⟩ := fun b hb i => World.cell?_of_block (k.block b hb)
  exact ⟨by rw [c _ (by omega)]; exact h.a0, by rw [c _ (by omega)]; exact h.a1, ⟨by rw [c _ (by omega)]; exact h.bx.c0, by rw [c _ (by omega)]; exact h.bx.c1, by rw [f _ (by omega)]; exact h.bx.f0, by rw [f _ (by omega)]; exact h.bx.f1⟩, h.bl.trans (k.mono (by omega))⟩

set_option maxHeartbeats 8000000 in
theorem reach_any (op : ByteArray) (K : Rat → Rat) (hK : ∀ q v, Bd q 20000 → Calls Tryz.prog 35 #[.string op, fr q] v fun e w' => e = .returned (fr (K q)) ∧ Below v.heap.size v w') (bK : ∀ q k, Bd q k → Bd (K q) k)
    (a1 b1 : Option Addr) (c1 d1 m n B1 : Nat) (zs : List Int) (qs : List Rat) (w : World) (h1 : Tt w B1 a1 b1 zs m n qs 40) :
    Calls Tryz.prog 20 #[.string op, .agg #[.slice a1 m c1, .slice b1 n d1]] w fun e w' => ∃ a3 c3 b3 d3, e = .returned (.agg #[.slice a3 m c3, .slice b3 n d3]) ∧ Tt w' 0 a3 b3 zs m n (qs.map K) 40 ∧ Below w.heap.size w w' := by
  obtain ⟨i0, hi, hz0, hz1, hz2⟩ := info_parts inf51
  have hle := h1.le
  have HTr : Hid (Tr zs (qs.map K) 40) := h1.tr.map fun x hx => bK x _ hx
  have HLn : Hid ((qs.map K).length = n) := by unfold Hid; rw [List.length_map, h1.hn]
  have HT1 : Hid _ := h1
  have HK : Hid _ := hK
  clear h1 hK
  go_enter Tryz.func20, Tryz.ntmps20
  go_wp2_with fail
  go_loopw [5, 6] (fun l i wr => ∃ (k : Nat) (v : Value), k ≤ n ∧ i = .int .i64 k ∧ l = v ∧ Kd w wr (.slice a1 m c1) (.slice b1 n d1) ∧ wr.ownsRow (w.heap.size + 1 + 1) 51 2 v k (frs ((qs.map K).take k))) (fun _ i _ => n - (intOf i).toNat)
  case atStart => exact ⟨0, .slice none 0 0, by omega, rfl, rfl, Kd.new w _ _, World.ownsRow_nil _ _ _ _⟩
  case round =>
    obtain ⟨k, v, hk, rfl, rfl, hZ, hown⟩ := hrel
    by_cases h : k < n
    · have hA := zat c1 d1 k (HT1.out.below hZ.bl) h (by omega)
      have hN := fun (u : World) => HK.out (qs.getD k 0) u ((HT1.out.tr.b _ (mem_getD qs (by rw [HT1.out.hn]; exact h))).mono (by omega))
      unfold fr at hA hN
      have HL : Hid (frs ((qs.map K).take (k + 1)) = frs ((qs.map K).take k) ++ [.string (W ((K (qs.getD k 0)).num)), .string (S ((K (qs.getD k 0)).den))]) := by
        unfold Hid
        rw [take_snoc _ (by rw [HLn.out]; exact h), frs_app, map_at K (by rw [HT1.out.hn]; exact h)]; rfl
      have k0 := hZ.a0
      have k1 := hZ.a1
      have HZ : Hid (Kd w wr (.slice a1 m c1) (.slice b1 n d1)) := hZ
      clear hZ
      generalize W (K (qs.getD k 0)).num = P3 at *
      generalize S (K (qs.getD k 0)).den = Q3 at *
      generalize W (qs.getD k 0).num = P1 at *
      generalize S (qs.getD k 0).den = Q1 at *
      generalize frs ((qs.map K).take k) = L0 at *
      go_wp2_with fail
      refine hA.mono ?_
      rintro e w2 ⟨rfl, hb⟩
      have H2 : Hid _ := hb
      clear hb hA k0 k1
      go_wp2_with fail
      refine (hN _).mono ?_
      rintro e w3 ⟨rfl, hb⟩
      have HBL : Hid (Below wr.heap.size wr (w3.alloc (.cells #[.string P3, .string Q3] 51))) := bl_alloc (bl_trans H2.out hb) _
      clear hb H2 hN
      have hown2 : (w3.alloc (.cells #[.string P3, .string Q3] 51)).ownsRow (w.heap.size + 1 + 1) 51 2 _ k L0 := owns_below hown HBL.out
      have HZ2 : Hid (Kd w (w3.alloc (.cells #[.string P3, .string Q3] 51)) (.slice a1 m c1) (.slice b1 n d1)) := HZ.out.below HBL.out
      have hnw : ∀ (j : Nat) (u : Value), ([Value.string P3, Value.string Q3] : List Value)[j]? = some u → (w3.alloc (.cells #[.string P3, .string Q3] 51)).cell? ((⟨w3.heap.size, 0, none⟩ : Addr).add j) = some u := by
        intro j u hj
        match j, hj with
        | 0, hj => simp at hj; subst hj; rw [row_add]; simp
        | 1, hj => simp at hj; subst hj; rw [row_add]; simp
        | j + 2, hj => simp at hj
      go_wp2_with (first | (at_builtin; refine wpList_append_own _ rfl _ _ 54 rfl (w.heap.size + 1 + 1) 51 i0 (.agg #[.string ByteArray.empty, .string ByteArray.empty]) 2 32 Tryz.underlying54 hi hz0 hz1 hz2 rfl (by decide) _ k L0 rfl hown2 ⟨w3.heap.size, 0, none⟩ 1 1 [.string P3, .string Q3] rfl rfl hnw (by simp [Value.oneCell']) (by unfold maxLen; omega) (by omega) (by have := HZ2.out.bx.lt; omega) ?_))
      intro v' w4 hown4 hgrow4 _
      have HZ4 : Hid (Kd w w4 (.slice a1 m c1) (.slice b1 n d1)) := HZ2.out.keep ((Below.refl (w.heap.size + 1 + 1) _).grown hgrow4 (by have := HZ2.out.bx.lt; omega) (fun b hb => (hown2.lt b hb).1))
      have HO4 : Hid (w4.ownsRow (w.heap.size + 1 + 1) 51 2 v' (k + 1) (L0 ++ [.string P3, .string Q3])) := hown4
      clear hown4 hgrow4 hown2 hnw
      go_wp2
      refine ⟨⟨k + 1, v', by omega, by simp, rfl, HZ4.out, ?_⟩, by simp [intOf]; omega⟩
      rw [HL.out]
      exact HO4.out
    · have ek : k = n := by omega
      subst ek
      obtain ⟨ao, cap, ev, hrow⟩ := row_own2 hown
      subst ev
      have e1 : (qs.map K).take k = qs.map K := List.take_of_length_le (by rw [HLn.out]; exact Nat.le_refl _)
      rw [e1] at hrow
      have hO := of_any a1 ao zs (qs.map K) c1 cap wr ((HT1.out.below hZ.bl).tm.s) hrow (by rw [HLn.out]; omega) (fun q hq => (HTr.out.b q hq).mono (by omega))
      rw [HLn.out, HT1.out.hm] at hO
      have HZ : Hid (Kd w wr (.slice a1 m c1) (.slice b1 k d1)) := hZ
      have k0 := hZ.a0
      have k1 := hZ.a1
      clear hZ hrow hown e1
      go_wp2_with fail
      refine hO.mono ?_
      rintro e w5 ⟨c5, b5, d5, rfl, hr5, hf5, hb5⟩
      have hZ5 := HZ.out.below hb5
      have HT5 : Hid (Tt w5 0 a1 b5 zs m k (qs.map K) 40) := ⟨⟨((HT1.out.below HZ.out.bl).below hb5).tm.s, hr5, fun _ _ _ _ => Nat.zero_le _, fun _ _ _ _ => Nat.zero_le _⟩, HTr.out, HT1.out.hm, HLn.out⟩
      have HF5 : Hid (Sp.Sl w a1 zs ∧ Fresh wr.heap.size b5) := ⟨HT1.out.tm.s, hf5⟩
      have hx0 := hZ5.bx.c0
      have hx1 := hZ5.bx.c1
      have hx2 := hZ5.bx.f0
      have hx3 := hZ5.bx.f1
      have HZ5 : Hid (Kd w w5 (.slice a1 m c1) (.slice b1 k d1)) := hZ5
      clear hZ5 hr5 hf5 hb5 hO k0 k1
      go_wp2
      refine bodyPost_ret (v := .agg #[.slice a1 m c5, .slice b5 k d5]) (by simp [results, Tryz.results20, go_sem, (two_set HZ5.out.bx.c0 HZ5.out.bx.c1 _ _).1, (two_set HZ5.out.bx.c0 HZ5.out.bx.c1 _ _).2]) rfl ⟨a1, c5, b5, d5, rfl, ?_, ?_⟩
      · have hbl := bl_set (bl_set HZ5.out.bl (a := ⟨w.heap.size + 1, 0, none⟩) (by simp) (.slice a1 m c5)) (a := ⟨w.heap.size + 1, 1, none⟩) (by simp) (.slice b5 k d5)
        refine ⟨⟨HF5.out.1.below hbl, ?_, fun _ _ _ _ => Nat.zero_le _, fun _ _ _ _ => Nat.zero_le _⟩, HTr.out, HT1.out.hm, HLn.out⟩
        have hlt := HZ.out.bx.lt
        exact row_set (row_set HT5.out.tm.r HF5.out.2 (by simpa using hlt) _) HF5.out.2 (by simpa using hlt) _
      · exact bl_set (bl_set HZ5.out.bl (by simp) _) (by simp) _
end Go.Proofs.YtjkobbpebnkimaaGreatDoor.Tn
