/-
  THE CALLS OF PACKAGE tensor AT TENSORS OF ONE SHAPE, as the laws' walks take them. Conditions: sizes; the package's errors stand where they were laid.
-/
import Derived.Test.YtjkobbpebnkimaaGreatDoorAw5
namespace Go.Proofs.YtjkobbpebnkimaaGreatDoor.Tn
set_option maxRecDepth 100000
open Go.RowKit Nm
set_option linter.unusedVariables false

/-- a tensor of rationals in memory: its shape has m numbers, it has n, of at most k digits each -/
structure Tt (w : World) (B : Nat) (a b : Option Addr) (zs : List Int) (m n : Nat) (qs : List Rat) (k : Nat) : Prop where
  tm : Tm w B a b zs (qs.map R)
  tr : Tr zs qs k
  hm : zs.length = m
  hn : qs.length = n
theorem Tt.below {w w' : World} {B : Nat} {a b : Option Addr} {zs : List Int} {m n : Nat} {qs : List Rat} {k : Nat} (h : Tt w B a b zs m n qs k) (hb : Below w.heap.size w w') : Tt w' B a b zs m n qs k := ⟨h.tm.below hb, h.tr, h.hm, h.hn⟩
theorem Tt.le {w : World} {B : Nat} {a b : Option Addr} {zs : List Int} {m n : Nat} {qs : List Rat} {k : Nat} (h : Tt w B a b zs m n qs k) : n ≤ 64 ∧ 0 < n ∧ m ≤ 4 := ⟨by rw [← h.hn]; exact h.tr.le, by rw [← h.hn]; exact h.tr.pos, by rw [← h.hm]; exact h.tr.zl⟩
theorem Tt.eqv {w : World} {B : Nat} {a b : Option Addr} {zs : List Int} {m n : Nat} {qs rs : List Rat} {k : Nat} (h : Tt w B a b zs m n qs k) (e : qs = rs) : Tt w B a b zs m n rs k := by subst e; exact h
/-- what is answered: a tensor -/
abbrev Got (w : World) (zs : List Int) (m n : Nat) (qs : List Rat) (k : Nat) (e : Ending) (w' : World) : Prop :=
  ∃ a3 c3 b3 d3, e = .returned (.tuple #[.agg #[.slice a3 m c3, .slice b3 n d3], .int .i64 0]) ∧ Tt w' w.heap.size a3 b3 zs m n qs k ∧ Below w.heap.size w w'
theorem Got.of {w : World} {zs : List Int} {m n : Nat} {qs : List Rat} {k : Nat} (hm : zs.length = m) (hn : qs.length = n) (ht : Tr zs qs k) {f : Nat} {args : Array Value}
    (h : Calls Tryz.prog f args w fun e w' => Ans w.heap.size zs qs e w' ∧ Below w.heap.size w w') : Calls Tryz.prog f args w (Got w zs m n qs k) := by
  refine h.mono ?_
  rintro e w' ⟨⟨a3, c3, b3, d3, rfl, hT⟩, hB⟩
  exact ⟨a3, c3, b3, d3, by rw [hm, mapR_len, hn], ⟨hT, ht, hm, hn⟩, hB⟩

theorem mem_zip {F : Rat → Rat → Rat} {qs rs : List Rat} {z : Rat} (h : z ∈ List.zipWith F qs rs) : ∃ x y, x ∈ qs ∧ y ∈ rs ∧ z = F x y := by
  induction qs generalizing rs with
  | nil => simp at h
  | cons a qs ih => cases rs with
    | nil => simp at h
    | cons b rs =>
      simp only [List.zipWith_cons_cons, List.mem_cons] at h
      rcases h with rfl | h
      · exact ⟨a, b, by simp, by simp, rfl⟩
      · obtain ⟨x, y, hx, hy, e⟩ := ih h
        exact ⟨x, y, by simp [hx], by simp [hy], e⟩
theorem Tr.zip {zs : List Int} {qs rs : List Rat} {k1 k2 k3 : Nat} {F : Rat → Rat → Rat} (h1 : Tr zs qs k1) (h2 : Tr zs rs k2) (hF : ∀ x y, Bd x k1 → Bd y k2 → Bd (F x y) k3) : Tr zs (List.zipWith F qs rs) k3 :=
  ⟨h1.r, by rw [zip_len F (by rw [h1.l, h2.l]), h1.l], fun q hq => by obtain ⟨x, y, hx, hy, rfl⟩ := mem_zip hq; exact hF x y (h1.b x hx) (h2.b y hy)⟩
theorem Tr.map {zs : List Int} {qs : List Rat} {k1 k3 : Nat} {F : Rat → Rat} (h1 : Tr zs qs k1) (hF : ∀ x, Bd x k1 → Bd (F x) k3) : Tr zs (qs.map F) k3 :=
  ⟨h1.r, by rw [List.length_map, h1.l], fun q hq => by obtain ⟨x, hx, rfl⟩ := List.mem_map.1 hq; exact hF x (h1.b x hx)⟩

section
variable {a1 b1 a2 b2 : Option Addr} {B1 B2 m n k1 k2 : Nat} {zs : List Int} {qs rs : List Rat} {aF aZ : Addr} {w : World}
theorem zadd (c1 d1 c2 d2 : Nat) (hE : Er w aF aZ) (h1 : Tt w B1 a1 b1 zs m n qs k1) (h2 : Tt w B2 a2 b2 zs m n rs k2) (hk : k1 + k2 ≤ 20000) :
    Calls Tryz.prog 25 #[.string sAdd, .agg #[.slice a1 m c1, .slice b1 n d1], .agg #[.slice a2 m c2, .slice b2 n d2]] w (Got w zs m n (List.zipWith (· + ·) qs rs) (k1 + k2 + 1)) := by
  have k := Zip_add a1 b1 a2 b2 c1 d1 c2 d2 B1 B2 (k1 + k2) zs qs rs aF aZ w hE h1.tm h2.tm (h1.tr.mono (by omega)) (h2.tr.mono (by omega)) hk
  rw [mapR_len, mapR_len, h1.hm, h1.hn, h2.hn] at k
  exact Got.of h1.hm (by rw [zip_len _ (by rw [h1.hn, h2.hn]), h1.hn]) (h1.tr.zip h2.tr fun x y hx hy => hx.plus hy) k
theorem zsub (c1 d1 c2 d2 : Nat) (hE : Er w aF aZ) (h1 : Tt w B1 a1 b1 zs m n qs k1) (h2 : Tt w B2 a2 b2 zs m n rs k2) (hk : k1 + k2 ≤ 20000) :
    Calls Tryz.prog 25 #[.string sSub, .agg #[.slice a1 m c1, .slice b1 n d1], .agg #[.slice a2 m c2, .slice b2 n d2]] w (Got w zs m n (List.zipWith (· - ·) qs rs) (k1 + k2 + 1)) := by
  have k := Zip_sub a1 b1 a2 b2 c1 d1 c2 d2 B1 B2 (k1 + k2) zs qs rs aF aZ w hE h1.tm h2.tm (h1.tr.mono (by omega)) (h2.tr.mono (by omega)) hk
  rw [mapR_len, mapR_len, h1.hm, h1.hn, h2.hn] at k
  exact Got.of h1.hm (by rw [zip_len _ (by rw [h1.hn, h2.hn]), h1.hn]) (h1.tr.zip h2.tr fun x y hx hy => hx.minus hy) k
theorem zmul (c1 d1 c2 d2 : Nat) (hE : Er w aF aZ) (h1 : Tt w B1 a1 b1 zs m n qs k1) (h2 : Tt w B2 a2 b2 zs m n rs k2) (hk : k1 + k2 ≤ 20000) :
    Calls Tryz.prog 25 #[.string sMul, .agg #[.slice a1 m c1, .slice b1 n d1], .agg #[.slice a2 m c2, .slice b2 n d2]] w (Got w zs m n (List.zipWith (· * ·) qs rs) (k1 + k2)) := by
  have k := Zip_mul a1 b1 a2 b2 c1 d1 c2 d2 B1 B2 (k1 + k2) zs qs rs aF aZ w hE h1.tm h2.tm (h1.tr.mono (by omega)) (h2.tr.mono (by omega)) hk
  rw [mapR_len, mapR_len, h1.hm, h1.hn, h2.hn] at k
  exact Got.of h1.hm (by rw [zip_len _ (by rw [h1.hn, h2.hn]), h1.hn]) (h1.tr.zip h2.tr fun x y hx hy => hx.mul hy) k
theorem zfill (c1 : Nat) (hE : Er w aF aZ) (h1 : Sp.Sl w a1 zs) (hr : Sp.Rgt zs) (hm : zs.length = m) (hn : Sp.szI zs = n) (y : Rat) (hy : Bd y k2) (hk : k2 ≤ 20000) :
    Calls Tryz.prog 26 #[.slice a1 m c1, .string (R y)] w (Got w zs m n (List.replicate n y) k2) := by
  have k := Fill_R a1 c1 zs y aF aZ w hE hr h1 (Bd.size hy (by omega))
  rw [hm, hn] at k
  exact Got.of hm (by simp) ⟨hr, by simp [hn], fun q hq => by rw [(List.mem_replicate.1 hq).2]; exact hy⟩ k
theorem zsum (c1 d1 : Nat) (hE : Er w aF aZ) (h1 : Tt w B1 a1 b1 zs m n qs k1) (hk : k1 ≤ 300) :
    Calls Tryz.prog 28 #[.agg #[.slice a1 m c1, .slice b1 n d1]] w fun e w' => e = .returned (.tuple #[.string (R (tot qs)), .int .i64 0]) ∧ Below w.heap.size w w' := by
  have k := Sum_R a1 b1 c1 d1 B1 k1 zs qs aF aZ w hE h1.tm h1.tr hk
  rw [mapR_len, h1.hm, h1.hn] at k
  exact k
theorem zright (c1 d1 : Nat) (hE : Er w aF aZ) (h1 : Tt w B1 a1 b1 zs m n qs k1) (hk : k1 ≤ 20000) :
    Calls Tryz.prog 30 #[.agg #[.slice a1 m c1, .slice b1 n d1]] w fun e w' => e = .returned (.bool true) ∧ Below w.heap.size w w' := by
  have k := right_R a1 b1 c1 d1 B1 k1 zs qs aF aZ w hE h1.tm h1.tr hk
  rw [mapR_len, h1.hm, h1.hn] at k
  exact k
theorem zeq (c1 d1 c2 d2 : Nat) (h1 : Tt w B1 a1 b1 zs m n qs k1) (h2 : Tt w B2 a2 b2 zs m n rs k2) (e : qs = rs) :
    Calls Tryz.prog 19 #[.agg #[.slice a1 m c1, .slice b1 n d1], .agg #[.slice a2 m c2, .slice b2 n d2]] w fun e w' => e = .returned (.bool true) ∧ Below w.heap.size w w' := by
  have l1 := h1.tr.zl
  have l2 := h1.tr.le
  have l3 := h2.tr.le
  have k := equal_any a1 b1 a2 b2 zs zs (qs.map R) (rs.map R) c1 d1 c2 d2 w B1 B2 h1.tm h2.tm (by omega) (by omega) (by rw [mapR_len]; omega) (by rw [mapR_len]; omega)
  rw [mapR_len, mapR_len, h1.hm, h1.hn, h2.hn, decide_eq_true (by rw [e]; exact ⟨rfl, rfl⟩)] at k
  exact k
theorem zsame (c1 c2 : Nat) (h1 : Sp.Sl w a1 zs) (h2 : Sp.Sl w a2 zs) (hm : zs.length = m) (hl : m ≤ 1000) :
    Calls Tryz.prog 23 #[.slice a1 m c1, .slice a2 m c2] w fun e w' => e = .returned (.bool true) ∧ Below w.heap.size w w' := by
  have k := Sp.refSame_any a1 a2 zs zs c1 c2 w (by omega) (by omega) h1 h2
  rw [hm, decide_eq_true rfl] at k
  exact k.mono fun e w' ⟨he, hs⟩ => ⟨he, hs.below _⟩
theorem small_below (c1 d1 : Nat) {xs : List ByteArray} (h1 : Tm w B1 a1 b1 zs xs) : Calls Tryz.prog 11 #[.agg #[.slice a1 zs.length c1, .slice b1 xs.length d1]] w fun e w' => e = .returned (.bool (small zs xs)) ∧ Below w.heap.size w w' :=
  (small_any a1 b1 zs xs c1 d1 w h1.r).mono fun e w' ⟨he, hs⟩ => ⟨he, by subst hs; exact bl_alloc (Below.refl _ _) _⟩
end
/-- a small tensor -/
theorem Tt.small {w : World} {B : Nat} {a b : Option Addr} {zs : List Int} {xs : List ByteArray} (h : Tm w B a b zs xs) (hs : Tn.small zs xs = true) (ht : tn zs xs = true) : ∃ qs : List Rat, xs = qs.map R ∧ Tt w B a b zs zs.length xs.length qs 40 := by
  obtain ⟨qs, rfl, hr, hl⟩ := tn_of ht
  refine ⟨qs, rfl, ⟨h, ⟨hr, hl, fun q hq => Bd.of_size ((small_of hs).2.2 _ (List.mem_map.2 ⟨q, hq, rfl⟩))⟩, rfl, (mapR_len qs).symm⟩⟩
theorem Ta.small {w : World} {B : Nat} {a b : Option Addr} {zs : List Int} {xs : List ByteArray} (h : Tm w B a b zs xs) (hs : Tn.small zs xs = true) : Ta w B a b zs xs := by
  have := small_of hs
  exact ⟨h, by omega, by omega, fun x hx => by have := this.2.2 x hx; omega⟩
/-- one number, without a shape -/
theorem Tt.one {w : World} {B b : Nat} {q : Rat} {k : Nat} (h : w.cell? ⟨b, 0, none⟩ = some (.string (R q))) (hb : B ≤ b) (hk : Bd q k) : Tt w B none (some ⟨b, 0, none⟩) [] 0 1 [q] k :=
  ⟨⟨Sp.Sl.nil _ _, Row.one h, (fun _ _ _ e => by cases e), fun _ _ _ e => by cases e; exact hb⟩, ⟨by decide, (by show 1 = Sp.szI []; decide), fun r hr => by rw [List.mem_singleton.1 hr]; exact hk⟩, rfl, rfl⟩
end Go.Proofs.YtjkobbpebnkimaaGreatDoor.Tn
