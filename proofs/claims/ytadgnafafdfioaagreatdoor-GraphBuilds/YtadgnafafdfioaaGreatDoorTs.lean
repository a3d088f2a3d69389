/-
  ROWS OF ONE-CELL VALUES IN MEMORY, append ONTO ONE'S OWN; LISTS OF RATIONALS, NUMBER BY NUMBER, AND HOW LONG THEIR SUMS GROW. Nothing of the program's text is named here. No conditions.
-/
import Derived.Test.YtadgnafafdfioaaGreatDoorRt
import Derived.WalkKit
import Derived.WalkSpells
import Derived.WalkLawsBesides
namespace Go.Proofs.YtadgnafafdfioaaGreatDoor
section
set_option maxRecDepth 100000
open Go.RowKit
set_option linter.unusedVariables false

/-- a slice, at whatever address, holds these cells -/
def Row (w : World) (ao : Option Addr) (vs : List Value) : Prop := ∀ i v, vs[i]? = some v → ∃ b off, ao = some ⟨b, off, none⟩ ∧ w.cell? ⟨b, off + i, none⟩ = some v

theorem row_lt {w : World} {a : Addr} {v : Value} (h : w.cell? a = some v) : a.block < w.heap.size := by
  rcases Nat.lt_or_ge a.block w.heap.size with c | c
  · exact c
  · simp [World.cell?, Array.getElem?_eq_none c] at h
theorem Row.below {w w' : World} {ao : Option Addr} {vs : List Value} (h : Row w ao vs) (hb : Below w.heap.size w w') : Row w' ao vs := by
  intro i v hi
  obtain ⟨b, off, e, hc⟩ := h i v hi
  exact ⟨b, off, e, by rw [hb.cell (p := ⟨b, off + i, none⟩) (row_lt hc)]; exact hc⟩
theorem Row.nil (w : World) (ao : Option Addr) : Row w ao [] := fun i v hi => by simp at hi
theorem Row.bare {w : World} {vs : List Value} (h : Row w none vs) : vs = [] := by
  cases vs with
  | nil => rfl
  | cons v vs => obtain ⟨b, off, e, _⟩ := h 0 v rfl; cases e
theorem row_add (b off j : Nat) : (⟨b, off, none⟩ : Addr).add j = ⟨b, off + j, none⟩ := by unfold Addr.add; split <;> simp_all
theorem Row.news {w : World} {ad : Addr} {vs : List Value} (h : Row w (some ad) vs) : ∀ j u, vs[j]? = some u → w.cell? (ad.add j) = some u := by
  intro j u hj
  obtain ⟨b, off, e, hc⟩ := h j u hj
  cases e
  rw [row_add]; exact hc
theorem Row.one {w : World} {b : Nat} {v : Value} (h : w.cell? ⟨b, 0, none⟩ = some v) : Row w (some ⟨b, 0, none⟩) [v] := by
  intro i u hi
  cases i with
  | zero => simp at hi; subst hi; exact ⟨b, 0, rfl, h⟩
  | succ i => simp at hi
theorem Row.two {w : World} {b : Nat} {v u : Value} (h : w.cell? ⟨b, 0, none⟩ = some v) (h1 : w.cell? ⟨b, 1, none⟩ = some u) : Row w (some ⟨b, 0, none⟩) [v, u] := by
  intro i x hi
  match i, hi with
  | 0, hi => simp at hi; subst hi; exact ⟨b, 0, rfl, h⟩
  | 1, hi => simp at hi; subst hi; exact ⟨b, 0, rfl, h1⟩
  | i + 2, hi => simp at hi
theorem Row.of_own {w : World} {base e n : Nat} {v : Value} {vs : List Value} (h : w.ownsRow base e 1 v n vs) :
    ∃ ao cap, v = .slice ao n cap ∧ Row w ao vs ∧ (ao = none → n = 0 ∧ cap = 0) ∧ n ≤ cap ∧ vs.length = n ∧ ∀ b off sp, ao = some ⟨b, off, sp⟩ → off = 0 ∧ base ≤ b ∧ b < w.heap.size ∧ (∀ i, w.frozen? ⟨b, i, none⟩ = false) := by
  have h0 := h
  have hl : vs.length = n := by have := h.1; omega
  rcases h.2 with ⟨h1, h2⟩ | ⟨g, c, cur, h1, h2, h3, h4, _⟩
  · subst h1 h2
    rw [List.eq_nil_of_length_eq_zero hl]
    exact ⟨none, 0, rfl, Row.nil _ _, fun _ => ⟨rfl, rfl⟩, by omega, by simp, fun b off sp hg => by cases hg⟩
  · subst h1
    refine ⟨some ⟨g, 0, none⟩, c, rfl, fun i u hi => ?_, (fun h => by cases h), by omega, hl, fun b off sp hg => ?_⟩
    · have hi2 : i < n := by have := (List.getElem?_eq_some_iff.1 hi).1; omega
      exact ⟨g, 0, rfl, by rw [Nat.zero_add, h0.cellAt i (by omega)]; exact hi⟩
    · cases hg
      exact ⟨rfl, h2, (h0.lt g rfl).2, fun i => h0.frozenAt i⟩

/-- append onto a slice of one's own, whatever is appended (nil, empty or not), guarded or not -/
theorem wpList_append_row {P : Program} {w : World} {ops : Array Oper} {rest : List Oper} {o : Oper} {a : Act} {Q : Exit → Act → World → Prop} (s x : Operand) (t : TypeId)
    (ho : o.op = .call { callee := .builtin .append, args := #[s, x], argTypes := #[t, t] })
    (base : Nat) (e : TypeId) (i : TypeInfo) (z : Value) (bytes : Nat) (ht : P.underlying t = some (.slice e)) (hi : P.info? e = some i) (hz : i.zero = some z)
    (hsize : i.size = 1) (hby : i.bytes = bytes) (hzs : z.cells.size = 1)
    (v : Value) (n : Nat) (xs : List Value) (hs : a.eval s = v) (hown : w.ownsRow base e 1 v n xs)
    (ao : Option Addr) (m c : Nat) (zs : List Value) (hx : a.eval x = .slice ao m c) (hl : zs.length = m) (hS : Row w ao zs) (h1 : ∀ u ∈ zs, u.oneCell' = true) (hN : ao = none → c = 0)
    (h63 : n + m ≤ maxLen) (hbytes : (n + m) * bytes ≤ 140737488355328) (hbase : base ≤ w.heap.size) (hwant : Region.wanted o (yielded ops a.tmps) = true)
    (h : ∀ v' w', w'.ownsRow base e 1 v' (n + m) (xs ++ zs) → w.grownBy w' v.ownBlock → wpList P ops Q rest (a.put o.dst v') w') : wpList P ops Q (o :: rest) a w := by
  unfold wpList
  rw [if_pos hwant]
  left
  cases ao with
  | some ad =>
    exact wp_append_own w s x t ho base e i z 1 bytes ht hi hz hsize hby hzs (by decide) v n xs hs hown ad m c zs hx (by omega) hS.news h1 h63 hbytes hbase
      (fun v' w' h1 h2 _ => h v' w' h1 h2)
  | none =>
    obtain rfl := hS.bare
    obtain rfl := hN rfl
    obtain rfl : m = 0 := by simpa using hl.symm
    have hrun := run_append_owned_none (P := P) w base t o.type e i 1 ht hi v n xs hown
    unfold Oper.wp
    simp [execOp, ho, resolve, invoke, builtin, hs, hx, hrun, Result.andThen]
    exact h v w (by simpa using hown) (World.grownBy.refl _ _)

/-- texts, as cells -/
def txts (xs : List ByteArray) : List Value := xs.map Value.string
theorem txts_one (xs : List ByteArray) : ∀ u ∈ txts xs, u.oneCell' = true := by
  intro u hu
  obtain ⟨i, _, rfl⟩ := List.mem_map.1 hu
  rfl
theorem txts_len (xs : List ByteArray) : (txts xs).length = xs.length := by simp [txts]
theorem txts_app (a b : List ByteArray) : txts (a ++ b) = txts a ++ txts b := by simp [txts]
theorem txts_at {xs : List ByteArray} {i : Nat} (h : i < xs.length) : (txts xs)[i]? = some (.string (xs.getD i ByteArray.empty)) := by
  simp [txts, List.getD, h]
end
end Go.Proofs.YtadgnafafdfioaaGreatDoor
namespace Go.Proofs.YtadgnafafdfioaaGreatDoor
section
set_option linter.unusedVariables false

/-- the sum of all, from the first on -/
def tot (l : List Rat) : Rat := l.foldl (· + ·) 0
theorem fold_from (l : List Rat) (x : Rat) : l.foldl (· + ·) x = x + tot l := by
  unfold tot
  induction l generalizing x with
  | nil => simp only [List.foldl_nil]; grind
  | cons a l ih => simp only [List.foldl_cons]; rw [ih (x + a), ih (0 + a)]; grind
theorem tot_nil : tot [] = 0 := rfl
theorem tot_cons (a : Rat) (l : List Rat) : tot (a :: l) = a + tot l := by
  unfold tot
  rw [List.foldl_cons, fold_from l (0 + a)]
  have : l.foldl (· + ·) 0 = tot l := rfl
  grind
theorem tot_one (a : Rat) : tot [a] = a := by rw [tot_cons, tot_nil]; grind
theorem tot_snoc (l : List Rat) (a : Rat) : tot (l ++ [a]) = tot l + a := by
  unfold tot
  rw [List.foldl_append]; rfl
theorem tot_zip {l m : List Rat} (h : l.length = m.length) : tot (List.zipWith (· + ·) l m) = tot l + tot m := by
  induction l generalizing m with
  | nil => cases m with
    | nil => simp [tot]; grind
    | cons b m => simp at h
  | cons a l ih => cases m with
    | nil => simp at h
    | cons b m =>
      simp only [List.zipWith_cons_cons]
      rw [tot_cons, tot_cons, tot_cons, ih (by simpa using h)]
      grind
theorem tot_times (l : List Rat) (k : Rat) : tot (l.map (· * k)) = tot l * k := by
  induction l with
  | nil => simp [tot]
  | cons a l ih => simp only [List.map_cons]; rw [tot_cons, tot_cons, ih]; grind
theorem zip_comm (l m : List Rat) : List.zipWith (· + ·) l m = List.zipWith (· + ·) m l := by
  induction l generalizing m with
  | nil => cases m <;> simp
  | cons a l ih => cases m with
    | nil => simp
    | cons b m => simp only [List.zipWith_cons_cons, ih m]; congr 1; grind
theorem zip_times_comm (l m : List Rat) : List.zipWith (· * ·) l m = List.zipWith (· * ·) m l := by
  induction l generalizing m with
  | nil => cases m <;> simp
  | cons a l ih => cases m with
    | nil => simp
    | cons b m => simp only [List.zipWith_cons_cons, ih m]; congr 1; grind
theorem zip_sub (l m : List Rat) : List.zipWith (· - ·) l m = List.zipWith (· + ·) l (m.map (· * (-1))) := by
  induction l generalizing m with
  | nil => cases m <;> simp
  | cons a l ih => cases m with
    | nil => simp
    | cons b m => simp only [List.zipWith_cons_cons, List.map_cons, ih m]; congr 1; grind
theorem zip_self (l : List Rat) : List.zipWith (· - ·) l l = List.replicate l.length 0 := by
  induction l with
  | nil => rfl
  | cons a l ih => simp only [List.zipWith_cons_cons, List.length_cons, List.replicate_succ, ih]; congr 1; grind
theorem zip_square (l : List Rat) : List.zipWith (· * ·) l l = l.map (· ^ 2) := by
  induction l with
  | nil => rfl
  | cons a l ih => simp only [List.zipWith_cons_cons, List.map_cons, ih]; congr 1; grind
theorem zip_over (a b c : List Rat) : List.zipWith (· * ·) a (List.zipWith (· + ·) b c) = List.zipWith (· + ·) (List.zipWith (· * ·) a b) (List.zipWith (· * ·) c a) := by
  induction a generalizing b c with
  | nil => simp
  | cons x a ih => cases b with
    | nil => simp
    | cons y b => cases c with
      | nil => simp
      | cons z c => simp only [List.zipWith_cons_cons, ih b c]; congr 1; grind
theorem scale_twice (l : List Rat) (k m : Rat) : (l.map (· * k)).map (· * m) = l.map (· * (k * m)) := by
  induction l with
  | nil => rfl
  | cons a l ih => simp only [List.map_cons, ih]; congr 1; grind
theorem scale_one (l : List Rat) : l.map (· * 1) = l := by
  induction l with
  | nil => rfl
  | cons a l ih => simp only [List.map_cons, ih]; congr 1; grind
theorem scale_none (l : List Rat) : l.map (· * 0) = List.replicate l.length 0 := by
  induction l with
  | nil => rfl
  | cons a l ih => simp only [List.map_cons, List.length_cons, List.replicate_succ, ih]; congr 1; grind
end
end Go.Proofs.YtadgnafafdfioaaGreatDoor
namespace Go.Proofs.YtadgnafafdfioaaGreatDoor
section
set_option maxRecDepth 100000
open Go.RowKit Nm
set_option linter.unusedVariables false

theorem tl_plus {x y k : Nat} (hx : tl x ≤ k) (hy : tl y ≤ k) : tl (x + y) ≤ k + 1 := by
  have h1 : x < 10 ^ k := Nat.lt_of_lt_of_le (lt_tl x) (Nat.pow_le_pow_right (by omega) hx)
  have h2 : y < 10 ^ k := Nat.lt_of_lt_of_le (lt_tl y) (Nat.pow_le_pow_right (by omega) hy)
  refine tl_le ?_ (by omega)
  rw [Nat.pow_succ]; omega
theorem Bd.plus {a b : Rat} {n m : Nat} (h : Bd a n) (k : Bd b m) : Bd (a + b) (n + m + 1) := by
  rw [Rat.add_def]
  have h1 := tl_mul a.num.natAbs b.den
  have h2 := tl_mul b.num.natAbs a.den
  have p1 := h.1
  have p2 := k.1
  have p3 := h.2
  have p4 := k.2
  have h3 := tl_plus (x := a.num.natAbs * b.den) (y := b.num.natAbs * a.den) (k := n + m) (by omega) (by omega)
  have h4 := tl_mul a.den b.den
  have h5 := tl_mono (Int.natAbs_add_le (a.num * b.den) (b.num * a.den))
  rw [Int.natAbs_mul, Int.natAbs_mul, Int.natAbs_natCast, Int.natAbs_natCast] at h5
  exact Bd.low _ (by omega) (by omega)
theorem Bd.minus {a b : Rat} {n m : Nat} (h : Bd a n) (k : Bd b m) : Bd (a - b) (n + m + 1) := by
  rw [Rat.sub_eq_add_neg]; exact h.plus k.neg
theorem Bd.zero : Bd (0 : Rat) 1 := ⟨tl_le (by decide) (by omega), tl_le (by decide) (by omega)⟩
theorem Bd.tot {l : List Rat} {n : Nat} (h : ∀ r, r ∈ l → Bd r n) : Bd (tot l) (l.length * (n + 1) + 1) := by
  induction l with
  | nil => rw [tot_nil, List.length_nil, Nat.zero_mul]; exact Bd.zero
  | cons a l ih =>
    rw [tot_cons]
    have h1 := (h a List.mem_cons_self).plus (ih fun r hr => h r (List.mem_cons_of_mem _ hr))
    refine h1.mono ?_
    rw [List.length_cons, Nat.add_mul, Nat.one_mul]; omega
theorem Bd.tot_take {l : List Rat} {n : Nat} (h : ∀ r, r ∈ l → Bd r n) (k : Nat) : Bd (Go.Proofs.YtadgnafafdfioaaGreatDoor.tot (l.take k)) (l.length * (n + 1) + 1) := by
  refine (Bd.tot (l := l.take k) fun r hr => h r (List.mem_of_mem_take hr)).mono ?_
  have : (l.take k).length ≤ l.length := by rw [List.length_take]; omega
  have := Nat.mul_le_mul_right (n + 1) this
  omega
end
end Go.Proofs.YtadgnafafdfioaaGreatDoor
