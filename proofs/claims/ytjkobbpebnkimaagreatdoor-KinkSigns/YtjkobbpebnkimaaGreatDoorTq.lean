/-
  TENSORS OF RATIONALS: what calls of package tensor give, in lists of rationals. Conditions: sizes; the package's errors stand where they were laid.
-/
import Derived.Test.YtjkobbpebnkimaaGreatDoorSu
namespace Go.Proofs.YtjkobbpebnkimaaGreatDoor.Tn
set_option maxRecDepth 100000
open Go.RowKit Nm
set_option linter.unusedVariables false

/-! the map of operations, asked -/
abbrev sAdd : ByteArray := ⟨#[97, 100, 100]⟩
abbrev sSub : ByteArray := ⟨#[115, 117, 98]⟩
abbrev sMul : ByteArray := ⟨#[109, 117, 108]⟩
def known (op : ByteArray) : Bool := decide (op = sAdd) || (decide (op = sSub) || decide (op = sMul))
/-- what the map answers -/
abbrev Asked (op : ByteArray) (v : Value) (b : Bool) : Prop := ∀ (u : World) (r : Nat), u.heap[r]? = some (.map opsMap 3) → (Instr.lookup 64 (.map (some r)) (.string op) true).run Tryz.prog u = .ok (.tuple #[v, .bool b]) u
theorem ask_add : Asked sAdd (.func (.func 51) #[] #[]) true := fun u r h => run_look Tryz.underlying64 Tryz.underlying9 (by decide) h (by rw [find_ops, if_pos rfl])
theorem ask_sub : Asked sSub (.func (.func 67) #[] #[]) true := fun u r h => run_look Tryz.underlying64 Tryz.underlying9 (by decide) h (by rw [find_ops, if_neg (by decide), if_pos rfl])
theorem ask_mul : Asked sMul (.func (.func 50) #[] #[]) true := fun u r h => run_look Tryz.underlying64 Tryz.underlying9 (by decide) h (by rw [find_ops, if_neg (by decide), if_neg (by decide), if_pos rfl])
theorem ask_no {op : ByteArray} (h : known op = false) (hs : op.size ≤ maxLen) : Asked op .nilFunc false := fun u r hu => by
  unfold known at h
  simp only [Bool.or_eq_false_iff, decide_eq_false_iff_not] at h
  exact run_look_no Tryz.underlying64 Tryz.underlying9 hs hu (by rw [find_ops, if_neg h.1, if_neg h.2.1, if_neg h.2.2]) (zero58 u)
theorem ask_any {op : ByteArray} (h : known op = true) : ∃ f, Asked op (.func (.func f) #[] #[]) true := by
  unfold known at h
  simp only [Bool.or_eq_true, decide_eq_true_eq] at h
  rcases h with rfl | rfl | rfl
  · exact ⟨_, ask_add⟩
  · exact ⟨_, ask_sub⟩
  · exact ⟨_, ask_mul⟩

/-! lists of rationals -/
theorem all_R (qs : List Rat) : (qs.map R).all ra = true := by
  rw [List.all_eq_true]
  intro x hx
  obtain ⟨r, _, rfl⟩ := List.mem_map.1 hx
  exact ra_R r
theorem tn_R {zs : List Int} {qs : List Rat} (hr : Sp.Rgt zs) (hl : qs.length = Sp.szI zs) : tn zs (qs.map R) = true := by
  unfold tn
  rw [decide_eq_true hr, mapR_len, decide_eq_true hl, all_R]; rfl
theorem all_of {xs : List ByteArray} (h : xs.all ra = true) : ∃ qs : List Rat, xs = qs.map R := by
  induction xs with
  | nil => exact ⟨[], rfl⟩
  | cons x xs ih =>
    simp only [List.all_cons, Bool.and_eq_true] at h
    obtain ⟨r, hr⟩ := R_of h.1
    obtain ⟨qs, hq⟩ := ih h.2
    exact ⟨r :: qs, by rw [hr, hq]; rfl⟩
theorem tn_of {zs : List Int} {xs : List ByteArray} (h : tn zs xs = true) : ∃ qs : List Rat, xs = qs.map R ∧ Sp.Rgt zs ∧ qs.length = Sp.szI zs := by
  unfold tn at h
  simp only [Bool.and_eq_true, decide_eq_true_eq] at h
  obtain ⟨qs, rfl⟩ := all_of h.2.2
  exact ⟨qs, rfl, h.1, by rw [← mapR_len]; exact h.2.1⟩
/-- a tensor's numbers, none too long -/
structure Tr (zs : List Int) (qs : List Rat) (n : Nat) : Prop where
  r : Sp.Rgt zs
  l : qs.length = Sp.szI zs
  b : ∀ q, q ∈ qs → Bd q n
theorem Tr.mono {zs : List Int} {qs : List Rat} {n m : Nat} (h : Tr zs qs n) (k : n ≤ m) : Tr zs qs m := ⟨h.r, h.l, fun q hq => (h.b q hq).mono k⟩
theorem Tr.tn {zs : List Int} {qs : List Rat} {n : Nat} (h : Tr zs qs n) : tn zs (qs.map R) = true := tn_R h.r h.l
theorem Tr.le {zs : List Int} {qs : List Rat} {n : Nat} (h : Tr zs qs n) : qs.length ≤ 64 := by rw [h.l]; exact Sp.szI_le zs
theorem Tr.pos {zs : List Int} {qs : List Rat} {n : Nat} (h : Tr zs qs n) : 0 < qs.length := by rw [h.l]; exact (Sp.szI_pos zs).2 h.r
theorem Tr.zl {zs : List Int} {qs : List Rat} {n : Nat} (h : Tr zs qs n) : zs.length ≤ 4 := h.r.1
theorem Bd.size {r : Rat} {n m : Nat} (h : Bd r n) (hm : 2 * n + 2 ≤ m) : (R r).size ≤ m := by have := R_size r; have := h.1; have := h.2; omega
theorem mem_getD (qs : List Rat) {i : Nat} (h : i < qs.length) : qs.getD i 0 ∈ qs := by simp [List.getD, h]
theorem Tr.at {zs : List Int} {qs : List Rat} {n : Nat} (h : Tr zs qs n) {i : Nat} (hi : i < qs.length) {m : Nat} (hm : 2 * n + 2 ≤ m) : (R (qs.getD i 0)).size ≤ m := Bd.size (h.b _ (mem_getD qs hi)) hm
theorem Tr.all {zs : List Int} {qs : List Rat} {n : Nat} (h : Tr zs qs n) {m : Nat} (hm : 2 * n + 2 ≤ m) : ∀ x, x ∈ qs.map R → x.size ≤ m := by
  intro x hx
  obtain ⟨r, hr, rfl⟩ := List.mem_map.1 hx
  exact Bd.size (h.b r hr) hm

theorem right_R (a1 b1 : Option Addr) (c1 d1 B n : Nat) (zs : List Int) (qs : List Rat) (aF aZ : Addr) (w : World) (hE : Er w aF aZ) (h : Tm w B a1 b1 zs (qs.map R)) (t : Tr zs qs n) (hn : n ≤ 20000) :
    Calls Tryz.prog 30 #[.agg #[.slice a1 zs.length c1, .slice b1 (qs.map R).length d1]] w fun e w' => e = .returned (.bool true) ∧ Below w.heap.size w w' := by
  have := t.zl
  have k := right_any a1 b1 zs (qs.map R) c1 d1 aF aZ w hE h.s h.r (by omega) (by rw [mapR_len]; have := t.le; omega) (t.all (by omega))
  rw [t.tn] at k
  exact k

theorem zip_len (F : Rat → Rat → Rat) {qs rs : List Rat} (h : rs.length = qs.length) : (List.zipWith F qs rs).length = qs.length := by simp [h]
theorem zip_at (F : Rat → Rat → Rat) {qs rs : List Rat} {i : Nat} (h1 : i < qs.length) (h2 : i < rs.length) : (List.zipWith F qs rs).getD i 0 = F (qs.getD i 0) (rs.getD i 0) := by
  have h : i < (List.zipWith F qs rs).length := by simp; omega
  simp [List.getD, h1, h2, List.getElem?_eq_getElem h]
theorem map_at (F : Rat → Rat) {qs : List Rat} {i : Nat} (h1 : i < qs.length) : (qs.map F).getD i 0 = F (qs.getD i 0) := by simp [List.getD, h1]

/-- what is answered: a tensor of these rationals, behind block B -/
abbrev Ans (B : Nat) (zs : List Int) (qs : List Rat) (e : Ending) (w' : World) : Prop := ∃ a3 c3 b3 d3, e = .returned (.tuple #[.agg #[.slice a3 zs.length c3, .slice b3 (qs.map R).length d3], .int .i64 0]) ∧ Tm w' B a3 b3 zs (qs.map R)

theorem Zip_gen (f : Nat) (F : Rat → Rat → Rat) (op : ByteArray) (hcf : ∀ (args : Array Value) (w : World), (callFunc f args).run Tryz.prog w = .ok (.enter f args) w) (hop : Asked op (.func (.func f) #[] #[]) true)
    (hF : ∀ x y v, (R x).size ≤ 50000 → (R y).size ≤ 50000 → Calls Tryz.prog f #[.string (R x), .string (R y)] v fun e v' => e = .returned (.tuple #[.string (R (F x y)), .int .i64 0]) ∧ Below v.heap.size v v')
    (a1 b1 a2 b2 : Option Addr) (c1 d1 c2 d2 B1 B2 n : Nat) (zs : List Int) (qs rs : List Rat) (aF aZ : Addr) (w : World) (hE : Er w aF aZ)
    (h1 : Tm w B1 a1 b1 zs (qs.map R)) (h2 : Tm w B2 a2 b2 zs (rs.map R)) (t1 : Tr zs qs n) (t2 : Tr zs rs n) (hn : n ≤ 20000) :
    Calls Tryz.prog 25 #[.string op, .agg #[.slice a1 zs.length c1, .slice b1 (qs.map R).length d1], .agg #[.slice a2 zs.length c2, .slice b2 (rs.map R).length d2]] w
      fun e w' => Ans w.heap.size zs (List.zipWith F qs rs) e w' ∧ Below w.heap.size w w' := by
  have hl : rs.length = qs.length := by rw [t1.l, t2.l]
  have h64 := t1.le
  have hz := t1.zl
  have el : ((List.zipWith F qs rs).map R).length = (qs.map R).length := by rw [mapR_len, mapR_len, zip_len F hl]
  have key := zip_yes f (qs.map R).length (rs.map R).length c1 d1 c2 d2 zs.length zs.length a1 b1 a2 b2 zs ((List.zipWith F qs rs).map R) op w hop
    (fun v hv => right_R a1 b1 c1 d1 B1 n zs qs aF aZ v (hE.below hv) (h1.below hv) t1 hn)
    (fun v hv => right_R a2 b2 c2 d2 B2 n zs rs aF aZ v (hE.below hv) (h2.below hv) t2 hn)
    (fun v hv => by
      have k := Sp.same_any a1 a2 zs zs c1 c2 v (by omega) (by omega) (h1.s.below hv) (h2.s.below hv)
      rw [decide_eq_true rfl] at k
      exact k)
    (fun v J hv hJ ha hb => by
      have k := made_any a1 zs c1 45 #[.pointer (some ⟨J, 0, none⟩), .pointer (some ⟨w.heap.size, 0, none⟩), .pointer (some ⟨w.heap.size + 1, 0, none⟩)] ((List.zipWith F qs rs).map R) v t1.r (h1.s.below hv)
        (by rw [el, mapR_len, t1.l]) cf45 (fun i u hi hu => by
          have hi1 : i < qs.length := by rw [el, mapR_len] at hi; exact hi
          have hi2 : i < rs.length := by omega
          obtain ⟨p1, q1, e1, x1⟩ := row_str ((h1.r.below hv).below hu) (i := i) (by rw [mapR_len]; exact hi1)
          obtain ⟨p2, q2, e2, x2⟩ := row_str ((h2.r.below hv).below hu) (i := i) (by rw [mapR_len]; exact hi2)
          subst e1 e2
          rw [mapR_at qs hi1] at x1
          rw [mapR_at rs hi2] at x2
          rw [mapR_at _ (by rw [zip_len F hl]; exact hi1), zip_at F hi1 hi2]
          have s1 := t1.at hi1 (m := 50000) (by omega)
          have s2 := t2.at hi2 (m := 50000) (by omega)
          have := zip1_any f i (qs.map R).length (rs.map R).length d1 d2 p1 q1 p2 q2 J w.heap.size (w.heap.size + 1) (R (qs.getD i 0)) (R (rs.getD i 0)) (R (F (qs.getD i 0) (rs.getD i 0))) 0 u
            (by rw [mapR_len]; exact hi1) (by rw [mapR_len]; exact hi2) (by rw [mapR_len]; omega) (by rw [mapR_len]; omega) hcf (cell_below hu hJ) (cell_below hu ha) (cell_below hu hb) x1 x2
            (fun v' hv' => hF _ _ v' s1 s2)
          simpa using this)
      rw [el] at k
      exact k)
  refine key.mono ?_
  rintro e w' ⟨a3, c3, b3, d3, rfl, hT, hB⟩
  exact ⟨⟨a3, c3, b3, d3, by rw [el], hT⟩, hB⟩

/-- an argument of any kind: sizes -/
structure Ta (w : World) (B : Nat) (a1 b1 : Option Addr) (zs : List Int) (xs : List ByteArray) : Prop where
  m : Tm w B a1 b1 zs xs
  zl : zs.length ≤ 1000
  xl : xs.length ≤ 1000
  sz : ∀ x, x ∈ xs → x.size ≤ 200000
theorem Ta.below {w w' : World} {B : Nat} {a1 b1 : Option Addr} {zs : List Int} {xs : List ByteArray} (h : Ta w B a1 b1 zs xs) (hb : Below w.heap.size w w') : Ta w' B a1 b1 zs xs := ⟨h.m.below hb, h.zl, h.xl, h.sz⟩
theorem Ta.of {w : World} {B n : Nat} {a1 b1 : Option Addr} {zs : List Int} {qs : List Rat} (h : Tm w B a1 b1 zs (qs.map R)) (t : Tr zs qs n) (hn : n ≤ 20000) : Ta w B a1 b1 zs (qs.map R) := by
  have := t.zl
  have := t.le
  exact ⟨h, by omega, by rw [mapR_len]; omega, t.all (by omega)⟩
theorem Ta.right {w : World} {B : Nat} {a1 b1 : Option Addr} {zs : List Int} {xs : List ByteArray} (h : Ta w B a1 b1 zs xs) (c1 d1 : Nat) {aF aZ : Addr} (hE : Er w aF aZ) :
    Calls Tryz.prog 30 #[.agg #[.slice a1 zs.length c1, .slice b1 xs.length d1]] w fun e w' => e = .returned (.bool (tn zs xs)) ∧ Below w.heap.size w w' :=
  right_any a1 b1 zs xs c1 d1 aF aZ w hE h.m.s h.m.r h.zl h.xl h.sz

theorem Zip_add (a1 b1 a2 b2 : Option Addr) (c1 d1 c2 d2 B1 B2 n : Nat) (zs : List Int) (qs rs : List Rat) (aF aZ : Addr) (w : World) (hE : Er w aF aZ)
    (h1 : Tm w B1 a1 b1 zs (qs.map R)) (h2 : Tm w B2 a2 b2 zs (rs.map R)) (t1 : Tr zs qs n) (t2 : Tr zs rs n) (hn : n ≤ 20000) :
    Calls Tryz.prog 25 #[.string sAdd, .agg #[.slice a1 zs.length c1, .slice b1 (qs.map R).length d1], .agg #[.slice a2 zs.length c2, .slice b2 (rs.map R).length d2]] w
      fun e w' => Ans w.heap.size zs (List.zipWith (· + ·) qs rs) e w' ∧ Below w.heap.size w w' :=
  Zip_gen 51 (· + ·) sAdd cf51 ask_add (fun x y v hx hy => Add_R x y v hx hy) a1 b1 a2 b2 c1 d1 c2 d2 B1 B2 n zs qs rs aF aZ w hE h1 h2 t1 t2 hn
theorem Zip_sub (a1 b1 a2 b2 : Option Addr) (c1 d1 c2 d2 B1 B2 n : Nat) (zs : List Int) (qs rs : List Rat) (aF aZ : Addr) (w : World) (hE : Er w aF aZ)
    (h1 : Tm w B1 a1 b1 zs (qs.map R)) (h2 : Tm w B2 a2 b2 zs (rs.map R)) (t1 : Tr zs qs n) (t2 : Tr zs rs n) (hn : n ≤ 20000) :
    Calls Tryz.prog 25 #[.string sSub, .agg #[.slice a1 zs.length c1, .slice b1 (qs.map R).length d1], .agg #[.slice a2 zs.length c2, .slice b2 (rs.map R).length d2]] w
      fun e w' => Ans w.heap.size zs (List.zipWith (· - ·) qs rs) e w' ∧ Below w.heap.size w w' :=
  Zip_gen 67 (· - ·) sSub cf67 ask_sub (fun x y v hx hy => Sub_R x y v hx hy) a1 b1 a2 b2 c1 d1 c2 d2 B1 B2 n zs qs rs aF aZ w hE h1 h2 t1 t2 hn
theorem Zip_mul (a1 b1 a2 b2 : Option Addr) (c1 d1 c2 d2 B1 B2 n : Nat) (zs : List Int) (qs rs : List Rat) (aF aZ : Addr) (w : World) (hE : Er w aF aZ)
    (h1 : Tm w B1 a1 b1 zs (qs.map R)) (h2 : Tm w B2 a2 b2 zs (rs.map R)) (t1 : Tr zs qs n) (t2 : Tr zs rs n) (hn : n ≤ 20000) :
    Calls Tryz.prog 25 #[.string sMul, .agg #[.slice a1 zs.length c1, .slice b1 (qs.map R).length d1], .agg #[.slice a2 zs.length c2, .slice b2 (rs.map R).length d2]] w
      fun e w' => Ans w.heap.size zs (List.zipWith (· * ·) qs rs) e w' ∧ Below w.heap.size w w' :=
  Zip_gen 50 (· * ·) sMul cf50 ask_mul (fun x y v hx hy => Mul_R x y v hx hy) a1 b1 a2 b2 c1 d1 c2 d2 B1 B2 n zs qs rs aF aZ w hE h1 h2 t1 t2 hn

/-- may both be put together? -/
def fits (op : ByteArray) (zs us : List Int) (xs ys : List ByteArray) : Bool := known op && (tn zs xs && tn us ys)
theorem Zip_no (a1 b1 a2 b2 : Option Addr) (c1 d1 c2 d2 B1 B2 : Nat) (zs us : List Int) (xs ys : List ByteArray) (op : ByteArray) (hos : op.size ≤ maxLen) (aF aZ : Addr) (w : World) (hE : Er w aF aZ)
    (h1 : Ta w B1 a1 b1 zs xs) (h2 : Ta w B2 a2 b2 us ys) (hbad : ¬ (fits op zs us xs ys = true ∧ zs = us)) :
    Calls Tryz.prog 25 #[.string op, .agg #[.slice a1 zs.length c1, .slice b1 xs.length d1], .agg #[.slice a2 us.length c2, .slice b2 ys.length d2]] w
      fun e w' => e = .returned (noTensor (if fits op zs us xs ys = true then 4 else 1)) ∧ Below w.heap.size w w' := by
  have k1 := fun (v : World) (hv : Below w.heap.size w v) => (h1.below hv).right c1 d1 (hE.below hv)
  have k2 := fun (v : World) (hv : Below w.heap.size w v) => (h2.below hv).right c2 d2 (hE.below hv)
  have k3 := fun (v : World) (hv : Below w.heap.size w v) => Sp.same_any a1 a2 zs us c1 c2 v h1.zl h2.zl (h1.m.s.below hv) (h2.m.s.below hv)
  unfold fits at *
  cases e0 : known op with
  | false => simp only [Bool.false_and, Bool.false_eq_true, if_false]; exact zip_op_no _ _ c1 d1 c2 d2 _ _ a1 b1 a2 b2 op w (ask_no e0 hos)
  | true =>
    obtain ⟨f, hop⟩ := ask_any e0
    cases e1 : tn zs xs with
    | false =>
      rw [e1] at k1
      simp only [Bool.false_and, Bool.and_false, Bool.false_eq_true, if_false]
      exact zip_a_no f _ _ c1 d1 c2 d2 _ _ a1 b1 a2 b2 op w hop k1
    | true =>
      rw [e1] at k1
      cases e2 : tn us ys with
      | false =>
        rw [e2] at k2
        simp only [Bool.and_false, Bool.false_eq_true, if_false]
        exact zip_b_no f _ _ c1 d1 c2 d2 _ _ a1 b1 a2 b2 op w hop k1 k2
      | true =>
        rw [e2] at k2
        have hne : ¬ zs = us := fun c => hbad ⟨by rw [e0, e1, e2]; rfl, c⟩
        rw [decide_eq_false hne] at k3
        simp only [Bool.and_self, if_true]
        exact zip_s_no f _ _ c1 d1 c2 d2 _ _ a1 b1 a2 b2 op w hop k1 k2 k3

theorem Fill_R (a1 : Option Addr) (c1 : Nat) (zs : List Int) (y : Rat) (aF aZ : Addr) (w : World) (hE : Er w aF aZ) (hr : Sp.Rgt zs)
    (h1 : Sp.Sl w a1 zs) (hy : (R y).size ≤ 50000) :
    Calls Tryz.prog 26 #[.slice a1 zs.length c1, .string (R y)] w
      fun e w' => Ans w.heap.size zs (List.replicate (Sp.szI zs) y) e w' ∧ Below w.heap.size w w' := by
  have hz := hr.1
  refine (fill_yes ((List.replicate (Sp.szI zs) y).map R).length c1 0 zs.length a1 none (R y) zs ((List.replicate (Sp.szI zs) y).map R) w
    (fun v hv => by
      have k := Sp.right_any a1 zs c1 v (by omega) (h1.below hv)
      rw [decide_eq_true hr] at k
      exact k)
    (fun v hv => Right_R y v (by omega))
    (fun v hv hb => made_any a1 zs c1 48 #[.pointer (some ⟨w.heap.size, 0, none⟩)] ((List.replicate (Sp.szI zs) y).map R) v hr (h1.below hv)
        (by simp) cf48 (fun i u hi hu => by
          have hi1 : i < Sp.szI zs := by simpa using hi
          have e : ((List.replicate (Sp.szI zs) y).map R).getD i ByteArray.empty = R y := by simp [List.getD, hi1]
          rw [e]
          have := fill1_any i w.heap.size (R y) u (cell_below hu hb)
          simpa using this))).mono ?_
  rintro e w' ⟨a3, c3, b3, d3, rfl, hT, hB⟩
  exact ⟨⟨a3, c3, b3, d3, rfl, hT⟩, hB⟩

theorem Fill_no (a1 : Option Addr) (c1 : Nat) (zs : List Int) (y : ByteArray) (hl : zs.length ≤ 1000) (hy : y.size ≤ 200000) (aF aZ : Addr) (w : World) (hE : Er w aF aZ)
    (h1 : Sp.Sl w a1 zs) (hbad : ¬ (Sp.Rgt zs ∧ ra y = true)) :
    Calls Tryz.prog 26 #[.slice a1 zs.length c1, .string y] w fun e w' => e = .returned (noTensor 1) ∧ Below w.heap.size w w' := by
  have k1 := fun (v : World) (hv : Below w.heap.size w v) => Sp.right_any a1 zs c1 v hl (h1.below hv)
  have k2 := fun (v : World) (hv : Below w.heap.size w v) => Right_is y (ra y) aF aZ v (hE.below hv) hy rfl
  by_cases hr : Sp.Rgt zs
  · rw [decide_eq_true hr] at k1
    have : ra y = false := by cases e : ra y with
      | false => rfl
      | true => exact absurd ⟨hr, e⟩ hbad
    rw [this] at k2
    exact fill_k_no 0 c1 0 _ a1 none y w k1 k2
  · rw [decide_eq_false hr] at k1
    exact fill_s_no 0 c1 0 _ a1 none y w k1

theorem Sum_no (a1 b1 : Option Addr) (c1 d1 B1 : Nat) (zs : List Int) (xs : List ByteArray) (aF aZ : Addr) (w : World) (hE : Er w aF aZ) (h1 : Ta w B1 a1 b1 zs xs) (hbad : tn zs xs = false) :
    Calls Tryz.prog 28 #[.agg #[.slice a1 zs.length c1, .slice b1 xs.length d1]] w fun e w' => e = .returned (.tuple #[.string ⟨#[]⟩, .int .i64 1]) ∧ Below w.heap.size w w' := by
  have k1 := fun (v : World) (hv : Below w.heap.size w v) => (h1.below hv).right c1 d1 (hE.below hv)
  rw [hbad] at k1
  exact sum_no _ c1 d1 _ a1 b1 w k1

theorem Sum_R (a1 b1 : Option Addr) (c1 d1 B1 n : Nat) (zs : List Int) (qs : List Rat) (aF aZ : Addr) (w : World) (hE : Er w aF aZ)
    (h1 : Tm w B1 a1 b1 zs (qs.map R)) (t1 : Tr zs qs n) (hn : n ≤ 300) :
    Calls Tryz.prog 28 #[.agg #[.slice a1 zs.length c1, .slice b1 (qs.map R).length d1]] w fun e w' => e = .returned (.tuple #[.string (R (tot qs)), .int .i64 0]) ∧ Below w.heap.size w w' := by
  have h64 := t1.le
  refine sum_yes c1 d1 zs.length a1 b1 qs w h1.r (by omega) (fun k hk => ?_) (fun k hk => t1.at hk (by omega))
    (fun v hv => right_R a1 b1 c1 d1 B1 n zs qs aF aZ v (hE.below hv) (h1.below hv) t1 (by omega))
  have hb := Bd.tot_take t1.b k
  refine Bd.size hb ?_
  have : qs.length * (n + 1) ≤ 64 * 301 := Nat.mul_le_mul h64 (by omega)
  omega
end Go.Proofs.YtjkobbpebnkimaaGreatDoor.Tn
