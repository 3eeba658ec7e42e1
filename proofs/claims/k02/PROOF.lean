import PyProof.Rows.All
import Wide.All
import OpenK.AllK
import Wide.FinOn
import HandS.ForMost
import KE.DataMinMax
import KE.SortData
import KE.DataCmp
import HandS.TupAny
import HandS.Style
import HandS.Deep
import HandS.IsInst
import HandS.Walk
import HandS.Zip
import PySem.Challenge.RW_flipthreads_k02_names_and_least_turns
set_option Elab.async false
set_option linter.all false
set_option maxRecDepth 100000
namespace RT
open L2
def rot (k : Nat) (ns : List Int) : List Int := ns.drop k ++ ns.take k
def cyc (ns : List Int) (i : Nat) : Int := ns.getD (i % ns.length) 0
def seg (f : Nat → Int) : Nat → Nat → List Int
  | _, 0 => []
  | a, n + 1 => f a :: seg f (a + 1) n
theorem seg_len (f : Nat → Int) : ∀ (n a : Nat), (seg f a n).length = n
  | 0, _ => rfl
  | n + 1, a => by show (seg f (a + 1) n).length + 1 = n + 1; rw [seg_len f n]
theorem seg_get (f : Nat → Int) : ∀ (n a m : Nat), m < n → (seg f a n)[m]? = some (f (a + m))
  | 0, _, _, h => by omega
  | n + 1, a, 0, _ => rfl
  | n + 1, a, m + 1, h => by
    show (seg f (a + 1) n)[m]? = _
    rw [seg_get f n (a + 1) m (by omega), show a + 1 + m = a + (m + 1) by omega]
theorem seg_congr (f : Nat → Int) : ∀ (n a b : Nat), (∀ j, j < n → f (a + j) = f (b + j)) → seg f a n = seg f b n
  | 0, _, _, _ => rfl
  | n + 1, a, b, h => by
    show f a :: seg f (a + 1) n = f b :: seg f (b + 1) n
    rw [seg_congr f n (a + 1) (b + 1) fun j hj => by
      have := h (j + 1) (by omega)
      rw [show a + 1 + j = a + (j + 1) by omega, show b + 1 + j = b + (j + 1) by omega]; exact this]
    rw [show f a = f b from h 0 (by omega)]
theorem rot_len (k : Nat) (ns : List Int) : (rot k ns).length = ns.length := by
  unfold rot; rw [List.length_append, List.length_drop, List.length_take]; omega
theorem rot_seg {k : Nat} {ns : List Int} (h : k ≤ ns.length) : rot k ns = seg (cyc ns) k ns.length := by
  apply List.ext_getElem?
  intro m
  by_cases hm : m < ns.length
  · rw [seg_get _ _ _ _ hm]
    unfold rot cyc
    by_cases h1 : m < ns.length - k
    · rw [List.getElem?_append_left (by rw [List.length_drop]; exact h1), List.getElem?_drop, Nat.mod_eq_of_lt (by omega), List.getElem?_eq_getElem (by omega), List.getD_eq_getElem?_getD, List.getElem?_eq_getElem (by omega)]
      rfl
    · rw [List.getElem?_append_right (by rw [List.length_drop]; omega), List.length_drop, List.getElem?_take, if_pos (by omega), Nat.mod_eq_sub_mod (by omega), Nat.mod_eq_of_lt (by omega), List.getD_eq_getElem?_getD, show m - (ns.length - k) = k + m - ns.length by omega, List.getElem?_eq_getElem (by omega)]
      rfl
  · rw [List.getElem?_eq_none (by rw [rot_len]; omega), List.getElem?_eq_none (by rw [seg_len]; omega)]
theorem cyc_add (ns : List Int) (a x : Nat) : cyc ns (a + x) = cyc ns (a + x % ns.length) := by
  unfold cyc; rw [Nat.add_mod_mod]
theorem cyc_mod (ns : List Int) (a x : Nat) : cyc ns (a + x) = cyc ns (a % ns.length + x) := by
  unfold cyc; rw [Nat.mod_add_mod]
theorem seg_mod (ns : List Int) (a n : Nat) : seg (cyc ns) a n = seg (cyc ns) (a % ns.length) n := seg_congr _ _ _ _ fun j _ => cyc_mod ns a j
/-! the order -/
theorem lex_irr : ∀ a : List Int, HT.lexLt a a = false
  | [] => rfl
  | x :: a => by rw [HT.lexLt_cons, if_pos rfl, lex_irr a]
theorem lex_anti : ∀ a b : List Int, HT.lexLt a b = false → HT.lexLt b a = false → a = b
  | [], [], _, _ => rfl
  | [], y :: b, h, _ => by rw [HT.lexLt_nil_cons] at h; cases h
  | x :: a, [], _, h => by rw [HT.lexLt_nil_cons] at h; cases h
  | x :: a, y :: b, h1, h2 => by
    rw [HT.lexLt_cons] at h1 h2
    by_cases e : x = y
    · subst e
      rw [if_pos rfl] at h1 h2
      rw [lex_anti a b h1 h2]
    · rw [if_neg e] at h1
      rw [if_neg (fun z => e z.symm)] at h2
      have h1 := of_decide_eq_false h1
      have h2 := of_decide_eq_false h2
      omega
theorem lex_asym : ∀ a b : List Int, HT.lexLt a b = true → HT.lexLt b a = false
  | [], [], h => by rw [HT.lexLt_nil_nil] at h; cases h
  | [], y :: b, _ => HT.lexLt_cons_nil y b
  | x :: a, [], h => by rw [HT.lexLt_cons_nil] at h; cases h
  | x :: a, y :: b, h => by
    rw [HT.lexLt_cons] at h ⊢
    by_cases e : x = y
    · subst e
      rw [if_pos rfl] at h ⊢
      exact lex_asym a b h
    · rw [if_neg e] at h
      rw [if_neg (fun z => e z.symm)]
      have h := of_decide_eq_true h
      exact decide_eq_false (by omega)
theorem lex_trans : ∀ a b c : List Int, HT.lexLt b a = false → HT.lexLt c b = false → HT.lexLt c a = false
  | [], b, [], _, _ => HT.lexLt_nil_nil
  | [], b, z :: c, _, _ => HT.lexLt_cons_nil z c
  | x :: a, [], c, h, _ => by rw [HT.lexLt_nil_cons] at h; cases h
  | x :: a, y :: b, [], _, h => by rw [HT.lexLt_nil_cons] at h; cases h
  | x :: a, y :: b, z :: c, h1, h2 => by
    rw [HT.lexLt_cons] at h1 h2 ⊢
    by_cases e : y = x
    · subst e
      rw [if_pos rfl] at h1
      by_cases e2 : z = y
      · subst e2
        rw [if_pos rfl] at h2 ⊢
        exact lex_trans a b c h1 h2
      · rw [if_neg e2] at h2 ⊢
        exact h2
    · rw [if_neg e] at h1
      have h1 := of_decide_eq_false h1
      by_cases e2 : z = y
      · subst e2
        rw [if_neg e]
        exact decide_eq_false h1
      · rw [if_neg e2] at h2
        have h2 := of_decide_eq_false h2
        rw [if_neg (by omega)]
        exact decide_eq_false (by omega)
theorem seg_lt (f : Nat → Int) : ∀ (m n a b : Nat), m < n → (∀ j, j < m → f (a + j) = f (b + j)) → f (a + m) < f (b + m) → HT.lexLt (seg f a n) (seg f b n) = true
  | _, 0, _, _, h, _, _ => by omega
  | 0, n + 1, a, b, _, _, h => by
    show HT.lexLt (f a :: _) (f b :: _) = true
    have h : f a < f b := h
    rw [HT.lexLt_cons, if_neg (by omega)]
    exact decide_eq_true h
  | m + 1, n + 1, a, b, hm, he, h => by
    show HT.lexLt (f a :: seg f (a + 1) n) (f b :: seg f (b + 1) n) = true
    rw [HT.lexLt_cons, if_pos (show f a = f b from he 0 (by omega))]
    refine seg_lt f m n (a + 1) (b + 1) (by omega) (fun j hj => ?_) ?_
    · have := he (j + 1) (by omega)
      rw [show a + 1 + j = a + (j + 1) by omega, show b + 1 + j = b + (j + 1) by omega]; exact this
    · rw [show a + 1 + m = a + (m + 1) by omega, show b + 1 + m = b + (m + 1) by omega]; exact h
/-! the least of a row of rows -/
def pickL (x : List Int) (xs : List (List Int)) : List Int := xs.foldl (fun a y => if HT.lexLt y a then y else a) x
theorem pickL_mem : ∀ (xs : List (List Int)) (x : List Int), pickL x xs = x ∨ pickL x xs ∈ xs
  | [], x => .inl rfl
  | y :: xs, x => by
    show pickL (if HT.lexLt y x then y else x) xs = x ∨ pickL (if HT.lexLt y x then y else x) xs ∈ y :: xs
    by_cases h : HT.lexLt y x = true
    · rw [if_pos h]
      rcases pickL_mem xs y with e | e
      · rw [e]; exact .inr List.mem_cons_self
      · exact .inr (List.mem_cons_of_mem _ e)
    · rw [if_neg h]
      rcases pickL_mem xs x with e | e
      · exact .inl e
      · exact .inr (List.mem_cons_of_mem _ e)
theorem pickL_le : ∀ (xs : List (List Int)) (x : List Int), HT.lexLt x (pickL x xs) = false ∧ ∀ y ∈ xs, HT.lexLt y (pickL x xs) = false
  | [], x => ⟨lex_irr x, fun _ h => nomatch h⟩
  | y :: xs, x => by
    show HT.lexLt x (pickL (if HT.lexLt y x then y else x) xs) = false ∧ ∀ z ∈ y :: xs, HT.lexLt z (pickL (if HT.lexLt y x then y else x) xs) = false
    by_cases h : HT.lexLt y x = true
    · rw [if_pos h]
      obtain ⟨h1, h2⟩ := pickL_le xs y
      refine ⟨lex_trans _ y _ h1 (lex_asym _ _ h), fun z hz => ?_⟩
      rcases List.mem_cons.mp hz with rfl | hz
      · exact h1
      · exact h2 z hz
    · rw [if_neg h]
      obtain ⟨h1, h2⟩ := pickL_le xs x
      refine ⟨h1, fun z hz => ?_⟩
      rcases List.mem_cons.mp hz with rfl | hz
      · exact lex_trans _ x _ h1 (Bool.eq_false_iff.mpr h)
      · exact h2 z hz
structure IsLeast (ns t : List Int) : Prop where
  rt : ∃ k, k ≤ ns.length ∧ t = rot k ns
  le : ∀ k, k < ns.length → HT.lexLt (rot k ns) t = false
theorem rot_zero (ns : List Int) : rot 0 ns = ns := by unfold rot; simp
theorem rot_all (ns : List Int) : rot ns.length ns = ns := by unfold rot; simp
theorem rot_nil (k : Nat) : rot k [] = [] := by unfold rot; simp
theorem rt_small {ns t : List Int} (hn : 0 < ns.length) (h : ∃ k, k ≤ ns.length ∧ t = rot k ns) : ∃ k, k < ns.length ∧ t = rot k ns := by
  obtain ⟨k, h1, h2⟩ := h
  by_cases e : k = ns.length
  · exact ⟨0, hn, by rw [h2, e, rot_all, rot_zero]⟩
  · exact ⟨k, by omega, h2⟩
theorem least_one {ns t u : List Int} (h : IsLeast ns t) (g : IsLeast ns u) : t = u := by
  by_cases hn : 0 < ns.length
  · obtain ⟨k, hk, e1⟩ := rt_small hn h.rt
    obtain ⟨j, hj, e2⟩ := rt_small hn g.rt
    refine lex_anti _ _ ?_ ?_
    · rw [e1]; exact g.le k hk
    · rw [e2]; exact h.le j hj
  · have e : ns = [] := List.length_eq_zero_iff.mp (by omega)
    subst e
    obtain ⟨k, _, e1⟩ := h.rt
    obtain ⟨j, _, e2⟩ := g.rt
    rw [e1, e2, rot_nil, rot_nil]
def rots (ns : List Int) : List (List Int) := (List.range ns.length).map fun k => rot k ns
def least (ns : List Int) : List Int := pickL ns (rots ns)
theorem least_is (ns : List Int) : IsLeast ns (least ns) where
  rt := by
    rcases pickL_mem (rots ns) ns with e | e
    · exact ⟨0, Nat.zero_le _, by rw [rot_zero]; exact e⟩
    · obtain ⟨k, hk, e⟩ := List.mem_map.mp e
      exact ⟨k, Nat.le_of_lt (List.mem_range.mp hk), e.symm⟩
  le := fun k hk => (pickL_le (rots ns) ns).2 _ (List.mem_map.mpr ⟨k, List.mem_range.mpr hk, rfl⟩)
theorem least_len (ns : List Int) : (least ns).length = ns.length := by
  obtain ⟨k, _, e⟩ := (least_is ns).rt
  rw [e, rot_len]
theorem least_nil : least [] = [] := rfl
/-! the two starts -/
def Good (ns : List Int) (s : Nat) : Prop := s < ns.length ∧ ∀ t, t < ns.length → HT.lexLt (seg (cyc ns) t ns.length) (seg (cyc ns) s ns.length) = false
theorem good_is {ns : List Int} {s : Nat} (g : Good ns s) : rot s ns = least ns := by
  refine least_one ⟨⟨s, Nat.le_of_lt g.1, rfl⟩, fun k hk => ?_⟩ (least_is ns)
  rw [rot_seg (Nat.le_of_lt hk), rot_seg (Nat.le_of_lt g.1)]
  exact g.2 k hk
theorem good_ex {ns : List Int} (hn : 0 < ns.length) : ∃ s, Good ns s := by
  obtain ⟨k, hk, e⟩ := rt_small hn (least_is ns).rt
  refine ⟨k, hk, fun t ht => ?_⟩
  rw [← rot_seg (Nat.le_of_lt hk), ← rot_seg (Nat.le_of_lt ht), ← e]
  exact (least_is ns).le t ht
structure Two (ns : List Int) (i j k : Nat) : Prop where
  ne : i ≠ j
  eq : ∀ m, m < k → cyc ns (i + m) = cyc ns (j + m)
  al : ∀ t, Good ns t → t = i ∨ t = j ∨ (i < t ∧ j < t)
theorem two_start (ns : List Int) : Two ns 0 1 0 := ⟨by omega, fun m h => by omega, fun t _ => by omega⟩
theorem two_eq {ns : List Int} {i j k : Nat} (h : Two ns i j k) (e : cyc ns (i + k) = cyc ns (j + k)) : Two ns i j (k + 1) :=
  ⟨h.ne, fun m hm => by
    by_cases z : m = k
    · subst z; exact e
    · exact h.eq m (by omega), h.al⟩
/-- what loses takes those behind it along -/
theorem beaten {ns : List Int} {i j k : Nat} (eq : ∀ m, m < k → cyc ns (i + m) = cyc ns (j + m)) (lt : cyc ns (i + k) < cyc ns (j + k)) (hk : k < ns.length) {t : Nat} (h1 : j ≤ t) (h2 : t ≤ j + k) : ¬ Good ns t := fun g => by
  have hn : 0 < ns.length := by omega
  have a := g.2 ((i + (t - j)) % ns.length) (Nat.mod_lt _ hn)
  rw [← seg_mod] at a
  have b : HT.lexLt (seg (cyc ns) (i + (t - j)) ns.length) (seg (cyc ns) t ns.length) = true := by
    refine seg_lt (cyc ns) (k - (t - j)) ns.length (i + (t - j)) t (by omega) (fun x hx => ?_) ?_
    · have := eq (t - j + x) (by omega)
      rw [show i + (t - j) + x = i + (t - j + x) by omega, this, show j + (t - j + x) = t + x by omega]
    · rw [show i + (t - j) + (k - (t - j)) = i + k by omega, show t + (k - (t - j)) = j + k by omega]
      exact lt
  rw [b] at a
  cases a
theorem two_lt {ns : List Int} {i j k : Nat} (h : Two ns i j k) (lt : cyc ns (i + k) < cyc ns (j + k)) (hk : k < ns.length) : Two ns i (if i = j + (k + 1) then j + (k + 1) + 1 else j + (k + 1)) 0 := by
  have hb : ∀ t, Good ns t → ¬ (j ≤ t ∧ t ≤ j + k) := fun t g z => beaten h.eq lt hk z.1 z.2 g
  refine ⟨?_, fun m hm => by omega, fun t g => ?_⟩
  · split <;> omega
  · have a := h.al t g
    have b := hb t g
    split <;> omega
theorem two_gt {ns : List Int} {i j k : Nat} (h : Two ns i j k) (lt : cyc ns (j + k) < cyc ns (i + k)) (hk : k < ns.length) : Two ns (i + (k + 1)) (if i + (k + 1) = j then j + 1 else j) 0 := by
  have hb : ∀ t, Good ns t → ¬ (i ≤ t ∧ t ≤ i + k) := fun t g z => beaten (fun m hm => (h.eq m hm).symm) lt hk z.1 z.2 g
  have hne := h.ne
  refine ⟨?_, fun m hm => by omega, fun t g => ?_⟩
  · split <;> omega
  · have a := h.al t g
    have b := hb t g
    split <;> omega
theorem two_all {ns : List Int} {lo hi : Nat} (hn : 0 < ns.length) (hlt : lo < hi) (hh : hi < ns.length) (eq : ∀ m, m < ns.length → cyc ns (lo + m) = cyc ns (hi + m))
    (al : ∀ t, Good ns t → t = lo ∨ t = hi ∨ hi < t) : ∀ s, Good ns s → seg (cyc ns) s ns.length = seg (cyc ns) lo ns.length := by
  have per : ∀ x, cyc ns (lo + x) = cyc ns (hi + x) := fun x => by
    rw [cyc_add ns lo x, cyc_add ns hi x]
    exact eq _ (Nat.mod_lt _ hn)
  have base : seg (cyc ns) hi ns.length = seg (cyc ns) lo ns.length := (seg_congr _ _ _ _ fun j _ => per j).symm
  intro s
  induction s using Nat.strongRecOn with
  | _ s ih =>
    intro g
    rcases al s g with e | e | e
    · rw [e]
    · rw [e]; exact base
    · have es : seg (cyc ns) s ns.length = seg (cyc ns) (s - (hi - lo)) ns.length := (seg_congr _ _ _ _ fun j _ => by
        have := per (s - hi + j)
        rw [show s - (hi - lo) + j = lo + (s - hi + j) by omega, this, show hi + (s - hi + j) = s + j by omega]).symm
      have g' : Good ns (s - (hi - lo)) := ⟨by have := g.1; omega, fun t ht => by rw [← es]; exact g.2 t ht⟩
      rw [es]
      exact ih _ (by omega) g'
theorem two_end {ns : List Int} {i j k : Nat} (h : Two ns i j k) (hn : 0 < ns.length) (hx : ns.length ≤ i ∨ ns.length ≤ j ∨ ns.length ≤ k) : Good ns (min i j) := by
  obtain ⟨s, g⟩ := good_ex hn
  have hs := g.1
  have hne := h.ne
  by_cases hi : ns.length ≤ i
  · have a := h.al s g
    have e : min i j = s := by omega
    rw [e]; exact g
  · by_cases hj : ns.length ≤ j
    · have a := h.al s g
      have e : min i j = s := by omega
      rw [e]; exact g
    · have hk : ns.length ≤ k := by omega
      by_cases hij : i < j
      · have e : min i j = i := by omega
        rw [e]
        have q := two_all hn hij (by omega) (fun m hm => h.eq m (by omega)) (fun t gt => by have := h.al t gt; omega) s g
        exact ⟨by omega, fun t ht => by rw [← q]; exact g.2 t ht⟩
      · have e : min i j = j := by omega
        rw [e]
        have q := two_all hn (show j < i by omega) (by omega) (fun m hm => (h.eq m (by omega)).symm) (fun t gt => by have := h.al t gt; omega) s g
        exact ⟨by omega, fun t ht => by rw [← q]; exact g.2 t ht⟩
/-! rows that are turned, and backwards -/
theorem rot_rot {ns : List Int} {j k : Nat} (hj : j ≤ ns.length) (hk : k ≤ ns.length) : ∃ i, i ≤ ns.length ∧ rot j (rot k ns) = rot i ns := by
  by_cases hn : 0 < ns.length
  · refine ⟨(k + j) % ns.length, Nat.le_of_lt (Nat.mod_lt _ hn), ?_⟩
    rw [rot_seg (by rw [rot_len]; exact hj), rot_seg (Nat.le_of_lt (Nat.mod_lt _ hn)), rot_len, ← seg_mod]
    apply List.ext_getElem?
    intro m
    by_cases hm : m < ns.length
    · rw [seg_get _ _ _ _ hm, seg_get _ _ _ _ hm]
      have e : cyc (rot k ns) (j + m) = cyc ns (k + (j + m)) := by
        show (rot k ns).getD ((j + m) % (rot k ns).length) 0 = _
        rw [rot_len, rot_seg hk, List.getD_eq_getElem?_getD, seg_get _ _ _ _ (Nat.mod_lt _ hn), cyc_add ns k (j + m)]
        rfl
      rw [e, show k + (j + m) = k + j + m by omega]
    · rw [List.getElem?_eq_none (by rw [seg_len]; omega), List.getElem?_eq_none (by rw [seg_len]; omega)]
  · have e : ns = [] := List.length_eq_zero_iff.mp (by omega)
    subst e
    exact ⟨0, Nat.le_refl _, by rw [rot_nil, rot_nil, rot_nil]⟩
def Rt (a b : List Int) : Prop := ∃ k, k ≤ b.length ∧ a = rot k b
theorem Rt.refl (a : List Int) : Rt a a := ⟨0, Nat.zero_le _, (rot_zero a).symm⟩
theorem Rt.len {a b : List Int} (h : Rt a b) : a.length = b.length := by obtain ⟨k, _, e⟩ := h; rw [e, rot_len]
theorem Rt.trans {a b c : List Int} (h : Rt a b) (g : Rt b c) : Rt a c := by
  obtain ⟨k, hk, e⟩ := h
  obtain ⟨j, hj, e2⟩ := g
  subst e2
  rw [rot_len] at hk
  obtain ⟨i, hi, e3⟩ := rot_rot hk hj
  exact ⟨i, hi, e.trans e3⟩
theorem rot_back {ns : List Int} {k : Nat} (hk : k ≤ ns.length) : rot (ns.length - k) (rot k ns) = ns := by
  unfold rot
  have e : (ns.drop k).length = ns.length - k := List.length_drop
  have e1 : (ns.drop k).drop (ns.length - k) = [] := List.drop_of_length_le (by omega)
  have e2 : (ns.drop k).take (ns.length - k) = ns.drop k := List.take_of_length_le (by omega)
  rw [List.drop_append_of_le_length (by omega), List.take_append_of_le_length (by omega), e1, e2, List.nil_append, List.take_append_drop]
theorem Rt.symm {a b : List Int} (h : Rt a b) : Rt b a := by
  obtain ⟨k, hk, e⟩ := h
  subst e
  exact ⟨b.length - k, by rw [rot_len]; omega, (rot_back hk).symm⟩
theorem rt_least (a : List Int) : Rt (least a) a := (least_is a).rt
theorem least_of_rt {a b : List Int} (h : Rt a b) : least a = least b := by
  refine least_one ⟨(rt_least a).trans h, fun k hk => ?_⟩ (least_is b)
  have r : Rt (rot k b) a := Rt.trans ⟨k, Nat.le_of_lt hk, rfl⟩ h.symm
  obtain ⟨j, hj, e⟩ := rt_small (by rw [h.len]; omega) r
  rw [e]
  exact (least_is a).le j hj
theorem least_iff {a b : List Int} : least a = least b ↔ Rt a b := by
  constructor
  · intro e
    have h := (rt_least a).symm
    rw [e] at h
    exact h.trans (rt_least b)
  · exact least_of_rt
def rv (ns : List Int) : List Int := (ns.map fun x => -x).reverse
theorem rv_len (ns : List Int) : (rv ns).length = ns.length := by unfold rv; rw [List.length_reverse, List.length_map]
theorem rv_rv (ns : List Int) : rv (rv ns) = ns := by
  unfold rv
  rw [List.map_reverse, List.reverse_reverse, List.map_map]
  have e : ((fun x : Int => -x) ∘ fun x => -x) = id := by funext x; show - -x = x; omega
  rw [e, List.map_id]
theorem rv_rot {k : Nat} {ns : List Int} (hk : k ≤ ns.length) : rv (rot k ns) = rot (ns.length - k) (rv ns) := by
  unfold rv rot
  rw [List.map_append, List.reverse_append, List.map_drop, List.map_take, List.reverse_take, List.reverse_drop, List.length_map]
theorem Rt.rv {a b : List Int} (h : Rt a b) : Rt (rv a) (rv b) := by
  obtain ⟨k, hk, e⟩ := h
  subst e
  exact ⟨b.length - k, by rw [rv_len]; omega, rv_rot hk⟩
theorem least_rv {a b : List Int} : least a = least (RT.rv b) ↔ least b = least (RT.rv a) := by
  rw [least_iff, least_iff]
  constructor
  · intro h; have := h.rv; rw [rv_rv] at this; exact this.symm
  · intro h; have := h.rv; rw [rv_rv] at this; exact this.symm
/-- same_round -/
def around (a b : List Int) : Bool := decide (least a = least b) || decide (least a = least (rv b))
theorem around_comm (a b : List Int) : around a b = around b a := by
  unfold around
  have e1 : (least a = least b) ↔ (least b = least a) := eq_comm
  rw [decide_eq_decide.mpr e1, decide_eq_decide.mpr (least_rv (a := a) (b := b))]
end RT

set_option Elab.async false
set_option linter.all false
set_option maxRecDepth 100000
set_option maxHeartbeats 4000000
namespace L2
open PySem PySem.Spec PyProof.Rows HT
/-! two readings of one piece -/
section
variable {X : Cx}
theorem PE.or {e : Expr} {t u : TE} (h : PE X e t) (g : PE X e u) : PE X e (fun σ H Q => t σ H Q ∨ u σ H Q) :=
  ⟨fun pins s σ H Q I z => z.elim (h.run pins s σ H Q I) (g.run pins s σ H Q I)⟩
theorem PI.or {tg e : Expr} {t u : TI} (h : PI X tg e t) (g : PI X tg e u) : PI X tg e (fun σ H R => t σ H R ∨ u σ H R) :=
  ⟨fun pins s σ H R I z => z.elim (h.run pins s σ H R I) (g.run pins s σ H R I)⟩
end
/-! a tuple backwards -/
section
variable {prog : Program} {w : World} {A : Around} {s : Shared} {E : Value → Shared → Prop}
theorem adjust_back (n : Nat) : Builtin.Slice.sliceAdjust none none (-1) (n : Int) = ((n : Int) - 1, -1) := by
  unfold Builtin.Slice.sliceAdjust
  have h1 : ((-1 : Int) < 0) := by omega
  simp only [h1, if_true]
theorem places_back (n : Nat) : Builtin.Slice.slicePlaces ((n : Int) - 1) (-1) (-1) = n := by
  unfold Builtin.Slice.slicePlaces
  have h1 : ¬ ((-1 : Int) > 0) := by omega
  simp only [h1, if_false]
  split
  · rw [show (- -1 : Int) = 1 by decide, Int.ediv_one]
    omega
  · omega
theorem applied_back {sl : Addr} {v1 v2 v3 : Value} {n : Nat} {R : Int × Int × Nat → Shared → Prop} (hz : s.heap.IsSliceOf sl v1 v2 v3) (g1 : IsPart v1 none) (g2 : IsPart v2 none) (g3 : IsPart v3 (some (-1))) (k : R ((n : Int) - 1, -1, n) s) :
    wpAny (model prog w) A (Builtin.Slice.sliceApplied (.ref sl) (pure (n : Int))) R E s := by
  have ⟨ob, hb, _, hf⟩ := id hz
  have three := fun (Z : Value × Value × Value → Shared → Prop) (z : Z (v1, v2, v3) s) => show wpAny (model prog w) A (Builtin.Slice.sliceFields (.ref sl)) Z E s from
    wpAny_bind (wpAny_field hb hf (x := v1) rfl (wpAny_bind (wpAny_field hb hf (x := v2) rfl (wpAny_bind (wpAny_field hb hf (x := v3) rfl (wpAny_pure z))))))
  show wpAny (model prog w) A (Builtin.Slice.sliceFields (.ref sl) >>= _) R E s
  refine wpAny_bind (three _ (wpAny_bind (slicePart_ g3 ?_)))
  show wpAny _ _ (if ((-1 : Int) == 0) = true then _ else _) _ _ s
  rw [if_neg (by decide)]
  refine wpAny_bind (slicePart_ g1 ?_)
  refine wpAny_bind (slicePart_ g2 ?_)
  refine wpAny_bind (wpAny_pure ?_)
  show wpAny _ _ (match Builtin.Slice.sliceAdjust none none (-1) (n : Int) with | (x, y) => pure (x, (-1 : Int), Builtin.Slice.slicePlaces x y (-1))) _ _ s
  rw [adjust_back n]
  exact wpAny_pure (by rw [places_back]; exact k)
theorem pick_back (xs : Array Value) : ((List.range xs.size).filterMap fun (m : Nat) => xs[((xs.size : Int) - 1 + (m : Int) * (-1)).toNat]?).toArray = xs.toList.reverse.toArray := by
  have e : (fun (m : Nat) => xs[((xs.size : Int) - 1 + (m : Int) * (-1)).toNat]?) = (fun x => xs[x]?) ∘ fun m => xs.size - 1 - m := by
    funext m
    have : ((xs.size : Int) - 1 + (m : Int) * (-1)).toNat = xs.size - 1 - m := by omega
    rw [this]; rfl
  rw [e, ← List.filterMap_map, PySem.W.krv_range, List.filterMap_reverse, PySem.W.krv_all]
theorem item_back {tu sl : Addr} {its : Array Value} {v1 v2 v3 : Value} {R : Value → Shared → Prop} (htu : IsTup s.heap tu its) (hz : s.heap.IsSliceOf sl v1 v2 v3) (g1 : IsPart v1 none) (g2 : IsPart v2 none) (g3 : IsPart v3 (some (-1))) (small : its.size ≤ sizeLine)
    (k : R (.ref s.heap.objs.size) { s with heap := s.heap.push { cls := .type "tuple", data := .seq its.toList.reverse.toArray } }) : wpAny (model prog w) A (getItem (.ref tu) (.ref sl)) R E s := by
  have fits : sizeOk (.seq its.toList.reverse.toArray) := Nat.le_trans (Nat.le_of_eq (by simp)) small
  have isS : s.TypeIs (.ref sl) "slice" := let ⟨ob, hb, hc, _⟩ := id hz; ⟨ob, hb, hc⟩
  have isT := htu.typeIs
  unfold getItem
  first | (with_reducible refine wpAny_holding ?_) | skip
  first | (refine wpAny_bind (wpAny_pure ?_)) | skip
  refine wpAny_bind (wpAny_sequenceKey isT (by decide) (wpAny_bind ?_))
  refine wpAny_callSpecial?_slot (name := Str.ofString "__getitem__") isT slot_tuple_getitem ?_
  refine wpAny_call_entry slot_tuple_getitem isT entry_tuple_getitem ?_ (args_tuple_getitem _ _)
  show wpAny _ _ (Builtin.Tuple.tupleItemsOf (.ref tu) >>= _) _ _ s
  refine wpAny_bind (tupleItemsOf_ htu (wpAny_bind (wpAny_typeOf isS ?_)))
  rw [if_pos (by decide)]
  refine wpAny_bind (applied_back hz g1 g2 g3 ?_)
  show wpAny _ _ (if (((its.size : Int) - 1) == 0 && (-1 : Int) == 1 && its.size == its.size) = true then _ else _) _ _ s
  rw [if_neg (by simp), pick_back]
  first
    | (refine wpAny_bind (m := Builtin.Tuple.tupleExact _) (wpAny_newObj_type ?_ fits); exact wpAny_pure ⟨_, rfl, wpAny_pure k⟩)
    | (refine wpAny_bind (m := Builtin.Tuple.tupleExact _) (wpAny_newObj_type ?_ fits); exact wpAny_bind (wpAny_pure (wpAny_pure ⟨_, rfl, wpAny_pure k⟩)))
    | (refine wpAny_bind (wpAny_bind (m := Builtin.Tuple.tupleExact _) (wpAny_newObj_type ?_ fits)); exact wpAny_pure (wpAny_pure ⟨_, rfl, wpAny_pure k⟩))
    | (refine wpAny_bind (wpAny_bind (m := Builtin.Tuple.tupleExact _) (wpAny_newObj_type ?_ fits)); exact wpAny_pure ⟨_, rfl, wpAny_pure k⟩)
end
section
variable {X : Cx}
def tRevT (K : PySem.W.Frag) (te : TE) : TE := fun σ H Q => te σ H fun x H1 => ∃ a xs, x = .ref a ∧ SqT K H1 a xs ∧ ∀ p, H1 p = none → Q (.ref p) (upd H1 p (.tup xs.reverse))
theorem pe_revT {ex : Expr} {te : TE} {kk : Nat} {q1 q2 q3 q4 : Pos} (he : PE X ex te) : PE X (.Subscript ex (.Slice none none (some (.UnaryOp .USub (.Constant (.int 1) kk q1) q2)) q3) q4) (tRevT X.K te) := by
  have step : PO X (some (.UnaryOp .USub (.Constant (.int 1) kk q1) q2)) (tPart (tUn (rU fun z => .int (-z)) (tC (.int 1)))) := po_some (pe_un un_neg pe_int)
  refine ⟨fun pn s0 σ H Q I0 want => Subscript_ (thn (he.run pn s0 σ H _ I0 want) fun _ sa ⟨val, Ha, Ia, ra, wa⟩ => ?_)⟩
  obtain ⟨tu, xs, rfl, hxs, go⟩ := wa
  cases ra
  refine wpAny_Slice (thn (po_none.run pn sa σ Ha (fun o Hb => o = none ∧ Hb = Ha) Ia ⟨rfl, rfl⟩) fun vl sb ⟨ol, Hb, Ib, gl, ea, eb⟩ => ?_)
  subst ea eb
  refine thn (po_none.run pn sb σ Hb (fun o Hc => o = none ∧ Hc = Hb) Ib ⟨rfl, rfl⟩) fun vu sc ⟨ou, Hc, Ic, gu, ec, ed⟩ => ?_
  subst ec ed
  refine thn (step.run pn sc σ Hc (fun o Hd => o = some (-1) ∧ Hd = Hc) Ic ⟨1, rfl, -1, rfl, rfl, rfl⟩) fun vs sd ⟨os, Hd, Id, gs, ee, ef⟩ => ?_
  subst ee ef
  let so : Obj := { cls := .type "slice", data := .fields #[vl, vu, vs] }
  have J : Inv X pn σ Hd { sd with heap := sd.heap.push so } := Id.kept (t' := sd.toks) fun _ _ e => Heap.get?_push_of_some _ e
  obtain ⟨its, rel, isT, hz⟩ := J.tuple hxs
  have len := rel.length
  show wpAny (model X.prog X.w) X.A (subscriptTail ex (.Slice none none (some (.UnaryOp .USub (.Constant (.int 1) kk q1) q2)) q3) (.ref tu) (.ref sd.heap.objs.size)) (EP X pn σ Q) X.xe { sd with heap := sd.heap.push so }
  refine tail_any (ops := [.ref tu, .ref sd.heap.objs.size]) isT.typeIs slot_tuple_getitem.lookup (item_back isT (Heap.IsSliceOf.new _ vl vu vs) gl gu gs (by rw [List.size_toArray]; omega) ?_) (by with_unfolding_all rfl)
  have fresh := J.hok.fresh (Nat.le_refl _)
  refine ⟨.ref _, _, J.laid (t' := sd.toks) (o := .tup xs.reverse) (fun _ _ e => Heap.get?_push_of_some _ e) (Nat.le_refl _) ⟨?_, _, rel.reverse, IsTup.new _ _⟩, rfl, go _ fresh⟩
  rw [List.length_reverse]; exact hz
/-! x in a tuple -/
def rInDT (K : PySem.W.Frag) : R2 := fun x y H Q => ∃ d ds, Dp K H x d ∧ Dp K H y (.tuple ds) ∧ SeqAt.shaped d = true ∧ SeqAt.shaped (.tuple ds) = true ∧ Q (.bl (ds.any fun z => PyData.eqv z d)) H
theorem op_inDT (room : X.A.units + 65 < cLine) : OpR X (compareOp .In) (rInDT X.K) := fun _ _ _ H _ _ _ _ _ I rx ry ⟨d, ds, dx, dy, fx, fy, want⟩ =>
  let ⟨_, readX⟩ := Dp.reads I d _ _ dx rx
  let ⟨_, readY⟩ := Dp.reads I (.tuple ds) _ _ dy ry
  SeqAt.in_tuple_reads readY readX (SeqAt.canLay_of_shaped fy) (SeqAt.canLay_of_shaped fx) (room_in_shaped fx room) ⟨.bl _, H, I, rfl, want⟩
/-! rows of ints as data -/
def dI (ns : List Int) : PyData := .tuple (ns.map .int)
theorem dpAll_ints {K : PySem.W.Frag} {H : Hp} : ∀ ns : List Int, DpAll K H (ns.map V.int) (ns.map PyData.int)
  | [] => .nil
  | n :: ns => .cons (.int n) (dpAll_ints ns)
theorem dp_tup {K : PySem.W.Frag} {H : Hp} {a : Addr} {ns : List Int} (h : SqT K H a (ns.map V.int)) : Dp K H (.ref a) (dI ns) := .tup h (dpAll_ints ns)
theorem alike_ints : ∀ ns ms : List Int, PySem.W.alikeAll (ns.map .int) (ms.map .int) = true
  | [], _ => rfl
  | _ :: _, [] => rfl
  | n :: ns, m :: ms => by
    show (PySem.W.alike (.int n) (.int m) && PySem.W.alikeAll (ns.map .int) (ms.map .int)) = true
    rw [alike_ints ns ms]; rfl
theorem eqv_ints : ∀ ns ms : List Int, PyData.eqvAll (ns.map .int) (ms.map .int) = decide (ns = ms)
  | [], [] => by rw [List.map_nil, PyData.eqvAll, decide_eq_true rfl]
  | [], m :: ms => by rw [List.map_nil, List.map_cons, decide_eq_false (by simp)]; simp only [PyData.eqvAll]
  | n :: ns, [] => by rw [List.map_nil, List.map_cons, decide_eq_false (by simp)]; simp only [PyData.eqvAll]
  | n :: ns, m :: ms => by
    show PyData.eqvAll (.int n :: ns.map .int) (.int m :: ms.map .int) = _
    rw [PyData.eqvAll, eqv_ints ns ms]
    by_cases h : n = m <;> simp [PyData.eqv, h]
theorem eqv_dI (ns ms : List Int) : PyData.eqv (dI ns) (dI ms) = decide (ns = ms) := by
  unfold dI; rw [PyData.eqv]; exact eqv_ints ns ms
theorem lt_dI : ∀ ns ms : List Int, PySem.W.dataLt (dI ns) (dI ms) = lexLt ns ms := by
  intro ns ms
  unfold dI
  rw [PySem.W.dataLt_tuple]
  induction ns generalizing ms with
  | nil =>
    cases ms with
    | nil => rfl
    | cons m ms => rfl
  | cons n ns ih =>
    cases ms with
    | nil => rfl
    | cons m ms =>
      rw [List.map_cons, List.map_cons, PySem.W.dataLt_cons (by rfl), ih ms, PySem.W.dataLt_int, lexLt_cons]
      simp [PyData.eqv]
theorem depth_ints : ∀ ns : List Int, PyData.depthAll (ns.map .int) ≤ 1
  | [] => by show 0 ≤ 1; omega
  | n :: ns => by
    show max (PyData.depth (.int n)) (PyData.depthAll (ns.map .int)) ≤ 1
    have h := depth_ints ns
    have e : PyData.depth (.int n) ≤ 1 := by simp [PyData.depth]
    omega
theorem depth_dI (ns : List Int) : (dI ns).depth ≤ 2 := by
  have h := depth_ints ns
  unfold dI
  rw [PyData.depth]
  omega
theorem lay_ints : ∀ ns : List Int, PyData.canLayAll0 (ns.map .int) = true
  | [] => rfl
  | n :: ns => by
    show (PyData.canLay0 (.int n) && PyData.canLayAll0 (ns.map .int)) = true
    rw [lay_ints ns]; rfl
theorem lay_dI (ns : List Int) : (dI ns).canLay0 = true := by
  unfold dI; rw [PyData.canLay0]; exact lay_ints ns
theorem shaped_dI (ns : List Int) : SeqAt.shaped (dI ns) = true := by
  unfold SeqAt.shaped
  have := depth_dI ns
  rw [lay_dI, Bool.true_and]
  exact decide_eq_true (by omega)
theorem minD_rows : ∀ (xs : List (List Int)) (x : List Int), PySem.W.minD (dI x) (xs.map dI) = dI (RT.pickL x xs)
  | [], x => rfl
  | y :: xs, x => by
    show PySem.W.minD (if PySem.W.dataLt (dI y) (dI x) then dI y else dI x) (xs.map dI) = dI (RT.pickL (if lexLt y x then y else x) xs)
    rw [lt_dI]
    by_cases h : lexLt y x = true
    · rw [if_pos h, if_pos h, minD_rows xs y]
    · rw [if_neg h, if_neg h, minD_rows xs x]
theorem dpAll_rows {K : PySem.W.Frag} {H : Hp} : ∀ {as : List Addr} {xs : List (List Int)}, Paired (fun p t => SqT K H p (t.map V.int)) as xs → DpAll K H (as.map V.ref) (xs.map dI)
  | _, _, .nil => .nil
  | _, _, .cons h t => .cons (dp_tup h) (dpAll_rows t)
theorem depth_rows : ∀ xs : List (List Int), PyData.depthAll (xs.map dI) ≤ 2
  | [] => by show 0 ≤ 2; omega
  | x :: xs => by
    show max (PyData.depth (dI x)) (PyData.depthAll (xs.map dI)) ≤ 2
    have h := depth_rows xs
    have e := depth_dI x
    omega
theorem alike_rows (xs : List (List Int)) : PySem.W.AlikeAll (xs.map dI) := by
  refine ⟨fun a ha b hb => ?_, fun a ha => ?_⟩
  · obtain ⟨n, _, rfl⟩ := List.mem_map.mp ha
    obtain ⟨m, _, rfl⟩ := List.mem_map.mp hb
    unfold dI
    rw [PySem.W.alike]
    exact alike_ints n m
  · obtain ⟨n, _, rfl⟩ := List.mem_map.mp ha
    unfold dI
    intro z
    cases z
theorem dI_inj {ns ms : List Int} (h : dI ns = dI ms) : ns = ms := by
  have e := eqv_dI ns ms
  rw [h, eqv_dI, decide_eq_true rfl] at e
  exact of_decide_eq_true e.symm
theorem paired_at {α β : Type} {F : α → β → Prop} : ∀ {l₁ : List α} {l₂ : List β} {i : Nat} {a : α}, Paired F l₁ l₂ → l₁[i]? = some a → ∃ b, l₂[i]? = some b ∧ F a b
  | _, _, _, _, .nil, h => by simp at h
  | _, _, 0, _, .cons r _, h => by simp at h; subst h; exact ⟨_, rfl, r⟩
  | _, _, i + 1, _, .cons _ t, h => by
    obtain ⟨b, h1, h2⟩ := paired_at (i := i) t (by simpa using h)
    exact ⟨b, by simpa using h1, h2⟩
section
variable {X : Cx}
/-- min of a list of tuples of ints -/
def rMinT (K : PySem.W.Frag) : List V → Hp → VK → Prop := fun vs H Q => ∃ (a : Addr) (as : List Addr) (x : List Int) (xs : List (List Int)), vs = [V.ref a] ∧ SqL K H a (as.map V.ref) ∧ Paired (fun p t => SqT K H p (t.map V.int)) as (x :: xs) ∧
  ∀ p, SqT K H p ((RT.pickL x xs).map V.int) → Q (.ref p) H
theorem cr_minT (hc : X.calm = true) (hu : X.A.units + 64 < cLine) : CallR X (.builtin "min") (rMinT X.K) := by
  intro pn s0 σ H _ us Q I r hmin
  obtain ⟨a, as, x, xs, rfl, hs, hp, q⟩ := hmin
  have ⟨its, rv, hl, _⟩ := I.list hs
  rw [Vals.ref1 r]
  obtain ⟨bs, hr⟩ := Dp.readsAll I _ _ its (dpAll_rows hp) rv
  have hd := depth_rows (x :: xs)
  refine PySem.W.min_list_data (I.ok.hd hc) hl.isList (x := dI x) (xs := xs.map dI) (as := bs) (show ReadsAll s0.heap its.toArray.toList (dI x :: xs.map dI) bs from hr) (alike_rows (x :: xs)) (by have : PyData.depthAll (dI x :: xs.map dI) ≤ 2 := hd; omega) fun i v h' tk cs hv rd hk => ?_
  have hv : its[i]? = some v := by simpa using hv
  have hi : i < (as.map V.ref).length := by
    have := (List.getElem?_eq_some_iff.mp hv).1
    rw [rv.length]; exact this
  obtain ⟨u, hu1, hu2⟩ := rv.get (List.getElem?_eq_getElem hi)
  rw [hv] at hu1
  cases hu1
  rw [List.length_map] at hi
  rw [List.getElem_map] at hu2
  have hvr : v = .ref as[i] := hu2
  subst hvr
  obtain ⟨t, ht1, ht2⟩ := paired_at hp (List.getElem?_eq_getElem hi)
  obtain ⟨ds, rt⟩ := Dp.reads I (dI t) _ _ (dp_tup ht2) rfl
  have rt' := PySem.W.reads_keeps hk rt
  rw [minD_rows] at rd
  have e : dI t = dI (RT.pickL x xs) := SeqAt.Reads.unique _ _ _ _ _ (lay_dI t) rt' rd
  have e := dI_inj e
  subst e
  exact ⟨.ref _, H, I.kept hk, rfl, q _ ht2⟩
/-- t > u of tuples of ints -/
def rGtT (K : PySem.W.Frag) : R2 := fun x y H Q => ∃ a b ns ms, x = .ref a ∧ y = .ref b ∧ SqT K H a (ns.map V.int) ∧ SqT K H b (ms.map V.int) ∧ Q (.bl (HT.lexLt ms ns)) H
theorem op_gtT (hu : X.A.units + 64 < cLine) : OpR X (compareOp .Gt) (rGtT X.K) := by
  intro pn s0 σ H p1 p2 v1 v2 Q I rx ry want
  obtain ⟨a, b, ns, ms, rfl, rfl, ha, hb, q⟩ := id want
  cases rx
  cases ry
  obtain ⟨as, r1⟩ := Dp.reads I (dI ns) _ _ (dp_tup ha) rfl
  obtain ⟨bs, r2⟩ := Dp.reads I (dI ms) _ _ (dp_tup hb) rfl
  have d1 := depth_dI ns
  refine PySem.W.gt_data r1 r2 (by unfold dI; rw [PySem.W.alike]; exact alike_ints ns ms) (by unfold dI; intro z; cases z) (by have := Nat.min_le_left (dI ns).depth (dI ms).depth; omega) ?_
  rw [lt_dI]
  exact ⟨.bl _, H, I, rfl, q⟩
end
section
variable {X : Cx}
/-- f(k = v, ..), by keywords alone -/
theorem pe_callK0 {x : Str} {p pos : Pos} {kws : List Keyword} {CX : CXT} {k : Nat} {f : Addr} {fd : FuncData} {ps ks : List Str} {sp : Sp} {g : List Value → List Value → List Value} {gV : List V → List V → List V} {E : XK} {tk : TA}
    (F : FnOk X.prog X.w X.K X.mg X.base CX k f fd ps sp) (room : Room k X.A) (gl : Gl X x) (at_ : X.mg x = some (.ref f)) (kept : PySem.W.keepIn X.K (.ref f) = true) (bind : KBinds X.K fd ps ks g gV) (pass : Passes CX X E)
    (args : PK X kws tk) (named : (backToKw pos (keywordEach kws X.env)).all (·.1.isSome) = true := by rfl) (names : (backToKw pos (keywordEach kws X.env)).filterMap (·.1) = ks := by rfl)
    (dbg : (x == ("__debug__" : Str)) = false := by decide) (plain : ((backTo pos (starEach [] X.env)).any (·.1) || (backToKw pos (keywordEach kws X.env)).any (·.1.isNone)) = false := by rfl) :
    PE X (.Call (.Name x p) [] kws pos) (tCallK sp gV E tNil tk) :=
  ⟨fun pn s0 σ H Q I want => wpAny_Call_Name_kw (ld_glob I gl at_ (PySem.W.callWith_KW0 (h₀ := X.base) I.ok.mod.kin kept named (thn (args.run pos pn s0 σ H _ I want) fun ws s2 ⟨zs, H2, I2, rz, q2⟩ =>
    ⟨I2.kIn, by rw [names]; exact run_fnk (us := []) (vs := []) F room bind pass I2 .nil rz q2⟩) plain) dbg)⟩
/-- all by keywords, in the order of the parameters -/
def kwG (us ws : List Value) : List Value := match us with
  | [] => ws
  | _ => []
def kwV (us ws : List V) : List V := match us with
  | [] => ws
  | _ => []
theorem kw_rel {vs : List V} {us : List Value} {zs : List V} {ws : List Value} (r : Vals vs us) (z : Vals zs ws) : Vals (kwV vs zs) (kwG us ws) := by
  cases r with
  | nil => exact z
  | cons _ _ => exact .nil
end
end
end L2

set_option Elab.async false
set_option linter.all false
set_option maxRecDepth 100000
set_option maxHeartbeats 4000000
namespace L2
open PySem PySem.Spec PyProof.Rows HT
theorem same_tupX {K : PySem.W.Frag} {H H' : Hp} {a : Addr} {xs : List V} (e : Same H H') (h : SqT K H a xs) : SqT K H' a xs := by
  rcases h with (h | ⟨o, h⟩) | h
  · exact .inl (.inl (e _ _ h))
  · exact .inl (.inr ⟨o, e _ _ h⟩)
  · exact .inr h
mutual
theorem Dp.same {K : PySem.W.Frag} {H H' : Hp} (s : Same H H') : ∀ (d : PyData) (v : V), Dp K H v d → Dp K H' v d
  | .none, _, h => by cases h; exact .non
  | .bool _, _, h => by cases h; exact .bl _
  | .int _, _, h => by cases h; exact .int _
  | .str _, _, h => by cases h; exact .str _
  | .list ds, _, h => by
    cases h with
    | lst hs ha => exact .lst (s.seq hs) (DpAll.same s ds _ ha)
  | .tuple ds, _, h => by
    cases h with
    | tup hs ha => exact .tup (same_tupX s hs) (DpAll.same s ds _ ha)
  | .dict _, _, h => by cases h
theorem DpAll.same {K : PySem.W.Frag} {H H' : Hp} (s : Same H H') : ∀ (ds : List PyData) (vs : List V), DpAll K H vs ds → DpAll K H' vs ds
  | [], _, h => by cases h; exact .nil
  | d :: ds, _, h => by
    cases h with
    | cons h1 h2 => exact .cons (Dp.same s d _ h1) (DpAll.same s ds _ h2)
end
theorem DpAll.len {K : PySem.W.Frag} {H : Hp} : ∀ {vs : List V} {ds : List PyData}, DpAll K H vs ds → vs.length = ds.length
  | _, _, .nil => rfl
  | _, _, .cons _ t => congrArg (· + 1) (DpAll.len t)
theorem DpAll.at {K : PySem.W.Frag} {H : Hp} : ∀ {vs : List V} {ds : List PyData} {i : Nat} {v : V}, DpAll K H vs ds → vs[i]? = some v → ∃ d, ds[i]? = some d ∧ Dp K H v d
  | _, _, _, _, .nil, h => by simp at h
  | _, _, 0, _, .cons r _, h => by simp at h; subst h; exact ⟨_, rfl, r⟩
  | _, _, i + 1, _, .cons _ t, h => by
    obtain ⟨d, h1, h2⟩ := DpAll.at (i := i) t (by simpa using h)
    exact ⟨d, by simpa using h1, h2⟩
def tyD : PyData → String
  | .none => "NoneType"
  | .bool _ => "bool"
  | .int _ => "int"
  | .str _ => "str"
  | .list _ => "list"
  | .tuple _ => "tuple"
  | .dict _ => "dict"
theorem Dp.ty {K : PySem.W.Frag} {H : Hp} {v : V} {d : PyData} (h : Dp K H v d) : TyX K H v (.type (tyD d)) := by
  cases h with
  | non => exact .base .non
  | bl b => exact .base (.bl b)
  | int i => exact .base (.int i)
  | str x => exact .base (.str x)
  | lst hs _ =>
    rcases hs with (h | ⟨o, h⟩) | ⟨o, its, n, hk, hc, _⟩
    · exact .base (.lst h)
    · exact .base (.frz h)
    · exact .kList hk hc
  | tup hs _ =>
    rcases hs with (h | ⟨o, h⟩) | ⟨o, its, n, hk, hc, _⟩
    · exact .base (.tup h)
    · exact .fTuple h
    · exact .kTuple hk hc
mutual
def wid : PyData → Nat
  | .list xs | .tuple xs => max xs.length (widAll xs)
  | _ => 0
def widAll : List PyData → Nat
  | [] => 0
  | x :: xs => max (wid x) (widAll xs)
end
theorem wid_at : ∀ {ds : List PyData} {i : Nat} {d : PyData}, ds[i]? = some d → wid d ≤ widAll ds
  | [], _, _, h => by simp at h
  | x :: xs, 0, d, h => by simp at h; subst h; rw [widAll]; exact Nat.le_max_left _ _
  | x :: xs, i + 1, d, h => by
    have := wid_at (ds := xs) (i := i) (d := d) (by simpa using h)
    rw [widAll]; exact Nat.le_trans this (Nat.le_max_right _ _)
theorem depth_at : ∀ {ds : List PyData} {i : Nat} {d : PyData}, ds[i]? = some d → d.depth ≤ PyData.depthAll ds
  | [], _, _, h => by simp at h
  | x :: xs, 0, d, h => by simp at h; subst h; rw [PyData.depthAll]; exact Nat.le_max_left _ _
  | x :: xs, i + 1, d, h => by
    have := depth_at (ds := xs) (i := i) (d := d) (by simpa using h)
    rw [PyData.depthAll]; exact Nat.le_trans this (Nat.le_max_right _ _)
theorem take_next {α : Type} {xs ys : List α} {i : Nat} {x y : α} (hx : xs[i]? = some x) (hy : ys[i]? = some y) : (xs.take (i + 1) = ys.take (i + 1)) ↔ (xs.take i = ys.take i ∧ x = y) := by
  have lx := (List.getElem?_eq_some_iff.mp hx).1
  have ly := (List.getElem?_eq_some_iff.mp hy).1
  rw [List.take_add_one, List.take_add_one, hx, hy]
  constructor
  · intro e
    have := List.append_inj e (by rw [List.length_take, List.length_take]; omega)
    exact ⟨this.1, by simpa using this.2⟩
  · rintro ⟨e1, e2⟩
    rw [e1, e2]
theorem walk_zipT {K : PySem.W.Frag} {a b : Addr} {xs ys : List V} {n : Nat} (hn : n = min xs.length ys.length) : Walk (RZ.ItzT K a b) n (fun H => SqT K H a xs ∧ SqT K H b ys) (YPair (fun i => xs[i]?) (fun i => ys[i]?)) where
  goes := fun i H hi st => ⟨xs, ys, xs[i]'(by omega), ys[i]'(by omega), st.1, st.2, List.getElem?_eq_getElem (by omega), List.getElem?_eq_getElem (by omega)⟩
  stops := fun H st => ⟨xs, ys, st.1, st.2, by omega⟩
  yields := fun i H v H' _ st ⟨t, x, y, e1, e2, e3, fx, fy⟩ => ⟨t, x, y, e1, e2, e3, fx xs st.1, fy ys st.2⟩
def qBool : PyData → Bool
  | .bool _ => true
  | _ => false
def qInt : PyData → Bool
  | .bool _ => true
  | .int _ => true
  | _ => false
def qStr : PyData → Bool
  | .str _ => true
  | _ => false
def qIS : PyData → Bool
  | .bool _ => true
  | .int _ => true
  | .str _ => true
  | _ => false
def qList : PyData → Bool
  | .list _ => true
  | _ => false
def qTup : PyData → Bool
  | .tuple _ => true
  | _ => false
theorem kq_bool {K : PySem.W.Frag} : ∀ d : PyData, PySem.W.kitOne K (.type (tyD d)) (.type "bool") = some (qBool d)
  | .none => kit_ty (a := "NoneType") (b := "bool") (r := false) (by decide +kernel)
  | .bool _ => kit_ty (a := "bool") (b := "bool") (r := true) (by decide +kernel)
  | .int _ => kit_ty (a := "int") (b := "bool") (r := false) (by decide +kernel)
  | .str _ => kit_ty (a := "str") (b := "bool") (r := false) (by decide +kernel)
  | .list _ => kit_ty (a := "list") (b := "bool") (r := false) (by decide +kernel)
  | .tuple _ => kit_ty (a := "tuple") (b := "bool") (r := false) (by decide +kernel)
  | .dict _ => kit_ty (a := "dict") (b := "bool") (r := false) (by decide +kernel)
theorem kq_int {K : PySem.W.Frag} : ∀ d : PyData, PySem.W.kitOne K (.type (tyD d)) (.type "int") = some (qInt d)
  | .none => kit_ty (a := "NoneType") (b := "int") (r := false) (by decide +kernel)
  | .bool _ => kit_ty (a := "bool") (b := "int") (r := true) (by decide +kernel)
  | .int _ => kit_ty (a := "int") (b := "int") (r := true) (by decide +kernel)
  | .str _ => kit_ty (a := "str") (b := "int") (r := false) (by decide +kernel)
  | .list _ => kit_ty (a := "list") (b := "int") (r := false) (by decide +kernel)
  | .tuple _ => kit_ty (a := "tuple") (b := "int") (r := false) (by decide +kernel)
  | .dict _ => kit_ty (a := "dict") (b := "int") (r := false) (by decide +kernel)
theorem kq_str {K : PySem.W.Frag} : ∀ d : PyData, PySem.W.kitOne K (.type (tyD d)) (.type "str") = some (qStr d)
  | .none => kit_ty (a := "NoneType") (b := "str") (r := false) (by decide +kernel)
  | .bool _ => kit_ty (a := "bool") (b := "str") (r := false) (by decide +kernel)
  | .int _ => kit_ty (a := "int") (b := "str") (r := false) (by decide +kernel)
  | .str _ => kit_ty (a := "str") (b := "str") (r := true) (by decide +kernel)
  | .list _ => kit_ty (a := "list") (b := "str") (r := false) (by decide +kernel)
  | .tuple _ => kit_ty (a := "tuple") (b := "str") (r := false) (by decide +kernel)
  | .dict _ => kit_ty (a := "dict") (b := "str") (r := false) (by decide +kernel)
theorem kq_list {K : PySem.W.Frag} : ∀ d : PyData, PySem.W.kitOne K (.type (tyD d)) (.type "list") = some (qList d)
  | .none => kit_ty (a := "NoneType") (b := "list") (r := false) (by decide +kernel)
  | .bool _ => kit_ty (a := "bool") (b := "list") (r := false) (by decide +kernel)
  | .int _ => kit_ty (a := "int") (b := "list") (r := false) (by decide +kernel)
  | .str _ => kit_ty (a := "str") (b := "list") (r := false) (by decide +kernel)
  | .list _ => kit_ty (a := "list") (b := "list") (r := true) (by decide +kernel)
  | .tuple _ => kit_ty (a := "tuple") (b := "list") (r := false) (by decide +kernel)
  | .dict _ => kit_ty (a := "dict") (b := "list") (r := false) (by decide +kernel)
theorem kq_tup {K : PySem.W.Frag} : ∀ d : PyData, PySem.W.kitOne K (.type (tyD d)) (.type "tuple") = some (qTup d)
  | .none => kit_ty (a := "NoneType") (b := "tuple") (r := false) (by decide +kernel)
  | .bool _ => kit_ty (a := "bool") (b := "tuple") (r := false) (by decide +kernel)
  | .int _ => kit_ty (a := "int") (b := "tuple") (r := false) (by decide +kernel)
  | .str _ => kit_ty (a := "str") (b := "tuple") (r := false) (by decide +kernel)
  | .list _ => kit_ty (a := "list") (b := "tuple") (r := false) (by decide +kernel)
  | .tuple _ => kit_ty (a := "tuple") (b := "tuple") (r := true) (by decide +kernel)
  | .dict _ => kit_ty (a := "dict") (b := "tuple") (r := false) (by decide +kernel)
theorem kq_is {K : PySem.W.Frag} (d : PyData) : PySem.W.kitAny K (.type (tyD d)) [.type "int", .type "str"] = some (qIS d) := by
  refine kitAny_cons (kq_int d) (fun h => kitAny_cons (kq_str d) (fun h2 => ?_) (fun h2 => ?_)) (fun h => ?_)
  · cases d <;> first | exact kitAny_nil | (cases h; done) | (cases h2; done)
  · cases d <;> first | rfl | (cases h2; done)
  · cases d <;> first | rfl | (cases h; done)
end L2

set_option Elab.async false
set_option linter.all false
set_option maxRecDepth 100000
set_option maxHeartbeats 4000000
namespace KK
open PySem PySem.Spec PyProof.Rows L2 RT
def top (i : Nat) : Stmt := PySem.Challenge.pw_flipthreads_k02_names_and_least_turns.main.body.getD i (.Pass ⟨0, 0, 0, 0⟩)
abbrev sTurn : Stmt := top 4
abbrev sStart : Stmt := top 5
theorem same_new {H : Hp} {p : Addr} (h : H p = none) (o : HO) : Same H (upd H p o) := fun b u q => by rw [upd_ne (ne_of_none q h)]; exact q
theorem Same.tup {K : PySem.W.Frag} {H H' : Hp} {a : Addr} {xs : List V} (e : Same H H') (h : SqT K H a xs) : SqT K H' a xs := by
  rcases h with (h | ⟨o, h⟩) | h
  · exact .inl (.inl (e _ _ h))
  · exact .inl (.inr ⟨o, e _ _ h⟩)
  · exact .inr h
theorem small {n : Nat} (h : n ≤ 1000) : n ≤ sizeLine := Nat.le_of_lt (small1000 h)
/-- an item by a place that is reckoned around -/
theorem at_cyc {ns : List Int} {i k : Nat} (hn : 0 < ns.length) : atI (ns.map V.int) (((i : Int) + (k : Int)) % (((ns.map V.int).length : Nat) : Int)) = some (.int (cyc ns (i + k))) := by
  have e : ((i : Int) + (k : Int)) % (((ns.map V.int).length : Nat) : Int) = (((i + k) % ns.length : Nat) : Int) := by rw [List.length_map, Int.natCast_emod, Int.natCast_add]
  rw [e]
  refine atI_nat ?_
  have hl : (i + k) % ns.length < ns.length := Nat.mod_lt _ hn
  rw [List.getElem?_map, List.getElem?_eq_getElem hl]
  show some (V.int _) = some (V.int _)
  unfold cyc
  rw [List.getD_eq_getElem?_getD, List.getElem?_eq_getElem hl]
  rfl
section
variable {P : Program} {w : World} {K : PySem.W.Frag} {mg : Str → Option Value} {base : Heap}
theorem scStart : FnScope ["row", "many", "start", "rival", "equal", "here", "there"] ["row"] (defScope sStart) := ⟨rfl, rfl, rfl, by decide +kernel, rfl, by decide +kernel, by decide +kernel⟩
def spStart (K : PySem.W.Frag) : Sp := fun vs H Q _ => ∃ (a : Addr) (ns : List Int), vs = [.ref a] ∧ SqT K H a (ns.map V.int) ∧ ns.length ≤ 1000 ∧ ∀ k : Nat, k ≤ ns.length → rot k ns = least ns → Q (.int k) H
def mu (n : Nat) : L2.St → Hp → Nat
  | [_, _, some (.int i), some (.int j), some (.int k), _, _], _ => (3 * (n : Int) + 5 - (i + j + k)).toNat
  | _, _ => 0
theorem ok_start {f : Addr} {fd : FuncData} (F : Fun K "least_start" "least_start" sStart f fd) (ml : mg "len" = none) (mm : mg "min" = none) : FnOk P w K mg base CX0 1 f fd ["row"] (spStart K) := by
  refine F.ok scStart (fun vs H Q E h => ?_) (fun cdv A outer s H vs Q E hr h => ?_)
  · obtain ⟨a, ns, rfl, _⟩ := h
    rfl
  obtain ⟨a, ns, rfl, hS, hlen, q⟩ := h
  refine ⟨_, pss_cons (ps_set (i := 1) scStart.nd rfl (.inl rfl) (pe_callB call_len_seq (by rfl) ml PySem.boot_len (pa_cons (pv 0) pa_nil)))
    (pss_cons (ps_set (i := 2) scStart.nd rfl (.inl rfl) pe_int)
    (pss_cons (ps_set (i := 3) scStart.nd rfl (.inl rfl) pe_int)
    (pss_cons (ps_set (i := 4) scStart.nd rfl (.inl rfl) pe_int)
    (pss_cons (ps_while PassesOwn.never (PW.pt (pw_and (pt_cmpR op_lt (pv 2) (pv 1) (nomark _)) (pw_and (pt_cmpR op_lt (pv 3) (pv 1) (nomark _)) (pw_and1 (pt_cmpR op_lt (pv 4) (pv 1) (nomark _))))))
      (pss_cons (ps_set (i := 5) scStart.nd rfl (.inl rfl) (pe_ix ix_tup (pv 0) (pe_op op_mod (pe_op op_add (pv 2) (pv 4)) (pv 1)) (fun _ _ => rfl)))
      (pss_cons (ps_set (i := 6) scStart.nd rfl (.inl rfl) (pe_ix ix_tup (pv 0) (pe_op op_mod (pe_op op_add (pv 3) (pv 4)) (pv 1)) (fun _ _ => rfl)))
      (pss_cons (ps_if (pt_cmpR op_eq (pv 5) (pv 6) (nomark _)) (pss_cons (ps_aug (i := 4) scStart.nd rfl (.inl rfl) pe_int ip_add) (pss_one ps_continue)) pss_nil)
      (pss_cons (ps_if (pt_cmpR op_lt (pv 5) (pv 6) (nomark _)) (pss_one (ps_aug (i := 3) scStart.nd rfl (.inl rfl) (pe_op op_add (pv 4) pe_int) ip_add)) (pss_one (ps_aug (i := 2) scStart.nd rfl (.inl rfl) (pe_op op_add (pv 4) pe_int) ip_add)))
      (pss_cons (ps_if (pt_cmpR op_eq (pv 2) (pv 3) (nomark _)) (pss_one (ps_aug (i := 3) scStart.nd rfl (.inl rfl) pe_int ip_add)) pss_nil)
      (pss_one (ps_set (i := 4) scStart.nd rfl (.inl rfl) pe_int))))))))
    (pss_one (ps_ret (pe_callB (call_min2 rfl) (by rfl) mm (by decide +kernel) (pa_cons (pv 2) (pa_cons (pv 3) pa_nil))))))))), ?_⟩
  refine ⟨_, rfl, a, _, rfl, .inr hS, ?_⟩
  refine while_by (fun σ H' => H' = H ∧ ∃ (i j k : Nat) (x y : Option V), σ = [some (.ref a), some (.int (((ns.map V.int).length : Nat) : Int)), some (.int i), some (.int j), some (.int k), x, y] ∧ Two ns i j k ∧ i ≤ 3 * ns.length ∧ j ≤ 3 * ns.length + 1)
    (mu ns.length) ⟨rfl, 0, 1, 0, none, none, rfl, two_start ns, by omega, by omega⟩ ?_ ?_
  · rintro σ H' ⟨rfl, i, j, k, x, y, rfl, T, bi, bj⟩
    have el : (ns.map V.int).length = ns.length := List.length_map _
    have fin : ¬ (i < ns.length ∧ j < ns.length ∧ k < ns.length) → Q (.int (if ((j : Int) < (i : Int)) then (j : Int) else (i : Int))) H' := fun c => by
      have e : (if ((j : Int) < (i : Int)) then (j : Int) else (i : Int)) = ((min i j : Nat) : Int) := by split <;> omega
      rw [e]
      by_cases hn : 0 < ns.length
      · have g := two_end T hn (by omega)
        exact q _ (Nat.le_of_lt g.1) (good_is g)
      · have en : ns = [] := List.length_eq_zero_iff.mp (by omega)
        subst en
        have z : i = 0 ∧ True := by
          refine ⟨?_, trivial⟩
          have : i ≤ 3 * 0 := bi
          omega
        have ez : min i j = 0 := by omega
        rw [ez]
        exact q 0 (Nat.le_refl _) (by rw [rot_nil]; rfl)
    refine ⟨_, rfl, _, rfl, _, _, rfl, rfl, _, rfl, ?_⟩
    refine ite2 (fun c1 => ?_) (fun c1 => ?_)
    · have c1 : (i : Int) < (((ns.map V.int).length : Nat) : Int) := of_decide_eq_true c1
      refine ⟨_, rfl, _, rfl, _, _, rfl, rfl, _, rfl, ?_⟩
      refine ite2 (fun c2 => ?_) (fun c2 => ?_)
      · have c2 : (j : Int) < (((ns.map V.int).length : Nat) : Int) := of_decide_eq_true c2
        refine ⟨_, rfl, _, rfl, _, _, rfl, rfl, _, rfl, ?_⟩
        refine ite2 (fun c3 => ?_) (fun c3 => ?_)
        · have c3 : (k : Int) < (((ns.map V.int).length : Nat) : Int) := of_decide_eq_true c3
          rw [el] at c1 c2 c3
          have hn : 0 < ns.length := by omega
          have hp : (0 : Int) < (((ns.map V.int).length : Nat) : Int) := by rw [el]; omega
          refine ⟨_, rfl, _, rfl, _, rfl, _, _, rfl, rfl, _, rfl, _, _, rfl, rfl, hp, a, _, _, _, rfl, rfl, hS, at_cyc hn, ?_⟩
          refine ⟨_, rfl, _, rfl, _, rfl, _, _, rfl, rfl, _, rfl, _, _, rfl, rfl, hp, a, _, _, _, rfl, rfl, hS, at_cyc hn, ?_⟩
          refine ⟨_, rfl, _, rfl, rfl, _, rfl, ?_⟩
          refine ite2 (fun c4 => ?_) (fun c4 => ?_)
          · have c4 : cyc ns (i + k) = cyc ns (j + k) := V.int.inj (of_decide_eq_true c4)
            refine ⟨_, rfl, _, _, rfl, rfl, ?_⟩
            refine ⟨⟨rfl, i, j, k + 1, _, _, rfl, two_eq T c4, bi, bj⟩, ?_⟩
            show (3 * (ns.length : Int) + 5 - ((i : Int) + j + ((k : Int) + 1))).toNat < (3 * (ns.length : Int) + 5 - ((i : Int) + j + k)).toNat
            omega
          · have c4 : ¬ cyc ns (i + k) = cyc ns (j + k) := fun z => c4 (decide_eq_true (congrArg V.int z))
            refine ⟨_, rfl, _, rfl, _, _, rfl, rfl, _, rfl, ?_⟩
            refine ite2 (fun c5 => ?_) (fun c5 => ?_)
            · have c5 : cyc ns (i + k) < cyc ns (j + k) := of_decide_eq_true c5
              have T' := two_lt T c5 (by omega)
              refine ⟨_, rfl, _, rfl, _, _, rfl, rfl, _, _, rfl, rfl, ?_⟩
              refine ⟨_, rfl, _, rfl, rfl, _, rfl, ?_⟩
              refine ite2 (fun c6 => ?_) (fun c6 => ?_)
              · have c6 : (i : Int) = (j : Int) + ((k : Int) + 1) := V.int.inj (of_decide_eq_true c6)
                rw [if_pos (by omega)] at T'
                refine ⟨_, rfl, _, _, rfl, rfl, ?_⟩
                refine ⟨⟨rfl, i, j + (k + 1) + 1, 0, _, _, rfl, T', bi, by omega⟩, ?_⟩
                show (3 * (ns.length : Int) + 5 - ((i : Int) + ((j : Int) + (k + 1) + 1) + 0)).toNat < (3 * (ns.length : Int) + 5 - ((i : Int) + j + k)).toNat
                omega
              · have c6 : ¬ (i : Int) = (j : Int) + ((k : Int) + 1) := fun z => c6 (decide_eq_true (congrArg V.int z))
                rw [if_neg (by omega)] at T'
                refine ⟨⟨rfl, i, j + (k + 1), 0, _, _, rfl, T', bi, by omega⟩, ?_⟩
                show (3 * (ns.length : Int) + 5 - ((i : Int) + ((j : Int) + (k + 1)) + 0)).toNat < (3 * (ns.length : Int) + 5 - ((i : Int) + j + k)).toNat
                omega
            · have c5 : ¬ cyc ns (i + k) < cyc ns (j + k) := fun z => c5 (decide_eq_true z)
              have T' := two_gt T (by omega) (by omega)
              refine ⟨_, rfl, _, rfl, _, _, rfl, rfl, _, _, rfl, rfl, ?_⟩
              refine ⟨_, rfl, _, rfl, rfl, _, rfl, ?_⟩
              refine ite2 (fun c6 => ?_) (fun c6 => ?_)
              · have c6 : (i : Int) + ((k : Int) + 1) = (j : Int) := V.int.inj (of_decide_eq_true c6)
                rw [if_pos (by omega)] at T'
                refine ⟨_, rfl, _, _, rfl, rfl, ?_⟩
                refine ⟨⟨rfl, i + (k + 1), j + 1, 0, _, _, rfl, T', by omega, by omega⟩, ?_⟩
                show (3 * (ns.length : Int) + 5 - (((i : Int) + (k + 1)) + ((j : Int) + 1) + 0)).toNat < (3 * (ns.length : Int) + 5 - ((i : Int) + j + k)).toNat
                omega
              · have c6 : ¬ (i : Int) + ((k : Int) + 1) = (j : Int) := fun z => c6 (decide_eq_true (congrArg V.int z))
                rw [if_neg (by omega)] at T'
                refine ⟨⟨rfl, i + (k + 1), j, 0, _, _, rfl, T', by omega, by omega⟩, ?_⟩
                show (3 * (ns.length : Int) + 5 - (((i : Int) + (k + 1)) + (j : Int) + 0)).toNat < (3 * (ns.length : Int) + 5 - ((i : Int) + j + k)).toNat
                omega
        · have c3 : ¬ (k : Int) < (((ns.map V.int).length : Nat) : Int) := fun z => c3 (decide_eq_true z)
          rw [el] at c1 c2 c3
          exact ⟨_, rfl, _, rfl, _, _, rfl, fin (by omega)⟩
      · have c2 : ¬ (j : Int) < (((ns.map V.int).length : Nat) : Int) := fun z => c2 (decide_eq_true z)
        rw [el] at c1 c2
        refine iteF ?_
        exact ⟨_, rfl, _, rfl, _, _, rfl, fin (by omega)⟩
    · have c1 : ¬ (i : Int) < (((ns.map V.int).length : Nat) : Int) := fun z => c1 (decide_eq_true z)
      rw [el] at c1
      refine iteF ?_
      exact ⟨_, rfl, _, rfl, _, _, rfl, fin (by omega)⟩
  · rintro σ H' Q1 Q2 hm ⟨x1, e1, x2, e2, i, j, e3, e4, b, e5, g⟩
    refine ⟨x1, e1, x2, e2, i, j, e3, e4, b, e5, ?_⟩
    cases b with
    | false => exact iteF (hm _ _ g)
    | true =>
      obtain ⟨x1, e1, x2, e2, i, j, e3, e4, b, e5, g⟩ := g
      refine ⟨x1, e1, x2, e2, i, j, e3, e4, b, e5, ?_⟩
      cases b with
      | false => exact iteF (hm _ _ g)
      | true =>
        obtain ⟨x1, e1, x2, e2, i, j, e3, e4, b, e5, g⟩ := g
        exact ⟨x1, e1, x2, e2, i, j, e3, e4, b, e5, hm _ _ g⟩
theorem scTurn : FnScope ["items", "row", "start"] ["items"] (defScope sTurn) := ⟨rfl, rfl, rfl, by decide +kernel, rfl, by decide +kernel, by decide +kernel⟩
/-- a list or a tuple of ints -/
def SqI (K : PySem.W.Frag) (H : Hp) (a : Addr) (ns : List Int) : Prop := SqL K H a (ns.map V.int) ∨ SqT K H a (ns.map V.int)
theorem Same.any {H H' : Hp} {a : Addr} {ns : List Int} (e : Same H H') (h : SqI K H a ns) : SqI K H' a ns := h.elim (fun h => .inl (e.seq h)) fun h => .inr (Same.tup e h)
def spTurn (K : PySem.W.Frag) : Sp := fun vs H Q _ => ∃ (a : Addr) (ns : List Int), vs = [.ref a] ∧ SqI K H a ns ∧ ns.length ≤ 1000 ∧ ∀ (p : Addr) (H' : Hp), Same H H' → SqT K H' p ((least ns).map V.int) → Q (.ref p) H'
theorem cut_from {ns : List Int} {k : Nat} (hk : k ≤ ns.length) : cutV (ns.map V.int) (some (k : Int)) none = (ns.drop k).map V.int := by
  unfold cutV
  rw [HT.sIx_nat, HT.sIx_none, List.length_map, Nat.min_eq_left hk, List.map_drop]
  exact List.take_of_length_le (by rw [List.length_drop, List.length_map]; omega)
theorem cut_to {ns : List Int} {k : Nat} (hk : k ≤ ns.length) : cutV (ns.map V.int) none (some (k : Int)) = (ns.take k).map V.int := by
  unfold cutV
  rw [HT.sIx_nat, HT.sIx_none, List.length_map, Nat.min_eq_left hk, List.map_take]
  rfl
/-- row[k:] + row[:k] of a tuple, whichever of them are the tuple itself -/
theorem turned {H : Hp} {a : Addr} {ns : List Int} {k : Nat} {Q : VK} (hS : SqT K H a (ns.map V.int)) (hl : ns.length ≤ 1000) (hk : k ≤ ns.length) (q : ∀ (p : Addr) (H' : Hp), Same H H' → SqT K H' p ((rot k ns).map V.int) → Q (.ref p) H') :
    rSlA K (.ref a) (some (k : Int)) none H fun x H1 => rSlA K (.ref a) none (some (k : Int)) H1 fun y H2 => rCatA K x y H2 Q := by
  have hcat : ∀ (p1 p2 : Addr) (H2 : Hp), Same H H2 → SqT K H2 p1 ((ns.drop k).map V.int) → SqT K H2 p2 ((ns.take k).map V.int) → rCatA K (.ref p1) (.ref p2) H2 Q := fun p1 p2 H2 s2 h1 h2 => by
    refine ⟨p1, p2, _, _, rfl, rfl, h1, h2, ?_, fun e => ?_, fun _ e => ?_, fun _ _ p hp => ?_⟩
    · rw [List.length_map, List.length_map, List.length_drop, List.length_take]
      exact small (by omega)
    · refine q p2 H2 s2 ?_
      have e' : ns.drop k = [] := List.map_eq_nil_iff.mp e
      unfold rot
      rw [e', List.nil_append]
      exact h2
    · refine q p1 H2 s2 ?_
      have e' : ns.take k = [] := List.map_eq_nil_iff.mp e
      unfold rot
      rw [e', List.append_nil]
      exact h1
    · refine q p _ (s2.trans (same_new hp _)) (SqT.of ?_)
      rw [upd_same]
      unfold rot
      rw [List.map_append]
  have hsec : ∀ (p1 : Addr) (H1 : Hp), Same H H1 → SqT K H1 p1 ((ns.drop k).map V.int) → rSlA K (.ref a) none (some (k : Int)) H1 fun y H2 => rCatA K (.ref p1) y H2 Q := fun p1 H1 s1 h1 => by
    refine ⟨a, _, rfl, Same.tup s1 hS, fun e => ?_, fun _ p hp => ?_⟩
    · refine hcat p1 a H1 s1 h1 ?_
      have e2 := e.2
      rw [HT.sIx_nat, List.length_map, Nat.min_eq_left hk] at e2
      rw [e2, List.take_length]
      exact Same.tup s1 hS
    · have s2 := same_new hp (.tup (cutV (ns.map V.int) none (some (k : Int))))
      refine hcat p1 p _ (s1.trans s2) (Same.tup s2 h1) (SqT.of ?_)
      rw [upd_same, cut_to hk]
  refine ⟨a, _, rfl, hS, fun e => ?_, fun _ p hp => ?_⟩
  · refine hsec a H (Same.refl H) ?_
    have e1 := e.1
    rw [HT.sIx_nat, List.length_map, Nat.min_eq_left hk] at e1
    rw [e1, List.drop_zero]
    exact hS
  · have s2 := same_new hp (.tup (cutV (ns.map V.int) (some (k : Int)) none))
    refine hsec p _ s2 (SqT.of ?_)
    rw [upd_same, cut_from hk]
theorem slA_mono {x : V} {lo hi : Option Int} {H : Hp} {Q Q' : VK} (h : rSlA K x lo hi H Q) (f : ∀ v H', Q v H' → Q' v H') : rSlA K x lo hi H Q' := by
  obtain ⟨a, xs, e, hs, h1, h2⟩ := h
  exact ⟨a, xs, e, hs, fun c => f _ _ (h1 c), fun c p hp => f _ _ (h2 c p hp)⟩
theorem ok_turn {f g : Addr} {fd gd : FuncData} (F : Fun K "least_turn" "least_turn" sTurn f fd) (mt : mg "tuple" = none) (G : FnOk P w K mg base CX0 1 g gd ["row"] (spStart K)) (bG : Binds K gd ["row"] []) (kG : PySem.W.keepIn K (.ref g) = true) (mG : mg "least_start" = some (.ref g)) :
    FnOk P w K mg base CX0 2 f fd ["items"] (spTurn K) := by
  refine F.ok scTurn (fun vs H Q E h => ?_) (fun cdv A outer s H vs Q E hr h => ?_)
  · obtain ⟨a, ns, rfl, _⟩ := h
    rfl
  obtain ⟨a, ns, rfl, hS, hlen, q⟩ := h
  refine ⟨_, pss_cons (ps_set (i := 1) scTurn.nd rfl (.inl rfl) (pe_callTy call_tuple_of (by rfl) mt (by decide +kernel) (pa_cons (pv 0) pa_nil)))
    (pss_cons (ps_set (i := 2) scTurn.nd rfl (.inl rfl) (pe_call G hr rfl mG kG bG .nil pass0 (pa_cons (pv 1) pa_nil)))
    (pss_one (ps_ret (pe_op op_catA (pe_slice sl_tupA (pv 1) (po_some (pv 2)) po_none) (pe_slice sl_tupA (pv 1) po_none (po_some (pv 2))))))), ?_⟩
  have rest : ∀ (t : Addr) (H1 : Hp), Same H H1 → SqT K H1 t (ns.map V.int) → ∀ k : Nat, k ≤ ns.length → rot k ns = least ns → rSlA K (.ref t) (some (k : Int)) none H1 fun x H2 => rSlA K (.ref t) none (some (k : Int)) H2 fun y H3 => rCatA K x y H3 Q := fun t H1 s1 h1 k hk e =>
    turned h1 hlen hk fun p H' s2 h2 => q p H' (s1.trans s2) (by rw [← e]; exact h2)
  rcases hS with hS | hS
  · refine ⟨_, rfl, a, _, rfl, .inl ⟨hS, fun t ht => ?_⟩⟩
    refine ⟨_, rfl, t, ns, rfl, SqT.of upd_same, hlen, fun k hk e => ?_⟩
    refine ⟨_, rfl, _, rfl, _, rfl, ?_⟩
    dsimp only [tNoPart]
    refine slA_mono (rest t _ (same_new ht _) (SqT.of upd_same) k hk e) fun x H2 g => ?_
    exact ⟨_, rfl, _, rfl, _, rfl, g⟩
  · refine ⟨_, rfl, a, _, rfl, .inr ⟨hS, ?_⟩⟩
    refine ⟨_, rfl, a, ns, rfl, hS, hlen, fun k hk e => ?_⟩
    refine ⟨_, rfl, _, rfl, _, rfl, ?_⟩
    dsimp only [tNoPart]
    refine slA_mono (rest a _ (Same.refl H) hS k hk e) fun x H2 g => ?_
    exact ⟨_, rfl, _, rfl, _, rfl, g⟩
end
end KK

set_option Elab.async false
set_option linter.all false
set_option maxRecDepth 100000
set_option maxHeartbeats 4000000
namespace KK
open PySem PySem.Spec PyProof.Rows L2 RT
abbrev sDeal : Stmt := top 7
abbrev sPick : Stmt := top 8
abbrev sOf : Stmt := top 9
/-- the deal at d: the cells, the place, the great cell that is used up, the mark -/
def DealAt (H : Hp) (d c : Addr) : Prop := ∃ (cells : List Int) (pos big mark : Int), H d = some (.lst [.ref c, .int pos, .int big, .int mark]) ∧ H c = some (.lst (cells.map V.int)) ∧ cells.length ≤ 63 ∧ 0 ≤ pos
/-- all but d stands -/
def Kp (d : Addr) (H H' : Hp) : Prop := ∀ b o, H b = some o → b ≠ d → H' b = some o
theorem Kp.refl (d : Addr) (H : Hp) : Kp d H H := fun _ _ h _ => h
theorem Kp.trans {d : Addr} {H H1 H2 : Hp} (a : Kp d H H1) (b : Kp d H1 H2) : Kp d H H2 := fun c o h n => b c o (a c o h n) n
theorem Kp.same {d : Addr} {H H' : Hp} (s : Same H H') : Kp d H H' := fun b o h _ => s b o h
theorem DealAt.there {H : Hp} {d c : Addr} (h : DealAt H d c) : ∃ o, H d = some o := by obtain ⟨cells, pos, big, mark, h, _⟩ := h; exact ⟨_, h⟩
theorem DealAt.there2 {H : Hp} {d c : Addr} (h : DealAt H d c) : ∃ o, H c = some o := by obtain ⟨cells, pos, big, mark, _, h, _⟩ := h; exact ⟨_, h⟩
theorem DealAt.ne {H : Hp} {d c p : Addr} (h : DealAt H d c) (n : H p = none) : p ≠ d := fun e => by
  obtain ⟨o, h⟩ := h.there
  rw [e, h] at n; cases n
theorem DealAt.ne2 {H : Hp} {d c p : Addr} (h : DealAt H d c) (n : H p = none) : p ≠ c := fun e => by
  obtain ⟨o, h⟩ := h.there2
  rw [e, h] at n; cases n
theorem DealAt.same {H H' : Hp} {d c : Addr} (h : DealAt H d c) (s : Same H H') : DealAt H' d c := by
  obtain ⟨cells, pos, big, mark, h1, h2, h3⟩ := h
  exact ⟨cells, pos, big, mark, s _ _ h1, s _ _ h2, h3⟩
theorem DealAt.put {H : Hp} {d c p : Addr} {o : HO} (h : DealAt H d c) (n1 : p ≠ d) (n2 : p ≠ c) : DealAt (upd H p o) d c := by
  obtain ⟨cells, pos, big, mark, h1, h2, h3⟩ := h
  exact ⟨cells, pos, big, mark, by rw [upd_ne n1.symm]; exact h1, by rw [upd_ne n2.symm]; exact h2, h3⟩
theorem Kp.free {d c : Addr} {H H' : Hp} (k : Kp d H H') (hd : DealAt H' d c) {p : Addr} (n : H' p = none) : H p = none := by
  cases e : H p with
  | none => rfl
  | some o => rw [k p o e (hd.ne n)] at n; cases n
theorem Kp.list {K : PySem.W.Frag} {d : Addr} {H H' : Hp} (k : Kp d H H') {p : Addr} {xs : List V} (n : p ≠ d) (h : SqL K H p xs) : SqL K H' p xs := by
  rcases h with (h | ⟨o, h⟩) | h
  · exact .inl (.inl (k _ _ h n))
  · exact .inl (.inr ⟨o, k _ _ h n⟩)
  · exact .inr h
/-- the deal's list is written anew -/
theorem deal_put {H : Hp} {d c : Addr} {cells : List Int} {l : List V} (hd : H d = some (.lst l)) (hc : H c = some (.lst (cells.map V.int))) (hne : c ≠ d) (pos big mark : Int) (hl : cells.length ≤ 63) (hp : 0 ≤ pos) :
    DealAt (upd H d (.lst [.ref c, .int pos, .int big, .int mark])) d c := ⟨cells, pos, big, mark, upd_same, by rw [upd_ne hne]; exact hc, hl, hp⟩
theorem kp_put (H : Hp) (d : Addr) (o : HO) : Kp d H (upd H d o) := fun b u h n => by rw [upd_ne n]; exact h
section
variable {P : Program} {w : World} {K : PySem.W.Frag} {mg : Str → Option Value} {base : Heap}
def nDeal : List Str := ["_law_script", "_law_cell", "_law_cells", "_law_mark"]
theorem scDeal : FnScope ["_law_script", "_law_cell", "_law_cells", "_law_mark"] ["_law_script"] (defScope sDeal) := ⟨rfl, rfl, rfl, by decide +kernel, rfl, by decide +kernel, by decide +kernel⟩
def spDeal (K : PySem.W.Frag) : Sp := fun vs H Q _ => ∃ (a : Addr) (ns : List Int), vs = [.ref a] ∧ SqL K H a (ns.map V.int) ∧ ns.length ≤ 63 ∧ ∀ (d c : Addr) (H' : Hp), Same H H' → DealAt H' d c → Q (.ref d) H'
theorem cut63 {ns : List Int} (h : ns.length ≤ 63) : cutV (ns.map V.int) none (some 63) = ns.map V.int := by
  unfold cutV
  rw [show HT.sIx (ns.map V.int).length (ns.map V.int).length (some 63) = min 63 (ns.map V.int).length from HT.sIx_nat _ _ 63, HT.sIx_none, List.length_map, Nat.min_eq_right h]
  exact List.take_of_length_le (by rw [List.length_drop, List.length_map]; omega)
theorem ok_deal {f : Addr} {fd : FuncData} (F : Fun K "_law_deal" "_law_deal" sDeal f fd) (ml : mg "len" = none) (mi : mg "int" = none) : FnOk P w K mg base CX0 1 f fd ["_law_script"] (spDeal K) := by
  refine F.ok scDeal (fun vs H Q E h => ?_) (fun cdv A outer s H vs Q E hr h => ?_)
  · obtain ⟨a, ns, rfl, _⟩ := h
    rfl
  obtain ⟨a, ns, rfl, hS, hlen, q⟩ := h
  refine ⟨_, pss_cons (ps_setLc (i := 2) (own := [("_law_cell", 1)]) (g := gName 1) (tt := tYes) rfl scDeal.nd rfl rfl (sw_true rfl rfl rfl (by decide +kernel))
      (pi_list (pe_slice sl_list (pv 0) po_none (po_some pe_int)))
      (blkOk_by (own := [("_law_cell", 1)]) (N := ["_law_script", "_law_cell", "_law_cells", "_law_mark"]) (sc := defScope sDeal) (by decide +kernel))
      (fun _ _ _ _ _ => pg_name (i := 1) scDeal.nd rfl (Or.inl rfl)) (fun _ _ _ _ _ => pts_nil) (fun _ _ _ _ _ => pe_callTy call_int1 (by rfl) mi PyProof.Rows.boot_int (pa_cons (pv 1) pa_nil)))
    (pss_cons (ps_set (i := 3) scDeal.nd rfl (.inl rfl) (pe_op op_add pe_int (pe_op op_mul pe_int (pe_callB call_len_seq (by rfl) ml PySem.boot_len (pa_cons (pv 2) pa_nil)))))
    (pss_cons (ps_for PassesOwn.never rfl (pi_list (pv 2)) (pg_name (i := 1) scDeal.nd rfl (Or.inl rfl))
      (pss_one (ps_set (i := 3) scDeal.nd rfl (.inl rfl) (pe_op op_mod (pe_callTy call_int1 (by rfl) mi PyProof.Rows.boot_int (pa_cons (pe_op op_add (pe_op op_mul (pv 3) pe_int) (pv 1)) pa_nil)) pe_int))))
    (pss_one (ps_ret (pe_lst (pa_cons (pv 2) (pa_cons pe_int (pa_cons pe_int (pa_cons (pv 3) pa_nil))))))))), ?_⟩
  refine ⟨_, rfl, 63, rfl, a, _, rfl, hS, fun c nc => ?_⟩
  rw [cut63 hlen]
  have s1 := same_new nc (.lst (ns.map V.int))
  refine ⟨c, rfl, ⟨_, SqL.of upd_same⟩, fun D nD => ?_⟩
  refine lc_list (K := K) (a := c) (xs := ns.map V.int) (fun i H2 => Same H H2 ∧ H2 c = some (.lst (ns.map V.int)) ∧ H2 D = some (.lst ((ns.take i).map V.int))) ⟨s1.trans (same_new nD _), ?_, by rw [upd_same]; rfl⟩ (fun i H2 _ h => SqL.of h.2.1) ?_ ?_
  · rw [upd_ne (ne_of_none upd_same nD), upd_same]
  · rintro i x H2 hx ⟨s2, hc, hD⟩
    have hi : i < ns.length := by
      have := (List.getElem?_eq_some_iff.mp hx).1
      rwa [List.length_map] at this
    have ex : x = .int ns[i] := by
      rw [List.getElem?_map, List.getElem?_eq_getElem hi] at hx
      exact (Option.some.inj hx).symm
    subst ex
    refine ⟨rfl, ?_⟩
    refine ⟨_, rfl, .inl ⟨_, rfl, _, hD, ?_, ?_⟩⟩
    · rw [List.length_map, List.length_take]; exact small1000 (by omega)
    · have hDc : c ≠ D := ne_of_none (upd_same (H := H) (o := .lst (ns.map V.int))) nD
      refine ⟨fun b o e => ?_, by rw [upd_ne hDc]; exact hc, ?_⟩
      · rw [upd_ne (ne_of_none (s1 _ _ e) nD)]; exact s2 _ _ e
      · rw [upd_same, List.take_add_one, List.getElem?_eq_getElem hi, List.map_append]; rfl
  · rintro H2 ⟨s2, hc, hD⟩
    rw [List.length_map, List.take_length] at hD
    have nDH : H D = none := s1.free nD
    refine ⟨_, rfl, D, _, rfl, .inl (SqL.of hD), _, _, rfl, rfl, .inl ⟨by decide, by decide⟩, _, _, rfl, rfl, ?_⟩
    refine ⟨_, rfl, D, rfl, ⟨_, SqL.of hD⟩, ?_⟩
    refine for_list (K := K) (a := D) (xs := ns.map V.int) (fun i σ H3 => H3 = H2 ∧ ∃ (m : Int) (y : Option V), σ = [some (.ref a), y, some (.ref D), some (.int m)]) ⟨rfl, _, _, rfl⟩ (fun i σ H3 _ h => by rw [h.1]; exact SqL.of hD) ?_ ?_
    · rintro i x σ H3 hx ⟨rfl, m, y, rfl⟩
      obtain ⟨z, rfl⟩ : ∃ z, x = V.int z := by
        rw [List.getElem?_map] at hx
        cases e : ns[i]? with
        | none => rw [e] at hx; cases hx
        | some z => rw [e] at hx; exact ⟨z, (Option.some.inj hx).symm⟩
      refine ⟨_, rfl, _, _, rfl, rfl, .inr ⟨by decide, by decide⟩, _, rfl, _, _, rfl, rfl, .inl ⟨_, rfl, _, _, rfl, rfl, (by show (0 : Int) < 2147483549; decide), ?_⟩⟩
      exact ⟨rfl, _, _, rfl⟩
    · rintro σ H3 ⟨rfl, m, y, rfl⟩
      refine ⟨_, rfl, _, rfl, (by show 4 ≤ sizeLine; decide), fun d nd => ?_⟩
      exact q d D _ (s2.trans (same_new nd _)) ⟨ns, 0, 0, m, upd_same, by rw [upd_ne (ne_of_none hD nd)]; exact hD, hlen, Int.le_refl 0⟩
end
end KK

set_option Elab.async false
set_option linter.all false
set_option maxRecDepth 100000
set_option maxHeartbeats 4000000
namespace KK
open PySem PySem.Spec PyProof.Rows L2 RT
section
variable {P : Program} {w : World} {K : PySem.W.Frag} {mg : Str → Option Value} {base : Heap}
theorem scPick : FnScope ["_law_deal_here", "_law_many", "_law_cell", "_law_early", "_law_late", "_law_drawn"] ["_law_deal_here", "_law_many"] (defScope sPick) := ⟨rfl, rfl, rfl, by decide +kernel, rfl, by decide +kernel, by decide +kernel⟩
def spPick : Sp := fun vs H Q _ => ∃ (d c : Addr) (m : Int), vs = [.ref d, .int m] ∧ DealAt H d c ∧ 0 < m ∧ m < 1000000 ∧ ∀ (r : Int) (H' : Hp), 0 ≤ r → r < m → DealAt H' d c → Kp d H H' → Q (.int r) H'
theorem ok_pick {f : Addr} {fd : FuncData} (F : Fun K "_law_pick" "_law_pick" sPick f fd) (ml : mg "len" = none) (mi : mg "int" = none) : FnOk P w K mg base CX0 1 f fd ["_law_deal_here", "_law_many"] spPick := by
  refine F.ok scPick (fun vs H Q E h => ?_) (fun cdv A outer s H vs Q E hr h => ?_)
  · obtain ⟨d, c, m, rfl, _⟩ := h
    rfl
  obtain ⟨d, c, m, rfl, ⟨cells, pos, big, mark, hd, hc, hl, hp⟩, m0, m1, q⟩ := h
  refine ⟨_, pss_cons (ps_if (pt_cmpR op_lt (pe_ix ix_list (pv 0) pe_int (fun _ _ => rfl)) pe_int (nomark _))
      (pss_cons (ps_asg (pe_op op_add (pe_ix ix_list (pv 0) pe_int (fun _ _ => rfl)) pe_int) (pg_sub (pv 0) pe_int set_list))
      (pss_cons (ps_set (i := 2) scPick.nd rfl (.inl rfl) (pe_op op_add (pe_ix ix_list (pv 0) pe_int (fun _ _ => rfl)) (pe_op op_mul (pe_ix ix_list (pv 0) pe_int (fun _ _ => rfl)) pe_int)))
      (pss_cons (ps_if (pt_cmpR op_le (pe_ix ix_list (pv 0) pe_int (fun _ _ => rfl)) (pe_callB call_len_seq (by rfl) ml PySem.boot_len (pa_cons (pe_ix ix_list (pv 0) pe_int (fun _ _ => rfl)) pa_nil)) (nomark _))
          (pss_one (ps_set (i := 2) scPick.nd rfl (.inl rfl) (pe_ix ix_list (pe_ix ix_list (pv 0) pe_int (fun _ _ => rfl)) (pe_op op_sub (pe_ix ix_list (pv 0) pe_int (fun _ _ => rfl)) pe_int) (fun _ _ => rfl)))) pss_nil)
      (pss_cons (ps_if (PW.pt (pw_or (pt_cmpR op_gt (pe_ix ix_list (pv 0) pe_int (fun _ _ => rfl)) (pe_callB call_len_seq (by rfl) ml PySem.boot_len (pa_cons (pe_ix ix_list (pv 0) pe_int (fun _ _ => rfl)) pa_nil)) (nomark _)) (pw_or1 (pt_cmpR op_lt (pv 2) (pe_op op_pow pe_int pe_int) (nomark _)))))
          (pss_cons (ps_set (i := 3) scPick.nd rfl (.inl rfl) (pe_op op_mod (pe_callTy call_int1 (by rfl) mi PyProof.Rows.boot_int (pa_cons (pe_op op_add (pe_op op_add (pe_op op_mul (pv 2) pe_int) (pe_op op_mul (pe_ix ix_list (pv 0) pe_int (fun _ _ => rfl)) pe_int)) (pe_ix ix_list (pv 0) pe_int (fun _ _ => rfl))) pa_nil)) pe_int))
          (pss_cons (ps_set (i := 4) scPick.nd rfl (.inl rfl) (pe_op op_mod (pe_callTy call_int1 (by rfl) mi PyProof.Rows.boot_int (pa_cons (pe_op op_add (pe_op op_mul (pv 3) (pv 3)) (pe_op op_mul (pe_ix ix_list (pv 0) pe_int (fun _ _ => rfl)) pe_int)) pa_nil)) pe_int))
          (pss_one (ps_ret (pe_op op_mod (pe_op op_fdiv (pe_op op_mod (pe_callTy call_int1 (by rfl) mi PyProof.Rows.boot_int (pa_cons (pe_op op_add (pe_op op_mul (pv 4) pe_int) (pv 3)) pa_nil)) pe_int) pe_int) (pv 1)))))) pss_nil)
      (pss_one (ps_asg (pv 2) (pg_sub (pv 0) pe_int set_list))))))) pss_nil)
    (pss_cons (ps_set (i := 5) scPick.nd rfl (.inl rfl) (pe_op op_mod (pe_callTy call_int1 (by rfl) mi PyProof.Rows.boot_int (pa_cons (pe_ix ix_list (pv 0) pe_int (fun _ _ => rfl)) pa_nil)) (pv 1)))
    (pss_cons (ps_asg (pe_op op_fdiv (pe_callTy call_int1 (by rfl) mi PyProof.Rows.boot_int (pa_cons (pe_ix ix_list (pv 0) pe_int (fun _ _ => rfl)) pa_nil)) (pv 1)) (pg_sub (pv 0) pe_int set_list))
    (pss_one (ps_ret (pv 5))))), ?_⟩
  have hcd : c ≠ d := ne_of hc hd fun z => by
    have z := HO.lst.inj z
    cases cells with
    | nil => cases z
    | cons x r => rw [List.map_cons] at z; cases z
  refine ⟨_, rfl, d, _, _, _, rfl, rfl, SqL.of hd, rfl, _, _, rfl, rfl, _, rfl, ?_⟩
  refine ite2 (fun b1 => ?_) (fun b1 => ?_)
  · refine ⟨_, rfl, d, _, _, _, rfl, rfl, SqL.of hd, rfl, _, _, rfl, rfl, _, rfl, d, _, _, 1, rfl, rfl, hd, rfl, ?_⟩
    have hd1 : (upd H d (.lst [.ref c, .int (pos + 1), .int big, .int mark])) d = some (.lst [.ref c, .int (pos + 1), .int big, .int mark]) := upd_same
    have hc1 : (upd H d (.lst [.ref c, .int (pos + 1), .int big, .int mark])) c = some (.lst (cells.map V.int)) := by rw [upd_ne hcd]; exact hc
    have kp1 := kp_put H d (.lst [.ref c, .int (pos + 1), .int big, .int mark])
    have dl1 := deal_put hd hc hcd (pos + 1) big mark hl (by omega)
    have el : (cells.map V.int).length = cells.length := List.length_map _
    have hb : ∀ x : Int, -(2 ^ 64) < x % 2147483647 ∧ x % 2147483647 < 2 ^ 64 := fun x => by constructor <;> omega
    refine ⟨_, rfl, d, _, _, _, rfl, rfl, SqL.of hd1, rfl, _, rfl, d, _, _, _, rfl, rfl, SqL.of hd1, rfl, _, _, rfl, rfl, .inr ⟨by decide, by decide⟩, _, _, rfl, rfl, ?_⟩
    refine ⟨_, rfl, d, _, _, _, rfl, rfl, SqL.of hd1, rfl, _, rfl, d, _, _, _, rfl, rfl, SqL.of hd1, rfl, c, _, rfl, .inl (SqL.of hc1), _, _, rfl, rfl, _, rfl, ?_⟩
    refine ite2 (fun b2 => ?_) (fun b2 => ?_)
    · have b2 : pos + 1 ≤ (((cells.map V.int).length : Nat) : Int) := of_decide_eq_true b2
      rw [el] at b2
      have hk : pos.toNat < cells.length := by omega
      have hat : atI (cells.map V.int) (pos + 1 - 1) = some (.int cells[pos.toNat]) := by
        rw [show pos + 1 - 1 = ((pos.toNat : Nat) : Int) by omega]
        refine atI_nat ?_
        rw [List.getElem?_map, List.getElem?_eq_getElem hk]
        rfl
      refine ⟨_, rfl, d, _, _, _, rfl, rfl, SqL.of hd1, rfl, _, rfl, d, _, _, _, rfl, rfl, SqL.of hd1, rfl, _, _, rfl, rfl, c, _, _, _, rfl, rfl, SqL.of hc1, hat, ?_⟩
      refine ⟨_, rfl, d, _, _, _, rfl, rfl, SqL.of hd1, rfl, _, rfl, d, _, _, _, rfl, rfl, SqL.of hd1, rfl, c, _, rfl, .inl (SqL.of hc1), _, _, rfl, rfl, _, rfl, ?_⟩
      refine ite2 (fun b3 => ?_) (fun b3 => ?_)
      · refine iteT ?_
        refine ⟨_, rfl, _, _, rfl, rfl, .inr ⟨by decide, by decide⟩, _, rfl, d, _, _, _, rfl, rfl, SqL.of hd1, rfl, _, _, rfl, rfl, .inr ⟨by decide, by decide⟩, _, _, rfl, rfl, _, rfl, d, _, _, _, rfl, rfl, SqL.of hd1, rfl, _, _, rfl, rfl, .inl ⟨_, rfl, _, _, rfl, rfl, (by show (0 : Int) < 2147483647; decide), ?_⟩⟩
        refine ⟨_, rfl, _, rfl, _, _, rfl, rfl, .inl (hb _), _, rfl, d, _, _, _, rfl, rfl, SqL.of hd1, rfl, _, _, rfl, rfl, .inr ⟨by decide, by decide⟩, _, _, rfl, rfl, .inl ⟨_, rfl, _, _, rfl, rfl, (by show (0 : Int) < 998244353; decide), ?_⟩⟩
        refine ⟨_, rfl, _, _, rfl, rfl, .inr ⟨by decide, by decide⟩, _, rfl, _, _, rfl, rfl, .inl ⟨_, rfl, _, _, rfl, rfl, (by show (0 : Int) < 2147483563; decide), _, _, rfl, rfl, ⟨by decide, by decide⟩, _, rfl, _, _, rfl, rfl, m0, ?_⟩⟩
        exact q _ _ (Int.emod_nonneg _ (by omega)) (Int.emod_lt_of_pos _ m0) dl1 kp1
      · refine ⟨_, rfl, _, _, rfl, rfl, ⟨by decide, by decide, by decide⟩, _, _, rfl, rfl, _, rfl, ?_⟩
        refine ite2 (fun b4 => ?_) (fun b4 => ?_)
        · refine ⟨_, rfl, _, _, rfl, rfl, .inr ⟨by decide, by decide⟩, _, rfl, d, _, _, _, rfl, rfl, SqL.of hd1, rfl, _, _, rfl, rfl, .inr ⟨by decide, by decide⟩, _, _, rfl, rfl, _, rfl, d, _, _, _, rfl, rfl, SqL.of hd1, rfl, _, _, rfl, rfl, .inl ⟨_, rfl, _, _, rfl, rfl, (by show (0 : Int) < 2147483647; decide), ?_⟩⟩
          refine ⟨_, rfl, _, rfl, _, _, rfl, rfl, .inl (hb _), _, rfl, d, _, _, _, rfl, rfl, SqL.of hd1, rfl, _, _, rfl, rfl, .inr ⟨by decide, by decide⟩, _, _, rfl, rfl, .inl ⟨_, rfl, _, _, rfl, rfl, (by show (0 : Int) < 998244353; decide), ?_⟩⟩
          refine ⟨_, rfl, _, _, rfl, rfl, .inr ⟨by decide, by decide⟩, _, rfl, _, _, rfl, rfl, .inl ⟨_, rfl, _, _, rfl, rfl, (by show (0 : Int) < 2147483563; decide), _, _, rfl, rfl, ⟨by decide, by decide⟩, _, rfl, _, _, rfl, rfl, m0, ?_⟩⟩
          exact q _ _ (Int.emod_nonneg _ (by omega)) (Int.emod_lt_of_pos _ m0) dl1 kp1
        · refine ⟨_, rfl, _, rfl, d, _, _, 2, rfl, rfl, hd1, rfl, ?_⟩
          refine ⟨_, rfl, d, _, _, _, rfl, rfl, SqL.of upd_same, rfl, .inl ⟨_, rfl, _, rfl, _, _, rfl, rfl, m0, ?_⟩⟩
          refine ⟨_, rfl, d, _, _, _, rfl, rfl, SqL.of upd_same, rfl, .inl ⟨_, rfl, _, rfl, _, _, rfl, rfl, ⟨m0, by omega⟩, _, rfl, d, _, _, 2, rfl, rfl, upd_same, rfl, ?_⟩⟩
          refine ⟨_, rfl, ?_⟩
          refine q _ _ (Int.emod_nonneg _ (by omega)) (Int.emod_lt_of_pos _ m0) ?_ (kp1.trans ((kp_put _ d _).trans (kp_put _ d _)))
          exact deal_put upd_same (show (upd (upd H d _) d _) c = some (.lst (cells.map V.int)) by rw [upd_ne hcd]; exact hc1) hcd (pos + 1) _ mark hl (by omega)
    · refine ⟨_, rfl, d, _, _, _, rfl, rfl, SqL.of hd1, rfl, _, rfl, d, _, _, _, rfl, rfl, SqL.of hd1, rfl, c, _, rfl, .inl (SqL.of hc1), _, _, rfl, rfl, _, rfl, ?_⟩
      refine ite2 (fun b3 => ?_) (fun b3 => ?_)
      · refine iteT ?_
        refine ⟨_, rfl, _, _, rfl, rfl, .inr ⟨by decide, by decide⟩, _, rfl, d, _, _, _, rfl, rfl, SqL.of hd1, rfl, _, _, rfl, rfl, .inr ⟨by decide, by decide⟩, _, _, rfl, rfl, _, rfl, d, _, _, _, rfl, rfl, SqL.of hd1, rfl, _, _, rfl, rfl, .inl ⟨_, rfl, _, _, rfl, rfl, (by show (0 : Int) < 2147483647; decide), ?_⟩⟩
        refine ⟨_, rfl, _, rfl, _, _, rfl, rfl, .inl (hb _), _, rfl, d, _, _, _, rfl, rfl, SqL.of hd1, rfl, _, _, rfl, rfl, .inr ⟨by decide, by decide⟩, _, _, rfl, rfl, .inl ⟨_, rfl, _, _, rfl, rfl, (by show (0 : Int) < 998244353; decide), ?_⟩⟩
        refine ⟨_, rfl, _, _, rfl, rfl, .inr ⟨by decide, by decide⟩, _, rfl, _, _, rfl, rfl, .inl ⟨_, rfl, _, _, rfl, rfl, (by show (0 : Int) < 2147483563; decide), _, _, rfl, rfl, ⟨by decide, by decide⟩, _, rfl, _, _, rfl, rfl, m0, ?_⟩⟩
        exact q _ _ (Int.emod_nonneg _ (by omega)) (Int.emod_lt_of_pos _ m0) dl1 kp1
      · refine ⟨_, rfl, _, _, rfl, rfl, ⟨by decide, by decide, by decide⟩, _, _, rfl, rfl, _, rfl, ?_⟩
        refine ite2 (fun b4 => ?_) (fun b4 => ?_)
        · refine ⟨_, rfl, _, _, rfl, rfl, .inr ⟨by decide, by decide⟩, _, rfl, d, _, _, _, rfl, rfl, SqL.of hd1, rfl, _, _, rfl, rfl, .inr ⟨by decide, by decide⟩, _, _, rfl, rfl, _, rfl, d, _, _, _, rfl, rfl, SqL.of hd1, rfl, _, _, rfl, rfl, .inl ⟨_, rfl, _, _, rfl, rfl, (by show (0 : Int) < 2147483647; decide), ?_⟩⟩
          refine ⟨_, rfl, _, rfl, _, _, rfl, rfl, .inl (hb _), _, rfl, d, _, _, _, rfl, rfl, SqL.of hd1, rfl, _, _, rfl, rfl, .inr ⟨by decide, by decide⟩, _, _, rfl, rfl, .inl ⟨_, rfl, _, _, rfl, rfl, (by show (0 : Int) < 998244353; decide), ?_⟩⟩
          refine ⟨_, rfl, _, _, rfl, rfl, .inr ⟨by decide, by decide⟩, _, rfl, _, _, rfl, rfl, .inl ⟨_, rfl, _, _, rfl, rfl, (by show (0 : Int) < 2147483563; decide), _, _, rfl, rfl, ⟨by decide, by decide⟩, _, rfl, _, _, rfl, rfl, m0, ?_⟩⟩
          exact q _ _ (Int.emod_nonneg _ (by omega)) (Int.emod_lt_of_pos _ m0) dl1 kp1
        · refine ⟨_, rfl, _, rfl, d, _, _, 2, rfl, rfl, hd1, rfl, ?_⟩
          refine ⟨_, rfl, d, _, _, _, rfl, rfl, SqL.of upd_same, rfl, .inl ⟨_, rfl, _, rfl, _, _, rfl, rfl, m0, ?_⟩⟩
          refine ⟨_, rfl, d, _, _, _, rfl, rfl, SqL.of upd_same, rfl, .inl ⟨_, rfl, _, rfl, _, _, rfl, rfl, ⟨m0, by omega⟩, _, rfl, d, _, _, 2, rfl, rfl, upd_same, rfl, ?_⟩⟩
          refine ⟨_, rfl, ?_⟩
          refine q _ _ (Int.emod_nonneg _ (by omega)) (Int.emod_lt_of_pos _ m0) ?_ (kp1.trans ((kp_put _ d _).trans (kp_put _ d _)))
          exact deal_put upd_same (show (upd (upd H d _) d _) c = some (.lst (cells.map V.int)) by rw [upd_ne hcd]; exact hc1) hcd (pos + 1) _ mark hl (by omega)
  · refine ⟨_, rfl, d, _, _, _, rfl, rfl, SqL.of hd, rfl, .inl ⟨_, rfl, _, rfl, _, _, rfl, rfl, m0, ?_⟩⟩
    refine ⟨_, rfl, d, _, _, _, rfl, rfl, SqL.of hd, rfl, .inl ⟨_, rfl, _, rfl, _, _, rfl, rfl, ⟨m0, by omega⟩, _, rfl, d, _, _, 2, rfl, rfl, hd, rfl, ?_⟩⟩
    refine ⟨_, rfl, ?_⟩
    exact q _ _ (Int.emod_nonneg _ (by omega)) (Int.emod_lt_of_pos _ m0) (deal_put hd hc hcd pos (big / m) mark hl hp) (kp_put H d _)
end
end KK

set_option Elab.async false
set_option linter.all false
set_option maxRecDepth 100000
set_option maxHeartbeats 4000000
namespace KK
open PySem PySem.Spec PyProof.Rows L2 RT
abbrev sSame : Stmt := top 10
section
variable {P : Program} {w : World} {K : PySem.W.Frag} {mg : Str → Option Value} {base : Heap}
theorem scSame : FnScope ["_law_found", "_law_due", "_law_one", "_law_two"] ["_law_found", "_law_due"] (defScope sSame) := ⟨rfl, rfl, rfl, by decide +kernel, rfl, by decide +kernel, by decide +kernel⟩
def spSame (K : PySem.W.Frag) (n : Nat) : Sp := fun vs H Q _ => ∃ (x y : V) (d e : PyData), vs = [x, y] ∧ Dp K H x d ∧ Dp K H y e ∧ e.depth < n ∧ wid e ≤ 1000 ∧ ∀ (b : Bool) (H' : Hp), (b = true ↔ d = e) → Same H H' → Q (.bl b) H'
structure SameT (mg : Str → Option Value) : Prop where
  isi : mg "isinstance" = none
  bool : mg "bool" = none
  int : mg "int" = none
  str : mg "str" = none
  list : mg "list" = none
  tuple : mg "tuple" = none
  len : mg "len" = none
  all : mg "all" = none
  zip : mg "zip" = none
theorem ok_same {f : Addr} {fd : FuncData} {n : Nat} (F : Fun K "_law_same" "_law_same" sSame f fd) (T : SameT mg) (G : FnOk P w K mg base CX0 n f fd ["_law_found", "_law_due"] (spSame K n)) (bG : Binds K fd ["_law_found", "_law_due"] []) (kG : PySem.W.keepIn K (.ref f) = true) (mG : mg "_law_same" = some (.ref f)) :
    FnOk P w K mg base CX0 (n + 1) f fd ["_law_found", "_law_due"] (spSame K (n + 1)) := by
  refine F.ok scSame (fun vs H Q E h => ?_) (fun cdv A outer s H vs Q E hr h => ?_)
  · obtain ⟨x, y, d, e, rfl, _⟩ := h
    rfl
  obtain ⟨x, y, d, e, rfl, hx, hy, hdep, hwid, q⟩ := h
  refine ⟨_, (pss_cons (ps_if (pt_cmpR op_isN (pv 1) pe_non (nomark _)) (pss_one (ps_ret (pe_cmpR op_isN (pv 0) pe_non (nomark _)))) pss_nil) (pss_cons 
    (ps_if (PW.pt (pw_or (pt_val (pe_callB call_isi (by rfl) T.isi (by decide +kernel) (pa_cons (pv 1) (pa_cons (pe_bltn (v := .ty "bool") (by rfl) T.bool (by decide +kernel) rfl) pa_nil)))) (pw_or1 (pt_val (pe_callB call_isi (by rfl) T.isi (by decide +kernel) (pa_cons (pv 0) (pa_cons (pe_bltn (v := .ty "bool") (by rfl) T.bool (by decide +kernel) rfl) pa_nil))))))) (pss_one (ps_ret (pe_and (pe_callB call_isi (by rfl) T.isi (by decide +kernel) (pa_cons (pv 1) (pa_cons (pe_bltn (v := .ty "bool") (by rfl) T.bool (by decide +kernel) rfl) pa_nil))) (pe_and (pe_callB call_isi (by rfl) T.isi (by decide +kernel) (pa_cons (pv 0) (pa_cons (pe_bltn (v := .ty "bool") (by rfl) T.bool (by decide +kernel) rfl) pa_nil))) (pe_one (pe_cmpR op_eq (pv 0) (pv 1) (nomark _))))))) pss_nil) (pss_cons 
    (ps_if (pt_val (pe_callB call_isiT (by rfl) T.isi (by decide +kernel) (pa_cons (pv 1) (pa_cons (pe_tup (pa_cons (pe_bltn (v := .ty "int") (by rfl) T.int (by decide +kernel) rfl) (pa_cons (pe_bltn (v := .ty "str") (by rfl) T.str (by decide +kernel) rfl) pa_nil))) pa_nil)))) (pss_one (ps_ret (pe_and (pe_callB call_isiT (by rfl) T.isi (by decide +kernel) (pa_cons (pv 0) (pa_cons (pe_tup (pa_cons (pe_bltn (v := .ty "int") (by rfl) T.int (by decide +kernel) rfl) (pa_cons (pe_bltn (v := .ty "str") (by rfl) T.str (by decide +kernel) rfl) pa_nil))) pa_nil))) (pe_and (pe_cmpR op_eq (pe_callB call_isi (by rfl) T.isi (by decide +kernel) (pa_cons (pv 0) (pa_cons (pe_bltn (v := .ty "int") (by rfl) T.int (by decide +kernel) rfl) pa_nil))) (pe_callB call_isi (by rfl) T.isi (by decide +kernel) (pa_cons (pv 1) (pa_cons (pe_bltn (v := .ty "int") (by rfl) T.int (by decide +kernel) rfl) pa_nil))) (nomark _)) (pe_one (pe_cmpR op_eq (pv 0) (pv 1) (nomark _))))))) pss_nil) (pss_cons 
    (ps_if (PW.pt (pw_or (pt_cmpR op_ne (pe_callB call_isi (by rfl) T.isi (by decide +kernel) (pa_cons (pv 1) (pa_cons (pe_bltn (v := .ty "list") (by rfl) T.list (by decide +kernel) rfl) pa_nil))) (pe_callB call_isi (by rfl) T.isi (by decide +kernel) (pa_cons (pv 0) (pa_cons (pe_bltn (v := .ty "list") (by rfl) T.list (by decide +kernel) rfl) pa_nil))) (nomark _)) (pw_or1 (pt_cmpR op_ne (pe_callB call_isi (by rfl) T.isi (by decide +kernel) (pa_cons (pv 1) (pa_cons (pe_bltn (v := .ty "tuple") (by rfl) T.tuple (by decide +kernel) rfl) pa_nil))) (pe_callB call_isi (by rfl) T.isi (by decide +kernel) (pa_cons (pv 0) (pa_cons (pe_bltn (v := .ty "tuple") (by rfl) T.tuple (by decide +kernel) rfl) pa_nil))) (nomark _))))) (pss_one (ps_ret pe_bl)) pss_nil) (pss_one 
    (ps_ret (pe_and (pe_cmpR op_eq (pe_callB call_len_seq (by rfl) T.len PySem.boot_len (pa_cons (pv 0) pa_nil)) (pe_callB call_len_seq (by rfl) T.len PySem.boot_len (pa_cons (pv 1) pa_nil)) (nomark _)) (pe_one (pe_callB (cr_all rfl) (by rfl) T.all (by decide +kernel) (pa_cons (pe_lc (own := [("_law_one", 2), ("_law_two", 3)]) (g := gTup K 2 (gCons (gName 2) (gCons (gName 3) gNil))) (tt := tYes) rfl scSame.nd (RZ.pi_zipA (by rfl) T.zip (pa_cons (pv 0) (pa_cons (pv 1) pa_nil)))
        (blkOk_by (own := [("_law_one", 2), ("_law_two", 3)]) (N := ["_law_found", "_law_due", "_law_one", "_law_two"]) (sc := defScope sSame) (by decide +kernel))
        (fun _ _ _ _ _ => pg_tup rfl (pgs_cons (pg_name (i := 2) scSame.nd rfl (Or.inl rfl)) (pgs_cons (pg_name (i := 3) scSame.nd rfl (Or.inl rfl)) pgs_nil))) (fun _ _ _ _ _ => pts_nil)
        (fun _ _ _ _ _ => (pe_call G hr rfl mG kG bG .nil pass0 (pa_cons (pv 2) (pa_cons (pv 3) pa_nil))))) pa_nil)))))))))), ?_⟩
  have hu : ∀ {H' : Hp}, Same H H' → Dp K H' x d ∧ Dp K H' y e := fun s => ⟨Dp.same s d x hx, Dp.same s e y hy⟩
  refine ⟨_, rfl, rfl, _, rfl, ?_⟩
  refine ite2 (fun c1 => ?_) (fun c1 => ?_)
  · have c1 : y = .non := of_decide_eq_true c1
    refine ⟨_, rfl, rfl, q _ H ?_ (Same.refl H)⟩
    subst c1
    cases hy
    cases hx <;> simp
  have c1 : y ≠ .non := fun z => c1 (decide_eq_true z)
  refine ⟨_, rfl, _, _, _, _, qBool e, rfl, .ty _, hy.ty, kq_bool e, _, rfl, ?_⟩
  refine ite2 (fun c2 => ?_) (fun c2 => ?_)
  · refine iteT ?_
    refine ⟨_, rfl, _, _, _, _, qBool e, rfl, .ty _, hy.ty, kq_bool e, _, rfl, ?_⟩
    rw [if_pos c2]
    refine ⟨_, rfl, _, _, _, _, qBool d, rfl, .ty _, hx.ty, kq_bool d, _, rfl, ?_⟩
    refine ite2 (fun c3 => ?_) (fun c3 => ?_)
    · refine ⟨_, rfl, _, rfl, ?_, q _ H ?_ (Same.refl H)⟩
      · cases hx <;> cases hy <;> first | rfl | (cases c2; done) | (cases c3; done)
      · cases hx <;> cases hy <;> first | (cases c2; done) | (cases c3; done) | simp
    · refine q _ H ?_ (Same.refl H)
      constructor
      · intro z; cases z
      · intro z; subst z; exact absurd c2 c3
  refine ⟨_, rfl, _, _, _, _, qBool d, rfl, .ty _, hx.ty, kq_bool d, _, rfl, ?_⟩
  refine ite2 (fun c3 => ?_) (fun c3 => ?_)
  · refine ⟨_, rfl, _, _, _, _, qBool e, rfl, .ty _, hy.ty, kq_bool e, _, rfl, ?_⟩
    rw [if_neg c2]
    refine q _ H ?_ (Same.refl H)
    constructor
    · intro z; cases z
    · intro z; subst z; exact absurd c3 c2
  refine ⟨_, rfl, (by show 2 ≤ sizeLine; decide), fun tp ntp => ?_⟩
  have s1 := same_new ntp (.tup [.ty "int", .ty "str"])
  refine ⟨y, tp, _, _, _, qIS e, rfl, upd_same, .cons (.ty _) (.cons (.ty _) .nil), (hu s1).2.ty, kq_is e, _, rfl, ?_⟩
  refine ite2 (fun c4 => ?_) (fun c4 => ?_)
  · refine ⟨_, rfl, (by show 2 ≤ sizeLine; decide), fun tq ntq => ?_⟩
    have s2 := s1.trans (same_new ntq (.tup [.ty "int", .ty "str"]))
    refine ⟨x, tq, _, _, _, qIS d, rfl, upd_same, .cons (.ty _) (.cons (.ty _) .nil), (hu s2).1.ty, kq_is d, _, rfl, ?_⟩
    refine ite2 (fun c5 => ?_) (fun c5 => ?_)
    · refine ⟨_, rfl, _, _, _, _, qInt d, rfl, .ty _, (hu s2).1.ty, kq_int d, _, rfl, _, _, _, _, qInt e, rfl, .ty _, (hu s2).2.ty, kq_int e, rfl, _, rfl, ?_⟩
      refine ite2 (fun c6 => ?_) (fun c6 => ?_)
      · have c6 : qInt d = qInt e := V.bl.inj (of_decide_eq_true c6)
        refine ⟨_, rfl, _, rfl, ?_, q _ _ ?_ s2⟩
        · cases hx <;> cases hy <;> first | rfl | exact absurd rfl c2 | exact absurd rfl c3 | (cases c4; done) | (cases c5; done) | (cases c6; done)
        · cases hx <;> cases hy <;> first | exact absurd rfl c2 | exact absurd rfl c3 | (cases c4; done) | (cases c5; done) | (cases c6; done) | simp
      · refine q _ _ ?_ s2
        constructor
        · intro z; cases z
        · intro z; subst z; exact absurd (decide_eq_true rfl) c6
    · refine q _ _ ?_ s2
      constructor
      · intro z; cases z
      · intro z; subst z; exact absurd c4 c5
  refine ⟨_, rfl, _, _, _, _, qList e, rfl, .ty _, (hu s1).2.ty, kq_list e, _, rfl, _, _, _, _, qList d, rfl, .ty _, (hu s1).1.ty, kq_list d, rfl, _, rfl, ?_⟩
  refine ite2 (fun c5 => ?_) (fun c5 => ?_)
  · refine iteT ?_
    refine q _ _ ?_ s1
    constructor
    · intro z; cases z
    · intro z; subst z; rw [decide_eq_true rfl] at c5; cases c5
  have c5 : qList e = qList d := by
    cases h1 : qList e <;> cases h2 : qList d <;> first | rfl | (rw [h1, h2] at c5; exact absurd rfl c5)
  refine ⟨_, rfl, _, _, _, _, qTup e, rfl, .ty _, (hu s1).2.ty, kq_tup e, _, rfl, _, _, _, _, qTup d, rfl, .ty _, (hu s1).1.ty, kq_tup d, rfl, _, rfl, ?_⟩
  refine ite2 (fun c6 => ?_) (fun c6 => ?_)
  · refine q _ _ ?_ s1
    constructor
    · intro z; cases z
    · intro z; subst z; rw [decide_eq_true rfl] at c6; cases c6
  have c6 : qTup e = qTup d := by
    cases h1 : qTup e <;> cases h2 : qTup d <;> first | rfl | (rw [h1, h2] at c6; exact absurd rfl c6)
  obtain ⟨hx1, hy1⟩ := hu s1
  generalize upd H tp (.tup [.ty "int", .ty "str"]) = H1 at s1 hx1 hy1
  -- both are lists, or both are tuples
  have both : (∃ (a b : Addr) (xs ys : List V) (ds es : List PyData), x = .ref a ∧ y = .ref b ∧ DpAll K H1 xs ds ∧ DpAll K H1 ys es ∧ ((d = e) ↔ (ds = es)) ∧ PyData.depthAll es < n ∧ es.length ≤ 1000 ∧ widAll es ≤ 1000 ∧ ((SqL K H1 a xs ∧ SqL K H1 b ys) ∨ (SqT K H1 a xs ∧ SqT K H1 b ys))) := by
    cases hy1 with
    | lst hs2 ha2 =>
      cases hx1 with
      | lst hs1 ha1 =>
        rw [PyData.depth] at hdep
        rw [wid] at hwid
        exact ⟨_, _, _, _, _, _, rfl, rfl, ha1, ha2, by simp, by omega, by omega, by omega, .inl ⟨hs1, hs2⟩⟩
      | _ => cases c5
    | tup hs2 ha2 =>
      cases hx1 with
      | tup hs1 ha1 =>
        rw [PyData.depth] at hdep
        rw [wid] at hwid
        exact ⟨_, _, _, _, _, _, rfl, rfl, ha1, ha2, by simp, by omega, by omega, by omega, .inr ⟨hs1, hs2⟩⟩
      | _ => cases c6
    | non => exact absurd rfl c1
    | bl => exact absurd rfl c2
    | int => exact absurd rfl c4
    | str => exact absurd rfl c4
  obtain ⟨a, b, xs, ys, ds, es, rfl, rfl, ha, hb, hiff, hd2, hl2, hw2, hsq⟩ := both
  have lx := ha.len
  have ly := hb.len
  have hl1 : SqL K H1 a xs ∨ SqT K H1 a xs := hsq.imp (·.1) (·.1)
  have hl3 : SqL K H1 b ys ∨ SqT K H1 b ys := hsq.imp (·.2) (·.2)
  refine ⟨_, rfl, a, _, rfl, hl1, _, rfl, b, _, rfl, hl3, rfl, _, rfl, ?_⟩
  refine ite2 (fun c7 => ?_) (fun c7 => ?_)
  · have c7 : (xs.length : Int) = (ys.length : Int) := V.int.inj (of_decide_eq_true c7)
    have c7 : xs.length = ys.length := by omega
    rcases hsq with ⟨h1, h2⟩ | ⟨h1, h2⟩
    · refine ⟨_, rfl, _, rfl, a, b, xs, ys, rfl, .inl ⟨h1, h2, fun D nD => ?_⟩⟩
      refine lc_it (walk_zip (xs := xs) (ys := ys) (n := xs.length) (by omega)) (fun i H2 => Same H1 H2 ∧ ∃ bs : List Bool, bs.length = i ∧ (bs.all id = true ↔ ds.take i = es.take i) ∧ H2 D = some (.lst (bs.map V.bl))) ⟨same_new nD _, [], rfl, by simp, upd_same⟩ (fun i H2 _ h => ⟨Same.seq h.1 h1, Same.seq h.1 h2⟩) ?_ ?_
      · rintro i z H2 H3 hi ⟨s2, bs, lb, ib, hD⟩ ⟨t, x', y', rfl, nt, rfl, ex, ey⟩
        obtain ⟨d', ed, hd'⟩ := ha.at ex
        obtain ⟨e', ee, he'⟩ := hb.at ey
        have s3 := same_new nt (.tup [x', y'])
        refine ⟨t, [x', y'], rfl, SqT.of upd_same, rfl, x', [y'], rfl, y', [], rfl, rfl, ?_⟩
        refine ⟨rfl, ?_⟩
        refine ⟨_, rfl, _, rfl, x', y', d', e', rfl, Dp.same (s2.trans s3) _ _ hd', Dp.same (s2.trans s3) _ _ he', Nat.lt_of_le_of_lt (depth_at ee) hd2, Nat.le_trans (wid_at ee) hw2, fun b' H4 hb' s4 => ?_⟩
        refine ⟨_, s4 _ _ (s3 _ _ hD), small1000 (by rw [List.length_map]; omega), fun c o h => ?_, bs ++ [b'], by rw [List.length_append, lb]; rfl, ?_, by rw [upd_same, List.map_append]; rfl⟩
        · rw [upd_ne (ne_of_none h nD)]
          exact s4 _ _ (s3 _ _ (s2 _ _ h))
        · rw [take_next ed ee, ← ib, ← hb', List.all_append]
          simp
      · rintro H2 ⟨s2, bs, lb, ib, hD⟩
        refine ⟨D, bs, rfl, SqL.of hD, q _ _ ?_ (s1.trans s2)⟩
        rw [ib, hiff, List.take_of_length_le (by omega), List.take_of_length_le (by omega)]
    · refine ⟨_, rfl, _, rfl, a, b, xs, ys, rfl, .inr ⟨h1, h2, fun D nD => ?_⟩⟩
      refine lc_it (walk_zipT (xs := xs) (ys := ys) (n := xs.length) (by omega)) (fun i H2 => Same H1 H2 ∧ ∃ bs : List Bool, bs.length = i ∧ (bs.all id = true ↔ ds.take i = es.take i) ∧ H2 D = some (.lst (bs.map V.bl))) ⟨same_new nD _, [], rfl, by simp, upd_same⟩ (fun i H2 _ h => ⟨same_tupX h.1 h1, same_tupX h.1 h2⟩) ?_ ?_
      · rintro i z H2 H3 hi ⟨s2, bs, lb, ib, hD⟩ ⟨t, x', y', rfl, nt, rfl, ex, ey⟩
        obtain ⟨d', ed, hd'⟩ := ha.at ex
        obtain ⟨e', ee, he'⟩ := hb.at ey
        have s3 := same_new nt (.tup [x', y'])
        refine ⟨t, [x', y'], rfl, SqT.of upd_same, rfl, x', [y'], rfl, y', [], rfl, rfl, ?_⟩
        refine ⟨rfl, ?_⟩
        refine ⟨_, rfl, _, rfl, x', y', d', e', rfl, Dp.same (s2.trans s3) _ _ hd', Dp.same (s2.trans s3) _ _ he', Nat.lt_of_le_of_lt (depth_at ee) hd2, Nat.le_trans (wid_at ee) hw2, fun b' H4 hb' s4 => ?_⟩
        refine ⟨_, s4 _ _ (s3 _ _ hD), small1000 (by rw [List.length_map]; omega), fun c o h => ?_, bs ++ [b'], by rw [List.length_append, lb]; rfl, ?_, by rw [upd_same, List.map_append]; rfl⟩
        · rw [upd_ne (ne_of_none h nD)]
          exact s4 _ _ (s3 _ _ (s2 _ _ h))
        · rw [take_next ed ee, ← ib, ← hb', List.all_append]
          simp
      · rintro H2 ⟨s2, bs, lb, ib, hD⟩
        refine ⟨D, bs, rfl, SqL.of hD, q _ _ ?_ (s1.trans s2)⟩
        rw [ib, hiff, List.take_of_length_le (by omega), List.take_of_length_le (by omega)]
  · refine q _ _ ?_ s1
    constructor
    · intro z; cases z
    · intro z
      have z := hiff.mp z
      refine absurd (decide_eq_true ?_) c7
      have : xs.length = ys.length := by rw [lx, ly, z]
      rw [this]
end
end KK

set_option Elab.async false
set_option linter.all false
set_option maxRecDepth 100000
set_option maxHeartbeats 4000000
namespace KK
open PySem PySem.Spec PyProof.Rows L2 RT
abbrev sLeast : Stmt := top 11
theorem paired_snoc {α β : Type} {F : α → β → Prop} : ∀ {l₁ : List α} {l₂ : List β} {a : α} {b : β}, Paired F l₁ l₂ → F a b → Paired F (l₁ ++ [a]) (l₂ ++ [b])
  | _, _, _, _, .nil, h => .cons h .nil
  | _, _, _, _, .cons r t, h => .cons r (paired_snoc t h)
theorem rots_cons {ns : List Int} (hn : 0 < ns.length) : ∃ xs, rots ns = ns :: xs ∧ least ns = pickL ns xs := by
  unfold rots
  obtain ⟨m, e⟩ : ∃ m, ns.length = m + 1 := ⟨ns.length - 1, by omega⟩
  rw [e, List.range_succ_eq_map, List.map_cons, rot_zero]
  refine ⟨_, rfl, ?_⟩
  unfold least rots
  rw [e, List.range_succ_eq_map, List.map_cons, rot_zero]
  show pickL (if HT.lexLt ns ns then ns else ns) _ = _
  rw [ite_self]
section
variable {P : Program} {w : World} {K : PySem.W.Frag} {mg : Str → Option Value} {base : Heap}
theorem scLeast : FnScope ["_law_items_z", "_law_row", "_law_at"] ["_law_items_z"] (defScope sLeast) := ⟨rfl, rfl, rfl, by decide +kernel, rfl, by decide +kernel, by decide +kernel⟩
theorem ok_least {f : Addr} {fd : FuncData} (F : Fun K "_law_least" "_law_least" sLeast f fd) (mt : mg "tuple" = none) (mm : mg "min" = none) (mr : mg "range" = none) (ml : mg "len" = none) : FnOk P w K mg base CX0 1 f fd ["_law_items_z"] (spTurn K) := by
  refine F.ok scLeast (fun vs H Q E h => ?_) (fun cdv A outer s H vs Q E hr h => ?_)
  · obtain ⟨a, ns, rfl, _⟩ := h
    rfl
  obtain ⟨a, ns, rfl, hS, hlen, q⟩ := h
  refine ⟨_, (pss_cons (ps_set (i := 1) scLeast.nd rfl (.inr rfl) (pe_callTy call_tuple_of (by rfl) mt (by decide +kernel) (pa_cons (pv 0) pa_nil))) (pss_one 
    (ps_ret (pe_ifExp (pt_cmpR (op_neD hr.units) (pv 1) (pe_tup pa_nil) (nomark _)) (pe_callB (cr_minT rfl hr.units) (by rfl) mm (by decide +kernel) (pa_cons (pe_lc (own := [("_law_at", 2)]) (g := gName 2) (tt := tYes) (te := tOp (rCatA K) (tSl (rSlA K) (tVar 1) (tPart (tVar 2)) tNoPart) (tSl (rSlA K) (tVar 1) tNoPart (tPart (tVar 2)))) rfl scLeast.nd (pi_range1 (by rfl) mr (pa_cons (pe_callB call_len_seq (by rfl) ml PySem.boot_len (pa_cons (pv 1) pa_nil)) pa_nil))
      (blkOk_by (own := [("_law_at", 2)]) (N := ["_law_items_z", "_law_row", "_law_at"]) (sc := defScope sLeast) (by decide +kernel))
      (fun _ _ _ _ _ => (pg_name (i := 2) scLeast.nd rfl (Or.inl rfl))) (fun _ _ _ _ _ => pts_nil) (fun _ _ _ _ _ => (pe_op op_catA (pe_slice sl_tupA (pv 1) (po_some (pv 2)) po_none) (pe_slice sl_tupA (pv 1) po_none (po_some (pv 2)))))) pa_nil)) (pe_tup pa_nil))))), ?_⟩
  rcases hS with hS | hS
  · refine ⟨_, rfl, a, _, rfl, .inl ⟨hS, fun t nt => ?_⟩⟩
    have s0 := same_new nt (.tup (ns.map V.int))
    have h0 : SqT K _ t (ns.map V.int) := SqT.of (K := K) (upd_same (H := H) (a := t) (o := .tup (ns.map V.int)))
    refine ⟨_, rfl, (by show 0 ≤ sizeLine; decide), fun u nu => ?_⟩
    have s1 := s0.trans (same_new nu (.tup []))
    have h1 : SqT K _ t (ns.map V.int) := Same.tup (same_new nu (.tup [])) h0
    refine ⟨dI ns, dI [], dp_tup h1, dp_tup (SqT.of upd_same), shaped_dI ns, shaped_dI [], _, rfl, ?_⟩
    rw [eqv_dI]
    refine ite2 (fun c => ?_) (fun c => ?_)
    · have c : ¬ ns = [] := fun z => by rw [decide_eq_true z] at c; cases c
      have hn : 0 < ns.length := List.length_pos_iff.mpr c
      refine ⟨_, rfl, t, _, rfl, .inr h1, _, rfl, ?_, ?_, fun D nD => ?_⟩
      · rw [List.length_map]; omega
      · rw [List.length_map]; omega
      have el : (((ns.map V.int).length : Nat) : Int).toNat = ns.length := by rw [List.length_map]; omega
      rw [el]
      refine lc_range (lo := 0) (n := ns.length) (fun i H2 => Same _ H2 ∧ ∃ as : List Addr, as.length = i ∧ H2 D = some (.lst (as.map V.ref)) ∧ Paired (fun p z => SqT K H2 p (z.map V.int)) as ((List.range i).map fun k => rot k ns)) ⟨same_new nD _, [], rfl, upd_same, .nil⟩ ?_ ?_
      · rintro i H2 hi ⟨s2, as, la, hD, hp⟩
        have ez : (0 : Int) + (i : Int) = (i : Int) := by omega
        rw [ez]
        refine ⟨rfl, ?_⟩
        refine ⟨_, rfl, _, rfl, _, rfl, ?_⟩
        dsimp only [tNoPart]
        refine slA_mono (turned (Same.tup s2 h1) hlen (Nat.le_of_lt hi) (Q := fun z H3 => ∃ acc, H3 D = some (.lst acc) ∧ acc.length < sizeLine ∧ (Same _ (upd H3 D (.lst (acc ++ [z]))) ∧ ∃ as : List Addr, as.length = i + 1 ∧ (upd H3 D (.lst (acc ++ [z]))) D = some (.lst (as.map V.ref)) ∧ Paired (fun p z' => SqT K (upd H3 D (.lst (acc ++ [z]))) p (z'.map V.int)) as ((List.range (i + 1)).map fun k => rot k ns))) fun p H3 s3 hp3 => ?_) fun x H3 g => ⟨_, rfl, _, rfl, _, rfl, g⟩
        have nDp : ∀ (b : Addr) (xs : List V), SqT K H3 b xs → SqT K (upd H3 D (.lst (as.map V.ref ++ [.ref p]))) b xs := fun b xs hb => by
          rcases hb with (hb | ⟨o, hb⟩) | hb
          · refine .inl (.inl ?_)
            rw [upd_ne (fun z => by rw [z, s3 _ _ hD] at hb; cases hb)]; exact hb
          · refine .inl (.inr ⟨o, ?_⟩)
            rw [upd_ne (fun z => by rw [z, s3 _ _ hD] at hb; cases hb)]; exact hb
          · exact .inr hb
        refine ⟨_, s3 _ _ hD, small1000 (by rw [List.length_map]; omega), fun b o e => ?_, as ++ [p], by rw [List.length_append, la]; rfl, by rw [upd_same, List.map_append]; rfl, ?_⟩
        · rw [upd_ne (ne_of_none e nD)]; exact s3 _ _ (s2 _ _ e)
        · rw [List.range_succ, List.map_append]
          refine paired_snoc (Paired.mapP hp fun b z hb => nDp b _ (Same.tup s3 hb)) ?_
          exact nDp p _ hp3
      · rintro H2 ⟨s2, as, la, hD, hp⟩
        obtain ⟨xs, e1, e2⟩ := rots_cons hn
        have hp' : Paired (fun p z => SqT K H2 p (z.map V.int)) as (ns :: xs) := by rw [← e1]; exact hp
        refine ⟨D, as, ns, xs, rfl, SqL.of hD, hp', fun p hp => ?_⟩
        exact q p H2 (s1.trans s2) (by rw [e2]; exact hp)
    · have c : ns = [] := by
        by_cases z : ns = []
        · exact z
        · rw [decide_eq_false z] at c; exact absurd rfl c
      refine ⟨(by show 0 ≤ sizeLine; decide), fun p np => ?_⟩
      exact q p _ (s1.trans (same_new np _)) (SqT.of (by rw [upd_same, c]; rfl))
  · refine ⟨_, rfl, a, _, rfl, .inr ⟨hS, ?_⟩⟩
    have s0 := Same.refl H
    have h0 := hS
    refine ⟨_, rfl, (by show 0 ≤ sizeLine; decide), fun u nu => ?_⟩
    have s1 := s0.trans (same_new nu (.tup []))
    have h1 : SqT K _ a (ns.map V.int) := Same.tup (same_new nu (.tup [])) h0
    refine ⟨dI ns, dI [], dp_tup h1, dp_tup (SqT.of upd_same), shaped_dI ns, shaped_dI [], _, rfl, ?_⟩
    rw [eqv_dI]
    refine ite2 (fun c => ?_) (fun c => ?_)
    · have c : ¬ ns = [] := fun z => by rw [decide_eq_true z] at c; cases c
      have hn : 0 < ns.length := List.length_pos_iff.mpr c
      refine ⟨_, rfl, a, _, rfl, .inr h1, _, rfl, ?_, ?_, fun D nD => ?_⟩
      · rw [List.length_map]; omega
      · rw [List.length_map]; omega
      have el : (((ns.map V.int).length : Nat) : Int).toNat = ns.length := by rw [List.length_map]; omega
      rw [el]
      refine lc_range (lo := 0) (n := ns.length) (fun i H2 => Same _ H2 ∧ ∃ as : List Addr, as.length = i ∧ H2 D = some (.lst (as.map V.ref)) ∧ Paired (fun p z => SqT K H2 p (z.map V.int)) as ((List.range i).map fun k => rot k ns)) ⟨same_new nD _, [], rfl, upd_same, .nil⟩ ?_ ?_
      · rintro i H2 hi ⟨s2, as, la, hD, hp⟩
        have ez : (0 : Int) + (i : Int) = (i : Int) := by omega
        rw [ez]
        refine ⟨rfl, ?_⟩
        refine ⟨_, rfl, _, rfl, _, rfl, ?_⟩
        dsimp only [tNoPart]
        refine slA_mono (turned (Same.tup s2 h1) hlen (Nat.le_of_lt hi) (Q := fun z H3 => ∃ acc, H3 D = some (.lst acc) ∧ acc.length < sizeLine ∧ (Same _ (upd H3 D (.lst (acc ++ [z]))) ∧ ∃ as : List Addr, as.length = i + 1 ∧ (upd H3 D (.lst (acc ++ [z]))) D = some (.lst (as.map V.ref)) ∧ Paired (fun p z' => SqT K (upd H3 D (.lst (acc ++ [z]))) p (z'.map V.int)) as ((List.range (i + 1)).map fun k => rot k ns))) fun p H3 s3 hp3 => ?_) fun x H3 g => ⟨_, rfl, _, rfl, _, rfl, g⟩
        have nDp : ∀ (b : Addr) (xs : List V), SqT K H3 b xs → SqT K (upd H3 D (.lst (as.map V.ref ++ [.ref p]))) b xs := fun b xs hb => by
          rcases hb with (hb | ⟨o, hb⟩) | hb
          · refine .inl (.inl ?_)
            rw [upd_ne (fun z => by rw [z, s3 _ _ hD] at hb; cases hb)]; exact hb
          · refine .inl (.inr ⟨o, ?_⟩)
            rw [upd_ne (fun z => by rw [z, s3 _ _ hD] at hb; cases hb)]; exact hb
          · exact .inr hb
        refine ⟨_, s3 _ _ hD, small1000 (by rw [List.length_map]; omega), fun b o e => ?_, as ++ [p], by rw [List.length_append, la]; rfl, by rw [upd_same, List.map_append]; rfl, ?_⟩
        · rw [upd_ne (ne_of_none e nD)]; exact s3 _ _ (s2 _ _ e)
        · rw [List.range_succ, List.map_append]
          refine paired_snoc (Paired.mapP hp fun b z hb => nDp b _ (Same.tup s3 hb)) ?_
          exact nDp p _ hp3
      · rintro H2 ⟨s2, as, la, hD, hp⟩
        obtain ⟨xs, e1, e2⟩ := rots_cons hn
        have hp' : Paired (fun p z => SqT K H2 p (z.map V.int)) as (ns :: xs) := by rw [← e1]; exact hp
        refine ⟨D, as, ns, xs, rfl, SqL.of hD, hp', fun p hp => ?_⟩
        exact q p H2 (s1.trans s2) (by rw [e2]; exact hp)
    · have c : ns = [] := by
        by_cases z : ns = []
        · exact z
        · rw [decide_eq_false z] at c; exact absurd rfl c
      refine ⟨(by show 0 ≤ sizeLine; decide), fun p np => ?_⟩
      exact q p _ (s1.trans (same_new np _)) (SqT.of (by rw [upd_same, c]; rfl))
end
end KK

set_option Elab.async false
set_option linter.all false
set_option maxRecDepth 100000
set_option maxHeartbeats 4000000
namespace KK
open PySem PySem.Spec PyProof.Rows L2 RT
abbrev sName : Stmt := top 3
def mk1 (c : Nat) : Str := ⟨#[c]⟩
def letters : List Nat := (Str.ofString "abcdefghijklmnopqrstuvwxyz").cps.toList
def nameZ (z : List Nat) : Bool := (decide (1 ≤ z.length) && decide (z.length ≤ 8)) && z.all fun c => decide (c ∈ letters)
def nameD : PyData → Bool
  | .str z => nameZ z.cps.toList
  | _ => false
structure NameT (mg : Str → Option Value) : Prop where
  isi : mg "isinstance" = none
  str : mg "str" = none
  len : mg "len" = none
  all : mg "all" = none
  letters : ∃ t, mg "LETTERS" = some (.str (Str.ofString "abcdefghijklmnopqrstuvwxyz") t)
  most : ∃ t, mg "MOST_LETTERS" = some (.int 8 t)
section
variable {P : Program} {w : World} {K : PySem.W.Frag} {mg : Str → Option Value} {base : Heap}
theorem scName : FnScope ["value", "letter"] ["value"] (defScope sName) := ⟨rfl, rfl, rfl, by decide +kernel, rfl, by decide +kernel, by decide +kernel⟩
def spName (K : PySem.W.Frag) : Sp := fun vs H Q _ => ∃ (x : V) (d : PyData), vs = [x] ∧ Dp K H x d ∧ (∀ z, d = .str z → z.cps.size ≤ 1000) ∧ ∀ (H' : Hp), Same H H' → Q (.bl (nameD d)) H'
theorem ok_name {f : Addr} {fd : FuncData} (F : Fun K "is_name" "is_name" sName f fd) (TT : NameT mg) : FnOk P w K mg base CX0 1 f fd ["value"] (spName K) := by
  refine F.ok scName (fun vs H Q E h => ?_) (fun cdv A outer s H vs Q E hr h => ?_)
  · obtain ⟨x, d, rfl, _⟩ := h
    rfl
  obtain ⟨x, d, rfl, hx, hsz, q⟩ := h
  obtain ⟨Tisi, Tstr, Tlen, Tall, ⟨tL, TL⟩, ⟨tM, TM⟩⟩ := TT
  refine ⟨_, (pss_cons (ps_if (PW.pt (pw_or (pt_not (pt_val (pe_callB call_isi (by rfl) Tisi (by decide +kernel) (pa_cons (pv 0) (pa_cons (pe_bltn (v := .ty "str") (by rfl) Tstr (by decide +kernel) rfl) pa_nil))))) (pw_or (pt_cmpR op_eq (pv 0) pe_str (nomark _)) (pw_or1 (pt_cmpR op_gt (pe_callB call_len_str (by rfl) Tlen PySem.boot_len (pa_cons (pv 0) pa_nil)) (pe_glob (v := .int 8) rfl TM ⟨_, rfl⟩) (nomark _)))))) (pss_one (ps_ret pe_bl)) pss_nil) (pss_one 
    (ps_ret (pe_callB (cr_all rfl) (by rfl) Tall (by decide +kernel) (pa_cons (pe_lc (own := [("letter", 1)]) (g := gName 1) (tt := tYes) rfl scName.nd (pi_str (pv 0))
      (blkOk_by (own := [("letter", 1)]) (N := ["value", "letter"]) (sc := defScope sName) (by decide +kernel))
      (fun _ _ _ _ _ => (pg_name (i := 1) scName.nd rfl (Or.inl rfl))) (fun _ _ _ _ _ => pts_nil) (fun _ _ _ _ _ => pe_cmpR op_in_sign (pv 1) (pe_glob (v := .str (Str.ofString "abcdefghijklmnopqrstuvwxyz")) rfl TL ⟨_, rfl⟩) (by rfl))) pa_nil))))), ?_⟩
  refine ⟨_, rfl, _, _, _, _, qStr d, rfl, .ty _, hx.ty, kq_str d, _, rfl, ?_⟩
  by_cases hs : qStr d = true
  · rw [hs]
    refine iteF ?_
    obtain ⟨z, rfl⟩ : ∃ z, d = .str z := by cases d <;> first | exact ⟨_, rfl⟩ | (cases hs; done)
    cases hx
    have hz := hsz z rfl
    refine ⟨_, rfl, rfl, _, rfl, ?_⟩
    refine ite2 (fun c => ?_) (fun c => ?_)
    · have c : z = Str.ofString "" := V.str.inj (of_decide_eq_true c)
      refine iteT ?_
      have k := q H (Same.refl H)
      have e : nameD (.str z) = false := by rw [c]; decide
      rw [e] at k
      exact k
    have c : z ≠ Str.ofString "" := fun e => c (decide_eq_true (congrArg V.str e))
    have z1 : 1 ≤ z.cps.size := by
      rcases Nat.eq_zero_or_pos z.cps.size with e | e
      · refine absurd ?_ c
        obtain ⟨cps⟩ := z
        have : cps = #[] := Array.eq_empty_of_size_eq_zero e
        rw [this]; rfl
      · exact e
    refine ⟨_, rfl, z, rfl, small (show z.length ≤ 1000 from hz), _, _, rfl, rfl, _, rfl, ?_⟩
    refine ite2 (fun c2 => ?_) (fun c2 => ?_)
    · have c2 : ((z.length : Nat) : Int) > 8 := of_decide_eq_true c2
      have c2 : z.cps.size > 8 := by
        have : z.length = z.cps.size := rfl
        omega
      have k := q H (Same.refl H)
      have e : nameD (.str z) = false := by
        show nameZ z.cps.toList = false
        unfold nameZ
        rw [Array.length_toList, decide_eq_false (show ¬ z.cps.size ≤ 8 by omega), Bool.and_false, Bool.false_and]
      rw [e] at k
      exact k
    have c2 : ¬ ((z.length : Nat) : Int) > 8 := fun e => c2 (decide_eq_true e)
    have c2 : z.cps.size ≤ 8 := by
      have : z.length = z.cps.size := rfl
      omega
    refine ⟨_, rfl, z, rfl, fun D nD => ?_⟩
    refine lc_it (walk_str (z := z)) (fun i H2 => Same H H2 ∧ H2 D = some (.lst (((z.cps.toList.take i).map fun c => decide (c ∈ letters)).map V.bl))) ⟨same_new nD _, upd_same⟩ (fun _ _ _ _ => trivial) ?_ ?_
    · rintro i x H2 H3 hi ⟨s2, hD⟩ ⟨rfl, c, hc, rfl⟩
      refine ⟨rfl, ?_⟩
      refine ⟨_, rfl, c, _, rfl, rfl, _, hD, small1000 (by rw [List.length_map, List.length_map, List.length_take]; omega), fun b o e => ?_, ?_⟩
      · rw [upd_ne (ne_of_none e nD)]; exact s2 _ _ e
      · have hc' : z.cps.toList[i]? = some c := by rw [Array.getElem?_toList]; exact hc
        rw [upd_same, List.take_add_one, hc', List.map_append, List.map_append]
        rfl
    · rintro H2 ⟨s2, hD⟩
      refine ⟨D, _, rfl, SqL.of hD, ?_⟩
      have k := q H2 s2
      have e : nameD (.str z) = (List.map (fun c => decide (c ∈ letters)) (List.take z.cps.size z.cps.toList)).all id := by
        show nameZ z.cps.toList = _
        unfold nameZ
        rw [Array.length_toList, decide_eq_true z1, decide_eq_true c2, List.take_of_length_le (by rw [Array.length_toList]; omega), List.all_map]
        rfl
      rw [e] at k
      exact k
  · have hs : qStr d = false := Bool.eq_false_iff.mpr hs
    rw [hs]
    refine iteT ?_
    refine iteT ?_
    have k := q H (Same.refl H)
    have e : nameD d = false := by cases d <;> first | rfl | (cases hs; done)
    rw [e] at k
    exact k
theorem scOf : FnScope ["_law_deal_here", "_law_items_z"] ["_law_deal_here", "_law_items_z"] (defScope sOf) := ⟨rfl, rfl, rfl, by decide +kernel, rfl, by decide +kernel, by decide +kernel⟩
def spOf : Sp := fun vs H Q _ => ∃ (d c : Addr), DealAt H d c ∧ ((∃ (p : Addr) (xs : List V), vs = [.ref d, .ref p] ∧ H p = some (.lst xs) ∧ p ≠ d ∧ 0 < xs.length ∧ xs.length ≤ 1000 ∧ ∀ (x : V) (H' : Hp), x ∈ xs → DealAt H' d c → Kp d H H' → Q x H') ∨
  ∃ z : Str, vs = [.ref d, .str z] ∧ 0 < z.cps.size ∧ z.cps.size ≤ 1000 ∧ ∀ (e : Nat) (H' : Hp), e ∈ z.cps.toList → DealAt H' d c → Kp d H H' → Q (.str (mk1 e)) H')
theorem ok_of {f g : Addr} {fd gd : FuncData} (F : Fun K "_law_of" "_law_of" sOf f fd) (ml : mg "len" = none) (G : FnOk P w K mg base CX0 1 g gd ["_law_deal_here", "_law_many"] spPick) (bG : Binds K gd ["_law_deal_here", "_law_many"] []) (kG : PySem.W.keepIn K (.ref g) = true) (mG : mg "_law_pick" = some (.ref g)) :
    FnOk P w K mg base CX0 2 f fd ["_law_deal_here", "_law_items_z"] spOf := by
  refine F.ok scOf (fun vs H Q E h => ?_) (fun cdv A outer s H vs Q E hr h => ?_)
  · obtain ⟨d, c, _, ⟨p, xs, rfl, _⟩ | ⟨z, rfl, _⟩⟩ := h <;> rfl
  obtain ⟨d, c, hd, h⟩ := h
  refine ⟨_, (pss_one (ps_ret (pe_ix ix_seq (pv 1) (pe_call G hr rfl mG kG bG .nil pass0 (pa_cons (pv 0) (pa_cons (pe_callB call_len (by rfl) ml PySem.boot_len (pa_cons (pv 1) pa_nil)) pa_nil))) (fun _ _ => rfl)))), ?_⟩
  have at_ : ∀ {α : Type} (l : List α) (r : Int), 0 ≤ r → r < (l.length : Int) → ∃ x, x ∈ l ∧ atI l r = some x := fun l r r0 r1 => by
    have hi : r.toNat < l.length := by omega
    have e : r = ((r.toNat : Nat) : Int) := by omega
    have k : atI l ((r.toNat : Nat) : Int) = some l[r.toNat] := atI_nat (List.getElem?_eq_getElem hi)
    rw [← e] at k
    exact ⟨_, List.getElem_mem hi, k⟩
  rcases h with ⟨p, xs, rfl, hp, hne, l0, l1, q⟩ | ⟨z, rfl, l0, l1, q⟩
  · refine ⟨_, rfl, _, rfl, _, rfl, _, _, rfl, .inl ⟨_, SqL.of hp, rfl⟩, d, c, _, rfl, hd, by omega, by omega, fun r H' r0 r1 hd' kp => ?_⟩
    obtain ⟨x, hx, ex⟩ := at_ xs r r0 r1
    exact .inl ⟨p, xs, r, x, rfl, rfl, SqL.of (kp _ _ hp hne), ex, q _ H' hx hd' kp⟩
  · refine ⟨_, rfl, _, rfl, _, rfl, _, _, rfl, ⟨small (show z.length ≤ 1000 from l1), rfl⟩, d, c, _, rfl, hd, by have : z.length = z.cps.size := rfl; omega, by have : z.length = z.cps.size := rfl; omega, fun r H' r0 r1 hd' kp => ?_⟩
    obtain ⟨x, hx, ex⟩ := at_ z.cps.toList r r0 (by rw [Array.length_toList]; exact r1)
    exact .inr (.inr ⟨z, r, x, rfl, rfl, small (show z.length ≤ 1000 from l1), ex, q _ H' hx hd' kp⟩)
end
end KK

set_option Elab.async false
set_option linter.all false
set_option maxRecDepth 100000
set_option maxHeartbeats 8000000
namespace KK
open PySem PySem.Spec PyProof.Rows L2 RT
abbrev sLaw : Stmt := top 12
theorem joinL1 : ∀ cs : List Nat, TL.joinL [] ((cs.map mk1).map TL.tl) = cs
  | [] => rfl
  | [c] => rfl
  | c :: e :: r => by
    show [c] ++ ([] ++ TL.joinL [] (((e :: r).map mk1).map TL.tl)) = c :: e :: r
    rw [joinL1 (e :: r)]
    rfl
theorem join1 (cs : List Nat) : Txt.join (Str.ofString "") (cs.map mk1) = ⟨cs.toArray⟩ := by
  have h : TL.tl (Txt.join (Str.ofString "") (cs.map mk1)) = cs := by
    rw [TL.join_eq, TL.tl_join]
    exact joinL1 cs
  generalize Txt.join (Str.ofString "") (cs.map mk1) = z at h
  obtain ⟨p⟩ := z
  have h : p.toList = cs := h
  rw [← h]
theorem sum_mk1 : ∀ cs : List Nat, ((cs.map mk1).map (·.length)).sum = cs.length
  | [] => rfl
  | c :: cs => by
    show 1 + ((cs.map mk1).map (·.length)).sum = cs.length + 1
    rw [sum_mk1 cs]; omega
/-- 1 <= len(text) <= 8 -/
theorem rd_chain {i : Nat} {σ : L2.St} {H : Hp} {cs : List Nat} {Q : VK} (e : σ[i]? = some (some (.str ⟨cs.toArray⟩))) (hl : cs.length ≤ 1000) (q : Q (.bl (decide (1 ≤ cs.length) && decide (cs.length ≤ 8))) H) :
    tChain (rI0 fun i j => .bl (decide (i ≤ j))) (rI0 fun i j => .bl (decide (i ≤ j))) (tC (.int 1)) (tCB (fun xs H Q => ∃ z, xs = [.str z] ∧ z.length ≤ sizeLine ∧ Q (.int z.length) H) (tCons (tVar i) tNil)) (tC (.int 8)) σ H Q := by
  have el : (⟨cs.toArray⟩ : Str).length = cs.length := by show cs.toArray.size = cs.length; simp
  refine ⟨_, e, _, rfl, by rw [el]; exact small hl, _, _, rfl, rfl, _, rfl, ?_⟩
  rw [el]
  refine ite2 (fun c => ?_) (fun c => ?_)
  · have c : (1 : Int) ≤ (cs.length : Int) := of_decide_eq_true c
    refine ⟨_, _, rfl, rfl, ?_⟩
    rw [decide_eq_true (show 1 ≤ cs.length by omega), Bool.true_and] at q
    have e2 : decide ((cs.length : Int) ≤ 8) = decide (cs.length ≤ 8) := decide_eq_decide.mpr (by omega)
    show Q (.bl (decide ((cs.length : Int) ≤ 8))) H
    rw [e2]
    exact q
  · have c : ¬ (1 : Int) ≤ (cs.length : Int) := fun z => c (decide_eq_true z)
    rw [decide_eq_false (show ¬ 1 ≤ cs.length by omega), Bool.false_and] at q
    exact q
/-- .. and all([sign in "abc.." for sign in text]) -/
theorem rd_due {K : PySem.W.Frag} {x0 x1 x2 x4 x5 x6 x7 x8 x9 x10 x11 x12 x13 x14 : Option V} {H : Hp} {cs : List Nat} {Q : VK} (hl : cs.length ≤ 1000) (q : ∀ H', Same H H' → Q (.bl (nameZ cs)) H') :
    tAndV (tChain (rI0 fun i j => .bl (decide (i ≤ j))) (rI0 fun i j => .bl (decide (i ≤ j))) (tC (.int 1)) (tCB (fun xs H Q => ∃ z, xs = [.str z] ∧ z.length ≤ sizeLine ∧ Q (.int z.length) H) (tCons (tVar 3) tNil)) (tC (.int 8)))
      (tCB (rAll K) (tCons (tLc (iStr (tVar 3)) (gName 14) tYes (tOp (fun x y H Q => ∃ (c : Nat) (z : Str), x = .str ⟨#[c]⟩ ∧ y = .str z ∧ Q (.bl (decide (c ∈ z.cps.toList))) H) (tVar 14) (tC (.str (Str.ofString "abcdefghijklmnopqrstuvwxyz")))) [14]) tNil))
      [x0, x1, x2, some (.str ⟨cs.toArray⟩), x4, x5, x6, x7, x8, x9, x10, x11, x12, x13, x14] H Q := by
  refine rd_chain (i := 3) rfl hl ⟨_, rfl, ?_⟩
  refine ite2 (fun c => ?_) (fun c => ?_)
  · refine ⟨_, rfl, _, rfl, fun D nD => ?_⟩
    refine lc_it (walk_str (z := ⟨cs.toArray⟩)) (fun i H2 => Same H H2 ∧ H2 D = some (.lst (((cs.take i).map fun c => decide (c ∈ letters)).map V.bl))) ⟨same_new nD _, upd_same⟩ (fun _ _ _ _ => trivial) ?_ ?_
    · rintro i x H2 H3 hi ⟨s2, hD⟩ ⟨rfl, e, he, rfl⟩
      have he : cs[i]? = some e := by simpa using he
      refine ⟨rfl, ?_⟩
      refine ⟨_, rfl, e, _, rfl, rfl, _, hD, small1000 (by rw [List.length_map, List.length_map, List.length_take]; omega), fun b o h => ?_, ?_⟩
      · rw [upd_ne (ne_of_none h nD)]; exact s2 _ _ h
      · rw [upd_same, List.take_add_one, he, List.map_append, List.map_append]
        rfl
    · rintro H2 ⟨s2, hD⟩
      refine ⟨D, _, rfl, SqL.of hD, ?_⟩
      have k := q H2 s2
      unfold nameZ at k
      rw [c, Bool.true_and] at k
      have e : (List.map (fun c => decide (c ∈ letters)) (List.take (⟨cs.toArray⟩ : Str).cps.size cs)).all id = cs.all fun c => decide (c ∈ letters) := by
        rw [List.take_of_length_le (by simp), List.all_map]
        rfl
      rw [e]
      exact k
  · have k := q H (Same.refl H)
    unfold nameZ at k
    rw [Bool.eq_false_iff.mpr c, Bool.false_and] at k
    exact k
/-- row[k:] + row[:k] of a list -/
theorem rd_turned {K : PySem.W.Frag} {i j : Nat} {σ : L2.St} {H : Hp} {D : Addr} {ms : List Int} {k : Nat} {Q : VK} (e3 : σ[i]? = some (some (.ref D))) (e4 : σ[j]? = some (some (.int (k : Int)))) (hD : H D = some (.lst (ms.map V.int))) (hk : k ≤ ms.length) (hl : ms.length ≤ 1000)
    (q : ∀ (w : Addr) (H' : Hp), Same H H' → H' w = some (.lst ((rot k ms).map V.int)) → Q (.ref w) H') :
    tOp rCat (tSl (rSlL K) (tVar i) (tPart (tVar j)) tNoPart) (tSl (rSlL K) (tVar i) tNoPart (tPart (tVar j))) σ H Q := by
  refine ⟨_, e3, _, e4, _, rfl, D, _, rfl, SqL.of hD, fun p np => ?_⟩
  have s1 := same_new np (.lst (cutV (ms.map V.int) (some (k : Int)) none))
  refine ⟨_, e3, _, e4, _, rfl, D, _, rfl, SqL.of (s1 _ _ hD), fun p2 np2 => ?_⟩
  have s2 := same_new np2 (.lst (cutV (ms.map V.int) none (some (k : Int))))
  refine ⟨p, p2, _, _, rfl, rfl, s2 _ _ upd_same, upd_same, ?_, fun w nw => ?_⟩
  · rw [cut_from hk, cut_to hk, List.length_map, List.length_map, List.length_drop, List.length_take]
    exact small (by omega)
  · refine q w _ (s1.trans (s2.trans (same_new nw _))) ?_
    rw [upd_same, cut_from hk, cut_to hk, ← List.map_append]
    rfl
theorem flat_map : ∀ (k : Nat) (ns : List Int), (List.replicate k (ns.map V.int)).flatten = ((List.replicate k ns).flatten).map V.int
  | 0, _ => rfl
  | k + 1, ns => by
    rw [List.replicate_succ, List.replicate_succ, List.flatten_cons, List.flatten_cons, List.map_append, flat_map k ns]
theorem flat_len : ∀ (k : Nat) (ns : List Int), ((List.replicate k ns).flatten).length = k * ns.length
  | 0, _ => by simp
  | k + 1, ns => by
    rw [List.replicate_succ, List.flatten_cons, List.length_append, flat_len k ns, Nat.succ_mul]; omega
def dLi (ns : List Int) : PyData := .list (ns.map .int)
theorem dp_lst {K : PySem.W.Frag} {H : Hp} {a : Addr} {ns : List Int} (h : H a = some (.lst (ns.map V.int))) : Dp K H (.ref a) (dLi ns) := .lst (SqL.of h) (dpAll_ints ns)
theorem shaped_dL (ns : List Int) : SeqAt.shaped (dLi ns) = true := by
  have h := depth_ints ns
  unfold SeqAt.shaped dLi
  rw [PyData.canLay0, lay_ints, PyData.depth, Bool.true_and]
  exact decide_eq_true (by omega)
theorem eqv_dL (ns : List Int) : PyData.eqv (dLi ns) (dLi ns) = true := by
  unfold dLi
  rw [PyData.eqv, eqv_ints, decide_eq_true rfl]
theorem wid_ints : ∀ ns : List Int, widAll (ns.map .int) = 0
  | [] => rfl
  | n :: ns => by rw [List.map_cons, widAll, wid_ints ns]; simp [wid]
theorem wid_dI (ns : List Int) : wid (dI ns) = ns.length := by
  unfold dI
  rw [wid, wid_ints, List.length_map]; omega
theorem depth_ints0 : ∀ ns : List Int, PyData.depthAll (ns.map .int) = 0
  | [] => rfl
  | n :: ns => by rw [List.map_cons, PyData.depthAll, depth_ints0 ns]; simp [PyData.depth]
theorem depth_dI1 (ns : List Int) : (dI ns).depth = 1 := by
  unfold dI
  rw [PyData.depth, depth_ints0]

structure LawT (mg : Str → Option Value) : Prop where
  len : mg "len" = none
  range : mg "range" = none
  list : mg "list" = none
  tuple : mg "tuple" = none
  all : mg "all" = none
section
variable {P : Program} {w : World} {K : PySem.W.Frag} {mg : Str → Option Value} {base : Heap}
theorem scLaw : FnScope ["_law_script", "_law_deal_here", "_law_turn", "_law_text", "_law_due", "_law_small", "_law_odd", "_law_told", "_law_row", "_law_kept", "_law_found", "_law_at", "_law_late", "_law_k", "_law_sign"] ["_law_script"] (defScope sLaw) := ⟨rfl, rfl, rfl, by decide +kernel, rfl, by decide +kernel, by decide +kernel⟩
def spLaw (K : PySem.W.Frag) : Sp := fun vs H Q _ => ∃ (a : Addr) (ns : List Int), vs = [.ref a] ∧ SqL K H a (ns.map V.int) ∧ ns.length ≤ 63 ∧ ∀ H', Q (.bl true) H'
theorem ok_law {f fD fP fO fS fL fT fN : Addr} {fd dD dP dO dS dL dT dN : FuncData} (F : Fun K "law" "law" sLaw f fd) (T : LawT mg)
    (GD : FnOk P w K mg base CX0 1 fD dD ["_law_script"] (spDeal K)) (bD : Binds K dD ["_law_script"] []) (kD : PySem.W.keepIn K (.ref fD) = true) (mD : mg "_law_deal" = some (.ref fD))
    (GP : FnOk P w K mg base CX0 1 fP dP ["_law_deal_here", "_law_many"] spPick) (bP : Binds K dP ["_law_deal_here", "_law_many"] []) (kP : PySem.W.keepIn K (.ref fP) = true) (mP : mg "_law_pick" = some (.ref fP))
    (GO : FnOk P w K mg base CX0 2 fO dO ["_law_deal_here", "_law_items_z"] spOf) (bO : Binds K dO ["_law_deal_here", "_law_items_z"] []) (kO : PySem.W.keepIn K (.ref fO) = true) (mO : mg "_law_of" = some (.ref fO))
    (GS : FnOk P w K mg base CX0 3 fS dS ["_law_found", "_law_due"] (spSame K 3)) (bS : Binds K dS ["_law_found", "_law_due"] []) (kS : PySem.W.keepIn K (.ref fS) = true) (mS : mg "_law_same" = some (.ref fS))
    (GL : FnOk P w K mg base CX0 1 fL dL ["_law_items_z"] (spTurn K)) (bL : Binds K dL ["_law_items_z"] []) (kL : PySem.W.keepIn K (.ref fL) = true) (mL : mg "_law_least" = some (.ref fL))
    (GT : FnOk P w K mg base CX0 2 fT dT ["items"] (spTurn K)) (bT : Binds K dT ["items"] []) (kbT : KBinds K dT ["items"] ["items"] kwG kwV) (kT : PySem.W.keepIn K (.ref fT) = true) (mT : mg "least_turn" = some (.ref fT))
    (GN : FnOk P w K mg base CX0 1 fN dN ["value"] (spName K)) (bN : Binds K dN ["value"] []) (kbN : KBinds K dN ["value"] ["value"] kwG kwV) (kN : PySem.W.keepIn K (.ref fN) = true) (mN : mg "is_name" = some (.ref fN)) :
    FnOk P w K mg base CX0 4 f fd ["_law_script"] (spLaw K) := by
  refine F.ok scLaw (fun vs H Q E h => ?_) (fun cdv A outer s H vs Q E hr h => ?_)
  · obtain ⟨a, ns, rfl, _⟩ := h
    rfl
  obtain ⟨a, ns, rfl, hS, hlen, q⟩ := h
  refine ⟨_, (pss_cons (ps_set (i := 1) scLaw.nd rfl (.inr rfl) (pe_call GD (hr.mono (by decide)) rfl mD kD bD .nil pass0 (pa_cons (pv 0) pa_nil))) (pss_cons 
    (ps_for PassesOwn.never rfl (pi_range1 (by rfl) T.range (pa_cons pe_int pa_nil)) (pg_name (i := 2) scLaw.nd rfl (Or.inl rfl)) (pss_cons (ps_set (i := 3) scLaw.nd rfl (.inl rfl) (pe_join pe_str (pe_lc (own := [("_law_k", 13)]) (g := gName 13) (tt := tYes)  rfl scLaw.nd (pi_range1 (by rfl) T.range (pa_cons (pe_call GP (hr.mono (by decide)) rfl mP kP bP .nil pass0 (pa_cons (pv 1) (pa_cons pe_int pa_nil))) pa_nil))
      (blkOk_by (own := [("_law_k", 13)]) (N := ["_law_script", "_law_deal_here", "_law_turn", "_law_text", "_law_due", "_law_small", "_law_odd", "_law_told", "_law_row", "_law_kept", "_law_found", "_law_at", "_law_late", "_law_k", "_law_sign"]) (sc := defScope sLaw) (by decide +kernel))
      (fun _ _ _ _ _ => (pg_name (i := 13) scLaw.nd rfl (Or.inl rfl))) (fun _ _ _ _ _ => pts_nil) (fun _ _ _ _ _ => (pe_call GO (hr.mono (by decide)) rfl mO kO bO .nil pass0 (pa_cons (pv 1) (pa_cons pe_str pa_nil))))))) (pss_cons 
    (ps_set (i := 4) scLaw.nd rfl (.inl rfl) (pe_and (pe_chain op_le op_le pe_int (pe_callB call_len_str (by rfl) T.len PySem.boot_len (pa_cons (pv 3) pa_nil)) pe_int) (pe_one (pe_callB (cr_all rfl) (by rfl) T.all (by decide +kernel) (pa_cons (pe_lc (own := [("_law_sign", 14)]) (g := gName 14) (tt := tYes)  rfl scLaw.nd (pi_str (pv 3))
      (blkOk_by (own := [("_law_sign", 14)]) (N := ["_law_script", "_law_deal_here", "_law_turn", "_law_text", "_law_due", "_law_small", "_law_odd", "_law_told", "_law_row", "_law_kept", "_law_found", "_law_at", "_law_late", "_law_k", "_law_sign"]) (sc := defScope sLaw) (by decide +kernel))
      (fun _ _ _ _ _ => (pg_name (i := 14) scLaw.nd rfl (Or.inl rfl))) (fun _ _ _ _ _ => pts_nil) (fun _ _ _ _ _ => pe_cmpR op_in_sign (pv 14) pe_str (by rfl))) pa_nil))))) (pss_cons 
    (ps_set (i := 5) scLaw.nd rfl (.inl rfl) (pe_join pe_str (pe_lc (own := [("_law_k", 13)]) (g := gName 13) (tt := tYes)  rfl scLaw.nd (pi_range1 (by rfl) T.range (pa_cons (pe_call GP (hr.mono (by decide)) rfl mP kP bP .nil pass0 (pa_cons (pv 1) (pa_cons pe_int pa_nil))) pa_nil))
      (blkOk_by (own := [("_law_k", 13)]) (N := ["_law_script", "_law_deal_here", "_law_turn", "_law_text", "_law_due", "_law_small", "_law_odd", "_law_told", "_law_row", "_law_kept", "_law_found", "_law_at", "_law_late", "_law_k", "_law_sign"]) (sc := defScope sLaw) (by decide +kernel))
      (fun _ _ _ _ _ => (pg_name (i := 13) scLaw.nd rfl (Or.inl rfl))) (fun _ _ _ _ _ => pts_nil) (fun _ _ _ _ _ => (pe_call GO (hr.mono (by decide)) rfl mO kO bO .nil pass0 (pa_cons (pv 1) (pa_cons pe_str pa_nil))))))) (pss_cons 
    (ps_set (i := 6) scLaw.nd rfl (.inl rfl) (pe_call GO (hr.mono (by decide)) rfl mO kO bO .nil pass0 (pa_cons (pv 1) (pa_cons (pe_lst (pa_cons pe_non (pa_cons pe_int (pa_cons pe_bl (pa_cons (pe_lst (pa_cons pe_str pa_nil)) (pa_cons (pe_tup (pa_cons pe_str pa_nil)) (pa_cons pe_str (pa_cons pe_str pa_nil)))))))) pa_nil)))) (pss_cons 
    (ps_set (i := 7) scLaw.nd rfl (.inl rfl) (pe_lst (pa_cons (pe_call GN (hr.mono (by decide)) rfl mN kN bN .nil pass0 (pa_cons (pv 3) pa_nil)) (pa_cons (pe_callK0 GN (hr.mono (by decide)) (by rfl) mN kN kbN pass0 (pk_cons (pv 5) pk_nil)) (pa_cons (pe_call GN (hr.mono (by decide)) rfl mN kN bN .nil pass0 (pa_cons (pv 6) pa_nil)) pa_nil))))) (pss_cons 
    (ps_if (pt_not (pt_val (pe_call GS hr rfl mS kS bS .nil pass0 (pa_cons (pv 7) (pa_cons (pe_lst (pa_cons (pv 4) (pa_cons (pe_chain op_le op_le pe_int (pe_callB call_len_str (by rfl) T.len PySem.boot_len (pa_cons (pv 5) pa_nil)) pe_int) (pa_cons pe_bl pa_nil)))) pa_nil))))) (pss_one (ps_ret pe_bl)) pss_nil) (pss_cons 
    (ps_set (i := 8) scLaw.nd rfl (.inl rfl) (pe_op op_rep (pe_lc (own := [("_law_k", 13)]) (g := gName 13) (tt := tYes)  rfl scLaw.nd (pi_range1 (by rfl) T.range (pa_cons (pe_call GP (hr.mono (by decide)) rfl mP kP bP .nil pass0 (pa_cons (pv 1) (pa_cons pe_int pa_nil))) pa_nil))
      (blkOk_by (own := [("_law_k", 13)]) (N := ["_law_script", "_law_deal_here", "_law_turn", "_law_text", "_law_due", "_law_small", "_law_odd", "_law_told", "_law_row", "_law_kept", "_law_found", "_law_at", "_law_late", "_law_k", "_law_sign"]) (sc := defScope sLaw) (by decide +kernel))
      (fun _ _ _ _ _ => (pg_name (i := 13) scLaw.nd rfl (Or.inl rfl))) (fun _ _ _ _ _ => pts_nil) (fun _ _ _ _ _ => (pe_op op_sub (pe_call GP (hr.mono (by decide)) rfl mP kP bP .nil pass0 (pa_cons (pv 1) (pa_cons pe_int pa_nil))) pe_int))) (pe_op op_add pe_int (pe_call GP (hr.mono (by decide)) rfl mP kP bP .nil pass0 (pa_cons (pv 1) (pa_cons pe_int pa_nil)))))) (pss_cons 
    (ps_set (i := 9) scLaw.nd rfl (.inl rfl) (pe_callTy call_list_of (by rfl) T.list (by decide +kernel) (pa_cons (pv 8) pa_nil))) (pss_cons 
    (ps_set (i := 10) scLaw.nd rfl (.inl rfl) (pe_lst (pa_cons (pe_call GT (hr.mono (by decide)) rfl mT kT bT .nil pass0 (pa_cons (pv 8) pa_nil)) (pa_cons (pe_callK0 GT (hr.mono (by decide)) (by rfl) mT kT kbT pass0 (pk_cons (pe_callTy call_tuple_of (by rfl) T.tuple (by decide +kernel) (pa_cons (pv 8) pa_nil)) pk_nil)) pa_nil)))) (pss_cons 
    (ps_if (PW.pt (pw_or (pt_not (pt_val (pe_call GS hr rfl mS kS bS .nil pass0 (pa_cons (pv 10) (pa_cons (pe_op op_rep (pe_lst (pa_cons (pe_call GL (hr.mono (by decide)) rfl mL kL bL .nil pass0 (pa_cons (pv 9) pa_nil)) pa_nil)) pe_int) pa_nil))))) (pw_or1 (pt_cmpR (op_neD hr.units) (pv 8) (pv 9) (nomark _))))) (pss_one (ps_ret pe_bl)) pss_nil) (pss_one 
    (ps_for PassesOwn.never rfl (pi_range1 (by rfl) T.range (pa_cons (pe_callB call_len_seq (by rfl) T.len PySem.boot_len (pa_cons (pv 8) pa_nil)) pa_nil)) (pg_name (i := 11) scLaw.nd rfl (Or.inl rfl)) (pss_cons (ps_set (i := 12) scLaw.nd rfl (.inl rfl) (pe_op op_cat (pe_slice sl_list (pv 8) (po_some (pv 11)) po_none) (pe_slice sl_list (pv 8) po_none (po_some (pv 11))))) (pss_one (ps_if (PW.pt (pw_or (pt_cmpR (op_neD hr.units) (pe_call GT (hr.mono (by decide)) rfl mT kT bT .nil pass0 (pa_cons (pv 12) pa_nil)) (pe_ix ix_list (pv 10) pe_int (fun _ _ => rfl)) (nomark _)) (pw_or1 (pt_cmpR (op_gtT hr.units) (pe_ix ix_list (pv 10) pe_int (fun _ _ => rfl)) (pe_callTy call_tuple_of (by rfl) T.tuple (by decide +kernel) (pa_cons (pv 12) pa_nil)) (nomark _))))) (pss_one (ps_ret pe_bl)) pss_nil)))))))))))))))) (pss_one 
    (ps_ret (pe_and (pe_cmpR (op_eqD hr.units) (pe_call GT (hr.mono (by decide)) rfl mT kT bT .nil pass0 (pa_cons (pe_lst pa_nil) pa_nil)) (pe_tup pa_nil) (nomark _)) (pe_one (pe_cmpR (op_eqD hr.units) (pe_call GT (hr.mono (by decide)) rfl mT kT bT .nil pass0 (pa_cons (pe_lst (pa_cons pe_int pa_nil)) pa_nil)) (pe_tup (pa_cons pe_int pa_nil)) (nomark _)))))))), ?_⟩
  refine ⟨_, rfl, a, ns, rfl, hS, hlen, fun d c H1 s1 hd1 => ?_⟩
  refine ⟨6, rfl, by decide, by decide, ?_⟩
  refine for_range (lo := 0) (n := 6) (fun i σ H2 => DealAt H2 d c ∧ ∃ x2 x3 x4 x5 x6 x7 x8 x9 x10 x11 x12 x13 x14 : Option V, σ = [some (.ref a), some (.ref d), x2, x3, x4, x5, x6, x7, x8, x9, x10, x11, x12, x13, x14]) ⟨hd1, none, none, none, none, none, none, none, none, none, none, none, none, none, rfl⟩ ?_ ?_
  · rintro i σ H0 hi ⟨hd0, x2, x3, x4, x5, x6, x7, x8, x9, x10, x11, x12, x13, x14, rfl⟩
    refine ⟨⟨_, rfl⟩, _, rfl, d, c, 11, rfl, hd0, by decide, by decide, fun ra Aa r0a r1a hdAa kpAa => ?_⟩
    refine ⟨_, rfl, by omega, by omega, fun Da nDa => ?_⟩
    have eDa := hdAa.ne nDa
    have eCa := hdAa.ne2 nDa
    refine lc_range (lo := 0) (n := ra.toNat) (fun i H2 => DealAt H2 d c ∧ ∃ cs : List Nat, cs.length = i ∧ (∀ e ∈ cs, e ∈ (Str.ofString "abczyxmA1 _-").cps.toList) ∧ H2 Da = some (.lst ((cs.map mk1).map V.str))) ⟨hdAa.put eDa eCa, [], rfl, (fun _ h => nomatch h), upd_same⟩ ?_ ?_
    · rintro i H2 hi ⟨hd2, cs, lc, ic, hD⟩
      refine ⟨rfl, ?_⟩
      refine ⟨_, rfl, d, c, hd2, .inr ⟨_, rfl, by decide, by decide, fun e H4 he hd4 kp4 => ?_⟩⟩
      refine ⟨_, kp4 _ _ hD eDa, small1000 (by rw [List.length_map, List.length_map]; omega), hd4.put eDa eCa, cs ++ [e], by rw [List.length_append, lc]; rfl, fun x hx => ?_, by rw [upd_same, List.map_append, List.map_append]; rfl⟩
      rcases List.mem_append.mp hx with hx | hx
      · exact ic x hx
      · rw [List.mem_singleton.mp hx]; exact he
    rintro H2 ⟨hda, csa, la, ina, hDa⟩
    refine ⟨_, Da, csa.map mk1, rfl, rfl, .inl (SqL.of hDa), by rw [sum_mk1, List.length_map]; show csa.length + csa.length * 0 ≤ 16777216; omega, ?_⟩
    rw [join1]
    have ba : csa.length ≤ 1000 := by omega
    -- due
    refine rd_due (K := K) (cs := csa) ba fun H3 s3 => ?_
    have hd3 := hda.same s3
    refine ⟨⟨_, rfl⟩, _, rfl, d, c, 11, rfl, hd3, by decide, by decide, fun rb Ab r0b r1b hdAb kpAb => ?_⟩
    refine ⟨_, rfl, by omega, by omega, fun Db nDb => ?_⟩
    have eDb := hdAb.ne nDb
    have eCb := hdAb.ne2 nDb
    refine lc_range (lo := 0) (n := rb.toNat) (fun i H2 => DealAt H2 d c ∧ ∃ cs : List Nat, cs.length = i ∧ (∀ e ∈ cs, e ∈ (Str.ofString "azqm").cps.toList) ∧ H2 Db = some (.lst ((cs.map mk1).map V.str))) ⟨hdAb.put eDb eCb, [], rfl, (fun _ h => nomatch h), upd_same⟩ ?_ ?_
    · rintro i H2 hi ⟨hd2, cs, lc, ic, hD⟩
      refine ⟨rfl, ?_⟩
      refine ⟨_, rfl, d, c, hd2, .inr ⟨_, rfl, by decide, by decide, fun e H4 he hd4 kp4 => ?_⟩⟩
      refine ⟨_, kp4 _ _ hD eDb, small1000 (by rw [List.length_map, List.length_map]; omega), hd4.put eDb eCb, cs ++ [e], by rw [List.length_append, lc]; rfl, fun x hx => ?_, by rw [upd_same, List.map_append, List.map_append]; rfl⟩
      rcases List.mem_append.mp hx with hx | hx
      · exact ic x hx
      · rw [List.mem_singleton.mp hx]; exact he
    rintro H4 ⟨hdb, csb, lb, inb, hDb⟩
    refine ⟨_, Db, csb.map mk1, rfl, rfl, .inl (SqL.of hDb), by rw [sum_mk1, List.length_map]; show csb.length + csb.length * 0 ≤ 16777216; omega, ?_⟩
    rw [join1]
    have bb : csb.length ≤ 1000 := by omega
    -- odd
    refine ⟨_, rfl, (by show 1 ≤ sizeLine; decide), fun pl npl => ⟨(by show 1 ≤ sizeLine; decide), fun pt npt => ⟨(by show 7 ≤ sizeLine; decide), fun p np => ?_⟩⟩⟩
    have t1 := same_new npl (.lst [.str (Str.ofString "a")])
    have t2 := same_new npt (.tup [.str (Str.ofString "a")])
    have t3 := same_new np (.lst [.non, .int 3, .bl true, .ref pl, .ref pt, .str (Str.ofString ""), .str (Str.ofString "a\n")])
    have hd5 := hdb.same (t1.trans (t2.trans t3))
    have npd : p ≠ d := ((hdb.same t1).same t2).ne np
    refine ⟨d, c, hd5, .inl ⟨p, _, rfl, upd_same, npd, by show 0 < 7; decide, by show 7 ≤ 1000; decide, fun x H6 hx hd6 kp6 => ?_⟩⟩
    have hodd : ∃ od : PyData, Dp K H6 x od ∧ nameD od = false ∧ ∀ z, od = .str z → z.cps.size ≤ 1000 := by
      have pld : pl ≠ d := hdb.ne npl
      have ptd : pt ≠ d := (hdb.same t1).ne npt
      simp only [List.mem_cons, List.not_mem_nil, or_false] at hx
      rcases hx with rfl | rfl | rfl | rfl | rfl | rfl | rfl
      · exact ⟨_, .non, rfl, fun z e => nomatch e⟩
      · exact ⟨_, .int _, rfl, fun z e => nomatch e⟩
      · exact ⟨_, .bl _, rfl, fun z e => nomatch e⟩
      · exact ⟨_, .lst (SqL.of (kp6 _ _ (t3 _ _ (t2 _ _ upd_same)) pld)) (.cons (.str _) .nil), rfl, fun z e => nomatch e⟩
      · exact ⟨_, .tup (SqT.of (kp6 _ _ (t3 _ _ upd_same) ptd)) (.cons (.str _) .nil), rfl, fun z e => nomatch e⟩
      · exact ⟨_, .str _, by decide, fun z e => by cases e; decide⟩
      · exact ⟨_, .str _, by decide, fun z e => by cases e; decide⟩
    obtain ⟨od, hod, nod, zod⟩ := hodd
    -- told
    refine ⟨_, rfl, _, .str ⟨csa.toArray⟩, rfl, .str _, (fun z e => by cases e; simpa using ba), fun H7 s7 => ?_⟩
    refine ⟨_, rfl, _, .str ⟨csb.toArray⟩, rfl, .str _, (fun z e => by cases e; simpa using bb), fun H8 s8 => ?_⟩
    refine ⟨_, rfl, _, od, rfl, Dp.same (s7.trans s8) _ _ hod, zod, fun H9 s9 => ⟨(by show 3 ≤ sizeLine; decide), fun tl ntl => ?_⟩⟩
    have hd9 := hd6.same (s7.trans (s8.trans s9))
    have u1 := same_new ntl (.lst [.bl (nameD (.str ⟨csa.toArray⟩)), .bl (nameD (.str ⟨csb.toArray⟩)), .bl (nameD od)])
    -- against what is due
    refine ⟨_, rfl, _, rfl, ?_⟩
    refine rd_chain (i := 5) (cs := csb) rfl bb ?_
    refine ⟨(by show 3 ≤ sizeLine; decide), fun td ntd => ?_⟩
    have u2 := same_new ntd (.lst [.bl (nameZ csa), .bl (decide (1 ≤ csb.length) && decide (csb.length ≤ 8)), .bl false])
    refine ⟨.ref tl, .ref td, .list [.bool (nameD (.str ⟨csa.toArray⟩)), .bool (nameD (.str ⟨csb.toArray⟩)), .bool (nameD od)], .list [.bool (nameZ csa), .bool (decide (1 ≤ csb.length) && decide (csb.length ≤ 8)), .bool false], rfl, .lst (SqL.of (u2 _ _ upd_same)) (.cons (.bl _) (.cons (.bl _) (.cons (.bl _) .nil))), .lst (SqL.of upd_same) (.cons (.bl _) (.cons (.bl _) (.cons (.bl _) .nil))), by simp [PyData.depth, PyData.depthAll], by simp [wid, widAll], fun b H10 hb s10 => ?_⟩
    have e1 : nameD (.str ⟨csa.toArray⟩) = nameZ csa := rfl
    have e2 : nameD (.str ⟨csb.toArray⟩) = (decide (1 ≤ csb.length) && decide (csb.length ≤ 8)) := by
      show nameZ csb = _
      unfold nameZ
      have ea : (csb.all fun c => decide (c ∈ letters)) = true := List.all_eq_true.mpr fun x hx => by
        have h1 : ∀ y ∈ (Str.ofString "azqm").cps.toList, decide (y ∈ letters) = true := by decide
        exact h1 x (inb x hx)
      rw [ea, Bool.and_true]
    have hb : b = true := hb.mpr (by rw [e1, e2, nod])
    subst hb
    refine ⟨_, rfl, ?_⟩
    refine iteF ?_
    have hd10 := hd9.same (u1.trans (u2.trans s10))
    -- row
    refine ⟨_, rfl, d, c, 9, rfl, hd10, by decide, by decide, fun r9 B1 r90 r91 hdB1 kpB1 => ?_⟩
    refine ⟨_, rfl, by omega, by omega, fun D nD => ?_⟩
    have eD := hdB1.ne nD
    have eC := hdB1.ne2 nD
    refine lc_range (lo := 0) (n := r9.toNat) (fun i H2 => DealAt H2 d c ∧ ∃ ns : List Int, ns.length = i ∧ H2 D = some (.lst (ns.map V.int))) ⟨hdB1.put eD eC, [], rfl, upd_same⟩ ?_ ?_
    · rintro i H2 hi ⟨hd2, ms, lm, hD⟩
      refine ⟨rfl, ?_⟩
      refine ⟨_, rfl, d, c, 5, rfl, hd2, by decide, by decide, fun r5 H4 _ _ hd4 kp4 => ?_⟩
      refine ⟨_, _, rfl, rfl, _, kp4 _ _ hD eD, small1000 (by rw [List.length_map]; omega), hd4.put eD eC, ms ++ [r5 - 2], by rw [List.length_append, lm]; rfl, by rw [upd_same, List.map_append]; rfl⟩
    rintro H11 ⟨hd11, ms, lm, hD⟩
    refine ⟨_, rfl, d, c, 2, rfl, hd11, by decide, by decide, fun r2 H12 r20 r21 hd12 kp12 => ?_⟩
    have hD12 := kp12 _ _ hD eD
    have lm8 : ms.length ≤ 8 := by omega
    refine ⟨_, _, rfl, rfl, D, _, _, rfl, rfl, hD12, by omega, by omega, ?_, fun R nR => ?_⟩
    · rw [List.length_map]
      refine small ?_
      have h2 : (1 + r2).toNat ≤ 2 := by omega
      have := Nat.mul_le_mul lm8 h2
      omega
    rw [flat_map]
    have lrs : ((List.replicate (1 + r2).toNat ms).flatten).length ≤ 500 := by
      rw [flat_len]
      have h2 : (1 + r2).toNat ≤ 2 := by omega
      have := Nat.mul_le_mul h2 lm8
      omega
    generalize (List.replicate (1 + r2).toNat ms).flatten = rs at lrs
    have w1 := same_new nR (.lst (rs.map V.int))
    have hd13 := hd12.same w1
    have hR : (upd H12 R (.lst (rs.map V.int))) R = some (.lst (rs.map V.int)) := upd_same
    -- kept
    refine ⟨_, rfl, R, _, rfl, .inl (SqL.of hR), fun S nS => ?_⟩
    have w2 := same_new nS (.lst (rs.map V.int))
    have hS2 : (upd (upd H12 R (.lst (rs.map V.int))) S (.lst (rs.map V.int))) S = some (.lst (rs.map V.int)) := upd_same
    have hR2 := w2 _ _ hR
    have hd14 := hd13.same w2
    -- found
    refine ⟨_, rfl, R, rs, rfl, .inl (SqL.of hR2), by omega, fun f1 H15 s15 hf1 => ?_⟩
    refine ⟨_, rfl, R, _, rfl, .inl ⟨SqL.of (s15 _ _ hR2), fun tt ntt => ?_⟩⟩
    have w3 := same_new ntt (.tup (rs.map V.int))
    refine ⟨tt, rs, rfl, .inr (SqT.of upd_same), by omega, fun f2 H16 s16 hf2 => ⟨(by show 2 ≤ sizeLine; decide), fun FF nFF => ?_⟩⟩
    have w4 := same_new nFF (.lst [.ref f1, .ref f2])
    have w14 := s15.trans (w3.trans (s16.trans w4))
    have hFF : (upd H16 FF (.lst [.ref f1, .ref f2])) FF = some (.lst [.ref f1, .ref f2]) := upd_same
    have hf1F := Same.tup (w3.trans (s16.trans w4)) hf1
    have hf2F := Same.tup w4 hf2
    have hRF := w14 _ _ hR2
    have hSF := w14 _ _ hS2
    have hdF := hd14.same w14
    -- the same as the least of the law
    refine ⟨_, rfl, _, rfl, S, rs, rfl, .inl (SqL.of hSF), by omega, fun l1 H17 s17 hl1 => ⟨(by show 1 ≤ sizeLine; decide), fun L1 nL1 => ?_⟩⟩
    refine ⟨L1, 2, _, rfl, rfl, upd_same, by decide, by decide, by show 2 ≤ sizeLine; decide, fun L2 nL2 => ?_⟩
    have v1 := same_new nL1 (.lst [.ref l1])
    have v2 := same_new nL2 (.lst [.ref l1, .ref l1])
    have v12 := v1.trans v2
    have vv := s17.trans v12
    refine ⟨.ref FF, .ref L2, .list [dI (least rs), dI (least rs)], .list [dI (least rs), dI (least rs)], rfl, .lst (SqL.of (vv _ _ hFF)) (.cons (dp_tup (Same.tup vv hf1F)) (.cons (dp_tup (Same.tup vv hf2F)) .nil)), .lst (SqL.of upd_same) (.cons (dp_tup (Same.tup v12 hl1)) (.cons (dp_tup (Same.tup v12 hl1)) .nil)), ?_, ?_, fun b H18 hb s18 => ?_⟩
    · have := depth_dI1 (least rs)
      simp only [PyData.depth, PyData.depthAll]
      omega
    · have := wid_dI (least rs)
      have := least_len rs
      simp only [wid, widAll, List.length_cons, List.length_nil]
      omega
    have hb : b = true := hb.mpr rfl
    subst hb
    refine ⟨_, rfl, ?_⟩
    refine iteF ?_
    have vz := vv.trans s18
    have hR8 := vz _ _ hRF
    have hS8 := vz _ _ hSF
    have hFF8 := vz _ _ hFF
    have hf18 := Same.tup vz hf1F
    have hd18 := hdF.same vz
    refine ⟨_, rfl, _, rfl, dLi rs, dLi rs, dp_lst hR8, dp_lst hS8, shaped_dL rs, shaped_dL rs, _, rfl, ?_⟩
    rw [eqv_dL]
    -- every turn of the row
    refine ⟨_, rfl, R, _, rfl, .inl (SqL.of hR8), _, rfl, by rw [List.length_map]; omega, by rw [List.length_map]; omega, ?_⟩
    have el : (((rs.map V.int).length : Nat) : Int).toNat = rs.length := by rw [List.length_map]; omega
    rw [el]
    refine for_range (lo := 0) (n := rs.length) (fun i σ H' => Same H18 H' ∧ ∃ y2 y3 y4 y5 y6 y7 y9 y11 y12 y13 y14 : Option V, σ = [some (.ref a), some (.ref d), y2, y3, y4, y5, y6, y7, some (.ref R), y9, some (.ref FF), y11, y12, y13, y14]) ⟨Same.refl _, _, _, _, _, _, _, _, _, _, _, _, rfl⟩ ?_ ?_
    · rintro i σ H' hi ⟨sH, y2, y3, y4, y5, y6, y7, y9, y11, y12, y13, y14, rfl⟩
      have ez : (0 : Int) + (i : Int) = (i : Int) := by omega
      rw [ez]
      refine rd_turned (i := 8) (j := 11) (k := i) (ms := rs) rfl rfl (sH _ _ hR8) (by omega) (by omega) fun W H19 s19 hW => ?_
      have sz := sH.trans s19
      refine ⟨_, rfl, W, rot i rs, rfl, .inl (SqL.of hW), by rw [rot_len]; omega, fun t1 H20 s20 ht1 => ?_⟩
      refine ⟨_, rfl, FF, _, _, _, rfl, rfl, SqL.of (s20 _ _ (sz _ _ hFF8)), rfl, dI (least (rot i rs)), dI (least rs), dp_tup ht1, dp_tup (Same.tup (sz.trans s20) hf18), shaped_dI _, shaped_dI _, _, rfl, ?_⟩
      have er : least (rot i rs) = least rs := least_of_rt ⟨i, by omega, rfl⟩
      rw [eqv_dI, er, decide_eq_true rfl]
      refine iteF ?_
      refine ⟨_, rfl, FF, _, _, _, rfl, rfl, SqL.of (s20 _ _ (sz _ _ hFF8)), rfl, _, rfl, W, _, rfl, .inl ⟨SqL.of (s20 _ _ hW), fun t2 nt2 => ?_⟩⟩
      have s21 := same_new nt2 (.tup ((rot i rs).map V.int))
      refine ⟨f1, t2, least rs, rot i rs, rfl, rfl, Same.tup ((sz.trans s20).trans s21) hf18, SqT.of upd_same, _, rfl, ?_⟩
      rw [(least_is rs).le i hi]
      refine iteF ?_
      exact ⟨(sz.trans s20).trans s21, _, _, _, _, _, _, _, _, _, _, _, rfl⟩
    · rintro σ H' ⟨sH, y2, y3, y4, y5, y6, y7, y9, y11, y12, y13, y14, rfl⟩
      exact ⟨hd18.same sH, _, _, _, _, _, _, _, _, _, _, _, _, _, rfl⟩
  · rintro σ H2 ⟨hd2, x2, x3, x4, x5, x6, x7, x8, x9, x10, x11, x12, x13, x14, rfl⟩
    have z1 : least [] = [] := rfl
    have z2 : least [3] = [3] := by decide
    refine ⟨(by show 0 ≤ sizeLine; decide), fun p1 n1 => ?_⟩
    refine ⟨p1, [], rfl, .inl (SqL.of upd_same), by decide, fun t1 H3 s3 ht1 => ⟨(by show 0 ≤ sizeLine; decide), fun p2 n2 => ?_⟩⟩
    refine ⟨dI (least []), dI [], dp_tup (Same.tup (same_new n2 _) ht1), dp_tup (SqT.of upd_same), shaped_dI _, shaped_dI _, _, rfl, ?_⟩
    rw [eqv_dI, z1, decide_eq_true rfl]
    refine iteT ?_
    refine ⟨(by show 1 ≤ sizeLine; decide), fun p3 n3 => ?_⟩
    refine ⟨p3, [3], rfl, .inl (SqL.of upd_same), by decide, fun t2 H4 s4 ht2 => ⟨(by show 1 ≤ sizeLine; decide), fun p4 n4 => ?_⟩⟩
    refine ⟨dI (least [3]), dI [3], dp_tup (Same.tup (same_new n4 _) ht2), dp_tup (SqT.of upd_same), shaped_dI _, shaped_dI _, ?_⟩
    rw [eqv_dI, z2, decide_eq_true rfl]
    exact q _
end
end KK

set_option Elab.async false
set_option linter.all false
set_option maxRecDepth 100000
set_option maxHeartbeats 4000000
namespace KK
open PySem PySem.Spec PyProof.Rows L2 RT
theorem same0 {P : Program} {w : World} {K : PySem.W.Frag} {mg : Str → Option Value} {base : Heap} {f : Addr} {fd : FuncData} : FnOk P w K mg base CX0 0 f fd ["_law_found", "_law_due"] (spSame K 0) := by
  have no : ∀ vs H Q E, ¬ spSame K 0 vs H Q E := fun vs H Q E h => by
    obtain ⟨x, y, d, e, _, _, _, h, _⟩ := h
    omega
  exact ⟨fun vs H Q E h => absurd h (no vs H Q E), fun A outer s H args us vs Q E _ _ _ _ h => absurd h (no vs H Q E)⟩
theorem kb_is_name {K : PySem.W.Frag} {f : Addr} {fd : FuncData} (F : Fun K "is_name" "is_name" sName f fd) : KBinds K fd ["value"] ["value"] kwG kwV := by
  obtain ⟨oc, od, kV, doc, pm, an, cdv, ct, osl, rfl, lk, hcd⟩ := F.ex
  refine ⟨fun s us ws _ hl => ?_, fun r z => kw_rel r z⟩
  match us, ws, hl with
  | [], [_], _ => exact .of_eq rfl
theorem kb_least_turn {K : PySem.W.Frag} {f : Addr} {fd : FuncData} (F : Fun K "least_turn" "least_turn" sTurn f fd) : KBinds K fd ["items"] ["items"] kwG kwV := by
  obtain ⟨oc, od, kV, doc, pm, an, cdv, ct, osl, rfl, lk, hcd⟩ := F.ex
  refine ⟨fun s us ws _ hl => ?_, fun r z => kw_rel r z⟩
  match us, ws, hl with
  | [], [_], _ => exact .of_eq rfl

theorem all_mk {l : PySem.W.OpenLaw} {w : World} {K : PySem.W.Frag} {h : Heap} {mg : Str → Option Value} {fa f0 f1 f2 f3 f4 f5 f6 f7 f8 : Addr} (X : K.In h) (G : h.Ns mainGlobals mg) (hfa : mg "law" = some (.ref fa))
    {od0 an0 od1 an1 od2 an2 od3 an3 od4 an4 od5 an5 od6 an6 od7 an7 od8 an8 : Option Addr} {sl0 sl1 sl2 sl3 sl4 sl5 sl6 sl7 sl8 : Array (Option Value)} {oc0 kV0 dc0 pm0 cd0 ct0 oc1 kV1 dc1 pm1 cd1 ct1 oc2 kV2 dc2 pm2 cd2 ct2 oc3 kV3 dc3 pm3 cd3 ct3 oc4 kV4 dc4 pm4 cd4 ct4 oc5 kV5 dc5 pm5 cd5 ct5 oc6 kV6 dc6 pm6 cd6 ct6 oc7 kV7 dc7 pm7 cd7 ct7 oc8 kV8 dc8 pm8 cd8 ct8 : Value}
    (a0 : PySem.W.nsIn K mainGlobals "is_name" = some (some (.ref f0))) (l0 : K.lookup f0 = some ⟨oc0, od0, .func (PySem.W.fnOf "is_name" "is_name" (defArgs sName) (defBody sName) (defScope sName) .none kV0 dc0 pm0 an0 cd0 ct0), sl0⟩) (c0 : PySem.W.codeIn K cd0 "is_name" = true) (k0 : PySem.W.keepIn K (.ref f0) = true)
    (a1 : PySem.W.nsIn K mainGlobals "least_turn" = some (some (.ref f1))) (l1 : K.lookup f1 = some ⟨oc1, od1, .func (PySem.W.fnOf "least_turn" "least_turn" (defArgs sTurn) (defBody sTurn) (defScope sTurn) .none kV1 dc1 pm1 an1 cd1 ct1), sl1⟩) (c1 : PySem.W.codeIn K cd1 "least_turn" = true) (k1 : PySem.W.keepIn K (.ref f1) = true)
    (a2 : PySem.W.nsIn K mainGlobals "least_start" = some (some (.ref f2))) (l2 : K.lookup f2 = some ⟨oc2, od2, .func (PySem.W.fnOf "least_start" "least_start" (defArgs sStart) (defBody sStart) (defScope sStart) .none kV2 dc2 pm2 an2 cd2 ct2), sl2⟩) (c2 : PySem.W.codeIn K cd2 "least_start" = true) (k2 : PySem.W.keepIn K (.ref f2) = true)
    (a3 : PySem.W.nsIn K mainGlobals "_law_deal" = some (some (.ref f3))) (l3 : K.lookup f3 = some ⟨oc3, od3, .func (PySem.W.fnOf "_law_deal" "_law_deal" (defArgs sDeal) (defBody sDeal) (defScope sDeal) .none kV3 dc3 pm3 an3 cd3 ct3), sl3⟩) (c3 : PySem.W.codeIn K cd3 "_law_deal" = true) (k3 : PySem.W.keepIn K (.ref f3) = true)
    (a4 : PySem.W.nsIn K mainGlobals "_law_pick" = some (some (.ref f4))) (l4 : K.lookup f4 = some ⟨oc4, od4, .func (PySem.W.fnOf "_law_pick" "_law_pick" (defArgs sPick) (defBody sPick) (defScope sPick) .none kV4 dc4 pm4 an4 cd4 ct4), sl4⟩) (c4 : PySem.W.codeIn K cd4 "_law_pick" = true) (k4 : PySem.W.keepIn K (.ref f4) = true)
    (a5 : PySem.W.nsIn K mainGlobals "_law_of" = some (some (.ref f5))) (l5 : K.lookup f5 = some ⟨oc5, od5, .func (PySem.W.fnOf "_law_of" "_law_of" (defArgs sOf) (defBody sOf) (defScope sOf) .none kV5 dc5 pm5 an5 cd5 ct5), sl5⟩) (c5 : PySem.W.codeIn K cd5 "_law_of" = true) (k5 : PySem.W.keepIn K (.ref f5) = true)
    (a6 : PySem.W.nsIn K mainGlobals "_law_same" = some (some (.ref f6))) (l6 : K.lookup f6 = some ⟨oc6, od6, .func (PySem.W.fnOf "_law_same" "_law_same" (defArgs sSame) (defBody sSame) (defScope sSame) .none kV6 dc6 pm6 an6 cd6 ct6), sl6⟩) (c6 : PySem.W.codeIn K cd6 "_law_same" = true) (k6 : PySem.W.keepIn K (.ref f6) = true)
    (a7 : PySem.W.nsIn K mainGlobals "_law_least" = some (some (.ref f7))) (l7 : K.lookup f7 = some ⟨oc7, od7, .func (PySem.W.fnOf "_law_least" "_law_least" (defArgs sLeast) (defBody sLeast) (defScope sLeast) .none kV7 dc7 pm7 an7 cd7 ct7), sl7⟩) (c7 : PySem.W.codeIn K cd7 "_law_least" = true) (k7 : PySem.W.keepIn K (.ref f7) = true)
    (a8 : PySem.W.nsIn K mainGlobals "law" = some (some (.ref f8))) (l8 : K.lookup f8 = some ⟨oc8, od8, .func (PySem.W.fnOf "law" "law" (defArgs sLaw) (defBody sLaw) (defScope sLaw) .none kV8 dc8 pm8 an8 cd8 ct8), sl8⟩) (c8 : PySem.W.codeIn K cd8 "law" = true) (k8 : PySem.W.keepIn K (.ref f8) = true)
    {tL tM : Tok} (aL : PySem.W.nsIn K mainGlobals "LETTERS" = some (some (.str (Str.ofString "abcdefghijklmnopqrstuvwxyz") tL))) (aM : PySem.W.nsIn K mainGlobals "MOST_LETTERS" = some (some (.int 8 tM)))
    (z_len : PySem.W.nsIn K mainGlobals "len" = some none)    (z_min : PySem.W.nsIn K mainGlobals "min" = some none)    (z_tuple : PySem.W.nsIn K mainGlobals "tuple" = some none)    (z_int : PySem.W.nsIn K mainGlobals "int" = some none)    (z_range : PySem.W.nsIn K mainGlobals "range" = some none)    (z_list : PySem.W.nsIn K mainGlobals "list" = some none)    (z_isinstance : PySem.W.nsIn K mainGlobals "isinstance" = some none)    (z_bool : PySem.W.nsIn K mainGlobals "bool" = some none)    (z_str : PySem.W.nsIn K mainGlobals "str" = some none)    (z_all : PySem.W.nsIn K mainGlobals "all" = some none)    (z_zip : PySem.W.nsIn K mainGlobals "zip" = some none) :
    ∃ fd : FuncData, (∀ (s : Shared) (v : Value), BindsTo s fd ⟨[v], []⟩ [("_law_script", v)]) ∧ ∀ base : Heap, K.In base → base.Ns mainGlobals mg → FnOk l.prog w K mg base CX0 4 fa fd ["_law_script"] (spLaw K) := by
  have e := hfa.symm.trans (PySem.W.mg_of X G a8)
  cases e
  have F0 := fun_mk (st := sName) l0 c0 k0
  have b0 := F0.binds (ps := ["value"]) fun _ _ _ _ _ _ us hl => match us, hl with | [_], _ => rfl
  have m0 := PySem.W.mg_of X G a0
  have F1 := fun_mk (st := sTurn) l1 c1 k1
  have b1 := F1.binds (ps := ["items"]) fun _ _ _ _ _ _ us hl => match us, hl with | [_], _ => rfl
  have m1 := PySem.W.mg_of X G a1
  have F2 := fun_mk (st := sStart) l2 c2 k2
  have b2 := F2.binds (ps := ["row"]) fun _ _ _ _ _ _ us hl => match us, hl with | [_], _ => rfl
  have m2 := PySem.W.mg_of X G a2
  have F3 := fun_mk (st := sDeal) l3 c3 k3
  have b3 := F3.binds (ps := ["_law_script"]) fun _ _ _ _ _ _ us hl => match us, hl with | [_], _ => rfl
  have m3 := PySem.W.mg_of X G a3
  have F4 := fun_mk (st := sPick) l4 c4 k4
  have b4 := F4.binds (ps := ["_law_deal_here", "_law_many"]) fun _ _ _ _ _ _ us hl => match us, hl with | [_, _], _ => rfl
  have m4 := PySem.W.mg_of X G a4
  have F5 := fun_mk (st := sOf) l5 c5 k5
  have b5 := F5.binds (ps := ["_law_deal_here", "_law_items_z"]) fun _ _ _ _ _ _ us hl => match us, hl with | [_, _], _ => rfl
  have m5 := PySem.W.mg_of X G a5
  have F6 := fun_mk (st := sSame) l6 c6 k6
  have b6 := F6.binds (ps := ["_law_found", "_law_due"]) fun _ _ _ _ _ _ us hl => match us, hl with | [_, _], _ => rfl
  have m6 := PySem.W.mg_of X G a6
  have F7 := fun_mk (st := sLeast) l7 c7 k7
  have b7 := F7.binds (ps := ["_law_items_z"]) fun _ _ _ _ _ _ us hl => match us, hl with | [_], _ => rfl
  have m7 := PySem.W.mg_of X G a7
  have F8 := fun_mk (st := sLaw) l8 c8 k8
  have y_len := PySem.W.mg_none_of X G z_len
  have y_min := PySem.W.mg_none_of X G z_min
  have y_tuple := PySem.W.mg_none_of X G z_tuple
  have y_int := PySem.W.mg_none_of X G z_int
  have y_range := PySem.W.mg_none_of X G z_range
  have y_list := PySem.W.mg_none_of X G z_list
  have y_isinstance := PySem.W.mg_none_of X G z_isinstance
  have y_bool := PySem.W.mg_none_of X G z_bool
  have y_str := PySem.W.mg_none_of X G z_str
  have y_all := PySem.W.mg_none_of X G z_all
  have y_zip := PySem.W.mg_none_of X G z_zip
  have TS : SameT mg := ⟨y_isinstance, y_bool, y_int, y_str, y_list, y_tuple, y_len, y_all, y_zip⟩
  have TL : LawT mg := ⟨y_len, y_range, y_list, y_tuple, y_all⟩
  have TN : NameT mg := ⟨y_isinstance, y_str, y_len, y_all, ⟨_, PySem.W.mg_of X G aL⟩, ⟨_, PySem.W.mg_of X G aM⟩⟩
  refine ⟨PySem.W.fnOf "law" "law" (defArgs sLaw) (defBody sLaw) (defScope sLaw) .none kV8 dc8 pm8 an8 cd8 ct8, fun s v => .of_eq rfl, fun base _ _ => ?_⟩
  have G0 : FnOk l.prog w K mg base CX0 1 f0 _ ["value"] (spName K) := ok_name F0 TN
  have G2 : FnOk l.prog w K mg base CX0 1 f2 _ ["row"] (spStart K) := ok_start F2 y_len y_min
  have G1 := ok_turn F1 y_tuple G2 b2 k2 m2
  have G3 : FnOk l.prog w K mg base CX0 1 f3 _ ["_law_script"] (spDeal K) := ok_deal F3 y_len y_int
  have G4 : FnOk l.prog w K mg base CX0 1 f4 _ ["_law_deal_here", "_law_many"] spPick := ok_pick F4 y_len y_int
  have G5 := ok_of F5 y_len G4 b4 k4 m4
  have S1 : FnOk l.prog w K mg base CX0 1 f6 _ ["_law_found", "_law_due"] (spSame K 1) := ok_same F6 TS same0 b6 k6 m6
  have S2 := ok_same F6 TS S1 b6 k6 m6
  have S3 := ok_same F6 TS S2 b6 k6 m6
  have G7 : FnOk l.prog w K mg base CX0 1 f7 _ ["_law_items_z"] (spTurn K) := ok_least F7 y_tuple y_min y_range y_len
  exact ok_law F8 TL G3 b3 k3 m3 G4 b4 k4 m4 G5 b5 k5 m5 S3 b6 k6 m6 G7 b7 k7 m7 G1 b1 (kb_least_turn F1) k1 m1 G0 b0 (kb_is_name F0) k0 m0
theorem walk {l : PySem.W.OpenLaw} {q : Program} {loose : List Str} {XP : (Str → Option Value) → Heap → Prop} {YP : World → Heap → Prop} {d : DefRec} {K : Params → PySem.W.Frag} (hn : l.most = some 63) (hdf : d.params.defaults = [])
    (hY : ∀ (w : World) (h : Heap), YP w h → (K w.params).In h)
    (F : ∀ (w : World) (mg : Str → Option Value) (fa : Addr) (h : Heap), (K w.params).In h → h.Ns mainGlobals mg → mg d.name = some (.ref fa) →
      ∃ fd : FuncData, (∀ (s : Shared) (u : Value), BindsTo s fd ⟨[u], []⟩ [("_law_script", u)]) ∧ ∀ base : Heap, (K w.params).In base → base.Ns mainGlobals mg → FnOk l.prog w (K w.params) mg base CX0 4 fa fd ["_law_script"] (spLaw (K w.params))) :
    PySem.W.WalkO q loose XP YP l.row.toRowW d [] (fun f vs => PySem.call f vs) :=
  L2.walk_of (n := 63) (k := 4) (x := "_law_script") (CX := fun _ => CX0) (sp := fun w => spLaw (K w.params)) hn (by decide) hdf ⟨rfl, by decide, by decide⟩ hY F (fun _ _ a ns hl _ hS => ⟨a, ns, rfl, hS, hl, fun _ => rfl⟩) fun _ _ _ _ _ z => z
end KK
open PySem PySem.W PyProof.Rows
set_option maxRecDepth 100000 in
set_option maxHeartbeats 0 in
theorem PySem.Challenge.cw_flipthreads_k02_names_and_least_turns_holds : PySem.Challenge.rw_flipthreads_k02_names_and_least_turns.Holds := by
  w_on; o_law; k_head; (case hw => w_witness2)
  k_fill
  refine KK.walk (l := PySem.Challenge.rw_flipthreads_k02_names_and_least_turns) rfl rfl (fun w h Y => PySem.W.kIn_of Y) ?F
  case F =>
    intro w mg fa h KX G hmg
    refine' KK.all_mk KX G hmg ?a0 ?l0 ?c0 ?k0 ?a1 ?l1 ?c1 ?k1 ?a2 ?l2 ?c2 ?k2 ?a3 ?l3 ?c3 ?k3 ?a4 ?l4 ?c4 ?k4 ?a5 ?l5 ?c5 ?k5 ?a6 ?l6 ?c6 ?k6 ?a7 ?l7 ?c7 ?k7 ?a8 ?l8 ?c8 ?k8 ?aL ?aM ?z_len ?z_min ?z_tuple ?z_int ?z_range ?z_list ?z_isinstance ?z_bool ?z_str ?z_all ?z_zip
    (case a0 => k_is); (case l0 => k_is); (case c0 => k_is); (case k0 => k_is)
    (case a1 => k_is); (case l1 => k_is); (case c1 => k_is); (case k1 => k_is)
    (case a2 => k_is); (case l2 => k_is); (case c2 => k_is); (case k2 => k_is)
    (case a3 => k_is); (case l3 => k_is); (case c3 => k_is); (case k3 => k_is)
    (case a4 => k_is); (case l4 => k_is); (case c4 => k_is); (case k4 => k_is)
    (case a5 => k_is); (case l5 => k_is); (case c5 => k_is); (case k5 => k_is)
    (case a6 => k_is); (case l6 => k_is); (case c6 => k_is); (case k6 => k_is)
    (case a7 => k_is); (case l7 => k_is); (case c7 => k_is); (case k7 => k_is)
    (case a8 => k_is); (case l8 => k_is); (case c8 => k_is); (case k8 => k_is)
    (case aL => k_is); (case aM => k_is)
    (case z_len => k_is); (case z_min => k_is); (case z_tuple => k_is); (case z_int => k_is); (case z_range => k_is); (case z_list => k_is); (case z_isinstance => k_is); (case z_bool => k_is); (case z_str => k_is); (case z_all => k_is); (case z_zip => k_is)

