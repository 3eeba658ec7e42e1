import PyProof.Rows.All
import Wide.All
import OpenK.AllK
import Wide.FinOn
import HandS.ForMost
import KE.DataMinMax
import KE.SortData
import KE.DataCmp
import HandS.TupAny
import HandS.Style
import HandS.Deep
import HandS.IsInst
import HandS.Walk
import HandS.Zip
import KE.KExcSuper
import HandS.Exc
import HandS.ExcInit
import HandS.Words
import HandS.ExcField
import HandS.ExcIs
import HandS.Head0
import HandS.Head1
import HandS.Head2
import HandS.HeadEnd
import HandS.HeadHook1
import HandS.HeadHook2
import PySem.Challenge.RW_flipthreads_k01_errors_by_themselves
set_option Elab.async false
set_option linter.all false
set_option maxRecDepth 100000
namespace RT
open L2
def rot (k : Nat) (ns : List Int) : List Int := ns.drop k ++ ns.take k
def cyc (ns : List Int) (i : Nat) : Int := ns.getD (i % ns.length) 0
def seg (f : Nat → Int) : Nat → Nat → List Int
  | _, 0 => []
  | a, n + 1 => f a :: seg f (a + 1) n
theorem seg_len (f : Nat → Int) : ∀ (n a : Nat), (seg f a n).length = n
  | 0, _ => rfl
  | n + 1, a => by show (seg f (a + 1) n).length + 1 = n + 1; rw [seg_len f n]
theorem seg_get (f : Nat → Int) : ∀ (n a m : Nat), m < n → (seg f a n)[m]? = some (f (a + m))
  | 0, _, _, h => by omega
  | n + 1, a, 0, _ => rfl
  | n + 1, a, m + 1, h => by
    show (seg f (a + 1) n)[m]? = _
    rw [seg_get f n (a + 1) m (by omega), show a + 1 + m = a + (m + 1) by omega]
theorem seg_congr (f : Nat → Int) : ∀ (n a b : Nat), (∀ j, j < n → f (a + j) = f (b + j)) → seg f a n = seg f b n
  | 0, _, _, _ => rfl
  | n + 1, a, b, h => by
    show f a :: seg f (a + 1) n = f b :: seg f (b + 1) n
    rw [seg_congr f n (a + 1) (b + 1) fun j hj => by
      have := h (j + 1) (by omega)
      rw [show a + 1 + j = a + (j + 1) by omega, show b + 1 + j = b + (j + 1) by omega]; exact this]
    rw [show f a = f b from h 0 (by omega)]
theorem rot_len (k : Nat) (ns : List Int) : (rot k ns).length = ns.length := by
  unfold rot; rw [List.length_append, List.length_drop, List.length_take]; omega
theorem rot_seg {k : Nat} {ns : List Int} (h : k ≤ ns.length) : rot k ns = seg (cyc ns) k ns.length := by
  apply List.ext_getElem?
  intro m
  by_cases hm : m < ns.length
  · rw [seg_get _ _ _ _ hm]
    unfold rot cyc
    by_cases h1 : m < ns.length - k
    · rw [List.getElem?_append_left (by rw [List.length_drop]; exact h1), List.getElem?_drop, Nat.mod_eq_of_lt (by omega), List.getElem?_eq_getElem (by omega), List.getD_eq_getElem?_getD, List.getElem?_eq_getElem (by omega)]
      rfl
    · rw [List.getElem?_append_right (by rw [List.length_drop]; omega), List.length_drop, List.getElem?_take, if_pos (by omega), Nat.mod_eq_sub_mod (by omega), Nat.mod_eq_of_lt (by omega), List.getD_eq_getElem?_getD, show m - (ns.length - k) = k + m - ns.length by omega, List.getElem?_eq_getElem (by omega)]
      rfl
  · rw [List.getElem?_eq_none (by rw [rot_len]; omega), List.getElem?_eq_none (by rw [seg_len]; omega)]
theorem cyc_add (ns : List Int) (a x : Nat) : cyc ns (a + x) = cyc ns (a + x % ns.length) := by
  unfold cyc; rw [Nat.add_mod_mod]
theorem cyc_mod (ns : List Int) (a x : Nat) : cyc ns (a + x) = cyc ns (a % ns.length + x) := by
  unfold cyc; rw [Nat.mod_add_mod]
theorem seg_mod (ns : List Int) (a n : Nat) : seg (cyc ns) a n = seg (cyc ns) (a % ns.length) n := seg_congr _ _ _ _ fun j _ => cyc_mod ns a j
/-! the order -/
theorem lex_irr : ∀ a : List Int, HT.lexLt a a = false
  | [] => rfl
  | x :: a => by rw [HT.lexLt_cons, if_pos rfl, lex_irr a]
theorem lex_anti : ∀ a b : List Int, HT.lexLt a b = false → HT.lexLt b a = false → a = b
  | [], [], _, _ => rfl
  | [], y :: b, h, _ => by rw [HT.lexLt_nil_cons] at h; cases h
  | x :: a, [], _, h => by rw [HT.lexLt_nil_cons] at h; cases h
  | x :: a, y :: b, h1, h2 => by
    rw [HT.lexLt_cons] at h1 h2
    by_cases e : x = y
    · subst e
      rw [if_pos rfl] at h1 h2
      rw [lex_anti a b h1 h2]
    · rw [if_neg e] at h1
      rw [if_neg (fun z => e z.symm)] at h2
      have h1 := of_decide_eq_false h1
      have h2 := of_decide_eq_false h2
      omega
theorem lex_asym : ∀ a b : List Int, HT.lexLt a b = true → HT.lexLt b a = false
  | [], [], h => by rw [HT.lexLt_nil_nil] at h; cases h
  | [], y :: b, _ => HT.lexLt_cons_nil y b
  | x :: a, [], h => by rw [HT.lexLt_cons_nil] at h; cases h
  | x :: a, y :: b, h => by
    rw [HT.lexLt_cons] at h ⊢
    by_cases e : x = y
    · subst e
      rw [if_pos rfl] at h ⊢
      exact lex_asym a b h
    · rw [if_neg e] at h
      rw [if_neg (fun z => e z.symm)]
      have h := of_decide_eq_true h
      exact decide_eq_false (by omega)
theorem lex_trans : ∀ a b c : List Int, HT.lexLt b a = false → HT.lexLt c b = false → HT.lexLt c a = false
  | [], b, [], _, _ => HT.lexLt_nil_nil
  | [], b, z :: c, _, _ => HT.lexLt_cons_nil z c
  | x :: a, [], c, h, _ => by rw [HT.lexLt_nil_cons] at h; cases h
  | x :: a, y :: b, [], _, h => by rw [HT.lexLt_nil_cons] at h; cases h
  | x :: a, y :: b, z :: c, h1, h2 => by
    rw [HT.lexLt_cons] at h1 h2 ⊢
    by_cases e : y = x
    · subst e
      rw [if_pos rfl] at h1
      by_cases e2 : z = y
      · subst e2
        rw [if_pos rfl] at h2 ⊢
        exact lex_trans a b c h1 h2
      · rw [if_neg e2] at h2 ⊢
        exact h2
    · rw [if_neg e] at h1
      have h1 := of_decide_eq_false h1
      by_cases e2 : z = y
      · subst e2
        rw [if_neg e]
        exact decide_eq_false h1
      · rw [if_neg e2] at h2
        have h2 := of_decide_eq_false h2
        rw [if_neg (by omega)]
        exact decide_eq_false (by omega)
theorem seg_lt (f : Nat → Int) : ∀ (m n a b : Nat), m < n → (∀ j, j < m → f (a + j) = f (b + j)) → f (a + m) < f (b + m) → HT.lexLt (seg f a n) (seg f b n) = true
  | _, 0, _, _, h, _, _ => by omega
  | 0, n + 1, a, b, _, _, h => by
    show HT.lexLt (f a :: _) (f b :: _) = true
    have h : f a < f b := h
    rw [HT.lexLt_cons, if_neg (by omega)]
    exact decide_eq_true h
  | m + 1, n + 1, a, b, hm, he, h => by
    show HT.lexLt (f a :: seg f (a + 1) n) (f b :: seg f (b + 1) n) = true
    rw [HT.lexLt_cons, if_pos (show f a = f b from he 0 (by omega))]
    refine seg_lt f m n (a + 1) (b + 1) (by omega) (fun j hj => ?_) ?_
    · have := he (j + 1) (by omega)
      rw [show a + 1 + j = a + (j + 1) by omega, show b + 1 + j = b + (j + 1) by omega]; exact this
    · rw [show a + 1 + m = a + (m + 1) by omega, show b + 1 + m = b + (m + 1) by omega]; exact h
/-! the least of a row of rows -/
def pickL (x : List Int) (xs : List (List Int)) : List Int := xs.foldl (fun a y => if HT.lexLt y a then y else a) x
theorem pickL_mem : ∀ (xs : List (List Int)) (x : List Int), pickL x xs = x ∨ pickL x xs ∈ xs
  | [], x => .inl rfl
  | y :: xs, x => by
    show pickL (if HT.lexLt y x then y else x) xs = x ∨ pickL (if HT.lexLt y x then y else x) xs ∈ y :: xs
    by_cases h : HT.lexLt y x = true
    · rw [if_pos h]
      rcases pickL_mem xs y with e | e
      · rw [e]; exact .inr List.mem_cons_self
      · exact .inr (List.mem_cons_of_mem _ e)
    · rw [if_neg h]
      rcases pickL_mem xs x with e | e
      · exact .inl e
      · exact .inr (List.mem_cons_of_mem _ e)
theorem pickL_le : ∀ (xs : List (List Int)) (x : List Int), HT.lexLt x (pickL x xs) = false ∧ ∀ y ∈ xs, HT.lexLt y (pickL x xs) = false
  | [], x => ⟨lex_irr x, fun _ h => nomatch h⟩
  | y :: xs, x => by
    show HT.lexLt x (pickL (if HT.lexLt y x then y else x) xs) = false ∧ ∀ z ∈ y :: xs, HT.lexLt z (pickL (if HT.lexLt y x then y else x) xs) = false
    by_cases h : HT.lexLt y x = true
    · rw [if_pos h]
      obtain ⟨h1, h2⟩ := pickL_le xs y
      refine ⟨lex_trans _ y _ h1 (lex_asym _ _ h), fun z hz => ?_⟩
      rcases List.mem_cons.mp hz with rfl | hz
      · exact h1
      · exact h2 z hz
    · rw [if_neg h]
      obtain ⟨h1, h2⟩ := pickL_le xs x
      refine ⟨h1, fun z hz => ?_⟩
      rcases List.mem_cons.mp hz with rfl | hz
      · exact lex_trans _ x _ h1 (Bool.eq_false_iff.mpr h)
      · exact h2 z hz
structure IsLeast (ns t : List Int) : Prop where
  rt : ∃ k, k ≤ ns.length ∧ t = rot k ns
  le : ∀ k, k < ns.length → HT.lexLt (rot k ns) t = false
theorem rot_zero (ns : List Int) : rot 0 ns = ns := by unfold rot; simp
theorem rot_all (ns : List Int) : rot ns.length ns = ns := by unfold rot; simp
theorem rot_nil (k : Nat) : rot k [] = [] := by unfold rot; simp
theorem rt_small {ns t : List Int} (hn : 0 < ns.length) (h : ∃ k, k ≤ ns.length ∧ t = rot k ns) : ∃ k, k < ns.length ∧ t = rot k ns := by
  obtain ⟨k, h1, h2⟩ := h
  by_cases e : k = ns.length
  · exact ⟨0, hn, by rw [h2, e, rot_all, rot_zero]⟩
  · exact ⟨k, by omega, h2⟩
theorem least_one {ns t u : List Int} (h : IsLeast ns t) (g : IsLeast ns u) : t = u := by
  by_cases hn : 0 < ns.length
  · obtain ⟨k, hk, e1⟩ := rt_small hn h.rt
    obtain ⟨j, hj, e2⟩ := rt_small hn g.rt
    refine lex_anti _ _ ?_ ?_
    · rw [e1]; exact g.le k hk
    · rw [e2]; exact h.le j hj
  · have e : ns = [] := List.length_eq_zero_iff.mp (by omega)
    subst e
    obtain ⟨k, _, e1⟩ := h.rt
    obtain ⟨j, _, e2⟩ := g.rt
    rw [e1, e2, rot_nil, rot_nil]
def rots (ns : List Int) : List (List Int) := (List.range ns.length).map fun k => rot k ns
def least (ns : List Int) : List Int := pickL ns (rots ns)
theorem least_is (ns : List Int) : IsLeast ns (least ns) where
  rt := by
    rcases pickL_mem (rots ns) ns with e | e
    · exact ⟨0, Nat.zero_le _, by rw [rot_zero]; exact e⟩
    · obtain ⟨k, hk, e⟩ := List.mem_map.mp e
      exact ⟨k, Nat.le_of_lt (List.mem_range.mp hk), e.symm⟩
  le := fun k hk => (pickL_le (rots ns) ns).2 _ (List.mem_map.mpr ⟨k, List.mem_range.mpr hk, rfl⟩)
theorem least_len (ns : List Int) : (least ns).length = ns.length := by
  obtain ⟨k, _, e⟩ := (least_is ns).rt
  rw [e, rot_len]
theorem least_nil : least [] = [] := rfl
/-! the two starts -/
def Good (ns : List Int) (s : Nat) : Prop := s < ns.length ∧ ∀ t, t < ns.length → HT.lexLt (seg (cyc ns) t ns.length) (seg (cyc ns) s ns.length) = false
theorem good_is {ns : List Int} {s : Nat} (g : Good ns s) : rot s ns = least ns := by
  refine least_one ⟨⟨s, Nat.le_of_lt g.1, rfl⟩, fun k hk => ?_⟩ (least_is ns)
  rw [rot_seg (Nat.le_of_lt hk), rot_seg (Nat.le_of_lt g.1)]
  exact g.2 k hk
theorem good_ex {ns : List Int} (hn : 0 < ns.length) : ∃ s, Good ns s := by
  obtain ⟨k, hk, e⟩ := rt_small hn (least_is ns).rt
  refine ⟨k, hk, fun t ht => ?_⟩
  rw [← rot_seg (Nat.le_of_lt hk), ← rot_seg (Nat.le_of_lt ht), ← e]
  exact (least_is ns).le t ht
structure Two (ns : List Int) (i j k : Nat) : Prop where
  ne : i ≠ j
  eq : ∀ m, m < k → cyc ns (i + m) = cyc ns (j + m)
  al : ∀ t, Good ns t → t = i ∨ t = j ∨ (i < t ∧ j < t)
theorem two_start (ns : List Int) : Two ns 0 1 0 := ⟨by omega, fun m h => by omega, fun t _ => by omega⟩
theorem two_eq {ns : List Int} {i j k : Nat} (h : Two ns i j k) (e : cyc ns (i + k) = cyc ns (j + k)) : Two ns i j (k + 1) :=
  ⟨h.ne, fun m hm => by
    by_cases z : m = k
    · subst z; exact e
    · exact h.eq m (by omega), h.al⟩
/-- what loses takes those behind it along -/
theorem beaten {ns : List Int} {i j k : Nat} (eq : ∀ m, m < k → cyc ns (i + m) = cyc ns (j + m)) (lt : cyc ns (i + k) < cyc ns (j + k)) (hk : k < ns.length) {t : Nat} (h1 : j ≤ t) (h2 : t ≤ j + k) : ¬ Good ns t := fun g => by
  have hn : 0 < ns.length := by omega
  have a := g.2 ((i + (t - j)) % ns.length) (Nat.mod_lt _ hn)
  rw [← seg_mod] at a
  have b : HT.lexLt (seg (cyc ns) (i + (t - j)) ns.length) (seg (cyc ns) t ns.length) = true := by
    refine seg_lt (cyc ns) (k - (t - j)) ns.length (i + (t - j)) t (by omega) (fun x hx => ?_) ?_
    · have := eq (t - j + x) (by omega)
      rw [show i + (t - j) + x = i + (t - j + x) by omega, this, show j + (t - j + x) = t + x by omega]
    · rw [show i + (t - j) + (k - (t - j)) = i + k by omega, show t + (k - (t - j)) = j + k by omega]
      exact lt
  rw [b] at a
  cases a
theorem two_lt {ns : List Int} {i j k : Nat} (h : Two ns i j k) (lt : cyc ns (i + k) < cyc ns (j + k)) (hk : k < ns.length) : Two ns i (if i = j + (k + 1) then j + (k + 1) + 1 else j + (k + 1)) 0 := by
  have hb : ∀ t, Good ns t → ¬ (j ≤ t ∧ t ≤ j + k) := fun t g z => beaten h.eq lt hk z.1 z.2 g
  refine ⟨?_, fun m hm => by omega, fun t g => ?_⟩
  · split <;> omega
  · have a := h.al t g
    have b := hb t g
    split <;> omega
theorem two_gt {ns : List Int} {i j k : Nat} (h : Two ns i j k) (lt : cyc ns (j + k) < cyc ns (i + k)) (hk : k < ns.length) : Two ns (i + (k + 1)) (if i + (k + 1) = j then j + 1 else j) 0 := by
  have hb : ∀ t, Good ns t → ¬ (i ≤ t ∧ t ≤ i + k) := fun t g z => beaten (fun m hm => (h.eq m hm).symm) lt hk z.1 z.2 g
  have hne := h.ne
  refine ⟨?_, fun m hm => by omega, fun t g => ?_⟩
  · split <;> omega
  · have a := h.al t g
    have b := hb t g
    split <;> omega
theorem two_all {ns : List Int} {lo hi : Nat} (hn : 0 < ns.length) (hlt : lo < hi) (hh : hi < ns.length) (eq : ∀ m, m < ns.length → cyc ns (lo + m) = cyc ns (hi + m))
    (al : ∀ t, Good ns t → t = lo ∨ t = hi ∨ hi < t) : ∀ s, Good ns s → seg (cyc ns) s ns.length = seg (cyc ns) lo ns.length := by
  have per : ∀ x, cyc ns (lo + x) = cyc ns (hi + x) := fun x => by
    rw [cyc_add ns lo x, cyc_add ns hi x]
    exact eq _ (Nat.mod_lt _ hn)
  have base : seg (cyc ns) hi ns.length = seg (cyc ns) lo ns.length := (seg_congr _ _ _ _ fun j _ => per j).symm
  intro s
  induction s using Nat.strongRecOn with
  | _ s ih =>
    intro g
    rcases al s g with e | e | e
    · rw [e]
    · rw [e]; exact base
    · have es : seg (cyc ns) s ns.length = seg (cyc ns) (s - (hi - lo)) ns.length := (seg_congr _ _ _ _ fun j _ => by
        have := per (s - hi + j)
        rw [show s - (hi - lo) + j = lo + (s - hi + j) by omega, this, show hi + (s - hi + j) = s + j by omega]).symm
      have g' : Good ns (s - (hi - lo)) := ⟨by have := g.1; omega, fun t ht => by rw [← es]; exact g.2 t ht⟩
      rw [es]
      exact ih _ (by omega) g'
theorem two_end {ns : List Int} {i j k : Nat} (h : Two ns i j k) (hn : 0 < ns.length) (hx : ns.length ≤ i ∨ ns.length ≤ j ∨ ns.length ≤ k) : Good ns (min i j) := by
  obtain ⟨s, g⟩ := good_ex hn
  have hs := g.1
  have hne := h.ne
  by_cases hi : ns.length ≤ i
  · have a := h.al s g
    have e : min i j = s := by omega
    rw [e]; exact g
  · by_cases hj : ns.length ≤ j
    · have a := h.al s g
      have e : min i j = s := by omega
      rw [e]; exact g
    · have hk : ns.length ≤ k := by omega
      by_cases hij : i < j
      · have e : min i j = i := by omega
        rw [e]
        have q := two_all hn hij (by omega) (fun m hm => h.eq m (by omega)) (fun t gt => by have := h.al t gt; omega) s g
        exact ⟨by omega, fun t ht => by rw [← q]; exact g.2 t ht⟩
      · have e : min i j = j := by omega
        rw [e]
        have q := two_all hn (show j < i by omega) (by omega) (fun m hm => (h.eq m (by omega)).symm) (fun t gt => by have := h.al t gt; omega) s g
        exact ⟨by omega, fun t ht => by rw [← q]; exact g.2 t ht⟩
/-! rows that are turned, and backwards -/
theorem rot_rot {ns : List Int} {j k : Nat} (hj : j ≤ ns.length) (hk : k ≤ ns.length) : ∃ i, i ≤ ns.length ∧ rot j (rot k ns) = rot i ns := by
  by_cases hn : 0 < ns.length
  · refine ⟨(k + j) % ns.length, Nat.le_of_lt (Nat.mod_lt _ hn), ?_⟩
    rw [rot_seg (by rw [rot_len]; exact hj), rot_seg (Nat.le_of_lt (Nat.mod_lt _ hn)), rot_len, ← seg_mod]
    apply List.ext_getElem?
    intro m
    by_cases hm : m < ns.length
    · rw [seg_get _ _ _ _ hm, seg_get _ _ _ _ hm]
      have e : cyc (rot k ns) (j + m) = cyc ns (k + (j + m)) := by
        show (rot k ns).getD ((j + m) % (rot k ns).length) 0 = _
        rw [rot_len, rot_seg hk, List.getD_eq_getElem?_getD, seg_get _ _ _ _ (Nat.mod_lt _ hn), cyc_add ns k (j + m)]
        rfl
      rw [e, show k + (j + m) = k + j + m by omega]
    · rw [List.getElem?_eq_none (by rw [seg_len]; omega), List.getElem?_eq_none (by rw [seg_len]; omega)]
  · have e : ns = [] := List.length_eq_zero_iff.mp (by omega)
    subst e
    exact ⟨0, Nat.le_refl _, by rw [rot_nil, rot_nil, rot_nil]⟩
def Rt (a b : List Int) : Prop := ∃ k, k ≤ b.length ∧ a = rot k b
theorem Rt.refl (a : List Int) : Rt a a := ⟨0, Nat.zero_le _, (rot_zero a).symm⟩
theorem Rt.len {a b : List Int} (h : Rt a b) : a.length = b.length := by obtain ⟨k, _, e⟩ := h; rw [e, rot_len]
theorem Rt.trans {a b c : List Int} (h : Rt a b) (g : Rt b c) : Rt a c := by
  obtain ⟨k, hk, e⟩ := h
  obtain ⟨j, hj, e2⟩ := g
  subst e2
  rw [rot_len] at hk
  obtain ⟨i, hi, e3⟩ := rot_rot hk hj
  exact ⟨i, hi, e.trans e3⟩
theorem rot_back {ns : List Int} {k : Nat} (hk : k ≤ ns.length) : rot (ns.length - k) (rot k ns) = ns := by
  unfold rot
  have e : (ns.drop k).length = ns.length - k := List.length_drop
  have e1 : (ns.drop k).drop (ns.length - k) = [] := List.drop_of_length_le (by omega)
  have e2 : (ns.drop k).take (ns.length - k) = ns.drop k := List.take_of_length_le (by omega)
  rw [List.drop_append_of_le_length (by omega), List.take_append_of_le_length (by omega), e1, e2, List.nil_append, List.take_append_drop]
theorem Rt.symm {a b : List Int} (h : Rt a b) : Rt b a := by
  obtain ⟨k, hk, e⟩ := h
  subst e
  exact ⟨b.length - k, by rw [rot_len]; omega, (rot_back hk).symm⟩
theorem rt_least (a : List Int) : Rt (least a) a := (least_is a).rt
theorem least_of_rt {a b : List Int} (h : Rt a b) : least a = least b := by
  refine least_one ⟨(rt_least a).trans h, fun k hk => ?_⟩ (least_is b)
  have r : Rt (rot k b) a := Rt.trans ⟨k, Nat.le_of_lt hk, rfl⟩ h.symm
  obtain ⟨j, hj, e⟩ := rt_small (by rw [h.len]; omega) r
  rw [e]
  exact (least_is a).le j hj
theorem least_iff {a b : List Int} : least a = least b ↔ Rt a b := by
  constructor
  · intro e
    have h := (rt_least a).symm
    rw [e] at h
    exact h.trans (rt_least b)
  · exact least_of_rt
def rv (ns : List Int) : List Int := (ns.map fun x => -x).reverse
theorem rv_len (ns : List Int) : (rv ns).length = ns.length := by unfold rv; rw [List.length_reverse, List.length_map]
theorem rv_rv (ns : List Int) : rv (rv ns) = ns := by
  unfold rv
  rw [List.map_reverse, List.reverse_reverse, List.map_map]
  have e : ((fun x : Int => -x) ∘ fun x => -x) = id := by funext x; show - -x = x; omega
  rw [e, List.map_id]
theorem rv_rot {k : Nat} {ns : List Int} (hk : k ≤ ns.length) : rv (rot k ns) = rot (ns.length - k) (rv ns) := by
  unfold rv rot
  rw [List.map_append, List.reverse_append, List.map_drop, List.map_take, List.reverse_take, List.reverse_drop, List.length_map]
theorem Rt.rv {a b : List Int} (h : Rt a b) : Rt (rv a) (rv b) := by
  obtain ⟨k, hk, e⟩ := h
  subst e
  exact ⟨b.length - k, by rw [rv_len]; omega, rv_rot hk⟩
theorem least_rv {a b : List Int} : least a = least (RT.rv b) ↔ least b = least (RT.rv a) := by
  rw [least_iff, least_iff]
  constructor
  · intro h; have := h.rv; rw [rv_rv] at this; exact this.symm
  · intro h; have := h.rv; rw [rv_rv] at this; exact this.symm
/-- same_round -/
def around (a b : List Int) : Bool := decide (least a = least b) || decide (least a = least (rv b))
theorem around_comm (a b : List Int) : around a b = around b a := by
  unfold around
  have e1 : (least a = least b) ↔ (least b = least a) := eq_comm
  rw [decide_eq_decide.mpr e1, decide_eq_decide.mpr (least_rv (a := a) (b := b))]
end RT

set_option Elab.async false
set_option linter.all false
set_option maxRecDepth 100000
set_option maxHeartbeats 4000000
namespace L2
open PySem PySem.Spec PyProof.Rows HT
/-! two readings of one piece -/
section
variable {X : Cx}
theorem PE.or {e : Expr} {t u : TE} (h : PE X e t) (g : PE X e u) : PE X e (fun σ H Q => t σ H Q ∨ u σ H Q) :=
  ⟨fun pins s σ H Q I z => z.elim (h.run pins s σ H Q I) (g.run pins s σ H Q I)⟩
theorem PI.or {tg e : Expr} {t u : TI} (h : PI X tg e t) (g : PI X tg e u) : PI X tg e (fun σ H R => t σ H R ∨ u σ H R) :=
  ⟨fun pins s σ H R I z => z.elim (h.run pins s σ H R I) (g.run pins s σ H R I)⟩
end
/-! a tuple backwards -/
section
variable {prog : Program} {w : World} {A : Around} {s : Shared} {E : Value → Shared → Prop}
theorem adjust_back (n : Nat) : Builtin.Slice.sliceAdjust none none (-1) (n : Int) = ((n : Int) - 1, -1) := by
  unfold Builtin.Slice.sliceAdjust
  have h1 : ((-1 : Int) < 0) := by omega
  simp only [h1, if_true]
theorem places_back (n : Nat) : Builtin.Slice.slicePlaces ((n : Int) - 1) (-1) (-1) = n := by
  unfold Builtin.Slice.slicePlaces
  have h1 : ¬ ((-1 : Int) > 0) := by omega
  simp only [h1, if_false]
  split
  · rw [show (- -1 : Int) = 1 by decide, Int.ediv_one]
    omega
  · omega
theorem applied_back {sl : Addr} {v1 v2 v3 : Value} {n : Nat} {R : Int × Int × Nat → Shared → Prop} (hz : s.heap.IsSliceOf sl v1 v2 v3) (g1 : IsPart v1 none) (g2 : IsPart v2 none) (g3 : IsPart v3 (some (-1))) (k : R ((n : Int) - 1, -1, n) s) :
    wpAny (model prog w) A (Builtin.Slice.sliceApplied (.ref sl) (pure (n : Int))) R E s := by
  have ⟨ob, hb, _, hf⟩ := id hz
  have three := fun (Z : Value × Value × Value → Shared → Prop) (z : Z (v1, v2, v3) s) => show wpAny (model prog w) A (Builtin.Slice.sliceFields (.ref sl)) Z E s from
    wpAny_bind (wpAny_field hb hf (x := v1) rfl (wpAny_bind (wpAny_field hb hf (x := v2) rfl (wpAny_bind (wpAny_field hb hf (x := v3) rfl (wpAny_pure z))))))
  show wpAny (model prog w) A (Builtin.Slice.sliceFields (.ref sl) >>= _) R E s
  refine wpAny_bind (three _ (wpAny_bind (slicePart_ g3 ?_)))
  show wpAny _ _ (if ((-1 : Int) == 0) = true then _ else _) _ _ s
  rw [if_neg (by decide)]
  refine wpAny_bind (slicePart_ g1 ?_)
  refine wpAny_bind (slicePart_ g2 ?_)
  refine wpAny_bind (wpAny_pure ?_)
  show wpAny _ _ (match Builtin.Slice.sliceAdjust none none (-1) (n : Int) with | (x, y) => pure (x, (-1 : Int), Builtin.Slice.slicePlaces x y (-1))) _ _ s
  rw [adjust_back n]
  exact wpAny_pure (by rw [places_back]; exact k)
theorem pick_back (xs : Array Value) : ((List.range xs.size).filterMap fun (m : Nat) => xs[((xs.size : Int) - 1 + (m : Int) * (-1)).toNat]?).toArray = xs.toList.reverse.toArray := by
  have e : (fun (m : Nat) => xs[((xs.size : Int) - 1 + (m : Int) * (-1)).toNat]?) = (fun x => xs[x]?) ∘ fun m => xs.size - 1 - m := by
    funext m
    have : ((xs.size : Int) - 1 + (m : Int) * (-1)).toNat = xs.size - 1 - m := by omega
    rw [this]; rfl
  rw [e, ← List.filterMap_map, PySem.W.krv_range, List.filterMap_reverse, PySem.W.krv_all]
theorem item_back {tu sl : Addr} {its : Array Value} {v1 v2 v3 : Value} {R : Value → Shared → Prop} (htu : IsTup s.heap tu its) (hz : s.heap.IsSliceOf sl v1 v2 v3) (g1 : IsPart v1 none) (g2 : IsPart v2 none) (g3 : IsPart v3 (some (-1))) (small : its.size ≤ sizeLine)
    (k : R (.ref s.heap.objs.size) { s with heap := s.heap.push { cls := .type "tuple", data := .seq its.toList.reverse.toArray } }) : wpAny (model prog w) A (getItem (.ref tu) (.ref sl)) R E s := by
  have fits : sizeOk (.seq its.toList.reverse.toArray) := Nat.le_trans (Nat.le_of_eq (by simp)) small
  have isS : s.TypeIs (.ref sl) "slice" := let ⟨ob, hb, hc, _⟩ := id hz; ⟨ob, hb, hc⟩
  have isT := htu.typeIs
  unfold getItem
  first | (with_reducible refine wpAny_holding ?_) | skip
  first | (refine wpAny_bind (wpAny_pure ?_)) | skip
  refine wpAny_bind (wpAny_sequenceKey isT (by decide) (wpAny_bind ?_))
  refine wpAny_callSpecial?_slot (name := Str.ofString "__getitem__") isT slot_tuple_getitem ?_
  refine wpAny_call_entry slot_tuple_getitem isT entry_tuple_getitem ?_ (args_tuple_getitem _ _)
  show wpAny _ _ (Builtin.Tuple.tupleItemsOf (.ref tu) >>= _) _ _ s
  refine wpAny_bind (tupleItemsOf_ htu (wpAny_bind (wpAny_typeOf isS ?_)))
  rw [if_pos (by decide)]
  refine wpAny_bind (applied_back hz g1 g2 g3 ?_)
  show wpAny _ _ (if (((its.size : Int) - 1) == 0 && (-1 : Int) == 1 && its.size == its.size) = true then _ else _) _ _ s
  rw [if_neg (by simp), pick_back]
  first
    | (refine wpAny_bind (m := Builtin.Tuple.tupleExact _) (wpAny_newObj_type ?_ fits); exact wpAny_pure ⟨_, rfl, wpAny_pure k⟩)
    | (refine wpAny_bind (m := Builtin.Tuple.tupleExact _) (wpAny_newObj_type ?_ fits); exact wpAny_bind (wpAny_pure (wpAny_pure ⟨_, rfl, wpAny_pure k⟩)))
    | (refine wpAny_bind (wpAny_bind (m := Builtin.Tuple.tupleExact _) (wpAny_newObj_type ?_ fits)); exact wpAny_pure (wpAny_pure ⟨_, rfl, wpAny_pure k⟩))
    | (refine wpAny_bind (wpAny_bind (m := Builtin.Tuple.tupleExact _) (wpAny_newObj_type ?_ fits)); exact wpAny_pure ⟨_, rfl, wpAny_pure k⟩)
end
section
variable {X : Cx}
def tRevT (K : PySem.W.Frag) (te : TE) : TE := fun σ H Q => te σ H fun x H1 => ∃ a xs, x = .ref a ∧ SqT K H1 a xs ∧ ∀ p, H1 p = none → Q (.ref p) (upd H1 p (.tup xs.reverse))
theorem pe_revT {ex : Expr} {te : TE} {kk : Nat} {q1 q2 q3 q4 : Pos} (he : PE X ex te) : PE X (.Subscript ex (.Slice none none (some (.UnaryOp .USub (.Constant (.int 1) kk q1) q2)) q3) q4) (tRevT X.K te) := by
  have step : PO X (some (.UnaryOp .USub (.Constant (.int 1) kk q1) q2)) (tPart (tUn (rU fun z => .int (-z)) (tC (.int 1)))) := po_some (pe_un un_neg pe_int)
  refine ⟨fun pn s0 σ H Q I0 want => Subscript_ (thn (he.run pn s0 σ H _ I0 want) fun _ sa ⟨val, Ha, Ia, ra, wa⟩ => ?_)⟩
  obtain ⟨tu, xs, rfl, hxs, go⟩ := wa
  cases ra
  refine wpAny_Slice (thn (po_none.run pn sa σ Ha (fun o Hb => o = none ∧ Hb = Ha) Ia ⟨rfl, rfl⟩) fun vl sb ⟨ol, Hb, Ib, gl, ea, eb⟩ => ?_)
  subst ea eb
  refine thn (po_none.run pn sb σ Hb (fun o Hc => o = none ∧ Hc = Hb) Ib ⟨rfl, rfl⟩) fun vu sc ⟨ou, Hc, Ic, gu, ec, ed⟩ => ?_
  subst ec ed
  refine thn (step.run pn sc σ Hc (fun o Hd => o = some (-1) ∧ Hd = Hc) Ic ⟨1, rfl, -1, rfl, rfl, rfl⟩) fun vs sd ⟨os, Hd, Id, gs, ee, ef⟩ => ?_
  subst ee ef
  let so : Obj := { cls := .type "slice", data := .fields #[vl, vu, vs] }
  have J : Inv X pn σ Hd { sd with heap := sd.heap.push so } := Id.kept (t' := sd.toks) fun _ _ e => Heap.get?_push_of_some _ e
  obtain ⟨its, rel, isT, hz⟩ := J.tuple hxs
  have len := rel.length
  show wpAny (model X.prog X.w) X.A (subscriptTail ex (.Slice none none (some (.UnaryOp .USub (.Constant (.int 1) kk q1) q2)) q3) (.ref tu) (.ref sd.heap.objs.size)) (EP X pn σ Q) X.xe { sd with heap := sd.heap.push so }
  refine tail_any (ops := [.ref tu, .ref sd.heap.objs.size]) isT.typeIs slot_tuple_getitem.lookup (item_back isT (Heap.IsSliceOf.new _ vl vu vs) gl gu gs (by rw [List.size_toArray]; omega) ?_) (by with_unfolding_all rfl)
  have fresh := J.hok.fresh (Nat.le_refl _)
  refine ⟨.ref _, _, J.laid (t' := sd.toks) (o := .tup xs.reverse) (fun _ _ e => Heap.get?_push_of_some _ e) (Nat.le_refl _) ⟨?_, _, rel.reverse, IsTup.new _ _⟩, rfl, go _ fresh⟩
  rw [List.length_reverse]; exact hz
/-! x in a tuple -/
def rInDT (K : PySem.W.Frag) : R2 := fun x y H Q => ∃ d ds, Dp K H x d ∧ Dp K H y (.tuple ds) ∧ SeqAt.shaped d = true ∧ SeqAt.shaped (.tuple ds) = true ∧ Q (.bl (ds.any fun z => PyData.eqv z d)) H
theorem op_inDT (room : X.A.units + 65 < cLine) : OpR X (compareOp .In) (rInDT X.K) := fun _ _ _ H _ _ _ _ _ I rx ry ⟨d, ds, dx, dy, fx, fy, want⟩ =>
  let ⟨_, readX⟩ := Dp.reads I d _ _ dx rx
  let ⟨_, readY⟩ := Dp.reads I (.tuple ds) _ _ dy ry
  SeqAt.in_tuple_reads readY readX (SeqAt.canLay_of_shaped fy) (SeqAt.canLay_of_shaped fx) (room_in_shaped fx room) ⟨.bl _, H, I, rfl, want⟩
/-! rows of ints as data -/
def dI (ns : List Int) : PyData := .tuple (ns.map .int)
theorem dpAll_ints {K : PySem.W.Frag} {H : Hp} : ∀ ns : List Int, DpAll K H (ns.map V.int) (ns.map PyData.int)
  | [] => .nil
  | n :: ns => .cons (.int n) (dpAll_ints ns)
theorem dp_tup {K : PySem.W.Frag} {H : Hp} {a : Addr} {ns : List Int} (h : SqT K H a (ns.map V.int)) : Dp K H (.ref a) (dI ns) := .tup h (dpAll_ints ns)
theorem alike_ints : ∀ ns ms : List Int, PySem.W.alikeAll (ns.map .int) (ms.map .int) = true
  | [], _ => rfl
  | _ :: _, [] => rfl
  | n :: ns, m :: ms => by
    show (PySem.W.alike (.int n) (.int m) && PySem.W.alikeAll (ns.map .int) (ms.map .int)) = true
    rw [alike_ints ns ms]; rfl
theorem eqv_ints : ∀ ns ms : List Int, PyData.eqvAll (ns.map .int) (ms.map .int) = decide (ns = ms)
  | [], [] => by rw [List.map_nil, PyData.eqvAll, decide_eq_true rfl]
  | [], m :: ms => by rw [List.map_nil, List.map_cons, decide_eq_false (by simp)]; simp only [PyData.eqvAll]
  | n :: ns, [] => by rw [List.map_nil, List.map_cons, decide_eq_false (by simp)]; simp only [PyData.eqvAll]
  | n :: ns, m :: ms => by
    show PyData.eqvAll (.int n :: ns.map .int) (.int m :: ms.map .int) = _
    rw [PyData.eqvAll, eqv_ints ns ms]
    by_cases h : n = m <;> simp [PyData.eqv, h]
theorem eqv_dI (ns ms : List Int) : PyData.eqv (dI ns) (dI ms) = decide (ns = ms) := by
  unfold dI; rw [PyData.eqv]; exact eqv_ints ns ms
theorem lt_dI : ∀ ns ms : List Int, PySem.W.dataLt (dI ns) (dI ms) = lexLt ns ms := by
  intro ns ms
  unfold dI
  rw [PySem.W.dataLt_tuple]
  induction ns generalizing ms with
  | nil =>
    cases ms with
    | nil => rfl
    | cons m ms => rfl
  | cons n ns ih =>
    cases ms with
    | nil => rfl
    | cons m ms =>
      rw [List.map_cons, List.map_cons, PySem.W.dataLt_cons (by rfl), ih ms, PySem.W.dataLt_int, lexLt_cons]
      simp [PyData.eqv]
theorem depth_ints : ∀ ns : List Int, PyData.depthAll (ns.map .int) ≤ 1
  | [] => by show 0 ≤ 1; omega
  | n :: ns => by
    show max (PyData.depth (.int n)) (PyData.depthAll (ns.map .int)) ≤ 1
    have h := depth_ints ns
    have e : PyData.depth (.int n) ≤ 1 := by simp [PyData.depth]
    omega
theorem depth_dI (ns : List Int) : (dI ns).depth ≤ 2 := by
  have h := depth_ints ns
  unfold dI
  rw [PyData.depth]
  omega
theorem lay_ints : ∀ ns : List Int, PyData.canLayAll0 (ns.map .int) = true
  | [] => rfl
  | n :: ns => by
    show (PyData.canLay0 (.int n) && PyData.canLayAll0 (ns.map .int)) = true
    rw [lay_ints ns]; rfl
theorem lay_dI (ns : List Int) : (dI ns).canLay0 = true := by
  unfold dI; rw [PyData.canLay0]; exact lay_ints ns
theorem shaped_dI (ns : List Int) : SeqAt.shaped (dI ns) = true := by
  unfold SeqAt.shaped
  have := depth_dI ns
  rw [lay_dI, Bool.true_and]
  exact decide_eq_true (by omega)
theorem minD_rows : ∀ (xs : List (List Int)) (x : List Int), PySem.W.minD (dI x) (xs.map dI) = dI (RT.pickL x xs)
  | [], x => rfl
  | y :: xs, x => by
    show PySem.W.minD (if PySem.W.dataLt (dI y) (dI x) then dI y else dI x) (xs.map dI) = dI (RT.pickL (if lexLt y x then y else x) xs)
    rw [lt_dI]
    by_cases h : lexLt y x = true
    · rw [if_pos h, if_pos h, minD_rows xs y]
    · rw [if_neg h, if_neg h, minD_rows xs x]
theorem dpAll_rows {K : PySem.W.Frag} {H : Hp} : ∀ {as : List Addr} {xs : List (List Int)}, Paired (fun p t => SqT K H p (t.map V.int)) as xs → DpAll K H (as.map V.ref) (xs.map dI)
  | _, _, .nil => .nil
  | _, _, .cons h t => .cons (dp_tup h) (dpAll_rows t)
theorem depth_rows : ∀ xs : List (List Int), PyData.depthAll (xs.map dI) ≤ 2
  | [] => by show 0 ≤ 2; omega
  | x :: xs => by
    show max (PyData.depth (dI x)) (PyData.depthAll (xs.map dI)) ≤ 2
    have h := depth_rows xs
    have e := depth_dI x
    omega
theorem alike_rows (xs : List (List Int)) : PySem.W.AlikeAll (xs.map dI) := by
  refine ⟨fun a ha b hb => ?_, fun a ha => ?_⟩
  · obtain ⟨n, _, rfl⟩ := List.mem_map.mp ha
    obtain ⟨m, _, rfl⟩ := List.mem_map.mp hb
    unfold dI
    rw [PySem.W.alike]
    exact alike_ints n m
  · obtain ⟨n, _, rfl⟩ := List.mem_map.mp ha
    unfold dI
    intro z
    cases z
theorem dI_inj {ns ms : List Int} (h : dI ns = dI ms) : ns = ms := by
  have e := eqv_dI ns ms
  rw [h, eqv_dI, decide_eq_true rfl] at e
  exact of_decide_eq_true e.symm
theorem paired_at {α β : Type} {F : α → β → Prop} : ∀ {l₁ : List α} {l₂ : List β} {i : Nat} {a : α}, Paired F l₁ l₂ → l₁[i]? = some a → ∃ b, l₂[i]? = some b ∧ F a b
  | _, _, _, _, .nil, h => by simp at h
  | _, _, 0, _, .cons r _, h => by simp at h; subst h; exact ⟨_, rfl, r⟩
  | _, _, i + 1, _, .cons _ t, h => by
    obtain ⟨b, h1, h2⟩ := paired_at (i := i) t (by simpa using h)
    exact ⟨b, by simpa using h1, h2⟩
section
variable {X : Cx}
/-- min of a list of tuples of ints -/
def rMinT (K : PySem.W.Frag) : List V → Hp → VK → Prop := fun vs H Q => ∃ (a : Addr) (as : List Addr) (x : List Int) (xs : List (List Int)), vs = [V.ref a] ∧ SqL K H a (as.map V.ref) ∧ Paired (fun p t => SqT K H p (t.map V.int)) as (x :: xs) ∧
  ∀ p, SqT K H p ((RT.pickL x xs).map V.int) → Q (.ref p) H
theorem cr_minT (hc : X.calm = true) (hu : X.A.units + 64 < cLine) : CallR X (.builtin "min") (rMinT X.K) := by
  intro pn s0 σ H _ us Q I r hmin
  obtain ⟨a, as, x, xs, rfl, hs, hp, q⟩ := hmin
  have ⟨its, rv, hl, _⟩ := I.list hs
  rw [Vals.ref1 r]
  obtain ⟨bs, hr⟩ := Dp.readsAll I _ _ its (dpAll_rows hp) rv
  have hd := depth_rows (x :: xs)
  refine PySem.W.min_list_data (I.ok.hd hc) hl.isList (x := dI x) (xs := xs.map dI) (as := bs) (show ReadsAll s0.heap its.toArray.toList (dI x :: xs.map dI) bs from hr) (alike_rows (x :: xs)) (by have : PyData.depthAll (dI x :: xs.map dI) ≤ 2 := hd; omega) fun i v h' tk cs hv rd hk => ?_
  have hv : its[i]? = some v := by simpa using hv
  have hi : i < (as.map V.ref).length := by
    have := (List.getElem?_eq_some_iff.mp hv).1
    rw [rv.length]; exact this
  obtain ⟨u, hu1, hu2⟩ := rv.get (List.getElem?_eq_getElem hi)
  rw [hv] at hu1
  cases hu1
  rw [List.length_map] at hi
  rw [List.getElem_map] at hu2
  have hvr : v = .ref as[i] := hu2
  subst hvr
  obtain ⟨t, ht1, ht2⟩ := paired_at hp (List.getElem?_eq_getElem hi)
  obtain ⟨ds, rt⟩ := Dp.reads I (dI t) _ _ (dp_tup ht2) rfl
  have rt' := PySem.W.reads_keeps hk rt
  rw [minD_rows] at rd
  have e : dI t = dI (RT.pickL x xs) := SeqAt.Reads.unique _ _ _ _ _ (lay_dI t) rt' rd
  have e := dI_inj e
  subst e
  exact ⟨.ref _, H, I.kept hk, rfl, q _ ht2⟩
/-- t > u of tuples of ints -/
def rGtT (K : PySem.W.Frag) : R2 := fun x y H Q => ∃ a b ns ms, x = .ref a ∧ y = .ref b ∧ SqT K H a (ns.map V.int) ∧ SqT K H b (ms.map V.int) ∧ Q (.bl (HT.lexLt ms ns)) H
theorem op_gtT (hu : X.A.units + 64 < cLine) : OpR X (compareOp .Gt) (rGtT X.K) := by
  intro pn s0 σ H p1 p2 v1 v2 Q I rx ry want
  obtain ⟨a, b, ns, ms, rfl, rfl, ha, hb, q⟩ := id want
  cases rx
  cases ry
  obtain ⟨as, r1⟩ := Dp.reads I (dI ns) _ _ (dp_tup ha) rfl
  obtain ⟨bs, r2⟩ := Dp.reads I (dI ms) _ _ (dp_tup hb) rfl
  have d1 := depth_dI ns
  refine PySem.W.gt_data r1 r2 (by unfold dI; rw [PySem.W.alike]; exact alike_ints ns ms) (by unfold dI; intro z; cases z) (by have := Nat.min_le_left (dI ns).depth (dI ms).depth; omega) ?_
  rw [lt_dI]
  exact ⟨.bl _, H, I, rfl, q⟩
end
section
variable {X : Cx}
/-- f(k = v, ..), by keywords alone -/
theorem pe_callK0 {x : Str} {p pos : Pos} {kws : List Keyword} {CX : CXT} {k : Nat} {f : Addr} {fd : FuncData} {ps ks : List Str} {sp : Sp} {g : List Value → List Value → List Value} {gV : List V → List V → List V} {E : XK} {tk : TA}
    (F : FnOk X.prog X.w X.K X.mg X.base CX k f fd ps sp) (room : Room k X.A) (gl : Gl X x) (at_ : X.mg x = some (.ref f)) (kept : PySem.W.keepIn X.K (.ref f) = true) (bind : KBinds X.K fd ps ks g gV) (pass : Passes CX X E)
    (args : PK X kws tk) (named : (backToKw pos (keywordEach kws X.env)).all (·.1.isSome) = true := by rfl) (names : (backToKw pos (keywordEach kws X.env)).filterMap (·.1) = ks := by rfl)
    (dbg : (x == ("__debug__" : Str)) = false := by decide) (plain : ((backTo pos (starEach [] X.env)).any (·.1) || (backToKw pos (keywordEach kws X.env)).any (·.1.isNone)) = false := by rfl) :
    PE X (.Call (.Name x p) [] kws pos) (tCallK sp gV E tNil tk) :=
  ⟨fun pn s0 σ H Q I want => wpAny_Call_Name_kw (ld_glob I gl at_ (PySem.W.callWith_KW0 (h₀ := X.base) I.ok.mod.kin kept named (thn (args.run pos pn s0 σ H _ I want) fun ws s2 ⟨zs, H2, I2, rz, q2⟩ =>
    ⟨I2.kIn, by rw [names]; exact run_fnk (us := []) (vs := []) F room bind pass I2 .nil rz q2⟩) plain) dbg)⟩
/-- all by keywords, in the order of the parameters -/
def kwG (us ws : List Value) : List Value := match us with
  | [] => ws
  | _ => []
def kwV (us ws : List V) : List V := match us with
  | [] => ws
  | _ => []
theorem kw_rel {vs : List V} {us : List Value} {zs : List V} {ws : List Value} (r : Vals vs us) (z : Vals zs ws) : Vals (kwV vs zs) (kwG us ws) := by
  cases r with
  | nil => exact z
  | cons _ _ => exact .nil
end
end
end L2

set_option Elab.async false
set_option linter.all false
set_option maxRecDepth 100000
set_option maxHeartbeats 4000000
namespace L2
open PySem PySem.Spec PyProof.Rows HT
theorem same_tupX {K : PySem.W.Frag} {H H' : Hp} {a : Addr} {xs : List V} (e : Same H H') (h : SqT K H a xs) : SqT K H' a xs := by
  rcases h with (h | ⟨o, h⟩) | h
  · exact .inl (.inl (e _ _ h))
  · exact .inl (.inr ⟨o, e _ _ h⟩)
  · exact .inr h
mutual
theorem Dp.same {K : PySem.W.Frag} {H H' : Hp} (s : Same H H') : ∀ (d : PyData) (v : V), Dp K H v d → Dp K H' v d
  | .none, _, h => by cases h; exact .non
  | .bool _, _, h => by cases h; exact .bl _
  | .int _, _, h => by cases h; exact .int _
  | .str _, _, h => by cases h; exact .str _
  | .list ds, _, h => by
    cases h with
    | lst hs ha => exact .lst (s.seq hs) (DpAll.same s ds _ ha)
  | .tuple ds, _, h => by
    cases h with
    | tup hs ha => exact .tup (same_tupX s hs) (DpAll.same s ds _ ha)
  | .dict _, _, h => by cases h
theorem DpAll.same {K : PySem.W.Frag} {H H' : Hp} (s : Same H H') : ∀ (ds : List PyData) (vs : List V), DpAll K H vs ds → DpAll K H' vs ds
  | [], _, h => by cases h; exact .nil
  | d :: ds, _, h => by
    cases h with
    | cons h1 h2 => exact .cons (Dp.same s d _ h1) (DpAll.same s ds _ h2)
end
theorem DpAll.len {K : PySem.W.Frag} {H : Hp} : ∀ {vs : List V} {ds : List PyData}, DpAll K H vs ds → vs.length = ds.length
  | _, _, .nil => rfl
  | _, _, .cons _ t => congrArg (· + 1) (DpAll.len t)
theorem DpAll.at {K : PySem.W.Frag} {H : Hp} : ∀ {vs : List V} {ds : List PyData} {i : Nat} {v : V}, DpAll K H vs ds → vs[i]? = some v → ∃ d, ds[i]? = some d ∧ Dp K H v d
  | _, _, _, _, .nil, h => by simp at h
  | _, _, 0, _, .cons r _, h => by simp at h; subst h; exact ⟨_, rfl, r⟩
  | _, _, i + 1, _, .cons _ t, h => by
    obtain ⟨d, h1, h2⟩ := DpAll.at (i := i) t (by simpa using h)
    exact ⟨d, by simpa using h1, h2⟩
def tyD : PyData → String
  | .none => "NoneType"
  | .bool _ => "bool"
  | .int _ => "int"
  | .str _ => "str"
  | .list _ => "list"
  | .tuple _ => "tuple"
  | .dict _ => "dict"
theorem Dp.ty {K : PySem.W.Frag} {H : Hp} {v : V} {d : PyData} (h : Dp K H v d) : TyX K H v (.type (tyD d)) := by
  cases h with
  | non => exact .base .non
  | bl b => exact .base (.bl b)
  | int i => exact .base (.int i)
  | str x => exact .base (.str x)
  | lst hs _ =>
    rcases hs with (h | ⟨o, h⟩) | ⟨o, its, n, hk, hc, _⟩
    · exact .base (.lst h)
    · exact .base (.frz h)
    · exact .kList hk hc
  | tup hs _ =>
    rcases hs with (h | ⟨o, h⟩) | ⟨o, its, n, hk, hc, _⟩
    · exact .base (.tup h)
    · exact .fTuple h
    · exact .kTuple hk hc
mutual
def wid : PyData → Nat
  | .list xs | .tuple xs => max xs.length (widAll xs)
  | _ => 0
def widAll : List PyData → Nat
  | [] => 0
  | x :: xs => max (wid x) (widAll xs)
end
theorem wid_at : ∀ {ds : List PyData} {i : Nat} {d : PyData}, ds[i]? = some d → wid d ≤ widAll ds
  | [], _, _, h => by simp at h
  | x :: xs, 0, d, h => by simp at h; subst h; rw [widAll]; exact Nat.le_max_left _ _
  | x :: xs, i + 1, d, h => by
    have := wid_at (ds := xs) (i := i) (d := d) (by simpa using h)
    rw [widAll]; exact Nat.le_trans this (Nat.le_max_right _ _)
theorem depth_at : ∀ {ds : List PyData} {i : Nat} {d : PyData}, ds[i]? = some d → d.depth ≤ PyData.depthAll ds
  | [], _, _, h => by simp at h
  | x :: xs, 0, d, h => by simp at h; subst h; rw [PyData.depthAll]; exact Nat.le_max_left _ _
  | x :: xs, i + 1, d, h => by
    have := depth_at (ds := xs) (i := i) (d := d) (by simpa using h)
    rw [PyData.depthAll]; exact Nat.le_trans this (Nat.le_max_right _ _)
theorem take_next {α : Type} {xs ys : List α} {i : Nat} {x y : α} (hx : xs[i]? = some x) (hy : ys[i]? = some y) : (xs.take (i + 1) = ys.take (i + 1)) ↔ (xs.take i = ys.take i ∧ x = y) := by
  have lx := (List.getElem?_eq_some_iff.mp hx).1
  have ly := (List.getElem?_eq_some_iff.mp hy).1
  rw [List.take_add_one, List.take_add_one, hx, hy]
  constructor
  · intro e
    have := List.append_inj e (by rw [List.length_take, List.length_take]; omega)
    exact ⟨this.1, by simpa using this.2⟩
  · rintro ⟨e1, e2⟩
    rw [e1, e2]
theorem walk_zipT {K : PySem.W.Frag} {a b : Addr} {xs ys : List V} {n : Nat} (hn : n = min xs.length ys.length) : Walk (RZ.ItzT K a b) n (fun H => SqT K H a xs ∧ SqT K H b ys) (YPair (fun i => xs[i]?) (fun i => ys[i]?)) where
  goes := fun i H hi st => ⟨xs, ys, xs[i]'(by omega), ys[i]'(by omega), st.1, st.2, List.getElem?_eq_getElem (by omega), List.getElem?_eq_getElem (by omega)⟩
  stops := fun H st => ⟨xs, ys, st.1, st.2, by omega⟩
  yields := fun i H v H' _ st ⟨t, x, y, e1, e2, e3, fx, fy⟩ => ⟨t, x, y, e1, e2, e3, fx xs st.1, fy ys st.2⟩
def qBool : PyData → Bool
  | .bool _ => true
  | _ => false
def qInt : PyData → Bool
  | .bool _ => true
  | .int _ => true
  | _ => false
def qStr : PyData → Bool
  | .str _ => true
  | _ => false
def qIS : PyData → Bool
  | .bool _ => true
  | .int _ => true
  | .str _ => true
  | _ => false
def qList : PyData → Bool
  | .list _ => true
  | _ => false
def qTup : PyData → Bool
  | .tuple _ => true
  | _ => false
theorem kq_bool {K : PySem.W.Frag} : ∀ d : PyData, PySem.W.kitOne K (.type (tyD d)) (.type "bool") = some (qBool d)
  | .none => kit_ty (a := "NoneType") (b := "bool") (r := false) (by decide +kernel)
  | .bool _ => kit_ty (a := "bool") (b := "bool") (r := true) (by decide +kernel)
  | .int _ => kit_ty (a := "int") (b := "bool") (r := false) (by decide +kernel)
  | .str _ => kit_ty (a := "str") (b := "bool") (r := false) (by decide +kernel)
  | .list _ => kit_ty (a := "list") (b := "bool") (r := false) (by decide +kernel)
  | .tuple _ => kit_ty (a := "tuple") (b := "bool") (r := false) (by decide +kernel)
  | .dict _ => kit_ty (a := "dict") (b := "bool") (r := false) (by decide +kernel)
theorem kq_int {K : PySem.W.Frag} : ∀ d : PyData, PySem.W.kitOne K (.type (tyD d)) (.type "int") = some (qInt d)
  | .none => kit_ty (a := "NoneType") (b := "int") (r := false) (by decide +kernel)
  | .bool _ => kit_ty (a := "bool") (b := "int") (r := true) (by decide +kernel)
  | .int _ => kit_ty (a := "int") (b := "int") (r := true) (by decide +kernel)
  | .str _ => kit_ty (a := "str") (b := "int") (r := false) (by decide +kernel)
  | .list _ => kit_ty (a := "list") (b := "int") (r := false) (by decide +kernel)
  | .tuple _ => kit_ty (a := "tuple") (b := "int") (r := false) (by decide +kernel)
  | .dict _ => kit_ty (a := "dict") (b := "int") (r := false) (by decide +kernel)
theorem kq_str {K : PySem.W.Frag} : ∀ d : PyData, PySem.W.kitOne K (.type (tyD d)) (.type "str") = some (qStr d)
  | .none => kit_ty (a := "NoneType") (b := "str") (r := false) (by decide +kernel)
  | .bool _ => kit_ty (a := "bool") (b := "str") (r := false) (by decide +kernel)
  | .int _ => kit_ty (a := "int") (b := "str") (r := false) (by decide +kernel)
  | .str _ => kit_ty (a := "str") (b := "str") (r := true) (by decide +kernel)
  | .list _ => kit_ty (a := "list") (b := "str") (r := false) (by decide +kernel)
  | .tuple _ => kit_ty (a := "tuple") (b := "str") (r := false) (by decide +kernel)
  | .dict _ => kit_ty (a := "dict") (b := "str") (r := false) (by decide +kernel)
theorem kq_list {K : PySem.W.Frag} : ∀ d : PyData, PySem.W.kitOne K (.type (tyD d)) (.type "list") = some (qList d)
  | .none => kit_ty (a := "NoneType") (b := "list") (r := false) (by decide +kernel)
  | .bool _ => kit_ty (a := "bool") (b := "list") (r := false) (by decide +kernel)
  | .int _ => kit_ty (a := "int") (b := "list") (r := false) (by decide +kernel)
  | .str _ => kit_ty (a := "str") (b := "list") (r := false) (by decide +kernel)
  | .list _ => kit_ty (a := "list") (b := "list") (r := true) (by decide +kernel)
  | .tuple _ => kit_ty (a := "tuple") (b := "list") (r := false) (by decide +kernel)
  | .dict _ => kit_ty (a := "dict") (b := "list") (r := false) (by decide +kernel)
theorem kq_tup {K : PySem.W.Frag} : ∀ d : PyData, PySem.W.kitOne K (.type (tyD d)) (.type "tuple") = some (qTup d)
  | .none => kit_ty (a := "NoneType") (b := "tuple") (r := false) (by decide +kernel)
  | .bool _ => kit_ty (a := "bool") (b := "tuple") (r := false) (by decide +kernel)
  | .int _ => kit_ty (a := "int") (b := "tuple") (r := false) (by decide +kernel)
  | .str _ => kit_ty (a := "str") (b := "tuple") (r := false) (by decide +kernel)
  | .list _ => kit_ty (a := "list") (b := "tuple") (r := false) (by decide +kernel)
  | .tuple _ => kit_ty (a := "tuple") (b := "tuple") (r := true) (by decide +kernel)
  | .dict _ => kit_ty (a := "dict") (b := "tuple") (r := false) (by decide +kernel)
theorem kq_is {K : PySem.W.Frag} (d : PyData) : PySem.W.kitAny K (.type (tyD d)) [.type "int", .type "str"] = some (qIS d) := by
  refine kitAny_cons (kq_int d) (fun h => kitAny_cons (kq_str d) (fun h2 => ?_) (fun h2 => ?_)) (fun h => ?_)
  · cases d <;> first | exact kitAny_nil | (cases h; done) | (cases h2; done)
  · cases d <;> first | rfl | (cases h2; done)
  · cases d <;> first | rfl | (cases h; done)
end L2

set_option Elab.async false
set_option linter.all false
set_option maxRecDepth 100000
set_option maxHeartbeats 4000000
namespace L2
open PySem PySem.Spec PyProof.Rows
/-! super().__init__(text) in an own exception's __init__ -/
section
variable {X : Cx} {pins : List (Addr × Obj)} {σ : L2.St} {H : Hp} {s : Shared} {a C u : Addr} {A : Around} {E : Value → Shared → Prop}
/-- the bound __init__ of ValueError, called: the exception has other args -/
theorem sinit_ok {us : List Value} {Q : Value → Shared → Prop} {bmB : List Value} {newId iId B : String} (FB : ExcBaseFacts B newId iId bmB) (hin : PySem.W.excInitIn X.K C bmB newId = true) (I : Inv X pins σ H s) (e : H a = some (exo a C none)) (hu : s.heap.get? u = some (PySem.W.kxs_mw iId a))
    (hl : us.length ≤ sizeLine) (go : ∀ s', Inv X pins σ H s' → Q .none s') : wpAny (model X.prog X.w) A (call (.ref u) us) Q E s := by
  have ⟨t1, ho⟩ := exo_at I.hok e
  have ⟨_, _, _, _, _, _, _, _, _, _, _, _, _, _, _, _, cl, _⟩ := PySem.W.excInit_of I.kIn hin
  have done : ∀ h', (∀ b o, b ≠ a → s.heap.get? b = some o → h'.get? b = some o) → h'.get? a = some (PySem.W.excObj C s.heap.objs.size none .none) → h'.get? s.heap.objs.size = some (PySem.W.excTup us) → Q .none { s with heap := h' } := fun h' keep at_a _ => by
    have J := I.write (t' := s.toks) (x := a) (e := a) (o := exo a C none) (by rw [e]; exact True.intro) (.inl rfl) keep ⟨_, at_a⟩ (exo_ok at_a)
    have same : upd H a (exo a C none) = H := funext fun b => by
      by_cases hb : b = a
      · rw [hb, upd_same, e]
      · exact upd_ne hb
    rw [same] at J
    exact go _ J
  obtain ⟨hp, gg, dd, tt, oo⟩ := s
  refine wpAny_call (codeAny_of_tree ?_)
  show wpAny _ A.in1 (callAny (.ref u) ⟨us, []⟩) _ _ _
  unfold callAny
  refine wpAny_bind (wpAny_load hu ?_)
  have isW : (Value.type "method-wrapper" == Value.type "method" || Value.type "method-wrapper" == Value.type "builtin_function_or_method" || Value.type "method-wrapper" == Value.type "method-wrapper") = true := by decide
  simp only [PySem.W.kxs_mw, isW, if_true]
  refine PySem.W.KFB.if_so (by decide) (wpAny_bind (PySem.W.check_bound_init FB.toExcCallFacts cl ho rfl ?_))
  refine wpAny_bind (wpAny_pure (wpAny_pure ⟨plainId_quiet FB.init.plain _, codeAny_builtin FB.initEntry ?_⟩))
  exact PySem.W.exc_init_tree (cls := .ref C) (t0 := t1) (dv := none) (c2 := .none) (c3 := .none) (b4 := .bool false) ho hl done
end
/-! the context of such a body -/
abbrev envS (qual : Str) (scope : Scope) (L f : Addr) (cd : Value) (cc : Addr) : Env := PySem.W.ksEnv qual scope L f cd cc
def cxS (CX : CXT) (P : Program) (w : World) (K : PySem.W.Frag) (mg : Str → Option Value) (base : Heap) (N : List Str) (qual : Str) (scope : Scope) (f : Addr) (cd : Value) (cc : Addr) (A : Around) (outer : List Env) (s : Shared) (H : Hp) (E : XK) : Cx where
  prog := P
  w := w
  K := K
  mg := mg
  base := base
  A := A.deeper (envS qual scope s.heap.objs.size f cd cc)
  N := N
  s_0 := s
  H_0 := H
  env := envS qual scope s.heap.objs.size f cd cc
  outer := outer
  stack := envS qual scope s.heap.objs.size f cd cc :: outer
  ex := []
  calm := true
  fn := fun x => x != "__class__"
  pn := []
  xe := fun e s' => wpAny (model P w) (A.deeper (envS qual scope s.heap.objs.size f cd cc)) (leaving (envS qual scope s.heap.objs.size f cd cc) e) (fun _ s'' => CX outer H s E e s'') (fun e' s'' => CX outer H s E e' s'') s'
structure ScopeS (N ps : List Str) (sc : Scope) : Prop where
  kind : sc.kind = .function
  co : sc.isCoroutine = false
  gen : sc.isGenerator = false
  nd : N.Nodup
  pre : N.take ps.length = ps
  par : ∀ x ∈ ps, sc.names.lookup x = some .local
  nocell : ∀ y ∈ sc.names, y.2 ≠ .cell
  free : ∀ y ∈ sc.names, y.2 = .free → y.1 = "__class__"
theorem lookup_zip_rev {ps : List Str} {us : List Value} (nd : ps.Nodup) (hl : ps.length = us.length) {i : Nat} {y : Str} {u : Value} (hp : ps[i]? = some y) (hu : us[i]? = some u) : (ps.zip us).reverse.lookup y = some u := by
  induction ps generalizing us i with
  | nil => simp at hp
  | cons p ps ih =>
    cases us with
    | nil => simp at hu
    | cons v us =>
      rw [List.zip_cons_cons, List.reverse_cons, List.lookup_append]
      cases i with
      | zero =>
        have e1 : p = y := by simpa using hp
        have e2 : v = u := by simpa using hu
        subst e1 e2
        have none_ : (ps.zip us).reverse.lookup p = none := by
          rw [List.lookup_eq_none_iff]
          intro q hq
          have hq' := List.mem_reverse.mp hq
          have : q.1 ∈ ps := (List.of_mem_zip (a := q.1) (b := q.2) hq').1
          have ne : ¬ p = q.1 := fun z => (List.nodup_cons.mp nd).1 (by rw [z]; exact this)
          simp [ne]
        rw [none_]
        simp
      | succ i =>
        rw [ih (List.nodup_cons.mp nd).2 (by simpa using hl) (by simpa using hp) (by simpa using hu)]
        rfl
theorem inv_startS {CX : CXT} {P : Program} {w : World} {K : PySem.W.Frag} {mg : Str → Option Value} {base : Heap} {N ps : List Str} {qual : Str} {scope : Scope} {f cc : Addr} {cd : Value} {A : Around} {outer : List Env} {s : Shared} {h1 : Heap} {tk : Nat} {H : Hp} {E : XK} {us : List Value} {vs : List V}
    (S : ScopeS N ps scope) (hd : A.handled = none) (e0 : Env0 P w K mg base A outer s H) (hl : vs.length = ps.length) (r : Vals vs us) (hcell : ∃ o v, K.lookup cc = some o ∧ o.data = .cell v)
    (ns : h1.Ns s.heap.objs.size fun x => (ps.zip us).reverse.lookup x) (hk : ∀ b o, s.heap.get? b = some o → h1.get? b = some o) :
    Inv (cxS CX P w K mg base N qual scope f cd cc A outer s H E) [] (start N vs) H { s with heap := h1, toks := tk } := by
  have hpl : ps.length ≤ N.length := by
    have := congrArg List.length S.pre
    rw [List.length_take] at this
    omega
  have noA : ∀ b : Addr, b ∉ (cxS CX P w K mg base N qual scope f cd cc A outer s H E).ex := fun b z => nomatch z
  have only : ∀ (x : Str) (c : Addr), (envS qual scope s.heap.objs.size f cd cc).cells.lookup x = some c → x = "__class__" ∧ c = cc := fun x c h => by
    have h : ([(("__class__" : Str), cc)] : List (Str × Addr)).lookup x = some c := h
    by_cases e : x = "__class__"
    · subst e
      simp at h
      exact ⟨rfl, h.symm⟩
    · rw [List.lookup_cons, beq_eq_false_iff_ne.mpr e] at h
      cases h
  obtain ⟨oc, vc, lk, dc⟩ := hcell
  have inB := e0.mod.kin cc oc lk
  have has_ : ∀ x, ((cxS CX P w K mg base N qual scope f cd cc A outer s H E).env.kindOf x = some .cell ∨ (cxS CX P w K mg base N qual scope f cd cc A outer s H E).env.kindOf x = some .free) → ∃ c, (cxS CX P w K mg base N qual scope f cd cc A outer s H E).env.cells.lookup x = some c := fun x hx => by
    refine ⟨cc, ?_⟩
    have hx : scope.names.lookup x = some .cell ∨ scope.names.lookup x = some .free := hx
    have e : x = "__class__" := by
      rcases hx with hx | hx
      · exact absurd rfl (S.nocell _ (PySem.mem_of_lookup hx))
      · exact S.free _ (PySem.mem_of_lookup hx) rfl
    subst e
    rfl
  have cab_ : ∀ x c, (cxS CX P w K mg base N qual scope f cd cc A outer s H E).fn x = true → (cxS CX P w K mg base N qual scope f cd cc A outer s H E).env.cells.lookup x = some c → s.heap.objs.size ≤ c := fun x c hx h => by
    have hx : (x != "__class__") = true := hx
    rw [(only x c h).1] at hx
    exact absurd hx (by decide)
  refine { ok := ?_, os := rfl, bare := e0.bare, base := Un.kept hk, loc := ⟨_, ns, fun i y v g1 g2 _ => ?_⟩, cell := fun x c h => ?_, free := e0.hok.fresh (Nat.le_refl _), freeC := fun x c h => ?_, pin := (fun p hp => nomatch hp), hok := e0.hok.kept hk, len := ?_ }
  · exact { mod := e0.mod, kind := S.kind, glob := rfl, blt := rfl, above := Nat.le_refl _, inj := fun x y c g1 g2 => (only x c g1).1.trans (only y c g2).1.symm,
            has := has_, cab := cab_,
            hd := fun _ => hd, frames := Around.frames_deeper e0.frames, stk := .inr ⟨rfl, rfl⟩, exf := fun b z => absurd z (noA b), bs := e0.bs, bsz := e0.bsz, noex := fun b _ _ => noA b, exfs := fun b z => absurd z (noA b), funs := e0.funs, frf := e0.frf }
  · have hi : i < vs.length := by
      by_cases hi : i < vs.length
      · exact hi
      · unfold start at g2
        rw [List.getElem?_append_right (by simpa using hi), List.getElem?_replicate] at g2
        split at g2 <;> cases g2
    have ha : vs[i]? = some v := by
      unfold start at g2
      rw [List.getElem?_append_left (by simpa using hi), List.getElem?_map, List.getElem?_eq_getElem hi] at g2
      rw [List.getElem?_eq_getElem hi]
      exact Option.some.inj g2 ▸ rfl
    obtain ⟨u, hu, rv⟩ := r.get ha
    have hp : ps[i]? = some y := by rw [← S.pre, List.getElem?_take_of_lt (by omega)]; exact g1
    have ndP : ps.Nodup := by rw [← S.pre]; exact S.nd.sublist (List.take_sublist _ _)
    exact ⟨u, rv, .inl ⟨S.par y (List.mem_of_getElem? hp), lookup_zip_rev ndP (hl.symm.trans r.length) hp hu⟩⟩
  · rw [(only x c h).2]
    exact ⟨vc, oc, hk _ _ (e0.bs _ _ inB).1, dc⟩
  · rw [(only x c h).2]
    exact (e0.bs _ _ inB).2
  · unfold start
    show _ = N.length
    rw [List.length_append, List.length_map, List.length_replicate]
    omega
end L2
namespace L2
open PySem PySem.Spec PyProof.Rows
/-- what the written part says of a class whose __init__ begins with super().__init__(text) -/
structure SupC (P : Program) (K : PySem.W.Frag) (mg : Str → Option Value) (C cc cda : Addr) (B newId iId : String) (bmB : List Value) : Prop where
  fb : ExcBaseFacts B newId iId bmB
  kf : PySem.W.KxsFacts B iId
  ini : PySem.W.excInitIn K C bmB newId = true
  cell : ∃ cl cld csl, K.lookup cc = some ⟨cl, cld, .cell (some (.ref C)), csl⟩
  code : ∃ ccl cdd vs ccs file tf, K.lookup cda = some ⟨ccl, cdd, .fields vs, ccs⟩ ∧ vs[2]? = some (.str file tf) ∧ ((P.main.file : Str) == file) = true
  sup : PySem.W.ks_superIn K C C "__init__" = some (some (.builtin iId))
  sub : PySem.W.subIn K (.ref C) (.type B) = some true
  own : PySem.W.mroIn K C (.ref C) = some true
  opq : PySem.W.nsIn K PySem.cStatics "thirdparty.any" = some none
  msup : mg "super" = none
  top : (P.main.scope.names.lookup ("super" : Str)).isSome = false
theorem fn_exc {CX : CXT} {P : Program} {w : World} {K : PySem.W.Frag} {mg : Str → Option Value} {base : Heap} {k : Nat} {f C cc cda : Addr} {name qual : Str} {params : Arguments} {rest : List Stmt} {scope : Scope} {dV kV doc pm ct oc : Value} {an od : Option Addr} {B newId iId : String} {bmB : List Value}
    {osl : Array (Option Value)} {N ps : List Str} {sp : Sp} {p0 p1 p2 p3 p4 p5 : Pos} {txt : Str} {j : Nat} {ar : Arg} {fd : FuncData}
    (efd : fd = PySem.W.ksFn name qual params (.Expr (.Call (.Attribute (.Call (.Name "super" p0) [] [] p1) "__init__" p2) [.Constant (.str txt) j p3] [] p4) p5 :: rest) scope dV kV doc pm an (.ref cda) ct cc)
    (lk : K.lookup f = some ⟨oc, od, .func fd, osl⟩) (hcd : PySem.W.codeIn K (.ref cda) qual = true) (S : ScopeS N ps scope) (T : SupC P K mg C cc cda B newId iId bmB)
    (har : (params.posonlyargs ++ params.args).head? = some ar) (hself : ps[0]? = some ar.arg) (hks : scope.names.lookup ("super" : Str) = some .globalImplicit) (hkc : scope.names.lookup ("__class__" : Str) = some .free)
    (hev : ∀ env : Env, ∃ pl, eval (.Call (.Attribute (.Call (.Name "super" p0) [] [] p1) "__init__" p2) [.Constant (.str txt) j p3] [] p4) env = (do
      let ov ← attributeBase (.Call (.Name "super" p0) [] [] p1) "__init__" env (eval (.Call (.Name "super" p0) [] [] p1) env)
      standAt p2.atName
      let (g, first) ← holding [ov] (getMethod ov "__init__" pl)
      callWith p4 g first (backTo p4 (starEach [.Constant (.str txt) j p3] env)) []))
    (hsw : ∀ env : Env, swapsWith (.Call (.Attribute (.Call (.Name "super" p0) [] [] p1) "__init__" p2) [.Constant (.str txt) j p3] [] p4) none p5.line env = pure false)
    (len : ∀ vs H Q E, sp vs H Q E → vs.length = ps.length) (first : ∀ vs H Q E, sp vs H Q E → ∃ a ws, vs = .ref a :: ws ∧ H a = some (exo a C none))
    (hbody : ∀ (A : Around) (outer : List Env) (s : Shared) (H : Hp) (vs : List V) (Q : VK) (E : XK), Room k (A.deeper (envS qual scope s.heap.objs.size f (.ref cda) cc)) → sp vs H Q E →
      ∃ t, PSs (cxS CX P w K mg base N qual scope f (.ref cda) cc A outer s H E) rest t ∧ t { nx := fun _ H' => Q .non H', rt := Q } (start N vs) H) :
    FnOk P w K mg base CX (k + 1) f fd ps sp := by
  subst efd
  refine ⟨len, fun A outer s H args us vs Q E hr e0 hb r hsp => ?_⟩
  have hl := len _ _ _ _ hsp
  have KX : K.In s.heap := e0.mod.kin.keeps fun b o e => (e0.bs b o e).1
  have lim : s.heap.NoLimit := e0.mod.nolimit.keeps fun b o e => (e0.bs b o e).1
  obtain ⟨cl, cld, csl, hcell⟩ := T.cell
  obtain ⟨ccl, cdd, vs0, ccs, file, tf, hcode, hvs, hfile⟩ := T.code
  obtain ⟨a, ws, rfl, hexo⟩ := first _ _ _ _ hsp
  obtain ⟨t, ht, hq⟩ := hbody A outer s H _ Q E (hr.deeper _) hsp
  have locs : ∀ x ∈ ps.zip us, scope.names.lookup x.1 = some .local := fun x hx => S.par _ (List.of_mem_zip (a := x.1) (b := x.2) hx).1
  refine PySem.ks_codeAny_call_defAt (binds := ps.zip us) hr.depth (KX _ _ lk) rfl lim (PySem.W.codeRec_of KX hcd) rfl hb S.nocell locs (fun h1 ns hk => ?_) S.co S.gen S.kind
  have I : Inv (cxS CX P w K mg base N qual scope f (.ref cda) cc A outer s H E) [] (start N (.ref a :: ws)) H { s with heap := h1, toks := s.toks + (ps.zip us).length } := inv_startS S hr.hd e0 hl r ⟨_, _, hcell, rfl⟩ ns hk
  obtain ⟨t1, ha⟩ := exo_at I.hok hexo
  have XI := I.kIn
  obtain ⟨u0, hu0, rv0⟩ := r.get (i := 0) rfl
  have eu0 : u0 = .ref a := rv0
  subst eu0
  have ndP : ps.Nodup := by rw [← S.pre]; exact S.nd.sublist (List.take_sublist _ _)
  have hv := lookup_zip_rev ndP (hl.symm.trans r.length) hself hu0
  obtain ⟨cd, hcd2⟩ : ∃ cd, PySem.W.clsIn K C = some cd := by
    have h := T.own
    unfold PySem.W.mroIn at h
    cases q : PySem.W.clsIn K C with
    | none => rw [q] at h; cases h
    | some cd => exact ⟨cd, rfl⟩
  obtain ⟨oD, hD1, hD2⟩ : ∃ oD, h1.get? C = some oD ∧ oD.data = .cls cd := by
    unfold PySem.W.clsIn at hcd2
    split at hcd2
    · rename_i ho
      cases hcd2
      exact ⟨_, XI _ _ ho, rfl⟩
    · cases hcd2
  obtain ⟨pl, hpl⟩ := hev (envS qual scope s.heap.objs.size f (.ref cda) cc)
  refine ks_wpAt_execs_cons (ks_wpAt_Expr_any (hi := I.quiet) (hs := hsw _) (ks_wpAt_MethodCall (pl := pl) (he := hpl) (ks_wpAt_super_base hks hkc (by decide) rfl (XI _ _ lk) rfl har rfl (XI _ _ hcode) rfl hvs hfile T.top ?_)))
  obtain ⟨mb, g1, g2⟩ := I.mod.blt
  refine PySem.W.ks_loadName_global S.kind hks (Calls.loadGlobal_builtin (I.mod.glob.keeps I.bk) T.msup (g1.keeps I.bk) ((g2 _ (by decide)).trans (by decide +kernel)) ⟨rfl, ?_⟩)
  refine wpAny_loadName_free S.kind hkc rfl ⟨_, XI _ _ hcell, rfl⟩ ?_
  refine wpAny_loadName_local S.kind (S.par _ (List.mem_of_getElem? hself)) ns hv ?_
  refine ks_wpAny_isType_cls hD1 hD2 ⟨rfl, ?_⟩
  refine ks_wpAny_call_super hD1 hD2 ha rfl (fun c e => nomatch e) (PySem.W.looks_mroIn XI T.own) fun h2 hso k2 => ?_
  have X2 : K.In h2 := XI.keeps k2
  have inst : PySem.W.InstAt h2 a _ C none := ⟨k2 _ _ ha, rfl, rfl, trivial⟩
  have along : PySem.W.alongIn K "__init__" ((cd.mro.dropWhile (· != .ref C)).drop 1) = some (some (.builtin iId)) := by
    have h := T.sup
    unfold PySem.W.ks_superIn at h
    rw [hcd2] at h
    exact h
  refine PySem.W.kxs_getMethod T.kf hso (PySem.W.looks_opaque X2 T.opq) (l₀ := cd.mro) (fun A' Q' E' s' k' q' => wpAny_bind ((PySem.W.looks_clsIn X2 hcd2) A' _ E' s' k' (wpAny_pure q'))) rfl X2 along (inst.type.andThen (PySem.W.looks_subIn X2 T.sub)) (PySem.W.ks_ne X2 inst hcd2) (by decide) ?_
  have k3 : ∀ b o, h1.get? b = some o → (h2.push (PySem.W.kxs_mw iId a)).get? b = some o := fun b o e => Heap.get?_push_of_some _ (k2 b o e)
  have I2 := I.kept (t' := s.toks + (ps.zip us).length + 1) k3
  have hmw : (h2.push (PySem.W.kxs_mw iId a)).get? h2.objs.size = some (PySem.W.kxs_mw iId a) := Heap.get?_push_at rfl rfl
  have pargs : PA (cxS CX P w K mg base N qual scope f (.ref cda) cc A outer s H E) [.Constant (.str txt) j p3] _ := pa_cons pe_str pa_nil
  have lt2 : h1.objs.size < h2.objs.size := Heap.lt_size hso
  have I3 : Inv (cxS CX P w K mg base N qual scope f (.ref cda) cc A outer s H E) [(h2.objs.size, PySem.W.kxs_mw iId a)] (start N (.ref a :: ws)) H { s with heap := h2.push (PySem.W.kxs_mw iId a), toks := s.toks + (ps.zip us).length + 1 } :=
    ⟨I2.ok, I2.os, I2.bare, I2.base, I2.loc, I2.cell, I2.free, I2.freeC, fun p hp => by
      have e : p = (h2.objs.size, PySem.W.kxs_mw iId a) := by simpa [cxS] using hp
      subst e
      exact ⟨hmw, I.hok.fresh (Nat.le_of_lt lt2), Nat.ne_of_gt (Nat.lt_trans I.lt lt2), I.nofs (Nat.le_of_lt lt2), fun v z => nomatch z⟩, I2.hok, I2.len⟩
  refine PySem.W.kxs_callWith (i := iId) (x := a) rfl (Calls.evalArgs_plain (wpAny_mono (pargs.run p4 _ _ _ H (fun ws' H' => ws' = [.str txt] ∧ H' = H) I3 ⟨rfl, rfl⟩) (fun us' s' hp => ?_) fun _ _ z => z))
  obtain ⟨ws', H', J, rw', rfl, rfl⟩ := hp
  have hu' := (J.pin _ (List.mem_append_right _ (.head _))).1
  have hlu : us'.length ≤ sizeLine := by rw [← rw'.length]; exact Nat.le_of_lt (small1000 (by show 1 ≤ 1000; decide))
  have J0 : Inv (cxS CX P w K mg base N qual scope f (.ref cda) cc A outer s H' E) [] (start N (.ref a :: ws)) H' s' := ⟨J.ok, J.os, J.bare, J.base, J.loc, J.cell, J.free, J.freeC, (fun p hp => nomatch hp), J.hok, J.len⟩
  refine ⟨hu', sinit_ok T.fb T.ini J0 hexo hu' hlu fun s2 J2 => ?_⟩
  refine PySem.wpAt_of_wpAny (wpAny_mono (ht.run [] s2 _ _ _ J2 hq) (fun fl s3 hs => ?_) fun e s3 hs => hs)
  have fin : ∀ {σ' : L2.St} {H2 : Hp} {v : V} {u : Value}, Inv (cxS CX P w K mg base N qual scope f (.ref cda) cc A outer s H' E) [] σ' H2 s3 → RelV v u → Q v H2 → CE outer P w H' s Q u s3 := fun {σ' H2 v u} J rv q => ⟨v, H2, J.os, J.bare, J.base, J.hok, rv, q⟩
  cases fl with
  | ret u => obtain ⟨v, σ', H2, J, rv, q⟩ := hs; exact fin J rv q
  | next => obtain ⟨σ', H2, J, q⟩ := hs; exact fin (v := V.non) (u := Value.none) J rfl q
  | brk => obtain ⟨_, _, _, q⟩ := hs; exact q.elim
  | cont => obtain ⟨_, _, _, q⟩ := hs; exact q.elim
end L2

set_option Elab.async false
set_option linter.all false
set_option maxRecDepth 100000
set_option maxHeartbeats 4000000
namespace L2
open PySem PySem.Spec PyProof.Rows
/-- an own class of errors, over any base: its stores -/
structure ErrC (K : PySem.W.Frag) (C : Addr) (B : String) (bmB : List Value) : Prop where
  sf : StoreFacts B bmB "object.__setattr__" "object"
  over : PySem.W.excOver K C bmB = true
  sa : PySem.W.findIn K (.ref C) "__setattr__" = some (some (.builtin "object.__setattr__"))
  hd : PySem.W.hasDictIn K C = true
theorem ErrC.cls {K : PySem.W.Frag} {C : Addr} {B : String} {bmB : List Value} (T : ErrC K C B bmB) : ∃ cd, PySem.W.clsIn K C = some cd ∧ cd.hasDict = true := by
  have h := T.hd
  unfold PySem.W.hasDictIn at h
  cases q : PySem.W.clsIn K C with
  | none => rw [q] at h; cases h
  | some cd => rw [q] at h; exact ⟨cd, rfl, h⟩
section
open Builtin Builtin.ObjectAttr
variable {prog : Program} {w : World} {A : Around} {R : Result → Shared → Prop} {hp : Heap} {g : Array GenState} {d : Drawn} {t : Nat} {os : OsState} {K : PySem.W.Frag} {B : String} {bmB : List Value}
theorem xosa_new {name : Str} {tk : Tok} {v : Value} {x C : Addr} {fv : Array Value} (T : ErrC K C B bmB)
    (X : K.In hp) (hx : hp.get? x = some { cls := .ref C, data := .fields fv }) (ha : PySem.W.findIn K (.ref C) name = some none)
    (go : ∀ h' tk' dx, (∀ b o, b ≠ x → hp.get? b = some o → h'.get? b = some o) → hp.objs.size ≤ dx → dx ≠ x → h'.get? x = some { cls := .ref C, dict := some dx, data := .fields fv } →
      h'.Ns1 dx (fun y => if y = name then some v else none) → R (.ok (.ret .none)) ⟨h', g, d, tk', os⟩) :
    codeAny (model prog w) A (.call (.builtin "object.__setattr__") ⟨[.ref x, .str name tk, v], []⟩) R ⟨hp, g, d, t, os⟩ := by
  have I : PySem.W.InstAt hp x { cls := .ref C, data := .fields fv } C none := ⟨hx, rfl, rfl, trivial⟩
  have apart : x ≠ hp.objs.size := Nat.ne_of_lt (Heap.lt_size hx)
  have taker : PySem.W.takerIn K C name = some none := by unfold PySem.W.takerIn; rw [ha]; rfl
  obtain ⟨cd, hcd, hh⟩ := T.cls
  have look : PySem.W.Looks (model prog w) hp (classData C) cd := PySem.W.looks_clsIn X hcd
  refine PySem.W.osa_openX (s := ⟨hp, g, d, t, os⟩) T.sf X I T.over taker fun b => ?_
  obtain ⟨nm, bs, mro, ns, qn, hd, sn, sb, ab, col, del⟩ := cd
  dsimp only at hh
  subst hh
  show wpAny _ _ (storeInOwnDict (.ref x) (.ref C) (.str name tk) name v b) _ _ _
  unfold storeInOwnDict ownDictForStores
  repeat (first | with_reducible refine PySem.HandSPX.store_in_new ?_ ?_ | with_reducible refine wpAny_loadPart_at hx ?_ | with_reducible refine look.at ?_ | wp_step)
  · exact ⟨_, #[], _, (Heap.get?_update_ne _ _ _ _ apart.symm).trans (Heap.get?_push_at rfl rfl), rfl, fun e he => absurd he (by simp), fun _ => rfl⟩
  · intro h' tk' hn' hs
    have stays : (hp.push { cls := .type "dict", data := .dict #[] }).get? x = some { cls := .ref C, data := .fields fv } := Heap.get?_push_of_some _ hx
    refine go h' tk' hp.objs.size (fun b o hb ho => ?_) (Nat.le_refl _) apart.symm ?_ hn'
    · rw [hs.2 b (Nat.ne_of_lt (Heap.lt_size ho)), Heap.get?_update_ne _ _ _ _ hb]
      exact Heap.get?_push_of_some _ ho
    · rw [hs.2 x apart]
      exact Heap.get?_update_self _ stays rfl
theorem xosa_old {name : Str} {tk : Tok} {v : Value} {x C dx : Addr} {fv : Array Value} {m0 : Str → Option Value} {nl : List Str} (T : ErrC K C B bmB)
    (X : K.In hp) (hx : hp.get? x = some { cls := .ref C, dict := some dx, data := .fields fv }) (hns : hp.Ns1 dx m0) (hw : Within m0 nl) (hz : nl.length ≤ 1000) (ha : PySem.W.findIn K (.ref C) name = some none)
    (go : ∀ h' tk', (∀ b o, b ≠ dx → hp.get? b = some o → h'.get? b = some o) → h'.Ns1 dx (fun y => if y = name then some v else m0 y) → R (.ok (.ret .none)) ⟨h', g, d, tk', os⟩) :
    codeAny (model prog w) A (.call (.builtin "object.__setattr__") ⟨[.ref x, .str name tk, v], []⟩) R ⟨hp, g, d, t, os⟩ := by
  obtain ⟨oD, esD, epD, hoD, hdD, _⟩ := hns.count hw
  have I : PySem.W.InstAt hp x { cls := .ref C, dict := some dx, data := .fields fv } C (some oD) := ⟨hx, rfl, rfl, hoD⟩
  have taker : PySem.W.takerIn K C name = some none := by unfold PySem.W.takerIn; rw [ha]; rfl
  obtain ⟨cd, hcd, hh⟩ := T.cls
  have look : PySem.W.Looks (model prog w) hp (classData C) cd := PySem.W.looks_clsIn X hcd
  refine PySem.W.osa_openX (s := ⟨hp, g, d, t, os⟩) T.sf X I T.over taker fun b => ?_
  obtain ⟨nm, bs, mro, ns, qn, hd, sn, sb, ab, col, del⟩ := cd
  dsimp only at hh
  subst hh
  show wpAny _ _ (storeInOwnDict (.ref x) (.ref C) (.str name tk) name v b) _ _ _
  unfold storeInOwnDict ownDictForStores
  repeat (first | with_reducible refine PySem.OEX.store_in_old hns hw hz ?_ | with_reducible refine wpAny_loadPart_at hx ?_ | with_reducible refine look.at ?_ | wp_step)
  intro h' tk' hn' hs
  exact go h' tk' (fun b o hb ho => (hs.2 b hb).trans ho) hn'
end
section
variable {X : Cx} {pins : List (Addr × Obj)} {σ : L2.St} {H : Hp} {s : Shared} {a C dx : Addr} {f : Str} {y : V} {u : Value} {fs : List (Str × V)} {Q : Unit → Shared → Prop} {E : Value → Shared → Prop} {A : Around} {B : String} {bmB : List Value}
theorem xst_new (T : ErrC X.K C B bmB) (I : Inv X pins σ H s) (e : H a = some (exo a C none)) (hno : PySem.W.findIn X.K (.ref C) f = some none) (ry : RelV y u)
    (go : ∀ dx s', H dx = none → dx ≠ a → Inv X pins σ (upd (upd H dx (exd dx [(f, y)])) a (exo a C (some dx))) s' → Q () s') : wpAny (model X.prog X.w) A (setAttr (.ref a) f u) Q E s := by
  obtain ⟨t1, ho⟩ := exo_at I.hok e
  obtain ⟨hp, g, d, t, os⟩ := s
  have inst : PySem.W.InstAt hp a _ C none := ⟨ho, rfl, rfl, trivial⟩
  refine PySem.W.set_plain I.kIn inst T.sa (xosa_new T I.kIn ho hno fun h' tk' dx k dn dne hx hn => ?_)
  have free : H dx = none := I.hok.fresh dn
  have far : ∀ {b : Addr} {o : Obj}, hp.get? b = some o → b ≠ dx := fun {b o} q => Nat.ne_of_lt (Nat.lt_of_lt_of_le (Heap.lt_size q) dn)
  have na : ∀ {b : Addr}, H b = none → b ≠ a := fun {b} n z => by
    rw [z, e] at n
    cases n
  have U : Un X.fs [] H (upd (upd H dx (exd dx [(f, y)])) a (exo a C (some dx))) hp h' := by
    constructor
    case keep => exact fun b o q n _ _ => k b o (na n) q
    case slot => exact fun b o q n _ _ => ⟨o.slots, k b o (na n) q⟩
    case free => intro b o q n _; rw [upd_ne (na n), upd_ne (far q)]; exact n
    case there =>
      intro b o q _
      by_cases hb : b = a
      · subst hb; exact ⟨_, hx⟩
      · exact ⟨o, k b o hb q⟩
    case tups => intro b xs q; rw [upd_ne (at_ne e q exo_tup), upd_ne (ne_of_none q free)]; exact q
    case frzs => intro b o v q; rw [upd_ne (at_ne e q exo_frz), upd_ne (ne_of_none q free)]; exact q
    case tbls => intro b ps q; exact ⟨#[], by rw [upd_ne (at_ne e q exo_tbl), upd_ne (ne_of_none q free), q]; simp⟩
  refine go dx _ free dne (I.un (t' := tk') U fun b o q => ?_)
  by_cases hb : b = a
  · subst hb
    rw [upd_same] at q
    cases q
    exact exo_ok hx
  rw [upd_ne hb] at q
  by_cases hd : b = dx
  · subst hd
    rw [upd_same] at q
    cases q
    exact exd_ok hn (relO_put (fs := []) ry fun g => True.intro)
  rw [upd_ne hd] at q
  refine (I.hok b o q).stay (fun c v hc z => k c v ?_ z) (fun c hc => ?_) fun c xs hc => ?_
  · rcases hc with hc | hc
    · rw [hc]; exact hb
    · exact at_ne e hc exo_own
  · rw [upd_ne (at_ne e hc exo_own), upd_ne (ne_of_none hc free)]; exact hc
  · rw [upd_ne (at_ne e hc exo_tup), upd_ne (ne_of_none hc free)]; exact hc
theorem xst_old (T : ErrC X.K C B bmB) (I : Inv X pins σ H s) (e : H a = some (exo a C (some dx))) (ed : H dx = some (exd dx fs)) (hl : fs.length ≤ 900) (hno : PySem.W.findIn X.K (.ref C) f = some none) (ry : RelV y u)
    (go : ∀ s', Inv X pins σ (upd H dx (exd dx ((f, y) :: fs))) s' → Q () s') : wpAny (model X.prog X.w) A (setAttr (.ref a) f u) Q E s := by
  obtain ⟨t1, ho⟩ := exo_at I.hok e
  obtain ⟨mA, hns, rel⟩ := exd_at I.hok ed
  have hw := within_of rel
  obtain ⟨hp, g, d, t, os⟩ := s
  obtain ⟨oD, _, _, hoD, _, _⟩ := hns.count hw
  have inst : PySem.W.InstAt hp a _ C (some oD) := ⟨ho, rfl, rfl, hoD⟩
  refine PySem.W.set_plain I.kIn inst T.sa (xosa_old T I.kIn ho hns hw (by rw [List.length_map]; omega) hno fun h' tk' k hn => ?_)
  obtain ⟨o1, e1, e2, e3, e4⟩ := id hn
  exact go _ (I.write (t' := tk') (x := dx) (e := dx) (o := exd dx ((f, y) :: fs)) (by rw [ed]; exact True.intro) (.inl rfl) k ⟨o1, e3⟩ (exd_ok hn (relO_put ry rel)))
end
/-- self.f = e -/
def tXst (K : PySem.W.Frag) (f : Str) (to te : TE) : TS := fun D σ H => te σ H fun y H1 => to σ H1 fun x H2 => ∃ (a C : Addr) (B : String) (bmB : List Value), x = .ref a ∧ ErrC K C B bmB ∧ PySem.W.findIn K (.ref C) f = some none ∧
  ((H2 a = some (exo a C none) ∧ ∀ dx, H2 dx = none → dx ≠ a → D.nx σ (upd (upd H2 dx (exd dx [(f, y)])) a (exo a C (some dx)))) ∨
    ∃ (dx : Addr) (fs : List (Str × V)), H2 a = some (exo a C (some dx)) ∧ H2 dx = some (exd dx fs) ∧ fs.length ≤ 900 ∧ D.nx σ (upd H2 dx (exd dx ((f, y) :: fs))))
theorem ps_xst {X : Cx} {o e : Expr} {to te : TE} {f : Str} {p' pos : Pos} (ho : PE X o to) (he : PE X e te) (hs : swapsWith e (some (.Attribute o f p')) pos.line X.env = pure false := by rfl) : PS X (.Assign [.Attribute o f p'] e pos) (tXst X.K f to te) := by
  refine ⟨fun pins s σ H D I h => ?_⟩
  refine plainObj_wpAny_Assign_Attribute (thn (he.run pins s σ H _ I h) fun v s1 ⟨y, H1, I1, r1, q1⟩ => thn (ho.run pins s1 σ H1 _ I1 q1) fun u s2 hu => ?_) hs
  obtain ⟨x, H2, I2, r2, a, C, B, bmB, ex, T, hno, q⟩ := hu
  subst ex
  obtain rfl : u = Value.ref a := r2
  rcases q with ⟨ea, q⟩ | ⟨dx, fs, ea, ed, hl, q⟩
  · exact xst_new T I2 ea hno r1 fun dx s' n ne J => ⟨σ, _, J, q dx n ne⟩
  · exact xst_old T I2 ea ed hl hno r1 fun s' J => ⟨σ, _, J, q⟩
end L2

set_option Elab.async false
set_option linter.all false
set_option maxRecDepth 100000
set_option maxHeartbeats 4000000
namespace L2
open PySem PySem.HandSPX
section
variable {M : Model} {A : Around} {E : Value → Shared → Prop} {h : Heap} {g : Array GenState} {d : Drawn} {t : Nat} {os : OsState}
variable {nm q : Str} {C N : Addr} {bs bm bmB : List Value} {hdct : Bool} {sn : List Str} {sub : List Value} {ab : Bool} {col : Option Bool} {dd : Option Addr} {k0 k1 k2 k3 k5 : Option Value} {B newId initId : String}
theorem check_newK (FB : ExcBaseFacts B newId initId bmB) (hT : ∀ Y : String, bm.contains (.type Y) = bmB.contains (.type Y)) {us : List Value} {kw : List (Str × Value)} {Q : Unit → Shared → Prop}
    (hC : h.get? C = some (excClassObj nm q C N bs bm hdct sn sub ab col dd k0 k1 k2 k3 k5 newId)) (go : Q () ⟨h, g, d, t, os⟩) : wpAny M A (checkBuiltinCall newId ⟨.ref C :: us, kw⟩) Q E ⟨h, g, d, t, os⟩ := by
  have isB : (Value.ref C :: bm).contains (.type B) = true := by rw [List.contains_cons, hT, FB.hasB, Bool.or_true]
  have star := FB.noStar
  simp only [checkBuiltinCall, FB.newKind, FB.newSplit, FB.newRow]
  repeat (first | refine wpAny_loadPart_at hC ?_ | (refine wpAny_isSubtype_exc hC ?_; rw [isB]) | refine wpAny_staticBase_exc hC ?_ | refine wpAny_madeBy_exc hC ?_ | simp only [bne_self_eq_false, Bool.false_eq_true, if_false] | wp_step)
  exact go
end
section
variable {prog : Program} {w : World} {A : Around} {E : Value → Shared → Prop} {R : Result → Shared → Prop} {h : Heap} {g : Array GenState} {d : Drawn} {t : Nat} {os : OsState}
variable {nm q : Str} {C N : Addr} {bs bm bmB : List Value} {hdct : Bool} {sn : List Str} {sub : List Value} {ab : Bool} {col : Option Bool} {dd : Option Addr} {k0 k1 k2 k3 k5 : Option Value} {B newId initId : String}
theorem new_ownK (FB : ExcBaseFacts B newId initId bmB) (hT : ∀ Y : String, bm.contains (.type Y) = bmB.contains (.type Y)) {us : List Value} {kw : List (Str × Value)}
    (hC : h.get? C = some (excClassObj nm q C N bs bm hdct sn sub ab col dd k0 k1 k2 k3 k5 newId)) (small : us.length ≤ sizeLine)
    (go : R (.ok (.ret (.ref (h.objs.size + 1)))) ⟨(h.push (W.kdv_tup us)).push (excO C h.objs.size), g, d, t, os⟩) :
    codeAny (model prog w) A (.builtin newId ⟨.ref C :: us, kw⟩) R ⟨h, g, d, t, os⟩ := by
  have ends := FB.ends
  have isB : (Value.ref C :: bm).contains (.type B) = true := by rw [List.contains_cons, hT, FB.hasB, Bool.or_true]
  have notA : (Value.ref C :: bm).contains (.type "AttributeError") = false := by rw [List.contains_cons, hT, FB.noAttr]; rfl
  have notN : (Value.ref C :: bm).contains (.type "NameError") = false := by rw [List.contains_cons, hT, FB.noName]; rfl
  refine codeAny_builtinAt FB.entry ?_
  unfold Builtin.«BaseException.__new__»
  refine wpAt_bind ?_
  show wpAt _ _ _ (stack >>= _) _ _ _
  refine wpAt_bind (wpAt_stack fun p below => wpAt_of_wpAny ?_)
  wp_walk
  refine wpAt_of_wpAny ?_
  rw [FB.owner]
  repeat (first | with_reducible refine wpAny_madeHere_exc FB.canon hC ?_ | with_reducible refine wpAny_loadPart_at hC ?_ | (with_reducible refine wpAny_isSubtype_exc hC ?_; first | rw [isB] | rw [notA] | rw [notN]) | wp_step)
  show R _ _
  rw [Heap.size_push]
  exact go
theorem check_type_callK {M : Model} {us : List Value} {kw : List (Str × Value)} {Q : Unit → Shared → Prop} (hC : h.get? C = some (excClassObj nm q C N bs bm hdct sn sub ab col dd k0 k1 k2 k3 k5 newId))
    (go : Q () ⟨h, g, d, t, os⟩) : wpAny M A (checkBuiltinCall "type.__call__" ⟨.ref C :: us, kw⟩) Q E ⟨h, g, d, t, os⟩ := by
  have f3 := tc_sub
  have isT : (⟨h, g, d, t, os⟩ : Shared).TypeIs (.ref C) "type" := ⟨_, hC, rfl⟩
  simp only [checkBuiltinCall, tc_kind, tc_split]
  repeat (any_goals (first | assumption | with_reducible refine wpAny_loadPart_at hC ?_ | with_reducible refine wpAny_onRaise ?_ | with_reducible refine wpAny_map ?_ | wp_step))
theorem type_call_ownK (FB : ExcBaseFacts B newId initId bmB) (hT : ∀ Y : String, bm.contains (.type Y) = bmB.contains (.type Y)) {us : List Value} {kw : List (Str × Value)} {fI : Addr} {Q : Fin → Shared → Prop}
    (hC : h.get? C = some (excClassObj nm q C N bs bm hdct sn sub ab col dd k0 k1 k2 k3 k5 newId))
    (ini : W.Looks (model prog w) h (typeLookup (.ref C) "__init__") (some (.ref fI))) (bound : ∀ self, W.Looks (model prog w) h (bindSpecial (.ref fI) self) (.ref fI, [self])) (small : us.length ≤ sizeLine)
    (go : codeAny (model prog w) A (.call (.ref fI) ⟨.ref (h.objs.size + 1) :: us, kw⟩)
      (fun r s' => match r with | .ok (.ret v) => v = .none ∧ Q (.done (.ret (.ref (h.objs.size + 1)))) s' | .ok _ => False | .error e => E e s')
      ⟨(h.push (W.kdv_tup us)).push (excO C h.objs.size), g, d, t, os⟩) :
    wpAny (model prog w) A (Builtin.«type.__call__» ⟨.ref C :: us, kw⟩) Q E ⟨h, g, d, t, os⟩ := by
  repeat (first | with_reducible refine wpAny_loadPart_at hC ?_ | with_reducible refine wpAny_madeBy_exc hC ?_ | wp_step)
  refine codeAny_call_builtin_code (Code.quiet_builtin _ FB.quiet) (check_newK FB hT hC ?_)
  refine new_ownK FB hT hC small ?_
  show wpAny _ _ _ _ _ _
  have k : ∀ b o, h.get? b = some o → ((h.push (W.kdv_tup us)).push (excO C h.objs.size)).get? b = some o := fun b o e => Heap.get?_push_of_some _ (Heap.get?_push_of_some _ e)
  have cls := k _ _ hC
  have made : ((h.push (W.kdv_tup us)).push (excO C h.objs.size)).get? (h.objs.size + 1) = some (excO C h.objs.size) := by heap_get
  have itself : (Value.ref C :: bm).contains (.ref C) = true := by simp
  have i1 := ini.keeps k
  have b1 := (bound (.ref (h.objs.size + 1))).keeps k
  unfold isInstance
  repeat (first | with_reducible refine wpAny_loadPart_at made ?_ | (with_reducible refine wpAny_isSubtype_exc cls ?_; rw [itself]) | wp_step)
  show wpAny _ _ (typeLookup (.ref C) _) _ _ _
  refine i1.at ?_
  refine wpAny_holding (wpAny_bind (b1.at ?_))
  refine wpAny_bind (wpAny_call (codeAny_mono go fun r s' z => ?_))
  rcases r with e | (v | _ | _ | _) <;> first | exact z | exact z.elim | skip
  obtain ⟨rfl, z⟩ := z
  first
    | exact wpAny_pure (wpAny_pure z)
    | (wp_walk; exact z)
theorem call_ownK (FB : ExcBaseFacts B newId initId bmB) (hT : ∀ Y : String, bm.contains (.type Y) = bmB.contains (.type Y)) {us : List Value} {kw : List (Str × Value)} {fI : Addr}
    (hC : h.get? C = some (excClassObj nm q C N bs bm hdct sn sub ab col dd k0 k1 k2 k3 k5 newId))
    (ini : W.Looks (model prog w) h (typeLookup (.ref C) "__init__") (some (.ref fI))) (bound : ∀ self, W.Looks (model prog w) h (bindSpecial (.ref fI) self) (.ref fI, [self])) (small : us.length ≤ sizeLine)
    (go : codeAny (model prog w) (A.under (.builtin "type.__call__" ⟨.ref C :: us, kw⟩)) (.call (.ref fI) ⟨.ref (h.objs.size + 1) :: us, kw⟩) (W.InitBack (h.objs.size + 1) R)
      ⟨(h.push (W.kdv_tup us)).push (excO C h.objs.size), g, d, t, os⟩) :
    codeAny (model prog w) A (.call (.ref C) ⟨us, kw⟩) R ⟨h, g, d, t, os⟩ := by
  have f1 := tc_lookup
  have f2 := tc_bind (.ref C)
  have hTy : (⟨h, g, d, t, os⟩ : Shared).TypeIs (.ref C) "type" := ⟨_, hC, rfl⟩
  refine codeAny_of_tree ?_
  show wpAny _ _ (callAny (.ref C) _) _ _ _
  repeat (any_goals (first | assumption | with_reducible refine wpAny_loadPart_at hC ?_ | wp_step))
  refine ⟨rfl, ?_⟩
  refine codeAny_call_builtin_at (Code.quiet_builtin _ (by decide +kernel)) entry_typeCall (check_type_callK hC (type_call_ownK FB hT hC ini bound small ?_))
  refine codeAny_mono go fun r s' z => ?_
  rcases r with e | (v | _ | _ | _) <;> exact z
end
end L2

set_option Elab.async false
set_option linter.all false
set_option maxRecDepth 100000
set_option maxHeartbeats 4000000
namespace L2
open PySem PySem.Spec PyProof.Rows
/-- the first def of a class -/
def initOf (s : Stmt) : Stmt := match s with
  | .ClassDef _ _ _ b _ _ _ _ _ _ _ => b.headD (.Pass ⟨0, 0, 0, 0⟩)
  | _ => .Pass ⟨0, 0, 0, 0⟩
/-- the finished error at a, its dict at dx -/
def errO (H : Hp) (a dx C : Addr) (fs : List (Str × V)) : Hp := upd (upd H dx (exd dx fs)) a (exo a C (some dx))
theorem errO_a {H : Hp} {a dx C : Addr} {fs : List (Str × V)} : errO H a dx C fs a = some (exo a C (some dx)) := upd_same
theorem errO_d {H : Hp} {a dx C : Addr} {fs : List (Str × V)} (h : dx ≠ a) : errO H a dx C fs dx = some (exd dx fs) := (upd_ne h).trans upd_same
theorem errO_ne {H : Hp} {a dx C b : Addr} {fs : List (Str × V)} (h1 : b ≠ a) (h2 : b ≠ dx) : errO H a dx C fs b = H b := (upd_ne h1).trans (upd_ne h2)
theorem errO_more {H : Hp} {a dx C : Addr} {fs gs : List (Str × V)} (h : dx ≠ a) : upd (errO H a dx C fs) dx (exd dx gs) = errO H a dx C gs := funext fun b => by
  by_cases hd : b = dx
  · subst hd; rw [upd_same, errO_d h]
  rw [upd_ne hd]
  by_cases ha : b = a
  · subst ha; rw [errO_a, errO_a]
  · rw [errO_ne ha hd, errO_ne ha hd]
theorem errO_over {H : Hp} {a dx C : Addr} {o : HO} {fs : List (Str × V)} (h : dx ≠ a) : errO (upd H a o) a dx C fs = errO H a dx C fs := funext fun b => by
  by_cases ha : b = a
  · subst ha; rw [errO_a, errO_a]
  by_cases hd : b = dx
  · subst hd; rw [errO_d h, errO_d h]
  · rw [errO_ne ha hd, errO_ne ha hd, upd_ne ha]
/-- the promise of an __init__: which fields there are in the end -/
def spErr (C : Addr) (n : Nat) (mk : List V → List (Str × V)) : Sp := fun vs H Q _ => ∃ (a : Addr) (ws : List V), vs = .ref a :: ws ∧ ws.length = n ∧ H a = some (exo a C none) ∧ ∀ dx, H dx = none → dx ≠ a → Q .non (errO H a dx C (mk ws))
structure InitFn (K : PySem.W.Frag) (qual : Str) (s : Stmt) (f : Addr) (fd : FuncData) (cda cc : Addr) : Prop where
  ex : ∃ (oc : Value) (od : Option Addr) (dV kV doc pm ct : Value) (an : Option Addr) (osl : Array (Option Value)),
    fd = PySem.W.ksFn "__init__" qual (defArgs s) (defBody s) (defScope s) dV kV doc pm an (.ref cda) ct cc ∧ K.lookup f = some ⟨oc, od, .func fd, osl⟩ ∧ PySem.W.codeIn K (.ref cda) qual = true
/-- the form of such a def: super().__init__(text), then rest -/
structure InitDef (s : Stmt) (ps : List Str) (rest : List Stmt) : Prop where
  body : ∃ p0 p1 p2 p3 p4 p5 txt j, defBody s = .Expr (.Call (.Attribute (.Call (.Name "super" p0) [] [] p1) "__init__" p2) [.Constant (.str txt) j p3] [] p4) p5 :: rest ∧
    ∀ env : Env, ∃ pl, eval (.Call (.Attribute (.Call (.Name "super" p0) [] [] p1) "__init__" p2) [.Constant (.str txt) j p3] [] p4) env = (do
      let ov ← attributeBase (.Call (.Name "super" p0) [] [] p1) "__init__" env (eval (.Call (.Name "super" p0) [] [] p1) env)
      standAt p2.atName
      let (g, first) ← holding [ov] (getMethod ov "__init__" pl)
      callWith p4 g first (backTo p4 (starEach [.Constant (.str txt) j p3] env)) [])
  self : ∃ ar, ((defArgs s).posonlyargs ++ (defArgs s).args).head? = some ar ∧ ps[0]? = some ar.arg
  sc : ScopeS ps ps (defScope s)
  ks : (defScope s).names.lookup ("super" : Str) = some .globalImplicit
  kc : (defScope s).names.lookup ("__class__" : Str) = some .free
section
variable {CX : CXT} {P : Program} {w : World} {K : PySem.W.Frag} {mg : Str → Option Value} {base : Heap} {k : Nat} {f C cc cda : Addr} {fd : FuncData} {qual : Str} {s : Stmt} {B newId iId : String} {bmB : List Value} {ps : List Str} {rest : List Stmt} {n : Nat} {mk : List V → List (Str × V)}
theorem ok_init (D : InitDef s ps rest) (F : InitFn K qual s f fd cda cc) (T : SupC P K mg C cc cda B newId iId bmB) (hn : ps.length = n + 1)
    (hbody : ∀ X : Cx, X.K = K → X.N = ps → X.env.scope = defScope s → ∃ t, PSs X rest t ∧ ∀ (a : Addr) (ws : List V) (H : Hp) (Q : VK), ws.length = n → H a = some (exo a C none) →
      (∀ dx, H dx = none → dx ≠ a → Q .non (errO H a dx C (mk ws))) → t { nx := fun _ H' => Q .non H', rt := Q } ((.ref a :: ws).map some) H) :
    FnOk P w K mg base CX (k + 1) f fd ps (spErr C n mk) := by
  obtain ⟨oc, od, dV, kV, doc, pm, ct, an, osl, efd, lk, hcd⟩ := F.ex
  obtain ⟨p0, p1, p2, p3, p4, p5, txt, j, hb, hev⟩ := D.body
  obtain ⟨ar, har, hself⟩ := D.self
  rw [hb] at efd
  have len : ∀ vs H Q E, spErr C n mk vs H Q E → vs.length = ps.length := fun vs H Q E h => by
    obtain ⟨a, ws, rfl, hl, _⟩ := h
    rw [List.length_cons, hl, hn]
  refine fn_exc (N := ps) efd lk hcd D.sc T har hself D.ks D.kc hev (fun env => rfl) len (fun vs H Q E h => ?_) (fun A outer s0 H vs Q E hr h => ?_)
  · obtain ⟨a, ws, rfl, _, e, _⟩ := h
    exact ⟨a, ws, rfl, e⟩
  · obtain ⟨t, ht, q⟩ := hbody (cxS CX P w K mg base ps qual (defScope s) f (.ref cda) cc A outer s0 H E) rfl rfl rfl
    have hl := len _ _ _ _ h
    obtain ⟨a, ws, rfl, hw, e, g⟩ := h
    refine ⟨t, ht, ?_⟩
    have st : start ps (.ref a :: ws) = (V.ref a :: ws).map some := by
      unfold start
      rw [hl, Nat.sub_self, List.replicate_zero, List.append_nil]
    rw [st]
    exact q a ws H Q hw e g
/-- the three forms of the further statements -/
theorem ok_err0 {code : Str} {q1 q2 q3 q4 : Pos} {j : Nat} (D : InitDef s ["self"] [.Assign [.Attribute (.Name "self" q1) "code" q2] (.Constant (.str code) j q3) q4]) (F : InitFn K qual s f fd cda cc) (T : SupC P K mg C cc cda B newId iId bmB) (R : ErrC K C B bmB)
    (nc : PySem.W.findIn K (.ref C) "code" = some none) : FnOk P w K mg base CX (k + 1) f fd ["self"] (spErr C 0 fun _ => [("code", .str code)]) := by
  refine ok_init D F T rfl fun X eK eN eS => ?_
  have vis : Vis X.env.scope "self" := by rw [eS]; exact .inl (D.sc.par _ (by simp))
  refine ⟨_, pss_one (ps_xst (pe_var (i := 0) (by rw [eN]; rfl) vis) pe_str), fun a ws H Q hl e q => ?_⟩
  cases ws with
  | cons _ _ => cases hl
  | nil =>
    rw [eK]
    exact ⟨_, rfl, a, C, B, bmB, rfl, R, nc, .inl ⟨e, fun dx n ne => q dx n ne⟩⟩
theorem ok_err1 {code fld : Str} {q1 q2 q3 q4 r1 r2 r3 r4 : Pos} {j : Nat} (D : InitDef s ["self", fld] [.Assign [.Attribute (.Name "self" r1) fld r2] (.Name fld r3) r4, .Assign [.Attribute (.Name "self" q1) "code" q2] (.Constant (.str code) j q3) q4]) (F : InitFn K qual s f fd cda cc) (T : SupC P K mg C cc cda B newId iId bmB) (R : ErrC K C B bmB)
    (nc : PySem.W.findIn K (.ref C) "code" = some none) (nf : PySem.W.findIn K (.ref C) fld = some none) (nd : (fld == ("__debug__" : Str)) = false) (ncd : (fld == ("__classdict__" : Str)) = false) :
    FnOk P w K mg base CX (k + 1) f fd ["self", fld] (spErr C 1 fun ws => [("code", .str code), (fld, ws.headD .non)]) := by
  refine ok_init D F T rfl fun X eK eN eS => ?_
  have vis : Vis X.env.scope "self" := by rw [eS]; exact .inl (D.sc.par _ (by simp))
  have visf : Vis X.env.scope fld := by rw [eS]; exact .inl (D.sc.par _ (by simp))
  refine ⟨_, pss_cons (ps_xst (pe_var (i := 0) (by rw [eN]; rfl) vis) (pe_var (i := 1) (by rw [eN]; rfl) visf nd ncd)) (pss_one (ps_xst (pe_var (i := 0) (by rw [eN]; rfl) vis) pe_str)), fun a ws H Q hl e q => ?_⟩
  match ws, hl with
  | [y], _ =>
    rw [eK]
    refine ⟨_, rfl, _, rfl, a, C, B, bmB, rfl, R, nf, .inl ⟨e, fun dx n ne => ?_⟩⟩
    refine ⟨_, rfl, a, C, B, bmB, rfl, R, nc, .inr ⟨dx, _, errO_a, errO_d ne, by show (1 : Nat) ≤ 900; decide, ?_⟩⟩
    have z := q dx n ne
    rw [← errO_more (fs := [(fld, y)]) ne] at z
    exact z
theorem ok_err2 {code fld gld : Str} {q1 q2 q3 q4 r1 r2 r3 r4 u1 u2 u3 u4 : Pos} {j : Nat} (D : InitDef s ["self", fld, gld] [.Assign [.Attribute (.Name "self" r1) fld r2] (.Name fld r3) r4, .Assign [.Attribute (.Name "self" u1) gld u2] (.Name gld u3) u4, .Assign [.Attribute (.Name "self" q1) "code" q2] (.Constant (.str code) j q3) q4])
    (F : InitFn K qual s f fd cda cc) (T : SupC P K mg C cc cda B newId iId bmB) (R : ErrC K C B bmB)
    (nc : PySem.W.findIn K (.ref C) "code" = some none) (nf : PySem.W.findIn K (.ref C) fld = some none) (ng : PySem.W.findIn K (.ref C) gld = some none)
    (nd : (fld == ("__debug__" : Str)) = false) (ncd : (fld == ("__classdict__" : Str)) = false) (gd : (gld == ("__debug__" : Str)) = false) (gcd : (gld == ("__classdict__" : Str)) = false) :
    FnOk P w K mg base CX (k + 1) f fd ["self", fld, gld] (spErr C 2 fun ws => [("code", .str code), (gld, ws.getD 1 .non), (fld, ws.headD .non)]) := by
  refine ok_init D F T rfl fun X eK eN eS => ?_
  have vis : Vis X.env.scope "self" := by rw [eS]; exact .inl (D.sc.par _ (by simp))
  have visf : Vis X.env.scope fld := by rw [eS]; exact .inl (D.sc.par _ (by simp))
  have visg : Vis X.env.scope gld := by rw [eS]; exact .inl (D.sc.par _ (by simp))
  refine ⟨_, pss_cons (ps_xst (pe_var (i := 0) (by rw [eN]; rfl) vis) (pe_var (i := 1) (by rw [eN]; rfl) visf nd ncd)) (pss_cons (ps_xst (pe_var (i := 0) (by rw [eN]; rfl) vis) (pe_var (i := 2) (by rw [eN]; rfl) visg gd gcd)) (pss_one (ps_xst (pe_var (i := 0) (by rw [eN]; rfl) vis) pe_str))), fun a ws H Q hl e q => ?_⟩
  match ws, hl with
  | [y, y2], _ =>
    rw [eK]
    refine ⟨_, rfl, _, rfl, a, C, B, bmB, rfl, R, nf, .inl ⟨e, fun dx n ne => ?_⟩⟩
    refine ⟨_, rfl, _, rfl, a, C, B, bmB, rfl, R, ng, .inr ⟨dx, _, errO_a, errO_d ne, by show (1 : Nat) ≤ 900; decide, ?_⟩⟩
    have more : upd (upd (upd H dx (exd dx [(fld, y)])) a (exo a C (some dx))) dx (exd dx [(gld, y2), (fld, y)]) = errO H a dx C [(gld, y2), (fld, y)] := errO_more ne
    rw [more]
    refine ⟨_, rfl, a, C, B, bmB, rfl, R, nc, .inr ⟨dx, _, errO_a, errO_d ne, by show (2 : Nat) ≤ 900; decide, ?_⟩⟩
    have z := q dx n ne
    rw [← errO_more (fs := [(gld, y2), (fld, y)]) ne] at z
    exact z
end
end L2

set_option Elab.async false
set_option linter.all false
set_option maxRecDepth 100000
set_option maxHeartbeats 4000000
namespace L2
open PySem PySem.Spec PyProof.Rows
/-- parameters given by place, the last ones by name -/
def XBinds (K : PySem.W.Frag) (fd : FuncData) (ps ks : List Str) : Prop := ∀ (s : Shared) (us ws : List Value), K.In s.heap → ws.length = ks.length → (us ++ ws).length = ps.length → BindsTo s fd ⟨us, ks.zip ws⟩ (ps.zip (us ++ ws))
/-- all that is needed to make an error of the class at C by its name x -/
structure MkE (X : Cx) (x : Str) (C : Addr) (ks : List Str) (n : Nat) (mk : List V → List (Str × V)) : Prop where
  ex : ∃ (CX : CXT) (k : Nat) (fI cc cda : Addr) (fd : FuncData) (ps : List Str) (B newId iId : String) (bmB : List Value), ps.length = n + 1 ∧ SupC X.prog X.K X.mg C cc cda B newId iId bmB ∧ PySem.W.findIn X.K (.ref C) "__init__" = some (some (.ref fI)) ∧ PySem.W.typeIn X.K (.ref fI) = some (.type "function") ∧
    FnOk X.prog X.w X.K X.mg X.base CX k fI fd ps (spErr C n mk) ∧ Room (k + 1) X.A ∧ XBinds X.K fd ps ks ∧ Passes CX X (fun _ _ _ => False)
  gl : Gl X x
  mg : X.mg x = some (.ref C)
  kp : PySem.W.keepIn X.K (.ref C) = true
section
variable {X : Cx} {pins : List (Addr × Obj)} {σ : L2.St} {H : Hp} {s : Shared} {C : Addr} {x : Str} {ks : List Str} {n : Nat} {mk : List V → List (Str × V)} {Q : VK} {us ws : List Value} {vs zs : List V}
theorem run_mkE (M : MkE X x C ks n mk) (I : Inv X pins σ H s) (r : Vals vs us) (rz : Vals zs ws) (hk : ws.length = ks.length) (hn : (vs ++ zs).length = n) (hs : n ≤ 1000)
    (q : ∀ a dx, H a = none → H dx = none → dx ≠ a → Q (.ref a) (errO H a dx C (mk (vs ++ zs)))) : wpAny (model X.prog X.w) X.A (call (.ref C) us (ks.zip ws)) (EP X pins σ Q) X.xe s := by
  obtain ⟨CX, k, fI, cc, cda, fd, ps, B, newId, iId, bmB, hps, T, iC, tI, F1, hr, hb, hx⟩ := M.ex
  obtain ⟨nm, N, qn, bs, bm, hdct, sn, sub, ab, col, dd, k0, k1, k2, k3, k5, hC, hT⟩ := PySem.W.excInit_of I.kIn T.ini
  obtain ⟨hp, g, dr, tk, os⟩ := s
  have hsz : hp.objs.size ≤ hp.objs.size + 1 := Nat.le_succ _
  have free : H (hp.objs.size + 1) = none := I.hok.fresh hsz
  have kk : ∀ b o, hp.get? b = some o → ((hp.push (PySem.W.kdv_tup us)).push (PySem.HandSPX.excO C hp.objs.size)).get? b = some o := fun b o e => Heap.get?_push_of_some _ (Heap.get?_push_of_some _ e)
  have made : ((hp.push (PySem.W.kdv_tup us)).push (PySem.HandSPX.excO C hp.objs.size)).get? (hp.objs.size + 1) = some (PySem.HandSPX.excO C hp.objs.size) := by heap_get
  have J : Inv X pins σ (upd H (hp.objs.size + 1) (exo (hp.objs.size + 1) C none)) ⟨(hp.push (PySem.W.kdv_tup us)).push (PySem.HandSPX.excO C hp.objs.size), g, dr, tk, os⟩ :=
    I.laid (t' := tk) (a := hp.objs.size + 1) (o := exo (hp.objs.size + 1) C none) (h' := (hp.push (PySem.W.kdv_tup us)).push (PySem.HandSPX.excO C hp.objs.size)) kk hsz (exo_ok made)
  have r2 : Vals (V.ref (hp.objs.size + 1) :: (vs ++ zs)) (Value.ref (hp.objs.size + 1) :: (us ++ ws)) := .cons rfl (r.append rz)
  have hl : ((Value.ref (hp.objs.size + 1) :: us) ++ ws).length = ps.length := by
    have e := r2.length
    rw [List.length_cons, hn] at e
    rw [hps]
    exact e.symm
  have hus : us.length ≤ sizeLine := by
    have e := r.length
    rw [List.length_append] at hn
    rw [← e, sizeLine_eq]
    omega
  have promise : spErr C n mk (V.ref (hp.objs.size + 1) :: (vs ++ zs)) (upd H (hp.objs.size + 1) (exo (hp.objs.size + 1) C none)) (fun v H2 => v = .non ∧ Q (.ref (hp.objs.size + 1)) H2) (fun _ _ _ => False) := by
    refine ⟨_, _, rfl, hn, upd_same, fun dx nd ne => ⟨rfl, ?_⟩⟩
    rw [errO_over ne]
    exact q _ dx free (by rw [← nd, upd_ne ne]) ne
  refine wpAny_call (call_ownK T.fb hT hC (PySem.W.looks_findIn I.kIn iC) (fun self => PySem.W.bind_fn I.kIn self tI) hus
    (codeAny_mono (F1.run _ X.stack _ _ ⟨Value.ref (hp.objs.size + 1) :: us, ks.zip ws⟩ (Value.ref (hp.objs.size + 1) :: (us ++ ws)) _ _ (fun _ _ _ => False) (hr.make C us _) (J.env0.make C us _) (hb _ (Value.ref (hp.objs.size + 1) :: us) ws J.kIn hk hl) r2 promise) fun r s' hq' => ?_))
  cases r with
  | error er => exact hx pins σ _ _ er s' J hq'
  | ok fl =>
    cases fl with
    | ret u =>
      obtain ⟨v, H2, J2, rv, ev, q2⟩ := J.after hq'
      subst ev
      exact ⟨rv, .ref _, H2, J2, rfl, q2⟩
    | next => exact False.elim hq'
    | brk => exact False.elim hq'
    | cont => exact False.elim hq'
end
def tMkE (C : Addr) (n : Nat) (mk : List V → List (Str × V)) (ta tk : TA) : TE := fun σ H Q => ta σ H fun vs H1 => tk σ H1 fun zs H2 => (vs ++ zs).length = n ∧ ∀ a dx, H2 a = none → H2 dx = none → dx ≠ a → Q (.ref a) (errO H2 a dx C (mk (vs ++ zs)))
section
variable {X : Cx} {C : Addr} {x : Str} {ks : List Str} {n : Nat} {mk : List V → List (Str × V)} {e : Expr} {es : List Expr} {ta : TA} {p pos : Pos}
theorem pe_mkE (M : MkE X x C [] n mk) (hs : n ≤ 1000) (ha : PA X (e :: es) ta) (hdb : (x == ("__debug__" : Str)) = false := by decide) (he : starEach (e :: es) X.env = (false, eval e X.env) :: starEach es X.env := by rfl) (hpl : (backTo pos (starEach es X.env)).any (·.1) = false := by rfl) :
    PE X (.Call (.Name x p) (e :: es) [] pos) (tMkE C n mk ta tNil) := by
  refine ⟨fun pins s σ H Q I h => ?_⟩
  refine wpAny_Call_Name_kw (ld_glob I M.gl M.mg ?_ hdb)
  refine PySem.W.callWith_K (h₀ := X.base) I.ok.mod.kin M.kp (thn (ha.run pos pins s σ H _ I h) fun us s1 ⟨vs, H1, I1, r1, hn, q⟩ => ⟨I1.kIn, ?_⟩) he hpl
  exact run_mkE (zs := []) (ws := []) M I1 r1 .nil rfl hn hs q
theorem pe_mkE0 (M : MkE X x C [] 0 mk) (hdb : (x == ("__debug__" : Str)) = false := by decide) : PE X (.Call (.Name x p) [] [] pos) (tMkE C 0 mk tNil tNil) := by
  refine ⟨fun pins s σ H Q I h => ?_⟩
  refine wpAny_Call_Name_kw (ld_glob I M.gl M.mg ?_ hdb)
  obtain ⟨hn, q⟩ := h
  exact PySem.W.callWith_K0 I.kIn M.kp (run_mkE (vs := []) (us := []) (zs := []) (ws := []) M I .nil .nil rfl rfl (Nat.zero_le _) q)
theorem pe_mkEK {kws : List Keyword} {tk : TA} (M : MkE X x C ks n mk) (hs : n ≤ 1000) (hks : ks.length = n) (args : PK X kws tk) (named : (backToKw pos (keywordEach kws X.env)).all (·.1.isSome) = true := by rfl) (names : (backToKw pos (keywordEach kws X.env)).filterMap (·.1) = ks := by rfl)
    (hdb : (x == ("__debug__" : Str)) = false := by decide) (plain : ((backTo pos (starEach [] X.env)).any (·.1) || (backToKw pos (keywordEach kws X.env)).any (·.1.isNone)) = false := by rfl) :
    PE X (.Call (.Name x p) [] kws pos) (tMkE C n mk tNil tk) := by
  refine ⟨fun pins s σ H Q I h => ?_⟩
  refine wpAny_Call_Name_kw (ld_glob I M.gl M.mg ?_ hdb)
  refine PySem.W.callWith_KW0 (h₀ := X.base) I.ok.mod.kin M.kp named (thn (args.run pos pins s σ H _ I h) fun ws s2 ⟨zs, H2, I2, rz, hn, q2⟩ => ⟨I2.kIn, ?_⟩) plain
  rw [names]
  exact run_mkE (vs := []) (us := []) M I2 .nil rz (by rw [hks, ← hn]; exact rz.length.symm) hn hs q2
end
end L2

set_option Elab.async false
set_option linter.all false
set_option maxRecDepth 100000
set_option maxHeartbeats 4000000
namespace PySem.W
open PySem PySem.Spec PySem.Calls PyProof.Rows
section
variable {prog : Program} {w : World} {A : Around} {E : Value → Shared → Prop} {s : Shared} {K : Frag} {x D : Addr} {ox : Obj} {od : Option Obj}
theorem findObj_dataD {C : Addr} {name : Str} {a g : Value} (hc : (clsIn K C).isSome = true) (ha : findIn K (.ref C) name = some (some a)) (hg : specialIn K a "__get__" = some (some g)) (ht : takesIn K a = some true) : findObj K C od name = some (.bind g a) := by
  cases q : clsIn K C with
  | none => rw [q] at hc; cases hc
  | some cd =>
    unfold findObj
    rw [q, Option.bind_some, ha, Option.bind_some]
    simp [hg, ht]
/-- an attribute asked of a class with an own way of reading, which answers: the hook behind it is only looked up -/
theorem own_way {o name ga v : Value} {hook : Option Value} {fill : Bool} {Q : Value → Shared → Prop} (hk : Looks (model prog w) s.heap (typeLookup (.ref D) "__getattr__") hook) (hv : handedIn v = true) (way : wpAny (model prog w) A (boundAndCalled ga o name) (fun r s' => r = v ∧ Q v s') (fun _ _ => False) s) :
    wpAny (model prog w) A (getAttrByItsOwn o name (.ref D) ga fill false) Q E s := by
  delta getAttrByItsOwn hookBefore
  have heap : onTheHeap (Value.ref D) = true := rfl
  simp only [heap, if_true]
  refine wpAny_bind (hk.here (wpAny_bind (wpAny_attempt (wpAny_holding ?_))))
  simp only [callGetattribute, Bool.false_and, Bool.false_eq_true, if_false]
  refine wpAny_mono way ?_ fun _ _ z => z.elim
  rintro _ s' ⟨rfl, q⟩
  exact handed_on hv q
/-- BaseException's way of reading finds the class -/
theorem way_class {t : Tok} {R : Value → Shared → Prop} {E' : Value → Shared → Prop} (Z : L2.ExcC K D) (X : K.In s.heap) (I : InstAt s.heap x ox D od) (go : R (.ref D) s) :
    wpAny (model prog w) A (boundAndCalled (.builtin "BaseException.__getattribute__") (.ref x) (.str "__class__" t)) R E' s := by
  have ty := I.type (M := model prog w)
  have there : (clsIn K D).isSome = true := by
    obtain ⟨cd, e, _⟩ := any_some Z.hd
    rw [e]; rfl
  have at1 := looks_find (M := model prog w) X I (findObj_dataD (od := od) there Z.ha Z.hn Z.ht)
  delta boundAndCalled
  refine wpAny_bind ((Looks.of_pure (PySem.F.excAttr_ValueError.ga.bind (.ref x))).here (wpAny_call (codeAny_call_builtin PySem.F.excAttr_ValueError.ga.plain PySem.F.entry_bexc_ga ?_)))
  refine check_slot (i := "BaseException.__getattribute__") (owner := "BaseException") (n := "__getattribute__") (by decide +kernel) (by decide +kernel) (ty.andThen (looks_subIn X Z.hs)) (PySem.F.args_bexc_ga _ _) ?_
  delta Builtin.«object.__getattribute__»
  refine wpAny_bind (m := slotArgs "__getattribute__" 1 _) (wpAny_pure (wpAny_bind (wpAny_pure (wpAny_bind (ty.here (wpAny_bind (at1.here ?_)))))))
  exact wpAny_bind (wpAny_holding (wpAny_call (class_get X I Z.hm (wpAny_pure go))))
theorem class_of_err {Q : Option Value → Shared → Prop} (Z : L2.ExcC K D) (X : K.In s.heap) (I : InstAt s.heap x ox D od) (go : Q (some (.ref D)) { s with toks := s.toks + 1 }) : wpAny (model prog w) A (getAttr? (.ref x) "__class__") Q E s := by
  have apart : (Value.builtin "BaseException.__getattribute__" == Value.builtin "object.__getattribute__") = false := by decide +kernel
  rcases s with ⟨h, gs, dr, tt, os⟩
  have ty := I.type (M := model prog w)
  have way := looks_findIn (M := model prog w) X Z.hg
  delta getAttr? getAttrBy? getAttrBy
  refine wpAny_bind (wpAny_mkText (wpAny_bind (wpAny_attempt (wpAny_holding (wpAny_bind (ty.at (wpAny_bind (way.at ?_))))))))
  simp only [apart, Bool.and_false, Bool.false_eq_true, if_false]
  exact own_way (s := ⟨h, gs, dr, tt + 1, os⟩) (looks_findIn X Z.hk) rfl (way_class (s := ⟨h, gs, dr, tt + 1, os⟩) Z X I ⟨rfl, wpAny_pure go⟩)
theorem kit_err (Z : L2.ExcC K D) : KitX K (.ref x) (.ref D) (fun h => InstAt h x ox D od) where
  ty := fun _ _ _ I => I.type
  it := fun _ _ X _ => by
    obtain ⟨cd, found, _⟩ := any_some Z.hd
    unfold clsIn at found
    split at found
    · rename_i at_
      intro A' Q' E' s' k go
      unfold isType loadHead
      exact wpAny_bind (wpAny_loadPart (k _ _ (X _ _ at_)) (wpAny_pure go))
    · cases found
  ne := (handS_kitx_exc (x := x) (ox := ⟨.ref D, none, .fields #[], #[]⟩) Z.hg Z.hk Z.hs Z.hd Z.ha Z.hn Z.ht Z.hm).ne
  ca := fun X I k => class_of_err Z X I k
end
end PySem.W
namespace L2
open PySem PySem.Spec PyProof.Rows
/-- e.f, e a finished error -/
def tEf (K : PySem.W.Frag) (f : Str) (te : TE) : TE := fun σ H Q => te σ H fun x H1 => ∃ (a C dx : Addr) (fs : List (Str × V)) (v : V), x = .ref a ∧ XfC K C ∧ PySem.W.findIn K (.ref C) f = some none ∧ H1 a = some (exo a C (some dx)) ∧ H1 dx = some (exd dx fs) ∧ fs.lookup f = some v ∧ Q v H1
theorem pe_ef {X : Cx} {e : Expr} {te : TE} {pos : Pos} {f : Str} (he : PE X e te) (hb : attributeBase e f X.env (eval e X.env) = eval e X.env := by rfl) : PE X (.Attribute e f pos) (tEf X.K f te) := by
  refine ⟨fun pins s σ H Q I h => ?_⟩
  refine attr_of hb (thn (he.run pins s σ H _ I h) fun u s1 hh => ?_)
  obtain ⟨x, H1, I1, rx, a, C, dx, fs, v, rfl, T, hno, ea, ed, l, q⟩ := hh
  obtain rfl : u = Value.ref a := rx
  obtain ⟨_, at1⟩ := exo_at I1.hok ea
  obtain ⟨mA, hns, rel⟩ := exd_at I1.hok ed
  obtain ⟨od, at2, look⟩ := lookIn_ns hns
  obtain ⟨y, hy, ry⟩ := RelO.some_of (v := v) (o := mA f) (l ▸ rel f)
  have found := PySem.W.findObj_own T.hdC hno rfl (by rw [look, hy])
  exact HandSPX.exc_get I1.kIn (show PySem.W.InstAt s1.heap a _ C (some od) from ⟨at1, rfl, rfl, at2⟩) T.ga T.gg T.exC found (handed_of ry) ⟨v, H1, I1.tok _, ry, q⟩
/-- isinstance(e, c), e a finished error -/
def rIsV (K : PySem.W.Frag) : List V → Hp → VK → Prop := fun xs H Q => ∃ (a D dx : Addr) (fs : List (Str × V)) (c : V) (cv : Value) (b : Bool), xs = [.ref a, c] ∧ H a = some (exo a D (some dx)) ∧ H dx = some (exd dx fs) ∧ ExcC K D ∧ (∀ u, RelV c u → u = cv) ∧ PySem.W.kitOne K (.ref D) cv = some b ∧ Q (.bl b) H
theorem call_isV {X : Cx} : CallR X (.builtin "isinstance") (rIsV X.K) := by
  rintro pins s σ H _ us Q I r ⟨a, D, dx, fs, c, cv, b, rfl, ea, ed, Z, hcv, e, q⟩
  obtain ⟨_, at1⟩ := exo_at I.hok ea
  obtain ⟨_, hns, _⟩ := exd_at I.hok ed
  obtain ⟨od, at2, _⟩ := lookIn_ns hns
  rcases r with _ | ⟨r1, r⟩
  rcases r with _ | ⟨r2, r⟩
  cases r
  cases r1
  obtain rfl := hcv _ r2
  have J : PySem.W.InstAt s.heap a _ D (some od) := ⟨at1, rfl, rfl, at2⟩
  exact PySem.W.kia_one (PySem.W.kit_err Z) I.kIn J e nofun fun tk => ⟨.bl b, H, I.kept (t' := tk) fun _ _ z => z, rfl, q⟩
end L2

set_option Elab.async false
set_option linter.all false
set_option maxRecDepth 100000
set_option maxHeartbeats 4000000
namespace HK
open PySem PySem.Spec PyProof.Rows L2
/-! the head's facts: where each def stands, and one Bool of one's own -/
abbrev Shp : Type := Option (Str × Str × Arguments × FuncBody × Scope × Addr × List Str × Addr)
def shp (K : PySem.W.Frag) (p : Str × Option Str) : Shp := match K.lookup (He.fAd K p) with
  | some ⟨_, _, .func d, _⟩ => some (d.name, d.qualname, d.params, d.body, d.scope, d.globals, d.closure.map Prod.fst, d.builtins)
  | _ => none
/-- a def of the text: where, its names, the statement, the names that it catches -/
structure DX where
  at_ : Str × Option Str
  name : Str
  qual : Str
  st : Stmt
  clo : List Str := []
def DX.val (d : DX) : Shp := some (d.name, d.qual, defArgs d.st, .stmts (defBody d.st), defScope d.st, mainGlobals, d.clo, builtinsNs)
def isNo : Value → Bool
  | .none => true
  | _ => false
def DX.ok (K : PySem.W.Frag) (d : DX) : Bool := PySem.W.keepIn K (.ref (He.fAd K d.at_)) && (match K.lookup (He.fAd K d.at_) with
  | some ⟨_, _, .func z, _⟩ => PySem.W.codeIn K z.code d.qual && isNo z.defaults
  | _ => false)
def glob (f : Str) (st : Stmt) : DX := ⟨(f, none), f, f, st, []⟩
def meth (C m q : Str) (st : Stmt) : DX := ⟨(C, some m), m, q, st, []⟩
def ini (C q : Str) (st : Stmt) : DX := ⟨(C, some "__init__"), "__init__", q, st, ["__class__"]⟩
theorem two {a b : Bool} (h : (a && b) = true) : a = true ∧ b = true := Bool.and_eq_true_iff.mp h
theorem isNo_eq {v : Value} (h : isNo v = true) : v = .none := by cases v <;> first | rfl | cases h
theorem DX.open_ {K : PySem.W.Frag} {d : DX} (e : shp K d.at_ = d.val) (c : d.ok K = true) : ∃ (oc : Value) (od : Option Addr) (kV doc pm : Value) (an : Option Addr) (cdv ct : Value) (osl : Array (Option Value)) (clo : List (Str × Addr)), clo.map Prod.fst = d.clo ∧
    K.lookup (He.fAd K d.at_) = some ⟨oc, od, .func (PySem.W.fnX d.name d.qual (defArgs d.st) (defBody d.st) (defScope d.st) clo .none kV doc pm an cdv ct), osl⟩ ∧ PySem.W.codeIn K cdv d.qual = true ∧ PySem.W.keepIn K (.ref (He.fAd K d.at_)) = true := by
  obtain ⟨kp, c2⟩ := two c
  unfold shp at e
  cases q : K.lookup (He.fAd K d.at_) with
  | none => rw [q] at c2; cases c2
  | some o =>
    obtain ⟨oc, od, dt, osl⟩ := o
    rw [q] at c2 e
    cases dt with
    | func fd =>
      obtain ⟨n1, n2, n3, n4, n5, n6, n7, n8, n9, n10, n11, n12, n13, n14, n15⟩ := fd
      have e2 : (some (n1, n2, n3, n4, n5, n6, n7.map Prod.fst, n15) : Shp) = some (d.name, d.qual, defArgs d.st, .stmts (defBody d.st), defScope d.st, mainGlobals, d.clo, builtinsNs) := e
      simp only [Option.some.injEq, Prod.mk.injEq] at e2
      obtain ⟨h1, h2, h3, h4, h5, h6, h7, h8⟩ := e2
      subst h1 h2 h3 h4 h5 h6 h8
      have c3 : (PySem.W.codeIn K n13 d.qual && isNo n8) = true := c2
      obtain ⟨k1, k2⟩ := two c3
      have k2 := isNo_eq k2
      subst k2
      exact ⟨oc, od, n9, n10, n11, n12, n13, n14, osl, n7, h7, rfl, k1, kp⟩
    | _ => cases c2
theorem DX.fn {K : PySem.W.Frag} {d : DX} (e : shp K d.at_ = d.val) (c : d.ok K = true) (hc : d.clo = []) : ∃ fd, Fun K d.name d.qual d.st (He.fAd K d.at_) fd := by
  obtain ⟨oc, od, kV, doc, pm, an, cdv, ct, osl, clo, h1, h2, h3, h4⟩ := DX.open_ e c
  rw [hc, List.map_eq_nil_iff] at h1
  subst h1
  exact ⟨_, ⟨oc, od, kV, doc, pm, an, cdv, ct, osl, rfl, h2, h3⟩, h4⟩
/-- the cell of an __init__ that says super() -/
def cellOf (K : PySem.W.Frag) (p : Str × Option Str) : Addr := match K.lookup (He.fAd K p) with
  | some ⟨_, _, .func ⟨_, _, _, _, _, _, [(_, c)], _, _, _, _, _, _, _, _⟩, _⟩ => c
  | _ => 0
def codeAt (K : PySem.W.Frag) (p : Str × Option Str) : Addr := match K.lookup (He.fAd K p) with
  | some ⟨_, _, .func ⟨_, _, _, _, _, _, _, _, _, _, _, _, .ref c, _, _⟩, _⟩ => c
  | _ => 0
theorem DX.ini_ {K : PySem.W.Frag} {d : DX} (e : shp K d.at_ = d.val) (c : d.ok K = true) (hc : d.clo = (["__class__"] : List Str)) (hn : d.name = "__init__") :
    ∃ (oc kV doc pm ct : Value) (od an : Option Addr) (osl : Array (Option Value)), K.lookup (He.fAd K d.at_) = some ⟨oc, od, .func (PySem.W.ksFn "__init__" d.qual (defArgs d.st) (defBody d.st) (defScope d.st) .none kV doc pm an (.ref (codeAt K d.at_)) ct (cellOf K d.at_)), osl⟩ ∧ PySem.W.codeIn K (.ref (codeAt K d.at_)) d.qual = true := by
  obtain ⟨oc, od, kV, doc, pm, an, cdv, ct, osl, clo, h1, h2, h3, h4⟩ := DX.open_ e c
  rw [hn] at h2
  rw [hc] at h1
  match clo, h1 with
  | [(x, cc)], h1 =>
    have ex : x = "__class__" := by simpa using h1
    subst ex
    obtain ⟨cda, ecd⟩ : ∃ a, cdv = .ref a := by
      unfold PySem.W.codeIn at h3
      cases cdv <;> first | exact ⟨_, rfl⟩ | cases h3
    subst ecd
    have e1 : cellOf K d.at_ = cc := by unfold cellOf; rw [h2]
    have e2 : codeAt K d.at_ = cda := by unfold codeAt; rw [h2]
    rw [e1, e2]
    exact ⟨oc, kV, doc, pm, ct, od, an, osl, h2, h3⟩
/-! the Hook -/
abbrev Obs : Type := Bool × List Shp
def obsK (fa : List He.Fa) (fn : List DX) (ex : PySem.W.Frag → Bool) (K : PySem.W.Frag) : Obs := ((fa.all fun f => f.ok K) && ((fn.all fun d => d.ok K) && ex K), fn.map fun d => shp K d.at_)
def valK (fn : List DX) : Obs := (true, fn.map DX.val)
def Says (fa : List He.Fa) (fn : List DX) (ex : PySem.W.Frag → Bool) (K : PySem.W.Frag) : Prop := obsK fa fn ex K = valK fn
def obsG (n : Nat) (xs : List Addr) (fa : List He.Fa) (fn : List DX) (ex : PySem.W.Frag → Bool) (g : Addr → Option Obj) : Obs := obsK fa fn ex (He.frG g (He.asD g n ++ xs))
def hook (n : Nat) (xs : List Addr) (fa : List He.Fa) (fn : List DX) (ex : PySem.W.Frag → Bool) : PySem.W.Hook where
  α := Obs
  obs := fun s => obsG n xs fa fn ex s.heap.get?
  val := fun _ => valK fn
  says := fun _ h => ∃ K : PySem.W.Frag, K.In h ∧ Says fa fn ex K
  of := fun _ _ e => ⟨_, He.frG_in, e⟩
  keeps := fun _ _ _ ⟨K, hK, c⟩ k => ⟨K, PySem.W.Frag.In.keeps hK k, c⟩
theorem obs_eq {n : Nat} {xs : List Addr} {fa : List He.Fa} {fn : List DX} {ex : PySem.W.Frag → Bool} {g : Addr → Option Obj} {s : Shared} (h : ∀ a, g a = s.heap.get? a) : obsG n xs fa fn ex g = (hook n xs fa fn ex).obs s := by
  have e : g = s.heap.get? := funext h
  rw [e] <;> rfl
section
variable {fa : List He.Fa} {fn : List DX} {ex : PySem.W.Frag → Bool} {K : PySem.W.Frag}
theorem Says.bs (c : Says fa fn ex K) : (fa.all fun f => f.ok K) = true ∧ (fn.all fun d => d.ok K) = true ∧ ex K = true := by
  have z := two (show ((fa.all fun f => f.ok K) && ((fn.all fun d => d.ok K) && ex K)) = true from congrArg (fun z : Obs => z.1) c)
  exact ⟨z.1, two z.2⟩
theorem Says.fact (c : Says fa fn ex K) (i : Nat) {f : He.Fa} (h : fa[i]? = some f := by rfl) : f.ok K = true := List.all_eq_true.mp c.bs.1 f (List.mem_of_getElem? h)
theorem Says.sh (c : Says fa fn ex K) (i : Nat) {d : DX} (h : fn[i]? = some d := by rfl) : shp K d.at_ = d.val ∧ d.ok K = true := by
  have e : fn.map (fun d => shp K d.at_) = fn.map DX.val := congrArg (fun z : Obs => z.2) c
  have e2 : (fn.map fun d => shp K d.at_)[i]? = (fn.map DX.val)[i]? := by rw [e]
  rw [List.getElem?_map, List.getElem?_map, h] at e2
  exact ⟨Option.some.inj e2, List.all_eq_true.mp c.bs.2.1 d (List.mem_of_getElem? h)⟩
theorem Says.get (c : Says fa fn ex K) (i : Nat) {d : DX} (h : fn[i]? = some d := by rfl) (hc : d.clo = [] := by rfl) : ∃ fd, Fun K d.name d.qual d.st (He.fAd K d.at_) fd := DX.fn (c.sh i h).1 (c.sh i h).2 hc
end
end HK

set_option Elab.async false
set_option linter.all false
set_option maxRecDepth 100000
set_option maxHeartbeats 4000000
namespace KK
open PySem PySem.Spec PyProof.Rows L2 RT
def top (i : Nat) : Stmt := PySem.Challenge.pw_flipthreads_k01_errors_by_themselves.main.body.getD i (.Pass ⟨0, 0, 0, 0⟩)
theorem same_new {H : Hp} {p : Addr} (h : H p = none) (o : HO) : Same H (upd H p o) := fun b u q => by rw [upd_ne (ne_of_none q h)]; exact q
theorem Same.tup {K : PySem.W.Frag} {H H' : Hp} {a : Addr} {xs : List V} (e : Same H H') (h : SqT K H a xs) : SqT K H' a xs := by
  rcases h with (h | ⟨o, h⟩) | h
  · exact .inl (.inl (e _ _ h))
  · exact .inl (.inr ⟨o, e _ _ h⟩)
  · exact .inr h
theorem small {n : Nat} (h : n ≤ 1000) : n ≤ sizeLine := Nat.le_of_lt (small1000 h)
end KK

set_option Elab.async false
set_option linter.all false
set_option maxRecDepth 100000
set_option maxHeartbeats 4000000
namespace KK
open PySem PySem.Spec PyProof.Rows L2 RT
abbrev sDeal : Stmt := top 33
abbrev sPick : Stmt := top 34
abbrev sOf : Stmt := top 35
/-- the deal at d: the cells, the place, the great cell that is used up, the mark -/
def DealAt (H : Hp) (d c : Addr) : Prop := ∃ (cells : List Int) (pos big mark : Int), H d = some (.lst [.ref c, .int pos, .int big, .int mark]) ∧ H c = some (.lst (cells.map V.int)) ∧ cells.length ≤ 63 ∧ 0 ≤ pos
/-- all but d stands -/
def Kp (d : Addr) (H H' : Hp) : Prop := ∀ b o, H b = some o → b ≠ d → H' b = some o
theorem Kp.refl (d : Addr) (H : Hp) : Kp d H H := fun _ _ h _ => h
theorem Kp.trans {d : Addr} {H H1 H2 : Hp} (a : Kp d H H1) (b : Kp d H1 H2) : Kp d H H2 := fun c o h n => b c o (a c o h n) n
theorem Kp.same {d : Addr} {H H' : Hp} (s : Same H H') : Kp d H H' := fun b o h _ => s b o h
theorem DealAt.there {H : Hp} {d c : Addr} (h : DealAt H d c) : ∃ o, H d = some o := by obtain ⟨cells, pos, big, mark, h, _⟩ := h; exact ⟨_, h⟩
theorem DealAt.there2 {H : Hp} {d c : Addr} (h : DealAt H d c) : ∃ o, H c = some o := by obtain ⟨cells, pos, big, mark, _, h, _⟩ := h; exact ⟨_, h⟩
theorem DealAt.ne {H : Hp} {d c p : Addr} (h : DealAt H d c) (n : H p = none) : p ≠ d := fun e => by
  obtain ⟨o, h⟩ := h.there
  rw [e, h] at n; cases n
theorem DealAt.ne2 {H : Hp} {d c p : Addr} (h : DealAt H d c) (n : H p = none) : p ≠ c := fun e => by
  obtain ⟨o, h⟩ := h.there2
  rw [e, h] at n; cases n
theorem DealAt.same {H H' : Hp} {d c : Addr} (h : DealAt H d c) (s : Same H H') : DealAt H' d c := by
  obtain ⟨cells, pos, big, mark, h1, h2, h3⟩ := h
  exact ⟨cells, pos, big, mark, s _ _ h1, s _ _ h2, h3⟩
theorem DealAt.put {H : Hp} {d c p : Addr} {o : HO} (h : DealAt H d c) (n1 : p ≠ d) (n2 : p ≠ c) : DealAt (upd H p o) d c := by
  obtain ⟨cells, pos, big, mark, h1, h2, h3⟩ := h
  exact ⟨cells, pos, big, mark, by rw [upd_ne n1.symm]; exact h1, by rw [upd_ne n2.symm]; exact h2, h3⟩
theorem Kp.free {d c : Addr} {H H' : Hp} (k : Kp d H H') (hd : DealAt H' d c) {p : Addr} (n : H' p = none) : H p = none := by
  cases e : H p with
  | none => rfl
  | some o => rw [k p o e (hd.ne n)] at n; cases n
theorem Kp.list {K : PySem.W.Frag} {d : Addr} {H H' : Hp} (k : Kp d H H') {p : Addr} {xs : List V} (n : p ≠ d) (h : SqL K H p xs) : SqL K H' p xs := by
  rcases h with (h | ⟨o, h⟩) | h
  · exact .inl (.inl (k _ _ h n))
  · exact .inl (.inr ⟨o, k _ _ h n⟩)
  · exact .inr h
/-- the deal's list is written anew -/
theorem deal_put {H : Hp} {d c : Addr} {cells : List Int} {l : List V} (hd : H d = some (.lst l)) (hc : H c = some (.lst (cells.map V.int))) (hne : c ≠ d) (pos big mark : Int) (hl : cells.length ≤ 63) (hp : 0 ≤ pos) :
    DealAt (upd H d (.lst [.ref c, .int pos, .int big, .int mark])) d c := ⟨cells, pos, big, mark, upd_same, by rw [upd_ne hne]; exact hc, hl, hp⟩
theorem kp_put (H : Hp) (d : Addr) (o : HO) : Kp d H (upd H d o) := fun b u h n => by rw [upd_ne n]; exact h
section
variable {P : Program} {w : World} {K : PySem.W.Frag} {mg : Str → Option Value} {base : Heap}
def nDeal : List Str := ["_law_script", "_law_cell", "_law_cells", "_law_mark"]
theorem scDeal : FnScope ["_law_script", "_law_cell", "_law_cells", "_law_mark"] ["_law_script"] (defScope sDeal) := ⟨rfl, rfl, rfl, by decide +kernel, rfl, by decide +kernel, by decide +kernel⟩
def spDeal (K : PySem.W.Frag) : Sp := fun vs H Q _ => ∃ (a : Addr) (ns : List Int), vs = [.ref a] ∧ SqL K H a (ns.map V.int) ∧ ns.length ≤ 63 ∧ ∀ (d c : Addr) (H' : Hp), Same H H' → DealAt H' d c → Q (.ref d) H'
theorem cut63 {ns : List Int} (h : ns.length ≤ 63) : cutV (ns.map V.int) none (some 63) = ns.map V.int := by
  unfold cutV
  rw [show HT.sIx (ns.map V.int).length (ns.map V.int).length (some 63) = min 63 (ns.map V.int).length from HT.sIx_nat _ _ 63, HT.sIx_none, List.length_map, Nat.min_eq_right h]
  exact List.take_of_length_le (by rw [List.length_drop, List.length_map]; omega)
theorem ok_deal {f : Addr} {fd : FuncData} (F : Fun K "_law_deal" "_law_deal" sDeal f fd) (ml : mg "len" = none) (mi : mg "int" = none) : FnOk P w K mg base CX0 1 f fd ["_law_script"] (spDeal K) := by
  refine F.ok scDeal (fun vs H Q E h => ?_) (fun cdv A outer s H vs Q E hr h => ?_)
  · obtain ⟨a, ns, rfl, _⟩ := h
    rfl
  obtain ⟨a, ns, rfl, hS, hlen, q⟩ := h
  refine ⟨_, pss_cons (ps_setLc (i := 2) (own := [("_law_cell", 1)]) (g := gName 1) (tt := tYes) rfl scDeal.nd rfl rfl (sw_true rfl rfl rfl (by decide +kernel))
      (pi_list (pe_slice sl_list (pv 0) po_none (po_some pe_int)))
      (blkOk_by (own := [("_law_cell", 1)]) (N := ["_law_script", "_law_cell", "_law_cells", "_law_mark"]) (sc := defScope sDeal) (by decide +kernel))
      (fun _ _ _ _ _ => pg_name (i := 1) scDeal.nd rfl (Or.inl rfl)) (fun _ _ _ _ _ => pts_nil) (fun _ _ _ _ _ => pe_callTy call_int1 (by rfl) mi PyProof.Rows.boot_int (pa_cons (pv 1) pa_nil)))
    (pss_cons (ps_set (i := 3) scDeal.nd rfl (.inl rfl) (pe_op op_add pe_int (pe_op op_mul pe_int (pe_callB call_len_seq (by rfl) ml PySem.boot_len (pa_cons (pv 2) pa_nil)))))
    (pss_cons (ps_for PassesOwn.never rfl (pi_list (pv 2)) (pg_name (i := 1) scDeal.nd rfl (Or.inl rfl))
      (pss_one (ps_set (i := 3) scDeal.nd rfl (.inl rfl) (pe_op op_mod (pe_callTy call_int1 (by rfl) mi PyProof.Rows.boot_int (pa_cons (pe_op op_add (pe_op op_mul (pv 3) pe_int) (pv 1)) pa_nil)) pe_int))))
    (pss_one (ps_ret (pe_lst (pa_cons (pv 2) (pa_cons pe_int (pa_cons pe_int (pa_cons (pv 3) pa_nil))))))))), ?_⟩
  refine ⟨_, rfl, 63, rfl, a, _, rfl, hS, fun c nc => ?_⟩
  rw [cut63 hlen]
  have s1 := same_new nc (.lst (ns.map V.int))
  refine ⟨c, rfl, ⟨_, SqL.of upd_same⟩, fun D nD => ?_⟩
  refine lc_list (K := K) (a := c) (xs := ns.map V.int) (fun i H2 => Same H H2 ∧ H2 c = some (.lst (ns.map V.int)) ∧ H2 D = some (.lst ((ns.take i).map V.int))) ⟨s1.trans (same_new nD _), ?_, by rw [upd_same]; rfl⟩ (fun i H2 _ h => SqL.of h.2.1) ?_ ?_
  · rw [upd_ne (ne_of_none upd_same nD), upd_same]
  · rintro i x H2 hx ⟨s2, hc, hD⟩
    have hi : i < ns.length := by
      have := (List.getElem?_eq_some_iff.mp hx).1
      rwa [List.length_map] at this
    have ex : x = .int ns[i] := by
      rw [List.getElem?_map, List.getElem?_eq_getElem hi] at hx
      exact (Option.some.inj hx).symm
    subst ex
    refine ⟨rfl, ?_⟩
    refine ⟨_, rfl, .inl ⟨_, rfl, _, hD, ?_, ?_⟩⟩
    · rw [List.length_map, List.length_take]; exact small1000 (by omega)
    · have hDc : c ≠ D := ne_of_none (upd_same (H := H) (o := .lst (ns.map V.int))) nD
      refine ⟨fun b o e => ?_, by rw [upd_ne hDc]; exact hc, ?_⟩
      · rw [upd_ne (ne_of_none (s1 _ _ e) nD)]; exact s2 _ _ e
      · rw [upd_same, List.take_add_one, List.getElem?_eq_getElem hi, List.map_append]; rfl
  · rintro H2 ⟨s2, hc, hD⟩
    rw [List.length_map, List.take_length] at hD
    have nDH : H D = none := s1.free nD
    refine ⟨_, rfl, D, _, rfl, .inl (SqL.of hD), _, _, rfl, rfl, .inl ⟨by decide, by decide⟩, _, _, rfl, rfl, ?_⟩
    refine ⟨_, rfl, D, rfl, ⟨_, SqL.of hD⟩, ?_⟩
    refine for_list (K := K) (a := D) (xs := ns.map V.int) (fun i σ H3 => H3 = H2 ∧ ∃ (m : Int) (y : Option V), σ = [some (.ref a), y, some (.ref D), some (.int m)]) ⟨rfl, _, _, rfl⟩ (fun i σ H3 _ h => by rw [h.1]; exact SqL.of hD) ?_ ?_
    · rintro i x σ H3 hx ⟨rfl, m, y, rfl⟩
      obtain ⟨z, rfl⟩ : ∃ z, x = V.int z := by
        rw [List.getElem?_map] at hx
        cases e : ns[i]? with
        | none => rw [e] at hx; cases hx
        | some z => rw [e] at hx; exact ⟨z, (Option.some.inj hx).symm⟩
      refine ⟨_, rfl, _, _, rfl, rfl, .inr ⟨by decide, by decide⟩, _, rfl, _, _, rfl, rfl, .inl ⟨_, rfl, _, _, rfl, rfl, (by show (0 : Int) < 2147483549; decide), ?_⟩⟩
      exact ⟨rfl, _, _, rfl⟩
    · rintro σ H3 ⟨rfl, m, y, rfl⟩
      refine ⟨_, rfl, _, rfl, (by show 4 ≤ sizeLine; decide), fun d nd => ?_⟩
      exact q d D _ (s2.trans (same_new nd _)) ⟨ns, 0, 0, m, upd_same, by rw [upd_ne (ne_of_none hD nd)]; exact hD, hlen, Int.le_refl 0⟩
end
end KK

set_option Elab.async false
set_option linter.all false
set_option maxRecDepth 100000
set_option maxHeartbeats 4000000
namespace KK
open PySem PySem.Spec PyProof.Rows L2 RT
section
variable {P : Program} {w : World} {K : PySem.W.Frag} {mg : Str → Option Value} {base : Heap}
theorem scPick : FnScope ["_law_deal_here", "_law_many", "_law_cell", "_law_early", "_law_late", "_law_drawn"] ["_law_deal_here", "_law_many"] (defScope sPick) := ⟨rfl, rfl, rfl, by decide +kernel, rfl, by decide +kernel, by decide +kernel⟩
def spPick : Sp := fun vs H Q _ => ∃ (d c : Addr) (m : Int), vs = [.ref d, .int m] ∧ DealAt H d c ∧ 0 < m ∧ m < 1000000 ∧ ∀ (r : Int) (H' : Hp), 0 ≤ r → r < m → DealAt H' d c → Kp d H H' → Q (.int r) H'
theorem ok_pick {f : Addr} {fd : FuncData} (F : Fun K "_law_pick" "_law_pick" sPick f fd) (ml : mg "len" = none) (mi : mg "int" = none) : FnOk P w K mg base CX0 1 f fd ["_law_deal_here", "_law_many"] spPick := by
  refine F.ok scPick (fun vs H Q E h => ?_) (fun cdv A outer s H vs Q E hr h => ?_)
  · obtain ⟨d, c, m, rfl, _⟩ := h
    rfl
  obtain ⟨d, c, m, rfl, ⟨cells, pos, big, mark, hd, hc, hl, hp⟩, m0, m1, q⟩ := h
  refine ⟨_, pss_cons (ps_if (pt_cmpR op_lt (pe_ix ix_list (pv 0) pe_int (fun _ _ => rfl)) pe_int (nomark _))
      (pss_cons (ps_asg (pe_op op_add (pe_ix ix_list (pv 0) pe_int (fun _ _ => rfl)) pe_int) (pg_sub (pv 0) pe_int set_list))
      (pss_cons (ps_set (i := 2) scPick.nd rfl (.inl rfl) (pe_op op_add (pe_ix ix_list (pv 0) pe_int (fun _ _ => rfl)) (pe_op op_mul (pe_ix ix_list (pv 0) pe_int (fun _ _ => rfl)) pe_int)))
      (pss_cons (ps_if (pt_cmpR op_le (pe_ix ix_list (pv 0) pe_int (fun _ _ => rfl)) (pe_callB call_len_seq (by rfl) ml PySem.boot_len (pa_cons (pe_ix ix_list (pv 0) pe_int (fun _ _ => rfl)) pa_nil)) (nomark _))
          (pss_one (ps_set (i := 2) scPick.nd rfl (.inl rfl) (pe_ix ix_list (pe_ix ix_list (pv 0) pe_int (fun _ _ => rfl)) (pe_op op_sub (pe_ix ix_list (pv 0) pe_int (fun _ _ => rfl)) pe_int) (fun _ _ => rfl)))) pss_nil)
      (pss_cons (ps_if (PW.pt (pw_or (pt_cmpR op_gt (pe_ix ix_list (pv 0) pe_int (fun _ _ => rfl)) (pe_callB call_len_seq (by rfl) ml PySem.boot_len (pa_cons (pe_ix ix_list (pv 0) pe_int (fun _ _ => rfl)) pa_nil)) (nomark _)) (pw_or1 (pt_cmpR op_lt (pv 2) (pe_op op_pow pe_int pe_int) (nomark _)))))
          (pss_cons (ps_set (i := 3) scPick.nd rfl (.inl rfl) (pe_op op_mod (pe_callTy call_int1 (by rfl) mi PyProof.Rows.boot_int (pa_cons (pe_op op_add (pe_op op_add (pe_op op_mul (pv 2) pe_int) (pe_op op_mul (pe_ix ix_list (pv 0) pe_int (fun _ _ => rfl)) pe_int)) (pe_ix ix_list (pv 0) pe_int (fun _ _ => rfl))) pa_nil)) pe_int))
          (pss_cons (ps_set (i := 4) scPick.nd rfl (.inl rfl) (pe_op op_mod (pe_callTy call_int1 (by rfl) mi PyProof.Rows.boot_int (pa_cons (pe_op op_add (pe_op op_mul (pv 3) (pv 3)) (pe_op op_mul (pe_ix ix_list (pv 0) pe_int (fun _ _ => rfl)) pe_int)) pa_nil)) pe_int))
          (pss_one (ps_ret (pe_op op_mod (pe_op op_fdiv (pe_op op_mod (pe_callTy call_int1 (by rfl) mi PyProof.Rows.boot_int (pa_cons (pe_op op_add (pe_op op_mul (pv 4) pe_int) (pv 3)) pa_nil)) pe_int) pe_int) (pv 1)))))) pss_nil)
      (pss_one (ps_asg (pv 2) (pg_sub (pv 0) pe_int set_list))))))) pss_nil)
    (pss_cons (ps_set (i := 5) scPick.nd rfl (.inl rfl) (pe_op op_mod (pe_callTy call_int1 (by rfl) mi PyProof.Rows.boot_int (pa_cons (pe_ix ix_list (pv 0) pe_int (fun _ _ => rfl)) pa_nil)) (pv 1)))
    (pss_cons (ps_asg (pe_op op_fdiv (pe_callTy call_int1 (by rfl) mi PyProof.Rows.boot_int (pa_cons (pe_ix ix_list (pv 0) pe_int (fun _ _ => rfl)) pa_nil)) (pv 1)) (pg_sub (pv 0) pe_int set_list))
    (pss_one (ps_ret (pv 5))))), ?_⟩
  have hcd : c ≠ d := ne_of hc hd fun z => by
    have z := HO.lst.inj z
    cases cells with
    | nil => cases z
    | cons x r => rw [List.map_cons] at z; cases z
  refine ⟨_, rfl, d, _, _, _, rfl, rfl, SqL.of hd, rfl, _, _, rfl, rfl, _, rfl, ?_⟩
  refine ite2 (fun b1 => ?_) (fun b1 => ?_)
  · refine ⟨_, rfl, d, _, _, _, rfl, rfl, SqL.of hd, rfl, _, _, rfl, rfl, _, rfl, d, _, _, 1, rfl, rfl, hd, rfl, ?_⟩
    have hd1 : (upd H d (.lst [.ref c, .int (pos + 1), .int big, .int mark])) d = some (.lst [.ref c, .int (pos + 1), .int big, .int mark]) := upd_same
    have hc1 : (upd H d (.lst [.ref c, .int (pos + 1), .int big, .int mark])) c = some (.lst (cells.map V.int)) := by rw [upd_ne hcd]; exact hc
    have kp1 := kp_put H d (.lst [.ref c, .int (pos + 1), .int big, .int mark])
    have dl1 := deal_put hd hc hcd (pos + 1) big mark hl (by omega)
    have el : (cells.map V.int).length = cells.length := List.length_map _
    have hb : ∀ x : Int, -(2 ^ 64) < x % 2147483647 ∧ x % 2147483647 < 2 ^ 64 := fun x => by constructor <;> omega
    refine ⟨_, rfl, d, _, _, _, rfl, rfl, SqL.of hd1, rfl, _, rfl, d, _, _, _, rfl, rfl, SqL.of hd1, rfl, _, _, rfl, rfl, .inr ⟨by decide, by decide⟩, _, _, rfl, rfl, ?_⟩
    refine ⟨_, rfl, d, _, _, _, rfl, rfl, SqL.of hd1, rfl, _, rfl, d, _, _, _, rfl, rfl, SqL.of hd1, rfl, c, _, rfl, .inl (SqL.of hc1), _, _, rfl, rfl, _, rfl, ?_⟩
    refine ite2 (fun b2 => ?_) (fun b2 => ?_)
    · have b2 : pos + 1 ≤ (((cells.map V.int).length : Nat) : Int) := of_decide_eq_true b2
      rw [el] at b2
      have hk : pos.toNat < cells.length := by omega
      have hat : atI (cells.map V.int) (pos + 1 - 1) = some (.int cells[pos.toNat]) := by
        rw [show pos + 1 - 1 = ((pos.toNat : Nat) : Int) by omega]
        refine atI_nat ?_
        rw [List.getElem?_map, List.getElem?_eq_getElem hk]
        rfl
      refine ⟨_, rfl, d, _, _, _, rfl, rfl, SqL.of hd1, rfl, _, rfl, d, _, _, _, rfl, rfl, SqL.of hd1, rfl, _, _, rfl, rfl, c, _, _, _, rfl, rfl, SqL.of hc1, hat, ?_⟩
      refine ⟨_, rfl, d, _, _, _, rfl, rfl, SqL.of hd1, rfl, _, rfl, d, _, _, _, rfl, rfl, SqL.of hd1, rfl, c, _, rfl, .inl (SqL.of hc1), _, _, rfl, rfl, _, rfl, ?_⟩
      refine ite2 (fun b3 => ?_) (fun b3 => ?_)
      · refine iteT ?_
        refine ⟨_, rfl, _, _, rfl, rfl, .inr ⟨by decide, by decide⟩, _, rfl, d, _, _, _, rfl, rfl, SqL.of hd1, rfl, _, _, rfl, rfl, .inr ⟨by decide, by decide⟩, _, _, rfl, rfl, _, rfl, d, _, _, _, rfl, rfl, SqL.of hd1, rfl, _, _, rfl, rfl, .inl ⟨_, rfl, _, _, rfl, rfl, (by show (0 : Int) < 2147483647; decide), ?_⟩⟩
        refine ⟨_, rfl, _, rfl, _, _, rfl, rfl, .inl (hb _), _, rfl, d, _, _, _, rfl, rfl, SqL.of hd1, rfl, _, _, rfl, rfl, .inr ⟨by decide, by decide⟩, _, _, rfl, rfl, .inl ⟨_, rfl, _, _, rfl, rfl, (by show (0 : Int) < 998244353; decide), ?_⟩⟩
        refine ⟨_, rfl, _, _, rfl, rfl, .inr ⟨by decide, by decide⟩, _, rfl, _, _, rfl, rfl, .inl ⟨_, rfl, _, _, rfl, rfl, (by show (0 : Int) < 2147483563; decide), _, _, rfl, rfl, ⟨by decide, by decide⟩, _, rfl, _, _, rfl, rfl, m0, ?_⟩⟩
        exact q _ _ (Int.emod_nonneg _ (by omega)) (Int.emod_lt_of_pos _ m0) dl1 kp1
      · refine ⟨_, rfl, _, _, rfl, rfl, ⟨by decide, by decide, by decide⟩, _, _, rfl, rfl, _, rfl, ?_⟩
        refine ite2 (fun b4 => ?_) (fun b4 => ?_)
        · refine ⟨_, rfl, _, _, rfl, rfl, .inr ⟨by decide, by decide⟩, _, rfl, d, _, _, _, rfl, rfl, SqL.of hd1, rfl, _, _, rfl, rfl, .inr ⟨by decide, by decide⟩, _, _, rfl, rfl, _, rfl, d, _, _, _, rfl, rfl, SqL.of hd1, rfl, _, _, rfl, rfl, .inl ⟨_, rfl, _, _, rfl, rfl, (by show (0 : Int) < 2147483647; decide), ?_⟩⟩
          refine ⟨_, rfl, _, rfl, _, _, rfl, rfl, .inl (hb _), _, rfl, d, _, _, _, rfl, rfl, SqL.of hd1, rfl, _, _, rfl, rfl, .inr ⟨by decide, by decide⟩, _, _, rfl, rfl, .inl ⟨_, rfl, _, _, rfl, rfl, (by show (0 : Int) < 998244353; decide), ?_⟩⟩
          refine ⟨_, rfl, _, _, rfl, rfl, .inr ⟨by decide, by decide⟩, _, rfl, _, _, rfl, rfl, .inl ⟨_, rfl, _, _, rfl, rfl, (by show (0 : Int) < 2147483563; decide), _, _, rfl, rfl, ⟨by decide, by decide⟩, _, rfl, _, _, rfl, rfl, m0, ?_⟩⟩
          exact q _ _ (Int.emod_nonneg _ (by omega)) (Int.emod_lt_of_pos _ m0) dl1 kp1
        · refine ⟨_, rfl, _, rfl, d, _, _, 2, rfl, rfl, hd1, rfl, ?_⟩
          refine ⟨_, rfl, d, _, _, _, rfl, rfl, SqL.of upd_same, rfl, .inl ⟨_, rfl, _, rfl, _, _, rfl, rfl, m0, ?_⟩⟩
          refine ⟨_, rfl, d, _, _, _, rfl, rfl, SqL.of upd_same, rfl, .inl ⟨_, rfl, _, rfl, _, _, rfl, rfl, ⟨m0, by omega⟩, _, rfl, d, _, _, 2, rfl, rfl, upd_same, rfl, ?_⟩⟩
          refine ⟨_, rfl, ?_⟩
          refine q _ _ (Int.emod_nonneg _ (by omega)) (Int.emod_lt_of_pos _ m0) ?_ (kp1.trans ((kp_put _ d _).trans (kp_put _ d _)))
          exact deal_put upd_same (show (upd (upd H d _) d _) c = some (.lst (cells.map V.int)) by rw [upd_ne hcd]; exact hc1) hcd (pos + 1) _ mark hl (by omega)
    · refine ⟨_, rfl, d, _, _, _, rfl, rfl, SqL.of hd1, rfl, _, rfl, d, _, _, _, rfl, rfl, SqL.of hd1, rfl, c, _, rfl, .inl (SqL.of hc1), _, _, rfl, rfl, _, rfl, ?_⟩
      refine ite2 (fun b3 => ?_) (fun b3 => ?_)
      · refine iteT ?_
        refine ⟨_, rfl, _, _, rfl, rfl, .inr ⟨by decide, by decide⟩, _, rfl, d, _, _, _, rfl, rfl, SqL.of hd1, rfl, _, _, rfl, rfl, .inr ⟨by decide, by decide⟩, _, _, rfl, rfl, _, rfl, d, _, _, _, rfl, rfl, SqL.of hd1, rfl, _, _, rfl, rfl, .inl ⟨_, rfl, _, _, rfl, rfl, (by show (0 : Int) < 2147483647; decide), ?_⟩⟩
        refine ⟨_, rfl, _, rfl, _, _, rfl, rfl, .inl (hb _), _, rfl, d, _, _, _, rfl, rfl, SqL.of hd1, rfl, _, _, rfl, rfl, .inr ⟨by decide, by decide⟩, _, _, rfl, rfl, .inl ⟨_, rfl, _, _, rfl, rfl, (by show (0 : Int) < 998244353; decide), ?_⟩⟩
        refine ⟨_, rfl, _, _, rfl, rfl, .inr ⟨by decide, by decide⟩, _, rfl, _, _, rfl, rfl, .inl ⟨_, rfl, _, _, rfl, rfl, (by show (0 : Int) < 2147483563; decide), _, _, rfl, rfl, ⟨by decide, by decide⟩, _, rfl, _, _, rfl, rfl, m0, ?_⟩⟩
        exact q _ _ (Int.emod_nonneg _ (by omega)) (Int.emod_lt_of_pos _ m0) dl1 kp1
      · refine ⟨_, rfl, _, _, rfl, rfl, ⟨by decide, by decide, by decide⟩, _, _, rfl, rfl, _, rfl, ?_⟩
        refine ite2 (fun b4 => ?_) (fun b4 => ?_)
        · refine ⟨_, rfl, _, _, rfl, rfl, .inr ⟨by decide, by decide⟩, _, rfl, d, _, _, _, rfl, rfl, SqL.of hd1, rfl, _, _, rfl, rfl, .inr ⟨by decide, by decide⟩, _, _, rfl, rfl, _, rfl, d, _, _, _, rfl, rfl, SqL.of hd1, rfl, _, _, rfl, rfl, .inl ⟨_, rfl, _, _, rfl, rfl, (by show (0 : Int) < 2147483647; decide), ?_⟩⟩
          refine ⟨_, rfl, _, rfl, _, _, rfl, rfl, .inl (hb _), _, rfl, d, _, _, _, rfl, rfl, SqL.of hd1, rfl, _, _, rfl, rfl, .inr ⟨by decide, by decide⟩, _, _, rfl, rfl, .inl ⟨_, rfl, _, _, rfl, rfl, (by show (0 : Int) < 998244353; decide), ?_⟩⟩
          refine ⟨_, rfl, _, _, rfl, rfl, .inr ⟨by decide, by decide⟩, _, rfl, _, _, rfl, rfl, .inl ⟨_, rfl, _, _, rfl, rfl, (by show (0 : Int) < 2147483563; decide), _, _, rfl, rfl, ⟨by decide, by decide⟩, _, rfl, _, _, rfl, rfl, m0, ?_⟩⟩
          exact q _ _ (Int.emod_nonneg _ (by omega)) (Int.emod_lt_of_pos _ m0) dl1 kp1
        · refine ⟨_, rfl, _, rfl, d, _, _, 2, rfl, rfl, hd1, rfl, ?_⟩
          refine ⟨_, rfl, d, _, _, _, rfl, rfl, SqL.of upd_same, rfl, .inl ⟨_, rfl, _, rfl, _, _, rfl, rfl, m0, ?_⟩⟩
          refine ⟨_, rfl, d, _, _, _, rfl, rfl, SqL.of upd_same, rfl, .inl ⟨_, rfl, _, rfl, _, _, rfl, rfl, ⟨m0, by omega⟩, _, rfl, d, _, _, 2, rfl, rfl, upd_same, rfl, ?_⟩⟩
          refine ⟨_, rfl, ?_⟩
          refine q _ _ (Int.emod_nonneg _ (by omega)) (Int.emod_lt_of_pos _ m0) ?_ (kp1.trans ((kp_put _ d _).trans (kp_put _ d _)))
          exact deal_put upd_same (show (upd (upd H d _) d _) c = some (.lst (cells.map V.int)) by rw [upd_ne hcd]; exact hc1) hcd (pos + 1) _ mark hl (by omega)
  · refine ⟨_, rfl, d, _, _, _, rfl, rfl, SqL.of hd, rfl, .inl ⟨_, rfl, _, rfl, _, _, rfl, rfl, m0, ?_⟩⟩
    refine ⟨_, rfl, d, _, _, _, rfl, rfl, SqL.of hd, rfl, .inl ⟨_, rfl, _, rfl, _, _, rfl, rfl, ⟨m0, by omega⟩, _, rfl, d, _, _, 2, rfl, rfl, hd, rfl, ?_⟩⟩
    refine ⟨_, rfl, ?_⟩
    exact q _ _ (Int.emod_nonneg _ (by omega)) (Int.emod_lt_of_pos _ m0) (deal_put hd hc hcd pos (big / m) mark hl hp) (kp_put H d _)
end
end KK

set_option Elab.async false
set_option linter.all false
set_option maxRecDepth 100000
set_option maxHeartbeats 4000000
namespace KK
open PySem PySem.Spec PyProof.Rows L2 RT
abbrev sSame : Stmt := top 36
section
variable {P : Program} {w : World} {K : PySem.W.Frag} {mg : Str → Option Value} {base : Heap}
theorem scSame : FnScope ["_law_found", "_law_due", "_law_one", "_law_two"] ["_law_found", "_law_due"] (defScope sSame) := ⟨rfl, rfl, rfl, by decide +kernel, rfl, by decide +kernel, by decide +kernel⟩
def spSame (K : PySem.W.Frag) (n : Nat) : Sp := fun vs H Q _ => ∃ (x y : V) (d e : PyData), vs = [x, y] ∧ Dp K H x d ∧ Dp K H y e ∧ e.depth < n ∧ wid e ≤ 1000 ∧ ∀ (b : Bool) (H' : Hp), (b = true ↔ d = e) → Same H H' → Q (.bl b) H'
structure SameT (mg : Str → Option Value) : Prop where
  isi : mg "isinstance" = none
  bool : mg "bool" = none
  int : mg "int" = none
  str : mg "str" = none
  list : mg "list" = none
  tuple : mg "tuple" = none
  len : mg "len" = none
  all : mg "all" = none
  zip : mg "zip" = none
theorem ok_same {f : Addr} {fd : FuncData} {n : Nat} (F : Fun K "_law_same" "_law_same" sSame f fd) (T : SameT mg) (G : FnOk P w K mg base CX0 n f fd ["_law_found", "_law_due"] (spSame K n)) (bG : Binds K fd ["_law_found", "_law_due"] []) (kG : PySem.W.keepIn K (.ref f) = true) (mG : mg "_law_same" = some (.ref f)) :
    FnOk P w K mg base CX0 (n + 1) f fd ["_law_found", "_law_due"] (spSame K (n + 1)) := by
  refine F.ok scSame (fun vs H Q E h => ?_) (fun cdv A outer s H vs Q E hr h => ?_)
  · obtain ⟨x, y, d, e, rfl, _⟩ := h
    rfl
  obtain ⟨x, y, d, e, rfl, hx, hy, hdep, hwid, q⟩ := h
  refine ⟨_, (pss_cons (ps_if (pt_cmpR op_isN (pv 1) pe_non (nomark _)) (pss_one (ps_ret (pe_cmpR op_isN (pv 0) pe_non (nomark _)))) pss_nil) (pss_cons 
    (ps_if (PW.pt (pw_or (pt_val (pe_callB call_isi (by rfl) T.isi (by decide +kernel) (pa_cons (pv 1) (pa_cons (pe_bltn (v := .ty "bool") (by rfl) T.bool (by decide +kernel) rfl) pa_nil)))) (pw_or1 (pt_val (pe_callB call_isi (by rfl) T.isi (by decide +kernel) (pa_cons (pv 0) (pa_cons (pe_bltn (v := .ty "bool") (by rfl) T.bool (by decide +kernel) rfl) pa_nil))))))) (pss_one (ps_ret (pe_and (pe_callB call_isi (by rfl) T.isi (by decide +kernel) (pa_cons (pv 1) (pa_cons (pe_bltn (v := .ty "bool") (by rfl) T.bool (by decide +kernel) rfl) pa_nil))) (pe_and (pe_callB call_isi (by rfl) T.isi (by decide +kernel) (pa_cons (pv 0) (pa_cons (pe_bltn (v := .ty "bool") (by rfl) T.bool (by decide +kernel) rfl) pa_nil))) (pe_one (pe_cmpR op_eq (pv 0) (pv 1) (nomark _))))))) pss_nil) (pss_cons 
    (ps_if (pt_val (pe_callB call_isiT (by rfl) T.isi (by decide +kernel) (pa_cons (pv 1) (pa_cons (pe_tup (pa_cons (pe_bltn (v := .ty "int") (by rfl) T.int (by decide +kernel) rfl) (pa_cons (pe_bltn (v := .ty "str") (by rfl) T.str (by decide +kernel) rfl) pa_nil))) pa_nil)))) (pss_one (ps_ret (pe_and (pe_callB call_isiT (by rfl) T.isi (by decide +kernel) (pa_cons (pv 0) (pa_cons (pe_tup (pa_cons (pe_bltn (v := .ty "int") (by rfl) T.int (by decide +kernel) rfl) (pa_cons (pe_bltn (v := .ty "str") (by rfl) T.str (by decide +kernel) rfl) pa_nil))) pa_nil))) (pe_and (pe_cmpR op_eq (pe_callB call_isi (by rfl) T.isi (by decide +kernel) (pa_cons (pv 0) (pa_cons (pe_bltn (v := .ty "int") (by rfl) T.int (by decide +kernel) rfl) pa_nil))) (pe_callB call_isi (by rfl) T.isi (by decide +kernel) (pa_cons (pv 1) (pa_cons (pe_bltn (v := .ty "int") (by rfl) T.int (by decide +kernel) rfl) pa_nil))) (nomark _)) (pe_one (pe_cmpR op_eq (pv 0) (pv 1) (nomark _))))))) pss_nil) (pss_cons 
    (ps_if (PW.pt (pw_or (pt_cmpR op_ne (pe_callB call_isi (by rfl) T.isi (by decide +kernel) (pa_cons (pv 1) (pa_cons (pe_bltn (v := .ty "list") (by rfl) T.list (by decide +kernel) rfl) pa_nil))) (pe_callB call_isi (by rfl) T.isi (by decide +kernel) (pa_cons (pv 0) (pa_cons (pe_bltn (v := .ty "list") (by rfl) T.list (by decide +kernel) rfl) pa_nil))) (nomark _)) (pw_or1 (pt_cmpR op_ne (pe_callB call_isi (by rfl) T.isi (by decide +kernel) (pa_cons (pv 1) (pa_cons (pe_bltn (v := .ty "tuple") (by rfl) T.tuple (by decide +kernel) rfl) pa_nil))) (pe_callB call_isi (by rfl) T.isi (by decide +kernel) (pa_cons (pv 0) (pa_cons (pe_bltn (v := .ty "tuple") (by rfl) T.tuple (by decide +kernel) rfl) pa_nil))) (nomark _))))) (pss_one (ps_ret pe_bl)) pss_nil) (pss_one 
    (ps_ret (pe_and (pe_cmpR op_eq (pe_callB call_len_seq (by rfl) T.len PySem.boot_len (pa_cons (pv 0) pa_nil)) (pe_callB call_len_seq (by rfl) T.len PySem.boot_len (pa_cons (pv 1) pa_nil)) (nomark _)) (pe_one (pe_callB (cr_all rfl) (by rfl) T.all (by decide +kernel) (pa_cons (pe_lc (own := [("_law_one", 2), ("_law_two", 3)]) (g := gTup K 2 (gCons (gName 2) (gCons (gName 3) gNil))) (tt := tYes) rfl scSame.nd (RZ.pi_zipA (by rfl) T.zip (pa_cons (pv 0) (pa_cons (pv 1) pa_nil)))
        (blkOk_by (own := [("_law_one", 2), ("_law_two", 3)]) (N := ["_law_found", "_law_due", "_law_one", "_law_two"]) (sc := defScope sSame) (by decide +kernel))
        (fun _ _ _ _ _ => pg_tup rfl (pgs_cons (pg_name (i := 2) scSame.nd rfl (Or.inl rfl)) (pgs_cons (pg_name (i := 3) scSame.nd rfl (Or.inl rfl)) pgs_nil))) (fun _ _ _ _ _ => pts_nil)
        (fun _ _ _ _ _ => (pe_call G hr rfl mG kG bG .nil pass0 (pa_cons (pv 2) (pa_cons (pv 3) pa_nil))))) pa_nil)))))))))), ?_⟩
  have hu : ∀ {H' : Hp}, Same H H' → Dp K H' x d ∧ Dp K H' y e := fun s => ⟨Dp.same s d x hx, Dp.same s e y hy⟩
  refine ⟨_, rfl, rfl, _, rfl, ?_⟩
  refine ite2 (fun c1 => ?_) (fun c1 => ?_)
  · have c1 : y = .non := of_decide_eq_true c1
    refine ⟨_, rfl, rfl, q _ H ?_ (Same.refl H)⟩
    subst c1
    cases hy
    cases hx <;> simp
  have c1 : y ≠ .non := fun z => c1 (decide_eq_true z)
  refine ⟨_, rfl, _, _, _, _, qBool e, rfl, .ty _, hy.ty, kq_bool e, _, rfl, ?_⟩
  refine ite2 (fun c2 => ?_) (fun c2 => ?_)
  · refine iteT ?_
    refine ⟨_, rfl, _, _, _, _, qBool e, rfl, .ty _, hy.ty, kq_bool e, _, rfl, ?_⟩
    rw [if_pos c2]
    refine ⟨_, rfl, _, _, _, _, qBool d, rfl, .ty _, hx.ty, kq_bool d, _, rfl, ?_⟩
    refine ite2 (fun c3 => ?_) (fun c3 => ?_)
    · refine ⟨_, rfl, _, rfl, ?_, q _ H ?_ (Same.refl H)⟩
      · cases hx <;> cases hy <;> first | rfl | (cases c2; done) | (cases c3; done)
      · cases hx <;> cases hy <;> first | (cases c2; done) | (cases c3; done) | simp
    · refine q _ H ?_ (Same.refl H)
      constructor
      · intro z; cases z
      · intro z; subst z; exact absurd c2 c3
  refine ⟨_, rfl, _, _, _, _, qBool d, rfl, .ty _, hx.ty, kq_bool d, _, rfl, ?_⟩
  refine ite2 (fun c3 => ?_) (fun c3 => ?_)
  · refine ⟨_, rfl, _, _, _, _, qBool e, rfl, .ty _, hy.ty, kq_bool e, _, rfl, ?_⟩
    rw [if_neg c2]
    refine q _ H ?_ (Same.refl H)
    constructor
    · intro z; cases z
    · intro z; subst z; exact absurd c3 c2
  refine ⟨_, rfl, (by show 2 ≤ sizeLine; decide), fun tp ntp => ?_⟩
  have s1 := same_new ntp (.tup [.ty "int", .ty "str"])
  refine ⟨y, tp, _, _, _, qIS e, rfl, upd_same, .cons (.ty _) (.cons (.ty _) .nil), (hu s1).2.ty, kq_is e, _, rfl, ?_⟩
  refine ite2 (fun c4 => ?_) (fun c4 => ?_)
  · refine ⟨_, rfl, (by show 2 ≤ sizeLine; decide), fun tq ntq => ?_⟩
    have s2 := s1.trans (same_new ntq (.tup [.ty "int", .ty "str"]))
    refine ⟨x, tq, _, _, _, qIS d, rfl, upd_same, .cons (.ty _) (.cons (.ty _) .nil), (hu s2).1.ty, kq_is d, _, rfl, ?_⟩
    refine ite2 (fun c5 => ?_) (fun c5 => ?_)
    · refine ⟨_, rfl, _, _, _, _, qInt d, rfl, .ty _, (hu s2).1.ty, kq_int d, _, rfl, _, _, _, _, qInt e, rfl, .ty _, (hu s2).2.ty, kq_int e, rfl, _, rfl, ?_⟩
      refine ite2 (fun c6 => ?_) (fun c6 => ?_)
      · have c6 : qInt d = qInt e := V.bl.inj (of_decide_eq_true c6)
        refine ⟨_, rfl, _, rfl, ?_, q _ _ ?_ s2⟩
        · cases hx <;> cases hy <;> first | rfl | exact absurd rfl c2 | exact absurd rfl c3 | (cases c4; done) | (cases c5; done) | (cases c6; done)
        · cases hx <;> cases hy <;> first | exact absurd rfl c2 | exact absurd rfl c3 | (cases c4; done) | (cases c5; done) | (cases c6; done) | simp
      · refine q _ _ ?_ s2
        constructor
        · intro z; cases z
        · intro z; subst z; exact absurd (decide_eq_true rfl) c6
    · refine q _ _ ?_ s2
      constructor
      · intro z; cases z
      · intro z; subst z; exact absurd c4 c5
  refine ⟨_, rfl, _, _, _, _, qList e, rfl, .ty _, (hu s1).2.ty, kq_list e, _, rfl, _, _, _, _, qList d, rfl, .ty _, (hu s1).1.ty, kq_list d, rfl, _, rfl, ?_⟩
  refine ite2 (fun c5 => ?_) (fun c5 => ?_)
  · refine iteT ?_
    refine q _ _ ?_ s1
    constructor
    · intro z; cases z
    · intro z; subst z; rw [decide_eq_true rfl] at c5; cases c5
  have c5 : qList e = qList d := by
    cases h1 : qList e <;> cases h2 : qList d <;> first | rfl | (rw [h1, h2] at c5; exact absurd rfl c5)
  refine ⟨_, rfl, _, _, _, _, qTup e, rfl, .ty _, (hu s1).2.ty, kq_tup e, _, rfl, _, _, _, _, qTup d, rfl, .ty _, (hu s1).1.ty, kq_tup d, rfl, _, rfl, ?_⟩
  refine ite2 (fun c6 => ?_) (fun c6 => ?_)
  · refine q _ _ ?_ s1
    constructor
    · intro z; cases z
    · intro z; subst z; rw [decide_eq_true rfl] at c6; cases c6
  have c6 : qTup e = qTup d := by
    cases h1 : qTup e <;> cases h2 : qTup d <;> first | rfl | (rw [h1, h2] at c6; exact absurd rfl c6)
  obtain ⟨hx1, hy1⟩ := hu s1
  generalize upd H tp (.tup [.ty "int", .ty "str"]) = H1 at s1 hx1 hy1
  -- both are lists, or both are tuples
  have both : (∃ (a b : Addr) (xs ys : List V) (ds es : List PyData), x = .ref a ∧ y = .ref b ∧ DpAll K H1 xs ds ∧ DpAll K H1 ys es ∧ ((d = e) ↔ (ds = es)) ∧ PyData.depthAll es < n ∧ es.length ≤ 1000 ∧ widAll es ≤ 1000 ∧ ((SqL K H1 a xs ∧ SqL K H1 b ys) ∨ (SqT K H1 a xs ∧ SqT K H1 b ys))) := by
    cases hy1 with
    | lst hs2 ha2 =>
      cases hx1 with
      | lst hs1 ha1 =>
        rw [PyData.depth] at hdep
        rw [wid] at hwid
        exact ⟨_, _, _, _, _, _, rfl, rfl, ha1, ha2, by simp, by omega, by omega, by omega, .inl ⟨hs1, hs2⟩⟩
      | _ => cases c5
    | tup hs2 ha2 =>
      cases hx1 with
      | tup hs1 ha1 =>
        rw [PyData.depth] at hdep
        rw [wid] at hwid
        exact ⟨_, _, _, _, _, _, rfl, rfl, ha1, ha2, by simp, by omega, by omega, by omega, .inr ⟨hs1, hs2⟩⟩
      | _ => cases c6
    | non => exact absurd rfl c1
    | bl => exact absurd rfl c2
    | int => exact absurd rfl c4
    | str => exact absurd rfl c4
  obtain ⟨a, b, xs, ys, ds, es, rfl, rfl, ha, hb, hiff, hd2, hl2, hw2, hsq⟩ := both
  have lx := ha.len
  have ly := hb.len
  have hl1 : SqL K H1 a xs ∨ SqT K H1 a xs := hsq.imp (·.1) (·.1)
  have hl3 : SqL K H1 b ys ∨ SqT K H1 b ys := hsq.imp (·.2) (·.2)
  refine ⟨_, rfl, a, _, rfl, hl1, _, rfl, b, _, rfl, hl3, rfl, _, rfl, ?_⟩
  refine ite2 (fun c7 => ?_) (fun c7 => ?_)
  · have c7 : (xs.length : Int) = (ys.length : Int) := V.int.inj (of_decide_eq_true c7)
    have c7 : xs.length = ys.length := by omega
    rcases hsq with ⟨h1, h2⟩ | ⟨h1, h2⟩
    · refine ⟨_, rfl, _, rfl, a, b, xs, ys, rfl, .inl ⟨h1, h2, fun D nD => ?_⟩⟩
      refine lc_it (walk_zip (xs := xs) (ys := ys) (n := xs.length) (by omega)) (fun i H2 => Same H1 H2 ∧ ∃ bs : List Bool, bs.length = i ∧ (bs.all id = true ↔ ds.take i = es.take i) ∧ H2 D = some (.lst (bs.map V.bl))) ⟨same_new nD _, [], rfl, by simp, upd_same⟩ (fun i H2 _ h => ⟨Same.seq h.1 h1, Same.seq h.1 h2⟩) ?_ ?_
      · rintro i z H2 H3 hi ⟨s2, bs, lb, ib, hD⟩ ⟨t, x', y', rfl, nt, rfl, ex, ey⟩
        obtain ⟨d', ed, hd'⟩ := ha.at ex
        obtain ⟨e', ee, he'⟩ := hb.at ey
        have s3 := same_new nt (.tup [x', y'])
        refine ⟨t, [x', y'], rfl, SqT.of upd_same, rfl, x', [y'], rfl, y', [], rfl, rfl, ?_⟩
        refine ⟨rfl, ?_⟩
        refine ⟨_, rfl, _, rfl, x', y', d', e', rfl, Dp.same (s2.trans s3) _ _ hd', Dp.same (s2.trans s3) _ _ he', Nat.lt_of_le_of_lt (depth_at ee) hd2, Nat.le_trans (wid_at ee) hw2, fun b' H4 hb' s4 => ?_⟩
        refine ⟨_, s4 _ _ (s3 _ _ hD), small1000 (by rw [List.length_map]; omega), fun c o h => ?_, bs ++ [b'], by rw [List.length_append, lb]; rfl, ?_, by rw [upd_same, List.map_append]; rfl⟩
        · rw [upd_ne (ne_of_none h nD)]
          exact s4 _ _ (s3 _ _ (s2 _ _ h))
        · rw [take_next ed ee, ← ib, ← hb', List.all_append]
          simp
      · rintro H2 ⟨s2, bs, lb, ib, hD⟩
        refine ⟨D, bs, rfl, SqL.of hD, q _ _ ?_ (s1.trans s2)⟩
        rw [ib, hiff, List.take_of_length_le (by omega), List.take_of_length_le (by omega)]
    · refine ⟨_, rfl, _, rfl, a, b, xs, ys, rfl, .inr ⟨h1, h2, fun D nD => ?_⟩⟩
      refine lc_it (walk_zipT (xs := xs) (ys := ys) (n := xs.length) (by omega)) (fun i H2 => Same H1 H2 ∧ ∃ bs : List Bool, bs.length = i ∧ (bs.all id = true ↔ ds.take i = es.take i) ∧ H2 D = some (.lst (bs.map V.bl))) ⟨same_new nD _, [], rfl, by simp, upd_same⟩ (fun i H2 _ h => ⟨same_tupX h.1 h1, same_tupX h.1 h2⟩) ?_ ?_
      · rintro i z H2 H3 hi ⟨s2, bs, lb, ib, hD⟩ ⟨t, x', y', rfl, nt, rfl, ex, ey⟩
        obtain ⟨d', ed, hd'⟩ := ha.at ex
        obtain ⟨e', ee, he'⟩ := hb.at ey
        have s3 := same_new nt (.tup [x', y'])
        refine ⟨t, [x', y'], rfl, SqT.of upd_same, rfl, x', [y'], rfl, y', [], rfl, rfl, ?_⟩
        refine ⟨rfl, ?_⟩
        refine ⟨_, rfl, _, rfl, x', y', d', e', rfl, Dp.same (s2.trans s3) _ _ hd', Dp.same (s2.trans s3) _ _ he', Nat.lt_of_le_of_lt (depth_at ee) hd2, Nat.le_trans (wid_at ee) hw2, fun b' H4 hb' s4 => ?_⟩
        refine ⟨_, s4 _ _ (s3 _ _ hD), small1000 (by rw [List.length_map]; omega), fun c o h => ?_, bs ++ [b'], by rw [List.length_append, lb]; rfl, ?_, by rw [upd_same, List.map_append]; rfl⟩
        · rw [upd_ne (ne_of_none h nD)]
          exact s4 _ _ (s3 _ _ (s2 _ _ h))
        · rw [take_next ed ee, ← ib, ← hb', List.all_append]
          simp
      · rintro H2 ⟨s2, bs, lb, ib, hD⟩
        refine ⟨D, bs, rfl, SqL.of hD, q _ _ ?_ (s1.trans s2)⟩
        rw [ib, hiff, List.take_of_length_le (by omega), List.take_of_length_le (by omega)]
  · refine q _ _ ?_ s1
    constructor
    · intro z; cases z
    · intro z
      have z := hiff.mp z
      refine absurd (decide_eq_true ?_) c7
      have : xs.length = ys.length := by rw [lx, ly, z]
      rw [this]
end
end KK

set_option Elab.async false
set_option linter.all false
set_option maxRecDepth 100000
set_option maxHeartbeats 4000000
namespace KK
open PySem PySem.Spec PyProof.Rows L2 RT
def mk1 (c : Nat) : Str := ⟨#[c]⟩
section
variable {P : Program} {w : World} {K : PySem.W.Frag} {mg : Str → Option Value} {base : Heap}
theorem scOf : FnScope ["_law_deal_here", "_law_items"] ["_law_deal_here", "_law_items"] (defScope sOf) := ⟨rfl, rfl, rfl, by decide +kernel, rfl, by decide +kernel, by decide +kernel⟩
def spOf : Sp := fun vs H Q _ => ∃ (d c : Addr), DealAt H d c ∧ ((∃ (p : Addr) (xs : List V), vs = [.ref d, .ref p] ∧ H p = some (.lst xs) ∧ p ≠ d ∧ 0 < xs.length ∧ xs.length ≤ 1000 ∧ ∀ (x : V) (H' : Hp), x ∈ xs → DealAt H' d c → Kp d H H' → Q x H') ∨
  ∃ z : Str, vs = [.ref d, .str z] ∧ 0 < z.cps.size ∧ z.cps.size ≤ 1000 ∧ ∀ (e : Nat) (H' : Hp), e ∈ z.cps.toList → DealAt H' d c → Kp d H H' → Q (.str (mk1 e)) H')
theorem ok_of {f g : Addr} {fd gd : FuncData} (F : Fun K "_law_of" "_law_of" sOf f fd) (ml : mg "len" = none) (G : FnOk P w K mg base CX0 1 g gd ["_law_deal_here", "_law_many"] spPick) (bG : Binds K gd ["_law_deal_here", "_law_many"] []) (kG : PySem.W.keepIn K (.ref g) = true) (mG : mg "_law_pick" = some (.ref g)) :
    FnOk P w K mg base CX0 2 f fd ["_law_deal_here", "_law_items"] spOf := by
  refine F.ok scOf (fun vs H Q E h => ?_) (fun cdv A outer s H vs Q E hr h => ?_)
  · obtain ⟨d, c, _, ⟨p, xs, rfl, _⟩ | ⟨z, rfl, _⟩⟩ := h <;> rfl
  obtain ⟨d, c, hd, h⟩ := h
  refine ⟨_, (pss_one (ps_ret (pe_ix ix_seq (pv 1) (pe_call G hr rfl mG kG bG .nil pass0 (pa_cons (pv 0) (pa_cons (pe_callB call_len (by rfl) ml PySem.boot_len (pa_cons (pv 1) pa_nil)) pa_nil))) (fun _ _ => rfl)))), ?_⟩
  have at_ : ∀ {α : Type} (l : List α) (r : Int), 0 ≤ r → r < (l.length : Int) → ∃ x, x ∈ l ∧ atI l r = some x := fun l r r0 r1 => by
    have hi : r.toNat < l.length := by omega
    have e : r = ((r.toNat : Nat) : Int) := by omega
    have k : atI l ((r.toNat : Nat) : Int) = some l[r.toNat] := atI_nat (List.getElem?_eq_getElem hi)
    rw [← e] at k
    exact ⟨_, List.getElem_mem hi, k⟩
  rcases h with ⟨p, xs, rfl, hp, hne, l0, l1, q⟩ | ⟨z, rfl, l0, l1, q⟩
  · refine ⟨_, rfl, _, rfl, _, rfl, _, _, rfl, .inl ⟨_, SqL.of hp, rfl⟩, d, c, _, rfl, hd, by omega, by omega, fun r H' r0 r1 hd' kp => ?_⟩
    obtain ⟨x, hx, ex⟩ := at_ xs r r0 r1
    exact .inl ⟨p, xs, r, x, rfl, rfl, SqL.of (kp _ _ hp hne), ex, q _ H' hx hd' kp⟩
  · refine ⟨_, rfl, _, rfl, _, rfl, _, _, rfl, ⟨small (show z.length ≤ 1000 from l1), rfl⟩, d, c, _, rfl, hd, by have : z.length = z.cps.size := rfl; omega, by have : z.length = z.cps.size := rfl; omega, fun r H' r0 r1 hd' kp => ?_⟩
    obtain ⟨x, hx, ex⟩ := at_ z.cps.toList r r0 (by rw [Array.length_toList]; exact r1)
    exact .inr (.inr ⟨z, r, x, rfl, rfl, small (show z.length ≤ 1000 from l1), ex, q _ H' hx hd' kp⟩)
end
end KK

set_option Elab.async false
set_option linter.all false
set_option maxRecDepth 100000
set_option maxHeartbeats 4000000
namespace KK
open PySem PySem.Spec PyProof.Rows L2 RT
/-! the forms of the classes -/
def Form0 (s : Stmt) (code : Str) : Prop := ∃ q1 q2 q3 q4 j, InitDef s ["self"] [.Assign [.Attribute (.Name "self" q1) "code" q2] (.Constant (.str code) j q3) q4]
def Form1 (s : Stmt) (fld code : Str) : Prop := ∃ q1 q2 q3 q4 j r1 r2 r3 r4, InitDef s ["self", fld] [.Assign [.Attribute (.Name "self" r1) fld r2] (.Name fld r3) r4, .Assign [.Attribute (.Name "self" q1) "code" q2] (.Constant (.str code) j q3) q4]
def Form2 (s : Stmt) (fld gld code : Str) : Prop := ∃ q1 q2 q3 q4 j r1 r2 r3 r4 u1 u2 u3 u4, InitDef s ["self", fld, gld] [.Assign [.Attribute (.Name "self" r1) fld r2] (.Name fld r3) r4, .Assign [.Attribute (.Name "self" u1) gld u2] (.Name gld u3) u4, .Assign [.Attribute (.Name "self" q1) "code" q2] (.Constant (.str code) j q3) q4]
theorem form_InvalidSize : Form1 (initOf (top 3)) "given" "InvalidSize" := ⟨_, _, _, _, _, _, _, _, _, ⟨⟨_, _, _, _, _, _, _, _, rfl, fun _ => ⟨_, rfl⟩⟩, ⟨_, rfl, rfl⟩, ⟨rfl, rfl, rfl, by decide +kernel, rfl, by decide +kernel, by decide +kernel, by decide +kernel⟩, rfl, rfl⟩⟩
theorem form_InvalidSheet : Form0 (initOf (top 4)) "InvalidSheet" := ⟨_, _, _, _, _, ⟨⟨_, _, _, _, _, _, _, _, rfl, fun _ => ⟨_, rfl⟩⟩, ⟨_, rfl, rfl⟩, ⟨rfl, rfl, rfl, by decide +kernel, rfl, by decide +kernel, by decide +kernel, by decide +kernel⟩, rfl, rfl⟩⟩
theorem form_InvalidTriangle : Form1 (initOf (top 5)) "at" "InvalidTriangle" := ⟨_, _, _, _, _, _, _, _, _, ⟨⟨_, _, _, _, _, _, _, _, rfl, fun _ => ⟨_, rfl⟩⟩, ⟨_, rfl, rfl⟩, ⟨rfl, rfl, rfl, by decide +kernel, rfl, by decide +kernel, by decide +kernel, by decide +kernel⟩, rfl, rfl⟩⟩
theorem form_InvalidOrder : Form0 (initOf (top 6)) "InvalidOrder" := ⟨_, _, _, _, _, ⟨⟨_, _, _, _, _, _, _, _, rfl, fun _ => ⟨_, rfl⟩⟩, ⟨_, rfl, rfl⟩, ⟨rfl, rfl, rfl, by decide +kernel, rfl, by decide +kernel, by decide +kernel, by decide +kernel⟩, rfl, rfl⟩⟩
theorem form_InvalidLine : Form1 (initOf (top 7)) "given" "InvalidLine" := ⟨_, _, _, _, _, _, _, _, _, ⟨⟨_, _, _, _, _, _, _, _, rfl, fun _ => ⟨_, rfl⟩⟩, ⟨_, rfl, rfl⟩, ⟨rfl, rfl, rfl, by decide +kernel, rfl, by decide +kernel, by decide +kernel, by decide +kernel⟩, rfl, rfl⟩⟩
theorem form_InvalidNail : Form1 (initOf (top 8)) "given" "InvalidNail" := ⟨_, _, _, _, _, _, _, _, _, ⟨⟨_, _, _, _, _, _, _, _, rfl, fun _ => ⟨_, rfl⟩⟩, ⟨_, rfl, rfl⟩, ⟨rfl, rfl, rfl, by decide +kernel, rfl, by decide +kernel, by decide +kernel, by decide +kernel⟩, rfl, rfl⟩⟩
theorem form_Unflippable : Form1 (initOf (top 9)) "at" "Unflippable" := ⟨_, _, _, _, _, _, _, _, _, ⟨⟨_, _, _, _, _, _, _, _, rfl, fun _ => ⟨_, rfl⟩⟩, ⟨_, rfl, rfl⟩, ⟨rfl, rfl, rfl, by decide +kernel, rfl, by decide +kernel, by decide +kernel, by decide +kernel⟩, rfl, rfl⟩⟩
theorem form_InvalidCounts : Form0 (initOf (top 10)) "InvalidCounts" := ⟨_, _, _, _, _, ⟨⟨_, _, _, _, _, _, _, _, rfl, fun _ => ⟨_, rfl⟩⟩, ⟨_, rfl, rfl⟩, ⟨rfl, rfl, rfl, by decide +kernel, rfl, by decide +kernel, by decide +kernel, by decide +kernel⟩, rfl, rfl⟩⟩
theorem form_Misfit : Form1 (initOf (top 11)) "at" "Misfit" := ⟨_, _, _, _, _, _, _, _, _, ⟨⟨_, _, _, _, _, _, _, _, rfl, fun _ => ⟨_, rfl⟩⟩, ⟨_, rfl, rfl⟩, ⟨rfl, rfl, rfl, by decide +kernel, rfl, by decide +kernel, by decide +kernel, by decide +kernel⟩, rfl, rfl⟩⟩
theorem form_InvalidFactor : Form1 (initOf (top 12)) "given" "InvalidFactor" := ⟨_, _, _, _, _, _, _, _, _, ⟨⟨_, _, _, _, _, _, _, _, rfl, fun _ => ⟨_, rfl⟩⟩, ⟨_, rfl, rfl⟩, ⟨rfl, rfl, rfl, by decide +kernel, rfl, by decide +kernel, by decide +kernel, by decide +kernel⟩, rfl, rfl⟩⟩
theorem form_InvalidPosition : Form1 (initOf (top 13)) "given" "InvalidPosition" := ⟨_, _, _, _, _, _, _, _, _, ⟨⟨_, _, _, _, _, _, _, _, rfl, fun _ => ⟨_, rfl⟩⟩, ⟨_, rfl, rfl⟩, ⟨rfl, rfl, rfl, by decide +kernel, rfl, by decide +kernel, by decide +kernel, by decide +kernel⟩, rfl, rfl⟩⟩
theorem form_OtherSheet : Form0 (initOf (top 14)) "OtherSheet" := ⟨_, _, _, _, _, ⟨⟨_, _, _, _, _, _, _, _, rfl, fun _ => ⟨_, rfl⟩⟩, ⟨_, rfl, rfl⟩, ⟨rfl, rfl, rfl, by decide +kernel, rfl, by decide +kernel, by decide +kernel, by decide +kernel⟩, rfl, rfl⟩⟩
theorem form_TooGreat : Form1 (initOf (top 15)) "most" "TooGreat" := ⟨_, _, _, _, _, _, _, _, _, ⟨⟨_, _, _, _, _, _, _, _, rfl, fun _ => ⟨_, rfl⟩⟩, ⟨_, rfl, rfl⟩, ⟨rfl, rfl, rfl, by decide +kernel, rfl, by decide +kernel, by decide +kernel, by decide +kernel⟩, rfl, rfl⟩⟩
theorem form_NotThread : Form0 (initOf (top 16)) "NotThread" := ⟨_, _, _, _, _, ⟨⟨_, _, _, _, _, _, _, _, rfl, fun _ => ⟨_, rfl⟩⟩, ⟨_, rfl, rfl⟩, ⟨rfl, rfl, rfl, by decide +kernel, rfl, by decide +kernel, by decide +kernel, by decide +kernel⟩, rfl, rfl⟩⟩
theorem form_EndsMeet : Form1 (initOf (top 17)) "line" "EndsMeet" := ⟨_, _, _, _, _, _, _, _, _, ⟨⟨_, _, _, _, _, _, _, _, rfl, fun _ => ⟨_, rfl⟩⟩, ⟨_, rfl, rfl⟩, ⟨rfl, rfl, rfl, by decide +kernel, rfl, by decide +kernel, by decide +kernel, by decide +kernel⟩, rfl, rfl⟩⟩
theorem form_InvalidPath : Form1 (initOf (top 18)) "at" "InvalidPath" := ⟨_, _, _, _, _, _, _, _, _, ⟨⟨_, _, _, _, _, _, _, _, rfl, fun _ => ⟨_, rfl⟩⟩, ⟨_, rfl, rfl⟩, ⟨rfl, rfl, rfl, by decide +kernel, rfl, by decide +kernel, by decide +kernel, by decide +kernel⟩, rfl, rfl⟩⟩
theorem form_NotPlain : Form0 (initOf (top 19)) "NotPlain" := ⟨_, _, _, _, _, ⟨⟨_, _, _, _, _, _, _, _, rfl, fun _ => ⟨_, rfl⟩⟩, ⟨_, rfl, rfl⟩, ⟨rfl, rfl, rfl, by decide +kernel, rfl, by decide +kernel, by decide +kernel, by decide +kernel⟩, rfl, rfl⟩⟩
theorem form_InvalidRenaming : Form0 (initOf (top 20)) "InvalidRenaming" := ⟨_, _, _, _, _, ⟨⟨_, _, _, _, _, _, _, _, rfl, fun _ => ⟨_, rfl⟩⟩, ⟨_, rfl, rfl⟩, ⟨rfl, rfl, rfl, by decide +kernel, rfl, by decide +kernel, by decide +kernel, by decide +kernel⟩, rfl, rfl⟩⟩
theorem form_InvalidTurn : Form1 (initOf (top 21)) "line" "InvalidTurn" := ⟨_, _, _, _, _, _, _, _, _, ⟨⟨_, _, _, _, _, _, _, _, rfl, fun _ => ⟨_, rfl⟩⟩, ⟨_, rfl, rfl⟩, ⟨rfl, rfl, rfl, by decide +kernel, rfl, by decide +kernel, by decide +kernel, by decide +kernel⟩, rfl, rfl⟩⟩
theorem form_InvalidName : Form1 (initOf (top 22)) "name" "InvalidName" := ⟨_, _, _, _, _, _, _, _, _, ⟨⟨_, _, _, _, _, _, _, _, rfl, fun _ => ⟨_, rfl⟩⟩, ⟨_, rfl, rfl⟩, ⟨rfl, rfl, rfl, by decide +kernel, rfl, by decide +kernel, by decide +kernel, by decide +kernel⟩, rfl, rfl⟩⟩
theorem form_DuplicateName : Form1 (initOf (top 23)) "name" "DuplicateName" := ⟨_, _, _, _, _, _, _, _, _, ⟨⟨_, _, _, _, _, _, _, _, rfl, fun _ => ⟨_, rfl⟩⟩, ⟨_, rfl, rfl⟩, ⟨rfl, rfl, rfl, by decide +kernel, rfl, by decide +kernel, by decide +kernel, by decide +kernel⟩, rfl, rfl⟩⟩
theorem form_TooMany : Form1 (initOf (top 24)) "most" "TooMany" := ⟨_, _, _, _, _, _, _, _, _, ⟨⟨_, _, _, _, _, _, _, _, rfl, fun _ => ⟨_, rfl⟩⟩, ⟨_, rfl, rfl⟩, ⟨rfl, rfl, rfl, by decide +kernel, rfl, by decide +kernel, by decide +kernel, by decide +kernel⟩, rfl, rfl⟩⟩
theorem form_Entangled : Form2 (initOf (top 25)) "first" "second" "Entangled" := ⟨_, _, _, _, _, _, _, _, _, _, _, _, _, ⟨⟨_, _, _, _, _, _, _, _, rfl, fun _ => ⟨_, rfl⟩⟩, ⟨_, rfl, rfl⟩, ⟨rfl, rfl, rfl, by decide +kernel, rfl, by decide +kernel, by decide +kernel, by decide +kernel⟩, rfl, rfl⟩⟩
theorem form_InvalidDeed : Form1 (initOf (top 26)) "at" "InvalidDeed" := ⟨_, _, _, _, _, _, _, _, _, ⟨⟨_, _, _, _, _, _, _, _, rfl, fun _ => ⟨_, rfl⟩⟩, ⟨_, rfl, rfl⟩, ⟨rfl, rfl, rfl, by decide +kernel, rfl, by decide +kernel, by decide +kernel, by decide +kernel⟩, rfl, rfl⟩⟩
theorem form_InvalidLimit : Form1 (initOf (top 27)) "given" "InvalidLimit" := ⟨_, _, _, _, _, _, _, _, _, ⟨⟨_, _, _, _, _, _, _, _, rfl, fun _ => ⟨_, rfl⟩⟩, ⟨_, rfl, rfl⟩, ⟨rfl, rfl, rfl, by decide +kernel, rfl, by decide +kernel, by decide +kernel, by decide +kernel⟩, rfl, rfl⟩⟩
theorem form_InvalidText : Form0 (initOf (top 28)) "InvalidText" := ⟨_, _, _, _, _, ⟨⟨_, _, _, _, _, _, _, _, rfl, fun _ => ⟨_, rfl⟩⟩, ⟨_, rfl, rfl⟩, ⟨rfl, rfl, rfl, by decide +kernel, rfl, by decide +kernel, by decide +kernel, by decide +kernel⟩, rfl, rfl⟩⟩
theorem form_InvalidPage : Form1 (initOf (top 29)) "line" "InvalidPage" := ⟨_, _, _, _, _, _, _, _, _, ⟨⟨_, _, _, _, _, _, _, _, rfl, fun _ => ⟨_, rfl⟩⟩, ⟨_, rfl, rfl⟩, ⟨rfl, rfl, rfl, by decide +kernel, rfl, by decide +kernel, by decide +kernel, by decide +kernel⟩, rfl, rfl⟩⟩
theorem form_UnknownName : Form1 (initOf (top 30)) "name" "UnknownName" := ⟨_, _, _, _, _, _, _, _, _, ⟨⟨_, _, _, _, _, _, _, _, rfl, fun _ => ⟨_, rfl⟩⟩, ⟨_, rfl, rfl⟩, ⟨rfl, rfl, rfl, by decide +kernel, rfl, by decide +kernel, by decide +kernel, by decide +kernel⟩, rfl, rfl⟩⟩
theorem form_NothingLeft : Form0 (initOf (top 31)) "NothingLeft" := ⟨_, _, _, _, _, ⟨⟨_, _, _, _, _, _, _, _, rfl, fun _ => ⟨_, rfl⟩⟩, ⟨_, rfl, rfl⟩, ⟨rfl, rfl, rfl, by decide +kernel, rfl, by decide +kernel, by decide +kernel, by decide +kernel⟩, rfl, rfl⟩⟩
/-! what the written part must say of such a class -/
abbrev bmV : List Value := [.type "ValueError", .type "Exception", .type "BaseException", .type "object"]
abbrev bmL : List Value := [.type "LookupError", .type "Exception", .type "BaseException", .type "object"]
abbrev bmI : List Value := [.type "IndexError", .type "LookupError", .type "Exception", .type "BaseException", .type "object"]
/-- the three bases -/
structure Root (B newId iId : String) (bmB : List Value) : Prop where
  fb : ExcBaseFacts B newId iId bmB
  kf : PySem.W.KxsFacts B iId
  sf : StoreFacts B bmB "object.__setattr__" "object"
theorem rootV : Root "ValueError" "ValueError.__new__" "ValueError.__init__" bmV := ⟨PySem.F.excBase_ValueError, PySem.W.kxs_ValueError, PySem.F.store_ValueError⟩
theorem rootL : Root "LookupError" "LookupError.__new__" "LookupError.__init__" bmL := ⟨PySem.F.excBase_LookupError, PySem.W.kxs_LookupError, PySem.F.store_LookupError⟩
theorem rootI : Root "IndexError" "IndexError.__new__" "IndexError.__init__" bmI := ⟨PySem.F.excBase_IndexError, PySem.W.kxs_IndexError, PySem.F.store_IndexError⟩
def cellB (K : PySem.W.Frag) (cc C : Addr) : Bool := match K.lookup cc with
  | some ⟨_, _, .cell (some (.ref D)), _⟩ => D == C
  | _ => false
theorem cellB_ok {K : PySem.W.Frag} {cc C : Addr} (h : cellB K cc C = true) : ∃ cl cld csl, K.lookup cc = some ⟨cl, cld, .cell (some (.ref C)), csl⟩ := by
  unfold cellB at h
  split at h
  · rename_i e
    have z := eq_of_beq h
    subst z
    exact ⟨_, _, _, e⟩
  · cases h
def codeB (P : Program) (K : PySem.W.Frag) (cda : Addr) : Bool := match K.lookup cda with
  | some ⟨_, _, .fields vs, _⟩ => (match (vs[2]? : Option Value) with | some (.str file _) => (P.main.file : Str) == file | _ => false)
  | _ => false
theorem codeB_ok {P : Program} {K : PySem.W.Frag} {cda : Addr} (h : codeB P K cda = true) : ∃ ccl cdd vs ccs file tf, K.lookup cda = some ⟨ccl, cdd, .fields vs, ccs⟩ ∧ vs[2]? = some (.str file tf) ∧ ((P.main.file : Str) == file) = true := by
  unfold codeB at h
  split at h
  · rename_i e
    split at h
    · rename_i e2
      exact ⟨_, _, _, _, _, _, e, e2, h⟩
    · cases h
  · cases h
/-- of the class alone -/
def clsB (K : PySem.W.Frag) (C fI : Addr) (B newId iId : String) (bmB : List Value) : Bool :=
  PySem.W.excInitIn K C bmB newId && (PySem.W.excOver K C bmB && (PySem.W.hasDictIn K C && (PySem.W.keepIn K (.ref C) && (decide (PySem.W.ks_superIn K C C "__init__" = some (some (.builtin iId))) && (decide (PySem.W.subIn K (.ref C) (.type B) = some true) && (decide (PySem.W.subIn K (.ref C) (.type "BaseException") = some true) &&
  (decide (PySem.W.mroIn K C (.ref C) = some true) && (decide (PySem.W.mroIn K C (.type "object") = some true) && decide (PySem.W.typeIn K (.ref fI) = some (.type "function"))))))))))
/-- the words that are looked up in it -/
def wordsB (K : PySem.W.Frag) (C : Addr) (fs : List Str) : Bool :=
  decide (PySem.W.findIn K (.ref C) "__setattr__" = some (some (.builtin "object.__setattr__"))) && (decide (PySem.W.findIn K (.ref C) "__getattribute__" = some (some (.builtin "BaseException.__getattribute__"))) && (decide (PySem.W.findIn K (.ref C) "__getattr__" = some none) &&
  (decide (PySem.W.findIn K (.ref C) "__class__" = some (some (.builtin "object.__class__"))) && fs.all fun f => decide (PySem.W.findIn K (.ref C) f = some none))))
/-- its kinds: ThreadError, ValueError, Missing, LookupError, IndexError -/
def kindsB (K : PySem.W.Frag) (C cT cM : Addr) (t v m l i : Bool) : Bool :=
  decide (PySem.W.kitOne K (.ref C) (.ref cT) = some t) && (decide (PySem.W.kitOne K (.ref C) (.type "ValueError") = some v) && (decide (PySem.W.kitOne K (.ref C) (.ref cM) = some m) && (decide (PySem.W.kitOne K (.ref C) (.type "LookupError") = some l) && decide (PySem.W.kitOne K (.ref C) (.type "IndexError") = some i))))
end KK

set_option Elab.async false
set_option linter.all false
set_option maxRecDepth 100000
set_option maxHeartbeats 4000000
namespace KK
open PySem PySem.Spec PyProof.Rows L2 RT
/-- a kind of error: its name, its class, its fields, whether it is an error of values -/
structure RowD where
  x : Str
  C : Addr
  fls : List Str
  plain : Bool
def mkOf (x : Str) (fls : List Str) (ws : List V) : List (Str × V) := (("code" : Str), V.str x) :: (fls.zip ws).reverse
structure Env1 (P : Program) (K : PySem.W.Frag) (mg : Str → Option Value) : Prop where
  opq : PySem.W.nsIn K PySem.cStatics "thirdparty.any" = some none
  msup : mg "super" = none
  top : (P.main.scope.names.lookup ("super" : Str)).isSome = false
  hn : PySem.W.specialIn K (.builtin "object.__class__") "__get__" = some (some (.builtin "getset_descriptor.__get__"))
  ht : PySem.W.takesIn K (.builtin "object.__class__") = some true
structure ErrK (P : Program) (w : World) (K : PySem.W.Frag) (mg : Str → Option Value) (base : Heap) (r : RowD) : Prop where
  ex : ∃ (fI cc cda : Addr) (fd : FuncData) (ps : List Str) (B newId iId : String) (bmB : List Value), ps.length = r.fls.length + 1 ∧ SupC P K mg r.C cc cda B newId iId bmB ∧ PySem.W.findIn K (.ref r.C) "__init__" = some (some (.ref fI)) ∧ PySem.W.typeIn K (.ref fI) = some (.type "function") ∧
    FnOk P w K mg base CX0 1 fI fd ps (spErr r.C r.fls.length (mkOf r.x r.fls)) ∧ XBinds K fd ps [] ∧ XBinds K fd ps r.fls
  at_ : mg r.x = some (.ref r.C)
  kp : PySem.W.keepIn K (.ref r.C) = true
  xf : XfC K r.C
  ec : ExcC K r.C
  no : ∀ f ∈ ("code" : Str) :: r.fls, PySem.W.findIn K (.ref r.C) f = some none
theorem ErrK.mk0 {X : Cx} {r : RowD} (h : ErrK X.prog X.w X.K X.mg X.base r) (gl : Gl X r.x) (hr : Room 2 X.A) (hx : Passes CX0 X (fun _ _ _ => False)) : MkE X r.x r.C [] r.fls.length (mkOf r.x r.fls) := by
  obtain ⟨fI, cc, cda, fd, ps, B, newId, iId, bmB, e1, e2, e3, e4, e5, e6, e7⟩ := h.ex
  exact ⟨⟨_, 1, fI, cc, cda, fd, ps, B, newId, iId, bmB, e1, e2, e3, e4, e5, hr, e6, hx⟩, gl, h.at_, h.kp⟩
theorem ErrK.mkk {X : Cx} {r : RowD} (h : ErrK X.prog X.w X.K X.mg X.base r) (gl : Gl X r.x) (hr : Room 2 X.A) (hx : Passes CX0 X (fun _ _ _ => False)) : MkE X r.x r.C r.fls r.fls.length (mkOf r.x r.fls) := by
  obtain ⟨fI, cc, cda, fd, ps, B, newId, iId, bmB, e1, e2, e3, e4, e5, e6, e7⟩ := h.ex
  exact ⟨⟨_, 1, fI, cc, cda, fd, ps, B, newId, iId, bmB, e1, e2, e3, e4, e5, hr, e7, hx⟩, gl, h.at_, h.kp⟩
/-- what the end tells of a class -/
structure ClsD (P : Program) (K : PySem.W.Frag) (x qual : Str) (s : Stmt) (cT cM : Addr) (B newId iId : String) (bmB : List Value) (fls : List Str) (k1 k2 k3 k4 k5 : Bool) : Prop where
  ex : ∃ (C fI cc cda : Addr) (oc kV doc pm ct : Value) (od an : Option Addr) (osl : Array (Option Value)), PySem.W.nsIn K mainGlobals x = some (some (.ref C)) ∧ PySem.W.findIn K (.ref C) "__init__" = some (some (.ref fI)) ∧
    K.lookup fI = some ⟨oc, od, .func (PySem.W.ksFn "__init__" qual (defArgs s) (defBody s) (defScope s) .none kV doc pm an (.ref cda) ct cc), osl⟩ ∧ PySem.W.codeIn K (.ref cda) qual = true ∧ cellB K cc C = true ∧ codeB P K cda = true ∧ clsB K C fI B newId iId bmB = true ∧
    wordsB K C (("code" : Str) :: fls) = true ∧ kindsB K C cT cM k1 k2 k3 k4 k5 = true
theorem cls_mk {P : Program} {K : PySem.W.Frag} {x qual : Str} {s : Stmt} {cT cM : Addr} {B newId iId : String} {bmB : List Value} {fls : List Str} {k1 k2 k3 k4 k5 : Bool} {C fI cc cda : Addr} {oc kV doc pm ct : Value} {od an : Option Addr} {osl : Array (Option Value)}
    (a : PySem.W.nsIn K mainGlobals x = some (some (.ref C))) (i : PySem.W.findIn K (.ref C) "__init__" = some (some (.ref fI)))
    (l : K.lookup fI = some ⟨oc, od, .func (PySem.W.ksFn "__init__" qual (defArgs s) (defBody s) (defScope s) .none kV doc pm an (.ref cda) ct cc), osl⟩) (c : PySem.W.codeIn K (.ref cda) qual = true) (b : cellB K cc C = true) (d : codeB P K cda = true) (e : clsB K C fI B newId iId bmB = true)
    (f : wordsB K C (("code" : Str) :: fls) = true) (g : kindsB K C cT cM k1 k2 k3 k4 k5 = true) : ClsD P K x qual s cT cM B newId iId bmB fls k1 k2 k3 k4 k5 := ⟨C, fI, cc, cda, oc, kV, doc, pm, ct, od, an, osl, a, i, l, c, b, d, e, f, g⟩
section
variable {P : Program} {w : World} {K : PySem.W.Frag} {mg : Str → Option Value} {base : Heap} {B newId iId : String} {bmB : List Value} {C fI cc cda : Addr} {fs : List Str} {h : Heap}
theorem facts_of (R : Root B newId iId bmB) (Ev : Env1 P K mg) (b : cellB K cc C = true) (d : codeB P K cda = true) (e : clsB K C fI B newId iId bmB = true) (f : wordsB K C fs = true) :
    SupC P K mg C cc cda B newId iId bmB ∧ ErrC K C B bmB ∧ XfC K C ∧ ExcC K C ∧ PySem.W.keepIn K (.ref C) = true ∧ PySem.W.typeIn K (.ref fI) = some (.type "function") ∧ ∀ g ∈ fs, PySem.W.findIn K (.ref C) g = some none := by
  unfold clsB at e
  simp only [Bool.and_eq_true, decide_eq_true_eq] at e
  obtain ⟨e1, e2, e3, e4, e5, e6, e7, e8, e9, e10⟩ := e
  unfold wordsB at f
  simp only [Bool.and_eq_true, decide_eq_true_eq, List.all_eq_true] at f
  obtain ⟨f1, f2, f3, f4, f5⟩ := f
  exact ⟨⟨R.fb, R.kf, e1, cellB_ok b, codeB_ok d, e5, e6, e8, Ev.opq, Ev.msup, Ev.top⟩, ⟨R.sf, e2, f1, e3⟩, ⟨f2, f3, e7, e3⟩, ⟨f2, f3, e7, e3, f4, Ev.hn, Ev.ht, e9⟩, e4, e10, f5⟩
theorem FnOk.by_ {k : Nat} {f : Addr} {fd : FuncData} {ps : List Str} {sp sp' : Sp} (F : FnOk P w K mg base CX0 k f fd ps sp) (i : ∀ vs H Q E, sp' vs H Q E → sp vs H Q E) : FnOk P w K mg base CX0 k f fd ps sp' :=
  ⟨fun vs H Q E z => F.len vs H Q E (i _ _ _ _ z), fun A outer s H args us vs Q E hr e0 hb r z => F.run A outer s H args us vs Q E hr e0 hb r (i _ _ _ _ z)⟩
theorem spErr_by {C : Addr} {n : Nat} {m m' : List V → List (Str × V)} (e : ∀ ws, ws.length = n → m ws = m' ws) : ∀ vs H Q E, spErr C n m' vs H Q E → spErr C n m vs H Q E := fun vs H Q E z => by
  obtain ⟨a, ws, e1, e2, e3, e4⟩ := z
  exact ⟨a, ws, e1, e2, e3, by rw [e ws e2]; exact e4⟩
variable {x qual : Str} {s : Stmt} {cT cM : Addr} {fls : List Str} {k1 k2 k3 k4 k5 pl : Bool}
/-- from the end's facts to what is used -/
theorem err_mk (R : Root B newId iId bmB) (Ev : Env1 P K mg) (X : K.In h) (G : h.Ns mainGlobals mg) (D : ClsD P K x qual s cT cM B newId iId bmB fls k1 k2 k3 k4 k5) (ps : List Str) (hps : ps.length = fls.length + 1)
    (ok : ∀ {C fI cc cda : Addr} {fd : FuncData} {base : Heap}, InitFn K qual s fI fd cda cc → SupC P K mg C cc cda B newId iId bmB → ErrC K C B bmB → (∀ g ∈ ("code" : Str) :: fls, PySem.W.findIn K (.ref C) g = some none) → FnOk P w K mg base CX0 1 fI fd ps (spErr C fls.length (mkOf x fls)))
    (b0 : ∀ {kV doc pm ct cd : Value} {an : Option Addr} {cc : Addr}, XBinds K (PySem.W.ksFn "__init__" qual (defArgs s) (defBody s) (defScope s) .none kV doc pm an cd ct cc) ps [])
    (b1 : ∀ {kV doc pm ct cd : Value} {an : Option Addr} {cc : Addr}, XBinds K (PySem.W.ksFn "__init__" qual (defArgs s) (defBody s) (defScope s) .none kV doc pm an cd ct cc) ps fls) :
    ∃ C : Addr, (∀ base : Heap, ErrK P w K mg base ⟨x, C, fls, pl⟩) ∧ kindsB K C cT cM k1 k2 k3 k4 k5 = true := by
  obtain ⟨C, fI, cc, cda, oc, kV, doc, pm, ct, od, an, osl, a, i, l, c, b, d, e, f, g⟩ := D.ex
  obtain ⟨S, E, xf, ec, kp, ti, no⟩ := facts_of R Ev b d e f
  have F : InitFn K qual s fI _ cda cc := ⟨⟨oc, od, .none, kV, doc, pm, ct, an, osl, rfl, l, c⟩⟩
  exact ⟨C, fun base => ⟨⟨fI, cc, cda, _, ps, B, newId, iId, bmB, hps, S, i, ti, ok F S E no, b0, b1⟩, PySem.W.mg_of X G a, kp, xf, ec, no⟩, g⟩
theorem err0 (R : Root B newId iId bmB) (Ev : Env1 P K mg) (X : K.In h) (G : h.Ns mainGlobals mg) (D : ClsD P K x qual s cT cM B newId iId bmB [] k1 k2 k3 k4 k5) (Fm : Form0 s x)
    (b0 : ∀ {kV doc pm ct cd : Value} {an : Option Addr} {cc : Addr}, XBinds K (PySem.W.ksFn "__init__" qual (defArgs s) (defBody s) (defScope s) .none kV doc pm an cd ct cc) ["self"] []) :
    ∃ C : Addr, (∀ base : Heap, ErrK P w K mg base ⟨x, C, [], pl⟩) ∧ kindsB K C cT cM k1 k2 k3 k4 k5 = true := by
  refine err_mk R Ev X G D ["self"] rfl (fun {C fI cc cda fd base} F S E no => ?_) b0 b0
  obtain ⟨q1, q2, q3, q4, j, Df⟩ := Fm
  exact FnOk.by_ (ok_err0 Df F S E (no _ (by simp))) (spErr_by fun ws hl => by cases ws with | nil => rfl | cons _ _ => cases hl)
theorem err1 {fld : Str} (R : Root B newId iId bmB) (Ev : Env1 P K mg) (X : K.In h) (G : h.Ns mainGlobals mg) (D : ClsD P K x qual s cT cM B newId iId bmB [fld] k1 k2 k3 k4 k5) (Fm : Form1 s fld x) (n1 : (fld == ("__debug__" : Str)) = false) (n2 : (fld == ("__classdict__" : Str)) = false)
    (b0 : ∀ {kV doc pm ct cd : Value} {an : Option Addr} {cc : Addr}, XBinds K (PySem.W.ksFn "__init__" qual (defArgs s) (defBody s) (defScope s) .none kV doc pm an cd ct cc) ["self", fld] [])
    (b1 : ∀ {kV doc pm ct cd : Value} {an : Option Addr} {cc : Addr}, XBinds K (PySem.W.ksFn "__init__" qual (defArgs s) (defBody s) (defScope s) .none kV doc pm an cd ct cc) ["self", fld] [fld]) :
    ∃ C : Addr, (∀ base : Heap, ErrK P w K mg base ⟨x, C, [fld], pl⟩) ∧ kindsB K C cT cM k1 k2 k3 k4 k5 = true := by
  refine err_mk R Ev X G D ["self", fld] rfl (fun {C fI cc cda fd base} F S E no => ?_) b0 b1
  obtain ⟨q1, q2, q3, q4, j, r1, r2, r3, r4, Df⟩ := Fm
  exact FnOk.by_ (ok_err1 Df F S E (no _ (by simp)) (no _ (by simp)) n1 n2) (spErr_by fun ws hl => by match ws, hl with | [_], _ => rfl)
theorem err2 {fld gld : Str} (R : Root B newId iId bmB) (Ev : Env1 P K mg) (X : K.In h) (G : h.Ns mainGlobals mg) (D : ClsD P K x qual s cT cM B newId iId bmB [fld, gld] k1 k2 k3 k4 k5) (Fm : Form2 s fld gld x) (n1 : (fld == ("__debug__" : Str)) = false) (n2 : (fld == ("__classdict__" : Str)) = false) (m1 : (gld == ("__debug__" : Str)) = false) (m2 : (gld == ("__classdict__" : Str)) = false)
    (b0 : ∀ {kV doc pm ct cd : Value} {an : Option Addr} {cc : Addr}, XBinds K (PySem.W.ksFn "__init__" qual (defArgs s) (defBody s) (defScope s) .none kV doc pm an cd ct cc) ["self", fld, gld] [])
    (b1 : ∀ {kV doc pm ct cd : Value} {an : Option Addr} {cc : Addr}, XBinds K (PySem.W.ksFn "__init__" qual (defArgs s) (defBody s) (defScope s) .none kV doc pm an cd ct cc) ["self", fld, gld] [fld, gld]) :
    ∃ C : Addr, (∀ base : Heap, ErrK P w K mg base ⟨x, C, [fld, gld], pl⟩) ∧ kindsB K C cT cM k1 k2 k3 k4 k5 = true := by
  refine err_mk R Ev X G D ["self", fld, gld] rfl (fun {C fI cc cda fd base} F S E no => ?_) b0 b1
  obtain ⟨q1, q2, q3, q4, j, r1, r2, r3, r4, u1, u2, u3, u4, Df⟩ := Fm
  exact FnOk.by_ (ok_err2 Df F S E (no _ (by simp)) (no _ (by simp)) (no _ (by simp)) n1 n2 m1 m2) (spErr_by fun ws hl => by match ws, hl with | [_, _], _ => rfl)
end
theorem two_len {us ws : List Value} {n m : Nat} (h1 : ws.length = m) (h2 : (us ++ ws).length = n + m) : us.length = n ∧ ws.length = m := by rw [List.length_append] at h2; omega
section
variable {K : PySem.W.Frag} {q : Str} {kV doc pm ct cd : Value} {an : Option Addr} {cc : Addr}
theorem bind_InvalidSize : XBinds K (PySem.W.ksFn "__init__" q (defArgs (initOf (top 3))) (defBody (initOf (top 3))) (defScope (initOf (top 3))) .none kV doc pm an cd ct cc) ["self", "given"] [] := fun s us ws _ h1 h2 => by
  obtain ⟨k1, k2⟩ := two_len (n := 2) (m := 0) h1 h2
  match us, ws, k1, k2 with
  | [_, _], [], _, _ => exact .of_eq rfl
theorem bindk_InvalidSize : XBinds K (PySem.W.ksFn "__init__" q (defArgs (initOf (top 3))) (defBody (initOf (top 3))) (defScope (initOf (top 3))) .none kV doc pm an cd ct cc) ["self", "given"] ["given"] := fun s us ws _ h1 h2 => by
  obtain ⟨k1, k2⟩ := two_len (n := 1) (m := 1) h1 h2
  match us, ws, k1, k2 with
  | [_], [_], _, _ => exact .of_eq rfl
theorem bind_InvalidSheet : XBinds K (PySem.W.ksFn "__init__" q (defArgs (initOf (top 4))) (defBody (initOf (top 4))) (defScope (initOf (top 4))) .none kV doc pm an cd ct cc) ["self"] [] := fun s us ws _ h1 h2 => by
  obtain ⟨k1, k2⟩ := two_len (n := 1) (m := 0) h1 h2
  match us, ws, k1, k2 with
  | [_], [], _, _ => exact .of_eq rfl
theorem bind_InvalidTriangle : XBinds K (PySem.W.ksFn "__init__" q (defArgs (initOf (top 5))) (defBody (initOf (top 5))) (defScope (initOf (top 5))) .none kV doc pm an cd ct cc) ["self", "at"] [] := fun s us ws _ h1 h2 => by
  obtain ⟨k1, k2⟩ := two_len (n := 2) (m := 0) h1 h2
  match us, ws, k1, k2 with
  | [_, _], [], _, _ => exact .of_eq rfl
theorem bindk_InvalidTriangle : XBinds K (PySem.W.ksFn "__init__" q (defArgs (initOf (top 5))) (defBody (initOf (top 5))) (defScope (initOf (top 5))) .none kV doc pm an cd ct cc) ["self", "at"] ["at"] := fun s us ws _ h1 h2 => by
  obtain ⟨k1, k2⟩ := two_len (n := 1) (m := 1) h1 h2
  match us, ws, k1, k2 with
  | [_], [_], _, _ => exact .of_eq rfl
theorem bind_InvalidOrder : XBinds K (PySem.W.ksFn "__init__" q (defArgs (initOf (top 6))) (defBody (initOf (top 6))) (defScope (initOf (top 6))) .none kV doc pm an cd ct cc) ["self"] [] := fun s us ws _ h1 h2 => by
  obtain ⟨k1, k2⟩ := two_len (n := 1) (m := 0) h1 h2
  match us, ws, k1, k2 with
  | [_], [], _, _ => exact .of_eq rfl
theorem bind_InvalidLine : XBinds K (PySem.W.ksFn "__init__" q (defArgs (initOf (top 7))) (defBody (initOf (top 7))) (defScope (initOf (top 7))) .none kV doc pm an cd ct cc) ["self", "given"] [] := fun s us ws _ h1 h2 => by
  obtain ⟨k1, k2⟩ := two_len (n := 2) (m := 0) h1 h2
  match us, ws, k1, k2 with
  | [_, _], [], _, _ => exact .of_eq rfl
theorem bindk_InvalidLine : XBinds K (PySem.W.ksFn "__init__" q (defArgs (initOf (top 7))) (defBody (initOf (top 7))) (defScope (initOf (top 7))) .none kV doc pm an cd ct cc) ["self", "given"] ["given"] := fun s us ws _ h1 h2 => by
  obtain ⟨k1, k2⟩ := two_len (n := 1) (m := 1) h1 h2
  match us, ws, k1, k2 with
  | [_], [_], _, _ => exact .of_eq rfl
theorem bind_InvalidNail : XBinds K (PySem.W.ksFn "__init__" q (defArgs (initOf (top 8))) (defBody (initOf (top 8))) (defScope (initOf (top 8))) .none kV doc pm an cd ct cc) ["self", "given"] [] := fun s us ws _ h1 h2 => by
  obtain ⟨k1, k2⟩ := two_len (n := 2) (m := 0) h1 h2
  match us, ws, k1, k2 with
  | [_, _], [], _, _ => exact .of_eq rfl
theorem bindk_InvalidNail : XBinds K (PySem.W.ksFn "__init__" q (defArgs (initOf (top 8))) (defBody (initOf (top 8))) (defScope (initOf (top 8))) .none kV doc pm an cd ct cc) ["self", "given"] ["given"] := fun s us ws _ h1 h2 => by
  obtain ⟨k1, k2⟩ := two_len (n := 1) (m := 1) h1 h2
  match us, ws, k1, k2 with
  | [_], [_], _, _ => exact .of_eq rfl
theorem bind_Unflippable : XBinds K (PySem.W.ksFn "__init__" q (defArgs (initOf (top 9))) (defBody (initOf (top 9))) (defScope (initOf (top 9))) .none kV doc pm an cd ct cc) ["self", "at"] [] := fun s us ws _ h1 h2 => by
  obtain ⟨k1, k2⟩ := two_len (n := 2) (m := 0) h1 h2
  match us, ws, k1, k2 with
  | [_, _], [], _, _ => exact .of_eq rfl
theorem bindk_Unflippable : XBinds K (PySem.W.ksFn "__init__" q (defArgs (initOf (top 9))) (defBody (initOf (top 9))) (defScope (initOf (top 9))) .none kV doc pm an cd ct cc) ["self", "at"] ["at"] := fun s us ws _ h1 h2 => by
  obtain ⟨k1, k2⟩ := two_len (n := 1) (m := 1) h1 h2
  match us, ws, k1, k2 with
  | [_], [_], _, _ => exact .of_eq rfl
theorem bind_InvalidCounts : XBinds K (PySem.W.ksFn "__init__" q (defArgs (initOf (top 10))) (defBody (initOf (top 10))) (defScope (initOf (top 10))) .none kV doc pm an cd ct cc) ["self"] [] := fun s us ws _ h1 h2 => by
  obtain ⟨k1, k2⟩ := two_len (n := 1) (m := 0) h1 h2
  match us, ws, k1, k2 with
  | [_], [], _, _ => exact .of_eq rfl
theorem bind_Misfit : XBinds K (PySem.W.ksFn "__init__" q (defArgs (initOf (top 11))) (defBody (initOf (top 11))) (defScope (initOf (top 11))) .none kV doc pm an cd ct cc) ["self", "at"] [] := fun s us ws _ h1 h2 => by
  obtain ⟨k1, k2⟩ := two_len (n := 2) (m := 0) h1 h2
  match us, ws, k1, k2 with
  | [_, _], [], _, _ => exact .of_eq rfl
theorem bindk_Misfit : XBinds K (PySem.W.ksFn "__init__" q (defArgs (initOf (top 11))) (defBody (initOf (top 11))) (defScope (initOf (top 11))) .none kV doc pm an cd ct cc) ["self", "at"] ["at"] := fun s us ws _ h1 h2 => by
  obtain ⟨k1, k2⟩ := two_len (n := 1) (m := 1) h1 h2
  match us, ws, k1, k2 with
  | [_], [_], _, _ => exact .of_eq rfl
theorem bind_InvalidFactor : XBinds K (PySem.W.ksFn "__init__" q (defArgs (initOf (top 12))) (defBody (initOf (top 12))) (defScope (initOf (top 12))) .none kV doc pm an cd ct cc) ["self", "given"] [] := fun s us ws _ h1 h2 => by
  obtain ⟨k1, k2⟩ := two_len (n := 2) (m := 0) h1 h2
  match us, ws, k1, k2 with
  | [_, _], [], _, _ => exact .of_eq rfl
theorem bindk_InvalidFactor : XBinds K (PySem.W.ksFn "__init__" q (defArgs (initOf (top 12))) (defBody (initOf (top 12))) (defScope (initOf (top 12))) .none kV doc pm an cd ct cc) ["self", "given"] ["given"] := fun s us ws _ h1 h2 => by
  obtain ⟨k1, k2⟩ := two_len (n := 1) (m := 1) h1 h2
  match us, ws, k1, k2 with
  | [_], [_], _, _ => exact .of_eq rfl
theorem bind_InvalidPosition : XBinds K (PySem.W.ksFn "__init__" q (defArgs (initOf (top 13))) (defBody (initOf (top 13))) (defScope (initOf (top 13))) .none kV doc pm an cd ct cc) ["self", "given"] [] := fun s us ws _ h1 h2 => by
  obtain ⟨k1, k2⟩ := two_len (n := 2) (m := 0) h1 h2
  match us, ws, k1, k2 with
  | [_, _], [], _, _ => exact .of_eq rfl
theorem bindk_InvalidPosition : XBinds K (PySem.W.ksFn "__init__" q (defArgs (initOf (top 13))) (defBody (initOf (top 13))) (defScope (initOf (top 13))) .none kV doc pm an cd ct cc) ["self", "given"] ["given"] := fun s us ws _ h1 h2 => by
  obtain ⟨k1, k2⟩ := two_len (n := 1) (m := 1) h1 h2
  match us, ws, k1, k2 with
  | [_], [_], _, _ => exact .of_eq rfl
theorem bind_OtherSheet : XBinds K (PySem.W.ksFn "__init__" q (defArgs (initOf (top 14))) (defBody (initOf (top 14))) (defScope (initOf (top 14))) .none kV doc pm an cd ct cc) ["self"] [] := fun s us ws _ h1 h2 => by
  obtain ⟨k1, k2⟩ := two_len (n := 1) (m := 0) h1 h2
  match us, ws, k1, k2 with
  | [_], [], _, _ => exact .of_eq rfl
theorem bind_TooGreat : XBinds K (PySem.W.ksFn "__init__" q (defArgs (initOf (top 15))) (defBody (initOf (top 15))) (defScope (initOf (top 15))) .none kV doc pm an cd ct cc) ["self", "most"] [] := fun s us ws _ h1 h2 => by
  obtain ⟨k1, k2⟩ := two_len (n := 2) (m := 0) h1 h2
  match us, ws, k1, k2 with
  | [_, _], [], _, _ => exact .of_eq rfl
theorem bindk_TooGreat : XBinds K (PySem.W.ksFn "__init__" q (defArgs (initOf (top 15))) (defBody (initOf (top 15))) (defScope (initOf (top 15))) .none kV doc pm an cd ct cc) ["self", "most"] ["most"] := fun s us ws _ h1 h2 => by
  obtain ⟨k1, k2⟩ := two_len (n := 1) (m := 1) h1 h2
  match us, ws, k1, k2 with
  | [_], [_], _, _ => exact .of_eq rfl
theorem bind_NotThread : XBinds K (PySem.W.ksFn "__init__" q (defArgs (initOf (top 16))) (defBody (initOf (top 16))) (defScope (initOf (top 16))) .none kV doc pm an cd ct cc) ["self"] [] := fun s us ws _ h1 h2 => by
  obtain ⟨k1, k2⟩ := two_len (n := 1) (m := 0) h1 h2
  match us, ws, k1, k2 with
  | [_], [], _, _ => exact .of_eq rfl
theorem bind_EndsMeet : XBinds K (PySem.W.ksFn "__init__" q (defArgs (initOf (top 17))) (defBody (initOf (top 17))) (defScope (initOf (top 17))) .none kV doc pm an cd ct cc) ["self", "line"] [] := fun s us ws _ h1 h2 => by
  obtain ⟨k1, k2⟩ := two_len (n := 2) (m := 0) h1 h2
  match us, ws, k1, k2 with
  | [_, _], [], _, _ => exact .of_eq rfl
theorem bindk_EndsMeet : XBinds K (PySem.W.ksFn "__init__" q (defArgs (initOf (top 17))) (defBody (initOf (top 17))) (defScope (initOf (top 17))) .none kV doc pm an cd ct cc) ["self", "line"] ["line"] := fun s us ws _ h1 h2 => by
  obtain ⟨k1, k2⟩ := two_len (n := 1) (m := 1) h1 h2
  match us, ws, k1, k2 with
  | [_], [_], _, _ => exact .of_eq rfl
theorem bind_InvalidPath : XBinds K (PySem.W.ksFn "__init__" q (defArgs (initOf (top 18))) (defBody (initOf (top 18))) (defScope (initOf (top 18))) .none kV doc pm an cd ct cc) ["self", "at"] [] := fun s us ws _ h1 h2 => by
  obtain ⟨k1, k2⟩ := two_len (n := 2) (m := 0) h1 h2
  match us, ws, k1, k2 with
  | [_, _], [], _, _ => exact .of_eq rfl
theorem bindk_InvalidPath : XBinds K (PySem.W.ksFn "__init__" q (defArgs (initOf (top 18))) (defBody (initOf (top 18))) (defScope (initOf (top 18))) .none kV doc pm an cd ct cc) ["self", "at"] ["at"] := fun s us ws _ h1 h2 => by
  obtain ⟨k1, k2⟩ := two_len (n := 1) (m := 1) h1 h2
  match us, ws, k1, k2 with
  | [_], [_], _, _ => exact .of_eq rfl
theorem bind_NotPlain : XBinds K (PySem.W.ksFn "__init__" q (defArgs (initOf (top 19))) (defBody (initOf (top 19))) (defScope (initOf (top 19))) .none kV doc pm an cd ct cc) ["self"] [] := fun s us ws _ h1 h2 => by
  obtain ⟨k1, k2⟩ := two_len (n := 1) (m := 0) h1 h2
  match us, ws, k1, k2 with
  | [_], [], _, _ => exact .of_eq rfl
theorem bind_InvalidRenaming : XBinds K (PySem.W.ksFn "__init__" q (defArgs (initOf (top 20))) (defBody (initOf (top 20))) (defScope (initOf (top 20))) .none kV doc pm an cd ct cc) ["self"] [] := fun s us ws _ h1 h2 => by
  obtain ⟨k1, k2⟩ := two_len (n := 1) (m := 0) h1 h2
  match us, ws, k1, k2 with
  | [_], [], _, _ => exact .of_eq rfl
theorem bind_InvalidTurn : XBinds K (PySem.W.ksFn "__init__" q (defArgs (initOf (top 21))) (defBody (initOf (top 21))) (defScope (initOf (top 21))) .none kV doc pm an cd ct cc) ["self", "line"] [] := fun s us ws _ h1 h2 => by
  obtain ⟨k1, k2⟩ := two_len (n := 2) (m := 0) h1 h2
  match us, ws, k1, k2 with
  | [_, _], [], _, _ => exact .of_eq rfl
theorem bindk_InvalidTurn : XBinds K (PySem.W.ksFn "__init__" q (defArgs (initOf (top 21))) (defBody (initOf (top 21))) (defScope (initOf (top 21))) .none kV doc pm an cd ct cc) ["self", "line"] ["line"] := fun s us ws _ h1 h2 => by
  obtain ⟨k1, k2⟩ := two_len (n := 1) (m := 1) h1 h2
  match us, ws, k1, k2 with
  | [_], [_], _, _ => exact .of_eq rfl
theorem bind_InvalidName : XBinds K (PySem.W.ksFn "__init__" q (defArgs (initOf (top 22))) (defBody (initOf (top 22))) (defScope (initOf (top 22))) .none kV doc pm an cd ct cc) ["self", "name"] [] := fun s us ws _ h1 h2 => by
  obtain ⟨k1, k2⟩ := two_len (n := 2) (m := 0) h1 h2
  match us, ws, k1, k2 with
  | [_, _], [], _, _ => exact .of_eq rfl
theorem bindk_InvalidName : XBinds K (PySem.W.ksFn "__init__" q (defArgs (initOf (top 22))) (defBody (initOf (top 22))) (defScope (initOf (top 22))) .none kV doc pm an cd ct cc) ["self", "name"] ["name"] := fun s us ws _ h1 h2 => by
  obtain ⟨k1, k2⟩ := two_len (n := 1) (m := 1) h1 h2
  match us, ws, k1, k2 with
  | [_], [_], _, _ => exact .of_eq rfl
theorem bind_DuplicateName : XBinds K (PySem.W.ksFn "__init__" q (defArgs (initOf (top 23))) (defBody (initOf (top 23))) (defScope (initOf (top 23))) .none kV doc pm an cd ct cc) ["self", "name"] [] := fun s us ws _ h1 h2 => by
  obtain ⟨k1, k2⟩ := two_len (n := 2) (m := 0) h1 h2
  match us, ws, k1, k2 with
  | [_, _], [], _, _ => exact .of_eq rfl
theorem bindk_DuplicateName : XBinds K (PySem.W.ksFn "__init__" q (defArgs (initOf (top 23))) (defBody (initOf (top 23))) (defScope (initOf (top 23))) .none kV doc pm an cd ct cc) ["self", "name"] ["name"] := fun s us ws _ h1 h2 => by
  obtain ⟨k1, k2⟩ := two_len (n := 1) (m := 1) h1 h2
  match us, ws, k1, k2 with
  | [_], [_], _, _ => exact .of_eq rfl
theorem bind_TooMany : XBinds K (PySem.W.ksFn "__init__" q (defArgs (initOf (top 24))) (defBody (initOf (top 24))) (defScope (initOf (top 24))) .none kV doc pm an cd ct cc) ["self", "most"] [] := fun s us ws _ h1 h2 => by
  obtain ⟨k1, k2⟩ := two_len (n := 2) (m := 0) h1 h2
  match us, ws, k1, k2 with
  | [_, _], [], _, _ => exact .of_eq rfl
theorem bindk_TooMany : XBinds K (PySem.W.ksFn "__init__" q (defArgs (initOf (top 24))) (defBody (initOf (top 24))) (defScope (initOf (top 24))) .none kV doc pm an cd ct cc) ["self", "most"] ["most"] := fun s us ws _ h1 h2 => by
  obtain ⟨k1, k2⟩ := two_len (n := 1) (m := 1) h1 h2
  match us, ws, k1, k2 with
  | [_], [_], _, _ => exact .of_eq rfl
theorem bind_Entangled : XBinds K (PySem.W.ksFn "__init__" q (defArgs (initOf (top 25))) (defBody (initOf (top 25))) (defScope (initOf (top 25))) .none kV doc pm an cd ct cc) ["self", "first", "second"] [] := fun s us ws _ h1 h2 => by
  obtain ⟨k1, k2⟩ := two_len (n := 3) (m := 0) h1 h2
  match us, ws, k1, k2 with
  | [_, _, _], [], _, _ => exact .of_eq rfl
theorem bindk_Entangled : XBinds K (PySem.W.ksFn "__init__" q (defArgs (initOf (top 25))) (defBody (initOf (top 25))) (defScope (initOf (top 25))) .none kV doc pm an cd ct cc) ["self", "first", "second"] ["first", "second"] := fun s us ws _ h1 h2 => by
  obtain ⟨k1, k2⟩ := two_len (n := 1) (m := 2) h1 h2
  match us, ws, k1, k2 with
  | [_], [_, _], _, _ => exact .of_eq rfl
theorem bind_InvalidDeed : XBinds K (PySem.W.ksFn "__init__" q (defArgs (initOf (top 26))) (defBody (initOf (top 26))) (defScope (initOf (top 26))) .none kV doc pm an cd ct cc) ["self", "at"] [] := fun s us ws _ h1 h2 => by
  obtain ⟨k1, k2⟩ := two_len (n := 2) (m := 0) h1 h2
  match us, ws, k1, k2 with
  | [_, _], [], _, _ => exact .of_eq rfl
theorem bindk_InvalidDeed : XBinds K (PySem.W.ksFn "__init__" q (defArgs (initOf (top 26))) (defBody (initOf (top 26))) (defScope (initOf (top 26))) .none kV doc pm an cd ct cc) ["self", "at"] ["at"] := fun s us ws _ h1 h2 => by
  obtain ⟨k1, k2⟩ := two_len (n := 1) (m := 1) h1 h2
  match us, ws, k1, k2 with
  | [_], [_], _, _ => exact .of_eq rfl
theorem bind_InvalidLimit : XBinds K (PySem.W.ksFn "__init__" q (defArgs (initOf (top 27))) (defBody (initOf (top 27))) (defScope (initOf (top 27))) .none kV doc pm an cd ct cc) ["self", "given"] [] := fun s us ws _ h1 h2 => by
  obtain ⟨k1, k2⟩ := two_len (n := 2) (m := 0) h1 h2
  match us, ws, k1, k2 with
  | [_, _], [], _, _ => exact .of_eq rfl
theorem bindk_InvalidLimit : XBinds K (PySem.W.ksFn "__init__" q (defArgs (initOf (top 27))) (defBody (initOf (top 27))) (defScope (initOf (top 27))) .none kV doc pm an cd ct cc) ["self", "given"] ["given"] := fun s us ws _ h1 h2 => by
  obtain ⟨k1, k2⟩ := two_len (n := 1) (m := 1) h1 h2
  match us, ws, k1, k2 with
  | [_], [_], _, _ => exact .of_eq rfl
theorem bind_InvalidText : XBinds K (PySem.W.ksFn "__init__" q (defArgs (initOf (top 28))) (defBody (initOf (top 28))) (defScope (initOf (top 28))) .none kV doc pm an cd ct cc) ["self"] [] := fun s us ws _ h1 h2 => by
  obtain ⟨k1, k2⟩ := two_len (n := 1) (m := 0) h1 h2
  match us, ws, k1, k2 with
  | [_], [], _, _ => exact .of_eq rfl
theorem bind_InvalidPage : XBinds K (PySem.W.ksFn "__init__" q (defArgs (initOf (top 29))) (defBody (initOf (top 29))) (defScope (initOf (top 29))) .none kV doc pm an cd ct cc) ["self", "line"] [] := fun s us ws _ h1 h2 => by
  obtain ⟨k1, k2⟩ := two_len (n := 2) (m := 0) h1 h2
  match us, ws, k1, k2 with
  | [_, _], [], _, _ => exact .of_eq rfl
theorem bindk_InvalidPage : XBinds K (PySem.W.ksFn "__init__" q (defArgs (initOf (top 29))) (defBody (initOf (top 29))) (defScope (initOf (top 29))) .none kV doc pm an cd ct cc) ["self", "line"] ["line"] := fun s us ws _ h1 h2 => by
  obtain ⟨k1, k2⟩ := two_len (n := 1) (m := 1) h1 h2
  match us, ws, k1, k2 with
  | [_], [_], _, _ => exact .of_eq rfl
theorem bind_UnknownName : XBinds K (PySem.W.ksFn "__init__" q (defArgs (initOf (top 30))) (defBody (initOf (top 30))) (defScope (initOf (top 30))) .none kV doc pm an cd ct cc) ["self", "name"] [] := fun s us ws _ h1 h2 => by
  obtain ⟨k1, k2⟩ := two_len (n := 2) (m := 0) h1 h2
  match us, ws, k1, k2 with
  | [_, _], [], _, _ => exact .of_eq rfl
theorem bindk_UnknownName : XBinds K (PySem.W.ksFn "__init__" q (defArgs (initOf (top 30))) (defBody (initOf (top 30))) (defScope (initOf (top 30))) .none kV doc pm an cd ct cc) ["self", "name"] ["name"] := fun s us ws _ h1 h2 => by
  obtain ⟨k1, k2⟩ := two_len (n := 1) (m := 1) h1 h2
  match us, ws, k1, k2 with
  | [_], [_], _, _ => exact .of_eq rfl
theorem bind_NothingLeft : XBinds K (PySem.W.ksFn "__init__" q (defArgs (initOf (top 31))) (defBody (initOf (top 31))) (defScope (initOf (top 31))) .none kV doc pm an cd ct cc) ["self"] [] := fun s us ws _ h1 h2 => by
  obtain ⟨k1, k2⟩ := two_len (n := 1) (m := 0) h1 h2
  match us, ws, k1, k2 with
  | [_], [], _, _ => exact .of_eq rfl
end
end KK

set_option Elab.async false
set_option linter.all false
set_option maxRecDepth 100000
set_option maxHeartbeats 4000000
namespace KK
open PySem PySem.Spec PyProof.Rows L2 RT
abbrev sField : Stmt := top 37
abbrev l0 : List Str := ["InvalidTriangle", "Unflippable", "Misfit", "InvalidPath", "InvalidDeed"]
abbrev l1 : List Str := ["InvalidSize", "InvalidLine", "InvalidNail", "InvalidFactor", "InvalidPosition", "InvalidLimit"]
abbrev l2 : List Str := ["EndsMeet", "InvalidTurn", "InvalidPage"]
abbrev l3 : List Str := ["TooGreat", "TooMany"]
abbrev l4 : List Str := ["InvalidName", "DuplicateName", "UnknownName"]
theorem hu65 {A : Around} {k : Nat} (hr : Room k A) : A.units + 65 < cLine := by have := hr.un; omega
def inS (c : Str) (l : List Str) : Bool := (l.map PyData.str).any fun z => PyData.eqv z (.str c)
def fieldsOf (c : Str) : List Str := if inS c l0 = true then ["at"] else if inS c l1 = true then ["given"] else if inS c l2 = true then ["line"] else if inS c l3 = true then ["most"] else if c = "Entangled" then ["first", "second"] else if inS c l4 = true then ["name"] else []
theorem dpAll_strs {K : PySem.W.Frag} {H : Hp} : ∀ l : List Str, DpAll K H (l.map V.str) (l.map PyData.str)
  | [] => .nil
  | x :: l => .cons (.str x) (dpAll_strs l)
/-- c in (.., ..): a new tuple is laid -/
theorem rd_in {K : PySem.W.Frag} {H : Hp} {c : Str} {l : List Str} {Q : VK} {p : Addr} (ck : PyData.strOk c = true) (sh : SeqAt.shaped (.tuple (l.map PyData.str)) = true) (q : Q (.bl (inS c l)) (upd H p (.tup (l.map V.str)))) : rInDT K (.str c) (.ref p) (upd H p (.tup (l.map V.str))) Q :=
  ⟨.str c, l.map PyData.str, .str c, .tup (SqT.of upd_same) (dpAll_strs l), by simp [SeqAt.shaped, PyData.canLay0, PyData.depth, ck], sh, q⟩
section
variable {P : Program} {w : World} {K : PySem.W.Frag} {mg : Str → Option Value} {base : Heap}
theorem scField : FnScope ["_law_e"] ["_law_e"] (defScope sField) := ⟨rfl, rfl, rfl, by decide +kernel, rfl, by decide +kernel, by decide +kernel⟩
def spField (K : PySem.W.Frag) : Sp := fun vs H Q _ => ∃ (a C dx : Addr) (fs : List (Str × V)) (c : Str) (ys : List V), vs = [.ref a] ∧ PyData.strOk c = true ∧ XfC K C ∧ (∀ f ∈ ("code" : Str) :: fieldsOf c, PySem.W.findIn K (.ref C) f = some none) ∧ H a = some (exo a C (some dx)) ∧ H dx = some (exd dx fs) ∧
  fs.lookup ("code" : Str) = some (.str c) ∧ (fieldsOf c).map (fun f => fs.lookup f) = ys.map some ∧ ∀ (p : Addr) (H' : Hp), Same H H' → H' p = some (.tup ys) → Q (.ref p) H'
theorem ok_field {f : Addr} {fd : FuncData} (F : Fun K "_law_field" "_law_field" sField f fd) : FnOk P w K mg base CX0 1 f fd ["_law_e"] (spField K) := by
  refine F.ok scField (fun vs H Q E h => ?_) (fun cdv A outer s H vs Q E hr h => ?_)
  · obtain ⟨a, C, dx, fs, c, ys, rfl, _⟩ := h
    rfl
  obtain ⟨a, C, dx, fs, c, ys, rfl, ck, T, hno, ha, hd, hc, hy, q⟩ := h
  refine ⟨_, (pss_cons 
    (ps_if (pt_cmpR (op_inDT (hu65 hr)) (pe_ef (pv 0)) (pe_tup (pa_cons pe_str (pa_cons pe_str (pa_cons pe_str (pa_cons pe_str (pa_cons pe_str pa_nil)))))) (by rfl)) (pss_one (ps_ret (pe_tup (pa_cons (pe_ef (pv 0)) pa_nil)))) pss_nil) (pss_cons 
    (ps_if (pt_cmpR (op_inDT (hu65 hr)) (pe_ef (pv 0)) (pe_tup (pa_cons pe_str (pa_cons pe_str (pa_cons pe_str (pa_cons pe_str (pa_cons pe_str (pa_cons pe_str pa_nil))))))) (by rfl)) (pss_one (ps_ret (pe_tup (pa_cons (pe_ef (pv 0)) pa_nil)))) pss_nil) (pss_cons 
    (ps_if (pt_cmpR (op_inDT (hu65 hr)) (pe_ef (pv 0)) (pe_tup (pa_cons pe_str (pa_cons pe_str (pa_cons pe_str pa_nil)))) (by rfl)) (pss_one (ps_ret (pe_tup (pa_cons (pe_ef (pv 0)) pa_nil)))) pss_nil) (pss_cons 
    (ps_if (pt_cmpR (op_inDT (hu65 hr)) (pe_ef (pv 0)) (pe_tup (pa_cons pe_str (pa_cons pe_str pa_nil))) (by rfl)) (pss_one (ps_ret (pe_tup (pa_cons (pe_ef (pv 0)) pa_nil)))) pss_nil) (pss_cons 
    (ps_if (pt_cmpR op_eq (pe_ef (pv 0)) pe_str (nomark _)) (pss_one (ps_ret (pe_tup (pa_cons (pe_ef (pv 0)) (pa_cons (pe_ef (pv 0)) pa_nil))))) pss_nil) (pss_one 
    (ps_ret (pe_ifExp (pt_cmpR (op_inDT (hu65 hr)) (pe_ef (pv 0)) (pe_tup (pa_cons pe_str (pa_cons pe_str (pa_cons pe_str pa_nil)))) (by rfl)) (pe_tup (pa_cons (pe_ef (pv 0)) pa_nil)) (pe_tup pa_nil))))))))), ?_⟩
  have rd : ∀ (H' : Hp) (g : Str) (v : V) (Q : VK), Same H H' → g ∈ ("code" : Str) :: fieldsOf c → fs.lookup g = some v → Q v H' → tEf K g (tVar 0) [some (.ref a)] H' Q := fun H' g v Q s' hg l q => ⟨_, rfl, a, C, dx, fs, v, rfl, T, hno g hg, s' _ _ ha, s' _ _ hd, l, q⟩
  have cd : ("code" : Str) ∈ ("code" : Str) :: fieldsOf c := List.mem_cons_self ..
  have none_ : ∀ H' : Hp, fieldsOf c = [] → Same H H' → tTup tNil [some (.ref a)] H' Q := fun H' e s' => by
    rw [e] at hy
    cases ys with
    | cons _ _ => cases hy
    | nil => exact ⟨Nat.zero_le _, fun p n => q p _ (s'.trans (same_new n _)) upd_same⟩
  have one : ∀ (g : Str) (H' : Hp), fieldsOf c = [g] → Same H H' → tTup (tCons (tEf K g (tVar 0)) tNil) [some (.ref a)] H' Q := fun g H' e s' => by
    have hy' := hy
    rw [e] at hy'
    obtain ⟨y, rfl⟩ := List.length_eq_one_iff.mp (by simpa using (congrArg List.length hy').symm)
    have l : fs.lookup g = some y := by simpa using hy'
    refine rd H' g y _ s' (by rw [e]; simp) l ?_
    exact ⟨small (by show (1 : Nat) ≤ 1000; decide), fun p n => q p _ (s'.trans (same_new n _)) upd_same⟩
  have two : ∀ (g g2 : Str) (H' : Hp), fieldsOf c = [g, g2] → Same H H' → tTup (tCons (tEf K g (tVar 0)) (tCons (tEf K g2 (tVar 0)) tNil)) [some (.ref a)] H' Q := fun g g2 H' e s' => by
    have hy' := hy
    rw [e] at hy'
    obtain ⟨y, y2, rfl⟩ : ∃ y y2, ys = [y, y2] := by
      have hl : ys.length = 2 := by simpa using (congrArg List.length hy').symm
      match ys, hl with
      | [y, y2], _ => exact ⟨y, y2, rfl⟩
    have l : fs.lookup g = some y ∧ fs.lookup g2 = some y2 := by simpa using hy'
    unfold tTup tCons
    refine rd H' g y _ s' (by rw [e]; simp) l.1 ?_
    refine rd H' g2 y2 _ s' (by rw [e]; simp) l.2 ?_
    exact ⟨small (by show (2 : Nat) ≤ 1000; decide), fun p n => q p _ (s'.trans (same_new n _)) upd_same⟩
  have s0 := Same.refl H
  refine rd H _ _ _ s0 cd hc ⟨small (by decide), fun p1 n1 => rd_in (l := l0) ck (by decide +kernel) ⟨_, rfl, ite2 (fun e => one _ _ (by unfold fieldsOf; rw [if_pos e]) (same_new n1 _)) fun e0 => ?_⟩⟩
  have s1 := s0.trans (same_new n1 (.tup (l0.map V.str)))
  refine rd _ _ _ _ s1 cd hc ⟨small (by decide), fun p2 n2 => rd_in (l := l1) ck (by decide +kernel) ⟨_, rfl, ite2 (fun e => one _ _ (by unfold fieldsOf; rw [if_neg e0, if_pos e]) (s1.trans (same_new n2 _))) fun e1 => ?_⟩⟩
  have s2 := s1.trans (same_new n2 (.tup (l1.map V.str)))
  refine rd _ _ _ _ s2 cd hc ⟨small (by decide), fun p3 n3 => rd_in (l := l2) ck (by decide +kernel) ⟨_, rfl, ite2 (fun e => one _ _ (by unfold fieldsOf; rw [if_neg e0, if_neg e1, if_pos e]) (s2.trans (same_new n3 _))) fun e2 => ?_⟩⟩
  have s3 := s2.trans (same_new n3 (.tup (l2.map V.str)))
  refine rd _ _ _ _ s3 cd hc ⟨small (by decide), fun p4 n4 => rd_in (l := l3) ck (by decide +kernel) ⟨_, rfl, ite2 (fun e => one _ _ (by unfold fieldsOf; rw [if_neg e0, if_neg e1, if_neg e2, if_pos e]) (s3.trans (same_new n4 _))) fun e3 => ?_⟩⟩
  have s4 := s3.trans (same_new n4 (.tup (l3.map V.str)))
  dsimp only [tNext, tSeq, tIfS, tTest, tOp]
  refine rd _ _ _ _ s4 cd hc ?_
  refine ⟨rfl, _, rfl, ite2 (fun e => ?_) fun e4 => ?_⟩
  · have e : c = "Entangled" := V.str.inj (of_decide_eq_true e)
    exact two _ _ _ (by unfold fieldsOf; rw [if_neg e0, if_neg e1, if_neg e2, if_neg e3, if_pos e]) s4
  have e4 : ¬ c = "Entangled" := fun z => e4 (decide_eq_true (congrArg V.str z))
  refine rd _ _ _ _ s4 cd hc ⟨small (by decide), fun p5 n5 => rd_in (l := l4) ck (by decide +kernel) ⟨_, rfl, ite2 (fun e => one _ _ (by unfold fieldsOf; rw [if_neg e0, if_neg e1, if_neg e2, if_neg e3, if_neg e4, if_pos e]) (s4.trans (same_new n5 _))) fun e5 => ?_⟩⟩
  exact none_ _ (by unfold fieldsOf; rw [if_neg e0, if_neg e1, if_neg e2, if_neg e3, if_neg e4, if_neg e5]) (s4.trans (same_new n5 _))
end
end KK

set_option Elab.async false
set_option linter.all false
set_option maxRecDepth 100000
set_option maxHeartbeats 8000000
namespace KK
open PySem PySem.Spec PyProof.Rows L2 RT
abbrev sRows : Stmt := top 38
def tab (C : Nat → Addr) : List RowD := [⟨"InvalidSize", C 3, ["given"], true⟩,
    ⟨"InvalidSheet", C 4, [], true⟩,
    ⟨"InvalidTriangle", C 5, ["at"], true⟩,
    ⟨"InvalidOrder", C 6, [], true⟩,
    ⟨"InvalidLine", C 7, ["given"], true⟩,
    ⟨"InvalidNail", C 8, ["given"], true⟩,
    ⟨"Unflippable", C 9, ["at"], true⟩,
    ⟨"InvalidCounts", C 10, [], true⟩,
    ⟨"Misfit", C 11, ["at"], true⟩,
    ⟨"InvalidFactor", C 12, ["given"], true⟩,
    ⟨"InvalidPosition", C 13, ["given"], true⟩,
    ⟨"OtherSheet", C 14, [], true⟩,
    ⟨"TooGreat", C 15, ["most"], true⟩,
    ⟨"NotThread", C 16, [], true⟩,
    ⟨"EndsMeet", C 17, ["line"], true⟩,
    ⟨"InvalidPath", C 18, ["at"], true⟩,
    ⟨"NotPlain", C 19, [], true⟩,
    ⟨"InvalidRenaming", C 20, [], true⟩,
    ⟨"InvalidTurn", C 21, ["line"], true⟩,
    ⟨"InvalidName", C 22, ["name"], true⟩,
    ⟨"DuplicateName", C 23, ["name"], true⟩,
    ⟨"TooMany", C 24, ["most"], true⟩,
    ⟨"Entangled", C 25, ["first", "second"], true⟩,
    ⟨"InvalidDeed", C 26, ["at"], true⟩,
    ⟨"InvalidLimit", C 27, ["given"], true⟩,
    ⟨"InvalidText", C 28, [], true⟩,
    ⟨"InvalidPage", C 29, ["line"], true⟩,
    ⟨"UnknownName", C 30, ["name"], false⟩,
    ⟨"NothingLeft", C 31, [], false⟩]
/-- a row of the list: the error, its code, whether it is one of values -/
def ErrRow (H : Hp) (odd t : V) (x : V) (r : RowD) : Prop := ∃ p a dx : Addr, x = .ref p ∧ H p = some (.tup [.ref a, .str r.x, .bl r.plain]) ∧ H a = some (exo a r.C (some dx)) ∧ H dx = some (exd dx (mkOf r.x r.fls ([odd, t].take r.fls.length)))
theorem ErrRow.same {H H' : Hp} {odd t x : V} {r : RowD} (h : ErrRow H odd t x r) (s : Same H H') : ErrRow H' odd t x r := by
  obtain ⟨p, a, dx, e, h1, h2, h3⟩ := h
  exact ⟨p, a, dx, e, s _ _ h1, s _ _ h2, s _ _ h3⟩
inductive Rows (H : Hp) (odd t : V) : List V → List RowD → Prop
  | nil : Rows H odd t [] []
  | cons {x : V} {xs : List V} {r : RowD} {rs : List RowD} : ErrRow H odd t x r → Rows H odd t xs rs → Rows H odd t (x :: xs) (r :: rs)
theorem Rows.len {H : Hp} {odd t : V} {xs : List V} {rs : List RowD} (h : Rows H odd t xs rs) : xs.length = rs.length := by
  induction h with
  | nil => rfl
  | cons _ _ ih => rw [List.length_cons, List.length_cons, ih]
theorem Rows.same {H H' : Hp} {odd t : V} {xs : List V} {rs : List RowD} (h : Rows H odd t xs rs) (s : Same H H') : Rows H' odd t xs rs := by
  induction h with
  | nil => exact .nil
  | cons a _ ih => exact .cons (a.same s) ih
theorem same_err {H : Hp} {a dx C : Addr} {fs : List (Str × V)} (na : H a = none) (nd : H dx = none) : Same H (errO H a dx C fs) := fun b o q => by
  rw [errO_ne (ne_of_none q na) (ne_of_none q nd)]; exact q
section
variable {odd t : V}
def DelE (odd t : V) (te : TE) (r : RowD) : Prop := ∀ (H : Hp) (Q : VK), (∀ x H', Same H H' → ErrRow H' odd t x r → Q x H') → te [some odd, some t] H Q
def DelA (odd t : V) (ta : TA) (rs : List RowD) : Prop := ∀ (H : Hp) (Q : List V → Hp → Prop), (∀ xs H', Same H H' → Rows H' odd t xs rs → Q xs H') → ta [some odd, some t] H Q
theorem del_nil : DelA odd t tNil [] := fun H Q q => q [] H (Same.refl H) .nil
theorem del_cons {te : TE} {ta : TA} {r : RowD} {rs : List RowD} (h1 : DelE odd t te r) (h2 : DelA odd t ta rs) : DelA odd t (tCons te ta) (r :: rs) := fun H Q q =>
  h1 H _ fun x H1 s1 e1 => h2 H1 _ fun xs H2 s2 e2 => q (x :: xs) H2 (s1.trans s2) (.cons (e1.same s2) e2)
theorem del_any {ta : TA} {ws : List V} {x : Str} {C : Addr} {fls : List Str} {pl : Bool} (ha : ∀ (H : Hp) (Q : List V → Hp → Prop), Q ws H → ta [some odd, some t] H Q) (hl : ws.length = fls.length) (hw : ws = [odd, t].take fls.length) :
    DelE odd t (tTup (tCons (tMkE C fls.length (mkOf x fls) ta tNil) (tCons (tC (.str x)) (tCons (tC (.bl pl)) tNil)))) ⟨x, C, fls, pl⟩ := fun H Q q => by
  unfold tTup tCons tMkE
  refine ha H _ ?_
  refine ⟨by rw [List.append_nil]; exact hl, fun a dx na nd ne => ?_⟩
  refine ⟨small (by show (3 : Nat) ≤ 1000; decide), fun p n => ?_⟩
  have s1 := same_err (C := C) (fs := mkOf x fls (ws ++ [])) na nd
  have s2 := same_new n (.tup [.ref a, .str x, .bl pl])
  refine q _ _ (s1.trans s2) ⟨p, a, dx, rfl, upd_same, s2 _ _ errO_a, ?_⟩
  rw [← hw]
  have z := s2 _ _ (errO_d (H := H) (C := C) (fs := mkOf x fls (ws ++ [])) ne)
  rw [List.append_nil] at z ⊢
  exact z
theorem del_0 (x : Str) (C : Addr) (pl : Bool) : DelE odd t (tTup (tCons (tMkE C 0 (mkOf x []) tNil tNil) (tCons (tC (.str x)) (tCons (tC (.bl pl)) tNil)))) ⟨x, C, [], pl⟩ := del_any (fls := []) (fun H Q q => q) rfl rfl
theorem del_1 (x : Str) (C : Addr) (pl : Bool) (f : Str) : DelE odd t (tTup (tCons (tMkE C 1 (mkOf x [f]) (tCons (tVar 0) tNil) tNil) (tCons (tC (.str x)) (tCons (tC (.bl pl)) tNil)))) ⟨x, C, [f], pl⟩ := del_any (fls := [f]) (ws := [odd]) (fun H Q q => ⟨_, rfl, q⟩) rfl rfl
theorem del_2 (x : Str) (C : Addr) (pl : Bool) (f g : Str) : DelE odd t (tTup (tCons (tMkE C 2 (mkOf x [f, g]) (tCons (tVar 0) (tCons (tVar 1) tNil)) tNil) (tCons (tC (.str x)) (tCons (tC (.bl pl)) tNil)))) ⟨x, C, [f, g], pl⟩ := del_any (fls := [f, g]) (ws := [odd, t]) (fun H Q q => ⟨_, rfl, _, rfl, q⟩) rfl rfl
end
def tRow (r : RowD) : TE := fun σ H Q => ∃ odd t : V, σ = [some odd, some t] ∧ ∀ x H', Same H H' → ErrRow H' odd t x r → Q x H'
def tAll (rs : List RowD) : TA := fun σ H Q => ∃ odd t : V, σ = [some odd, some t] ∧ ∀ xs H', Same H H' → Rows H' odd t xs rs → Q xs H'
section
variable {X : Cx} {r : RowD} {rs : List RowD} {e : Expr} {es : List Expr} {p pos p2 p3 p4 : Pos} {x : Str} {C : Addr} {pl : Bool} {j j2 z : Nat}
theorem pe_by {te te' : TE} (h : PE X e te) (i : ∀ σ H Q, te' σ H Q → te σ H Q) : PE X e te' := ⟨fun pins s σ H Q I q => h.run pins s σ H Q I (i σ H Q q)⟩
theorem pa_by {ta ta' : TA} (h : PA X es ta) (i : ∀ σ H Q, ta' σ H Q → ta σ H Q) : PA X es ta' := ⟨fun pos pins s σ H Q I q => h.run pos pins s σ H Q I (i σ H Q q)⟩
theorem pe_rowOf {te : TE} (h : PE X e te) (d : ∀ odd t, DelE odd t te r) : PE X e (tRow r) := pe_by h fun σ H Q ⟨odd, t, e, q⟩ => by subst e; exact d odd t H Q q
theorem pa_nilR : PA X [] (tAll []) := pa_by pa_nil fun σ H Q ⟨odd, t, e, q⟩ => by subst e; exact del_nil H Q q
theorem pa_consR (h1 : PE X e (tRow r)) (h2 : PA X es (tAll rs)) (hs : starEach (e :: es) X.env = (false, eval e X.env) :: starEach es X.env := by rfl) : PA X (e :: es) (tAll (r :: rs)) := pa_by (pa_cons h1 h2 hs) fun σ H Q ⟨odd, t, e, q⟩ => by
  subst e
  exact del_cons (te := tRow r) (ta := tAll rs) (fun H Q q => ⟨odd, t, rfl, q⟩) (fun H Q q => ⟨odd, t, rfl, q⟩) H Q q
end
section
variable {P : Program} {w : World} {K : PySem.W.Frag} {mg : Str → Option Value} {base : Heap}
theorem scRows : FnScope ["_law_odd", "_law_turn"] ["_law_odd", "_law_turn"] (defScope sRows) := ⟨rfl, rfl, rfl, by decide +kernel, rfl, by decide +kernel, by decide +kernel⟩
def spRows (C : Nat → Addr) : Sp := fun vs H Q _ => ∃ odd t : V, vs = [odd, t] ∧ ∀ (p : Addr) (xs : List V) (H' : Hp), Same H H' → H p = none → H' p = some (.lst xs) → Rows H' odd t xs (tab C) → Q (.ref p) H'
theorem ok_rows {f : Addr} {fd : FuncData} {C : Nat → Addr} (F : Fun K "_law_error_rows" "_law_error_rows" sRows f fd) (E : ∀ (i : Nat) (r : RowD), (tab C)[i]? = some r → ErrK P w K mg base r) : FnOk P w K mg base CX0 3 f fd ["_law_odd", "_law_turn"] (spRows C) := by
  refine F.ok scRows (fun vs H Q E h => ?_) (fun cdv A outer s H vs Q E' hr h => ?_)
  · obtain ⟨odd, t, rfl, _⟩ := h
    rfl
  obtain ⟨odd, t, rfl, q⟩ := h
  refine ⟨_, (pss_one (ps_ret (pe_lst (pa_consR (pe_rowOf (pe_tup (pa_cons (pe_mkE (ErrK.mk0 (r := ⟨"InvalidSize", C 3, ["given"], true⟩) (E 0 _ rfl) (by rfl) hr pass0) (by show (1 : Nat) ≤ 1000; decide) (pa_cons (pv 0) pa_nil)) (pa_cons pe_str (pa_cons pe_bl pa_nil)))) (fun _ _ => del_1 "InvalidSize" (C 3) true "given"))
      (pa_consR (pe_rowOf (pe_tup (pa_cons (pe_mkE0 (ErrK.mk0 (r := ⟨"InvalidSheet", C 4, [], true⟩) (E 1 _ rfl) (by rfl) hr pass0)) (pa_cons pe_str (pa_cons pe_bl pa_nil)))) (fun _ _ => del_0 "InvalidSheet" (C 4) true))
      (pa_consR (pe_rowOf (pe_tup (pa_cons (pe_mkE (ErrK.mk0 (r := ⟨"InvalidTriangle", C 5, ["at"], true⟩) (E 2 _ rfl) (by rfl) hr pass0) (by show (1 : Nat) ≤ 1000; decide) (pa_cons (pv 0) pa_nil)) (pa_cons pe_str (pa_cons pe_bl pa_nil)))) (fun _ _ => del_1 "InvalidTriangle" (C 5) true "at"))
      (pa_consR (pe_rowOf (pe_tup (pa_cons (pe_mkE0 (ErrK.mk0 (r := ⟨"InvalidOrder", C 6, [], true⟩) (E 3 _ rfl) (by rfl) hr pass0)) (pa_cons pe_str (pa_cons pe_bl pa_nil)))) (fun _ _ => del_0 "InvalidOrder" (C 6) true))
      (pa_consR (pe_rowOf (pe_tup (pa_cons (pe_mkE (ErrK.mk0 (r := ⟨"InvalidLine", C 7, ["given"], true⟩) (E 4 _ rfl) (by rfl) hr pass0) (by show (1 : Nat) ≤ 1000; decide) (pa_cons (pv 0) pa_nil)) (pa_cons pe_str (pa_cons pe_bl pa_nil)))) (fun _ _ => del_1 "InvalidLine" (C 7) true "given"))
      (pa_consR (pe_rowOf (pe_tup (pa_cons (pe_mkE (ErrK.mk0 (r := ⟨"InvalidNail", C 8, ["given"], true⟩) (E 5 _ rfl) (by rfl) hr pass0) (by show (1 : Nat) ≤ 1000; decide) (pa_cons (pv 0) pa_nil)) (pa_cons pe_str (pa_cons pe_bl pa_nil)))) (fun _ _ => del_1 "InvalidNail" (C 8) true "given"))
      (pa_consR (pe_rowOf (pe_tup (pa_cons (pe_mkE (ErrK.mk0 (r := ⟨"Unflippable", C 9, ["at"], true⟩) (E 6 _ rfl) (by rfl) hr pass0) (by show (1 : Nat) ≤ 1000; decide) (pa_cons (pv 0) pa_nil)) (pa_cons pe_str (pa_cons pe_bl pa_nil)))) (fun _ _ => del_1 "Unflippable" (C 9) true "at"))
      (pa_consR (pe_rowOf (pe_tup (pa_cons (pe_mkE0 (ErrK.mk0 (r := ⟨"InvalidCounts", C 10, [], true⟩) (E 7 _ rfl) (by rfl) hr pass0)) (pa_cons pe_str (pa_cons pe_bl pa_nil)))) (fun _ _ => del_0 "InvalidCounts" (C 10) true))
      (pa_consR (pe_rowOf (pe_tup (pa_cons (pe_mkE (ErrK.mk0 (r := ⟨"Misfit", C 11, ["at"], true⟩) (E 8 _ rfl) (by rfl) hr pass0) (by show (1 : Nat) ≤ 1000; decide) (pa_cons (pv 0) pa_nil)) (pa_cons pe_str (pa_cons pe_bl pa_nil)))) (fun _ _ => del_1 "Misfit" (C 11) true "at"))
      (pa_consR (pe_rowOf (pe_tup (pa_cons (pe_mkE (ErrK.mk0 (r := ⟨"InvalidFactor", C 12, ["given"], true⟩) (E 9 _ rfl) (by rfl) hr pass0) (by show (1 : Nat) ≤ 1000; decide) (pa_cons (pv 0) pa_nil)) (pa_cons pe_str (pa_cons pe_bl pa_nil)))) (fun _ _ => del_1 "InvalidFactor" (C 12) true "given"))
      (pa_consR (pe_rowOf (pe_tup (pa_cons (pe_mkE (ErrK.mk0 (r := ⟨"InvalidPosition", C 13, ["given"], true⟩) (E 10 _ rfl) (by rfl) hr pass0) (by show (1 : Nat) ≤ 1000; decide) (pa_cons (pv 0) pa_nil)) (pa_cons pe_str (pa_cons pe_bl pa_nil)))) (fun _ _ => del_1 "InvalidPosition" (C 13) true "given"))
      (pa_consR (pe_rowOf (pe_tup (pa_cons (pe_mkE0 (ErrK.mk0 (r := ⟨"OtherSheet", C 14, [], true⟩) (E 11 _ rfl) (by rfl) hr pass0)) (pa_cons pe_str (pa_cons pe_bl pa_nil)))) (fun _ _ => del_0 "OtherSheet" (C 14) true))
      (pa_consR (pe_rowOf (pe_tup (pa_cons (pe_mkE (ErrK.mk0 (r := ⟨"TooGreat", C 15, ["most"], true⟩) (E 12 _ rfl) (by rfl) hr pass0) (by show (1 : Nat) ≤ 1000; decide) (pa_cons (pv 0) pa_nil)) (pa_cons pe_str (pa_cons pe_bl pa_nil)))) (fun _ _ => del_1 "TooGreat" (C 15) true "most"))
      (pa_consR (pe_rowOf (pe_tup (pa_cons (pe_mkE0 (ErrK.mk0 (r := ⟨"NotThread", C 16, [], true⟩) (E 13 _ rfl) (by rfl) hr pass0)) (pa_cons pe_str (pa_cons pe_bl pa_nil)))) (fun _ _ => del_0 "NotThread" (C 16) true))
      (pa_consR (pe_rowOf (pe_tup (pa_cons (pe_mkE (ErrK.mk0 (r := ⟨"EndsMeet", C 17, ["line"], true⟩) (E 14 _ rfl) (by rfl) hr pass0) (by show (1 : Nat) ≤ 1000; decide) (pa_cons (pv 0) pa_nil)) (pa_cons pe_str (pa_cons pe_bl pa_nil)))) (fun _ _ => del_1 "EndsMeet" (C 17) true "line"))
      (pa_consR (pe_rowOf (pe_tup (pa_cons (pe_mkE (ErrK.mk0 (r := ⟨"InvalidPath", C 18, ["at"], true⟩) (E 15 _ rfl) (by rfl) hr pass0) (by show (1 : Nat) ≤ 1000; decide) (pa_cons (pv 0) pa_nil)) (pa_cons pe_str (pa_cons pe_bl pa_nil)))) (fun _ _ => del_1 "InvalidPath" (C 18) true "at"))
      (pa_consR (pe_rowOf (pe_tup (pa_cons (pe_mkE0 (ErrK.mk0 (r := ⟨"NotPlain", C 19, [], true⟩) (E 16 _ rfl) (by rfl) hr pass0)) (pa_cons pe_str (pa_cons pe_bl pa_nil)))) (fun _ _ => del_0 "NotPlain" (C 19) true))
      (pa_consR (pe_rowOf (pe_tup (pa_cons (pe_mkE0 (ErrK.mk0 (r := ⟨"InvalidRenaming", C 20, [], true⟩) (E 17 _ rfl) (by rfl) hr pass0)) (pa_cons pe_str (pa_cons pe_bl pa_nil)))) (fun _ _ => del_0 "InvalidRenaming" (C 20) true))
      (pa_consR (pe_rowOf (pe_tup (pa_cons (pe_mkE (ErrK.mk0 (r := ⟨"InvalidTurn", C 21, ["line"], true⟩) (E 18 _ rfl) (by rfl) hr pass0) (by show (1 : Nat) ≤ 1000; decide) (pa_cons (pv 0) pa_nil)) (pa_cons pe_str (pa_cons pe_bl pa_nil)))) (fun _ _ => del_1 "InvalidTurn" (C 21) true "line"))
      (pa_consR (pe_rowOf (pe_tup (pa_cons (pe_mkE (ErrK.mk0 (r := ⟨"InvalidName", C 22, ["name"], true⟩) (E 19 _ rfl) (by rfl) hr pass0) (by show (1 : Nat) ≤ 1000; decide) (pa_cons (pv 0) pa_nil)) (pa_cons pe_str (pa_cons pe_bl pa_nil)))) (fun _ _ => del_1 "InvalidName" (C 22) true "name"))
      (pa_consR (pe_rowOf (pe_tup (pa_cons (pe_mkE (ErrK.mk0 (r := ⟨"DuplicateName", C 23, ["name"], true⟩) (E 20 _ rfl) (by rfl) hr pass0) (by show (1 : Nat) ≤ 1000; decide) (pa_cons (pv 0) pa_nil)) (pa_cons pe_str (pa_cons pe_bl pa_nil)))) (fun _ _ => del_1 "DuplicateName" (C 23) true "name"))
      (pa_consR (pe_rowOf (pe_tup (pa_cons (pe_mkE (ErrK.mk0 (r := ⟨"TooMany", C 24, ["most"], true⟩) (E 21 _ rfl) (by rfl) hr pass0) (by show (1 : Nat) ≤ 1000; decide) (pa_cons (pv 0) pa_nil)) (pa_cons pe_str (pa_cons pe_bl pa_nil)))) (fun _ _ => del_1 "TooMany" (C 24) true "most"))
      (pa_consR (pe_rowOf (pe_tup (pa_cons (pe_mkE (ErrK.mk0 (r := ⟨"Entangled", C 25, ["first", "second"], true⟩) (E 22 _ rfl) (by rfl) hr pass0) (by show (2 : Nat) ≤ 1000; decide) (pa_cons (pv 0) (pa_cons (pv 1) pa_nil))) (pa_cons pe_str (pa_cons pe_bl pa_nil)))) (fun _ _ => del_2 "Entangled" (C 25) true "first" "second"))
      (pa_consR (pe_rowOf (pe_tup (pa_cons (pe_mkE (ErrK.mk0 (r := ⟨"InvalidDeed", C 26, ["at"], true⟩) (E 23 _ rfl) (by rfl) hr pass0) (by show (1 : Nat) ≤ 1000; decide) (pa_cons (pv 0) pa_nil)) (pa_cons pe_str (pa_cons pe_bl pa_nil)))) (fun _ _ => del_1 "InvalidDeed" (C 26) true "at"))
      (pa_consR (pe_rowOf (pe_tup (pa_cons (pe_mkE (ErrK.mk0 (r := ⟨"InvalidLimit", C 27, ["given"], true⟩) (E 24 _ rfl) (by rfl) hr pass0) (by show (1 : Nat) ≤ 1000; decide) (pa_cons (pv 0) pa_nil)) (pa_cons pe_str (pa_cons pe_bl pa_nil)))) (fun _ _ => del_1 "InvalidLimit" (C 27) true "given"))
      (pa_consR (pe_rowOf (pe_tup (pa_cons (pe_mkE0 (ErrK.mk0 (r := ⟨"InvalidText", C 28, [], true⟩) (E 25 _ rfl) (by rfl) hr pass0)) (pa_cons pe_str (pa_cons pe_bl pa_nil)))) (fun _ _ => del_0 "InvalidText" (C 28) true))
      (pa_consR (pe_rowOf (pe_tup (pa_cons (pe_mkE (ErrK.mk0 (r := ⟨"InvalidPage", C 29, ["line"], true⟩) (E 26 _ rfl) (by rfl) hr pass0) (by show (1 : Nat) ≤ 1000; decide) (pa_cons (pv 0) pa_nil)) (pa_cons pe_str (pa_cons pe_bl pa_nil)))) (fun _ _ => del_1 "InvalidPage" (C 29) true "line"))
      (pa_consR (pe_rowOf (pe_tup (pa_cons (pe_mkE (ErrK.mk0 (r := ⟨"UnknownName", C 30, ["name"], false⟩) (E 27 _ rfl) (by rfl) hr pass0) (by show (1 : Nat) ≤ 1000; decide) (pa_cons (pv 0) pa_nil)) (pa_cons pe_str (pa_cons pe_bl pa_nil)))) (fun _ _ => del_1 "UnknownName" (C 30) false "name"))
      (pa_consR (pe_rowOf (pe_tup (pa_cons (pe_mkE0 (ErrK.mk0 (r := ⟨"NothingLeft", C 31, [], false⟩) (E 28 _ rfl) (by rfl) hr pass0)) (pa_cons pe_str (pa_cons pe_bl pa_nil)))) (fun _ _ => del_0 "NothingLeft" (C 31) false))
      pa_nilR)))))))))))))))))))))))))))))))), ?_⟩
  refine ⟨odd, t, rfl, fun xs H1 s1 rs => ?_⟩
  exact ⟨small (by rw [rs.len]; show (29 : Nat) ≤ 1000; decide), fun p n => q p _ _ (s1.trans (same_new n _)) (by
    cases z : H p with
    | none => rfl
    | some o => exact absurd ((s1 _ _ z).symm.trans n) (by simp)) upd_same (rs.same (same_new n _))⟩
end
end KK

set_option Elab.async false
set_option linter.all false
set_option maxRecDepth 100000
set_option maxHeartbeats 8000000
namespace KK
open PySem PySem.Spec PyProof.Rows L2 RT
abbrev sLaw : Stmt := top 39
abbrev l9 : List Str := ["InvalidSheet", "InvalidOrder", "InvalidCounts", "OtherSheet", "NotThread", "NotPlain", "InvalidRenaming", "InvalidText", "NothingLeft"]
theorem lookup_zip_any {ps : List Str} {us : List V} (nd : ps.Nodup) (hl : ps.length = us.length) {i : Nat} {y : Str} {u : V} (hp : ps[i]? = some y) (hu : us[i]? = some u) : (ps.zip us).reverse.lookup y = some u := by
  induction ps generalizing us i with
  | nil => simp at hp
  | cons p ps ih =>
    cases us with
    | nil => simp at hu
    | cons v us =>
      rw [List.zip_cons_cons, List.reverse_cons, List.lookup_append]
      cases i with
      | zero =>
        have e1 : p = y := by simpa using hp
        have e2 : v = u := by simpa using hu
        subst e1 e2
        have gone : (ps.zip us).reverse.lookup p = none := by
          rw [List.lookup_eq_none_iff]
          intro q hq
          have : q.1 ∈ ps := (List.of_mem_zip (a := q.1) (b := q.2) (List.mem_reverse.mp hq)).1
          have ne : ¬ p = q.1 := fun z => (List.nodup_cons.mp nd).1 (by rw [z]; exact this)
          simp [ne]
        rw [gone]
        simp
      | succ i =>
        rw [ih (List.nodup_cons.mp nd).2 (by simpa using hl) (by simpa using hp) (by simpa using hu)]
        rfl
theorem Rows.at {H : Hp} {odd t : V} {xs : List V} {rs : List RowD} (h : Rows H odd t xs rs) : ∀ {i : Nat} {x : V}, xs[i]? = some x → ∃ r, rs[i]? = some r ∧ ErrRow H odd t x r := by
  induction h with
  | nil => intro i x e; simp at e
  | cons a _ ih =>
    intro i x e
    cases i with
    | zero => cases e; exact ⟨_, rfl, a⟩
    | succ i => exact ih e
def good (q : Str × List Str) : Bool := PyData.strOk q.1 && (decide (fieldsOf q.1 = q.2) && (decide (q.2.Nodup) && (decide (("code" : Str) ∉ q.2) && (if q.1 = "Entangled" then decide (q.2.length = 2) else if inS q.1 l9 = true then decide (q.2.length = 0) else decide (q.2.length = 1)))))
theorem good_all : ∀ q ∈ (tab fun _ => 0).map (fun r => (r.x, r.fls)), good q = true := by decide +kernel
theorem good_of {C : Nat → Addr} {r : RowD} (h : r ∈ tab C) : good (r.x, r.fls) = true := by
  have e : (tab C).map (fun r => (r.x, r.fls)) = (tab fun _ => 0).map (fun r => (r.x, r.fls)) := rfl
  exact good_all _ (e ▸ List.mem_map_of_mem h)
theorem same_not {x : V} : (!decide (x = x)) = false := by simp
/-- the fields of an error, looked up -/
theorem fields_at {x : Str} {fls : List Str} {ws : List V} (hl : ws.length = fls.length) (nd : fls.Nodup) (nc : ("code" : Str) ∉ fls) : fls.map (fun f => (mkOf x fls ws).lookup f) = ws.map some := by
  refine List.ext_getElem? fun i => ?_
  rw [List.getElem?_map, List.getElem?_map]
  cases e : fls[i]? with
  | none =>
    rw [List.getElem?_eq_none_iff] at e
    rw [List.getElem?_eq_none (by omega)]
    rfl
  | some f =>
    have hi : i < fls.length := (List.getElem?_eq_some_iff.mp e).1
    have e2 : ws[i]? = some ws[i] := List.getElem?_eq_getElem (by omega)
    have ne : f ≠ ("code" : Str) := fun z => nc (z ▸ List.mem_of_getElem? e)
    rw [e2]
    show some ((mkOf x fls ws).lookup f) = some (some ws[i])
    unfold mkOf
    rw [lookup_put, if_neg ne]
    congr 1
    exact lookup_zip_any nd hl.symm e e2
theorem rd_due2 {b : Bool} {σ : L2.St} {H : Hp} {Q : VK} {o : V} (h3 : σ[3]? = some (some o)) (q : ∀ p, H p = none → Q (.ref p) (upd H p (.tup (if b = true then [] else [o])))) : if b = true then tTup tNil σ H Q else tTup (tCons (tVar 3) tNil) σ H Q := by
  cases b with
  | true => exact ⟨Nat.zero_le _, fun p n => q p n⟩
  | false => exact ⟨_, h3, small (by show (1 : Nat) ≤ 1000; decide), fun p n => q p n⟩
theorem rd_due3 {b : Bool} {σ : L2.St} {H : Hp} {Q : VK} {o t : V} {pd : Addr} {ws : List V} (h3 : σ[3]? = some (some o)) (h2 : σ[2]? = some (some t)) (h7 : σ[7]? = some (some (.ref pd))) (hb : b = true → ws = [o, t]) (hn : b = false → H pd = some (.tup ws))
    (q : ∀ pz H', Same H H' → H' pz = some (.tup ws) → Q (.ref pz) H') : if b = true then tTup (tCons (tVar 3) (tCons (tVar 2) tNil)) σ H Q else tVar 7 σ H Q := by
  cases b with
  | true => exact ⟨_, h3, _, h2, small (by show (2 : Nat) ≤ 1000; decide), fun p n => q p _ (same_new n _) (by rw [upd_same, hb rfl])⟩
  | false => exact ⟨_, h7, q pd H (Same.refl H) (hn rfl)⟩
theorem shape_str {c : Str} (ck : PyData.strOk c = true) : SeqAt.shaped (.str c) = true := by simp [SeqAt.shaped, PyData.canLay0, PyData.depth, ck]
structure LawT (mg : Str → Option Value) : Prop where
  range : mg "range" = none
  isi : mg "isinstance" = none
  v : mg "ValueError" = none
  l : mg "LookupError" = none
  i : mg "IndexError" = none
section
variable {P : Program} {w : World} {K : PySem.W.Frag} {mg : Str → Option Value} {base : Heap}
theorem scLaw : FnScope ["_law_script", "_law_deal_here", "_law_turn", "_law_odd", "_law_e", "_law_code", "_law_plain", "_law_due", "_law_kinds"] ["_law_script"] (defScope sLaw) := ⟨rfl, rfl, rfl, by decide +kernel, rfl, by decide +kernel, by decide +kernel⟩
def spLaw (K : PySem.W.Frag) : Sp := fun vs H Q _ => ∃ (a : Addr) (ns : List Int), vs = [.ref a] ∧ SqL K H a (ns.map V.int) ∧ ns.length ≤ 63 ∧ ∀ H', Q (.bl true) H'
theorem ok_law {f fD fO fS fF fR cT cM : Addr} {fd dD dO dS dF dR : FuncData} {C : Nat → Addr} (F : Fun K "law" "law" sLaw f fd) (T : LawT mg) (mT : mg "ThreadError" = some (.ref cT)) (mM : mg "Missing" = some (.ref cM))
    (E : ∀ (i : Nat) (r : RowD), (tab C)[i]? = some r → ErrK P w K mg base r)
    (kinds : ∀ r ∈ tab C, kindsB K r.C cT cM r.plain r.plain (decide (r.x = "UnknownName")) (!r.plain) (decide (r.x = "NothingLeft")) = true)
    (GD : FnOk P w K mg base CX0 1 fD dD ["_law_script"] (spDeal K)) (bD : Binds K dD ["_law_script"] []) (kD : PySem.W.keepIn K (.ref fD) = true) (mD : mg "_law_deal" = some (.ref fD))
    (GO : FnOk P w K mg base CX0 2 fO dO ["_law_deal_here", "_law_items"] spOf) (bO : Binds K dO ["_law_deal_here", "_law_items"] []) (kO : PySem.W.keepIn K (.ref fO) = true) (mO : mg "_law_of" = some (.ref fO))
    (GS : FnOk P w K mg base CX0 3 fS dS ["_law_found", "_law_due"] (spSame K 3)) (bS : Binds K dS ["_law_found", "_law_due"] []) (kS : PySem.W.keepIn K (.ref fS) = true) (mS : mg "_law_same" = some (.ref fS))
    (GF : FnOk P w K mg base CX0 1 fF dF ["_law_e"] (spField K)) (bF : Binds K dF ["_law_e"] []) (kF : PySem.W.keepIn K (.ref fF) = true) (mF : mg "_law_field" = some (.ref fF))
    (GR : FnOk P w K mg base CX0 3 fR dR ["_law_odd", "_law_turn"] (spRows C)) (bR : Binds K dR ["_law_odd", "_law_turn"] []) (kR : PySem.W.keepIn K (.ref fR) = true) (mR : mg "_law_error_rows" = some (.ref fR)) :
    FnOk P w K mg base CX0 4 f fd ["_law_script"] (spLaw K) := by
  refine F.ok scLaw (fun vs H Q E h => ?_) (fun cdv A outer s H vs Q E' hr h => ?_)
  · obtain ⟨a, ns, rfl, _⟩ := h
    rfl
  obtain ⟨a, ns, rfl, hS, hlen, q⟩ := h
  refine ⟨_, (pss_cons (ps_set (i := 1) scLaw.nd rfl (.inl rfl) (pe_call GD (hr.mono (by decide)) rfl mD kD bD .nil pass0 (pa_cons (pv 0) pa_nil))) (pss_cons 
    (ps_for PassesOwn.never rfl (pi_range1 (by rfl) T.range (pa_cons pe_int pa_nil)) (pg_name (i := 2) scLaw.nd rfl (Or.inl rfl)) (pss_cons (ps_set (i := 3) scLaw.nd rfl (.inl rfl) (pe_call GO (hr.mono (by decide)) rfl mO kO bO .nil pass0 (pa_cons (pv 1) (pa_cons (pe_lst (pa_cons pe_non (pa_cons pe_int (pa_cons pe_str (pa_cons (pe_tup (pa_cons pe_int (pa_cons pe_int pa_nil))) (pa_cons (pe_lst (pa_cons pe_int pa_nil)) pa_nil)))))) pa_nil)))) (pss_one 
    (ps_for PassesOwn.never rfl (pi_list (pe_call GR hr rfl mR kR bR .nil pass0 (pa_cons (pv 3) (pa_cons (pv 2) pa_nil)))) (pg_tup rfl (pgs_cons (pg_name (i := 4) scLaw.nd rfl (Or.inl rfl)) (pgs_cons (pg_name (i := 5) scLaw.nd rfl (Or.inl rfl)) (pgs_cons (pg_name (i := 6) scLaw.nd rfl (Or.inl rfl)) pgs_nil)))) (pss_cons 
      (ps_if (PW.pt (pw_or (pt_cmpR op_ne (pe_ef (pv 4)) (pv 5) (nomark _)) (pw_or (pt_cmpR op_ne (pe_callB call_isV (by rfl) T.isi (by decide +kernel) (pa_cons (pv 4) (pa_cons (pe_glob (v := .ref cT) rfl mT rfl) pa_nil))) (pv 6) (nomark _)) (pw_or1 (pt_cmpR op_ne (pe_callB call_isV (by rfl) T.isi (by decide +kernel) (pa_cons (pv 4) (pa_cons (pe_bltn (v := .ty "ValueError") (by rfl) T.v (by decide +kernel) rfl) pa_nil))) (pv 6) (nomark _)))))) (pss_one (ps_ret pe_bl)) pss_nil) (pss_cons 
      (ps_if (PW.pt (pw_or (pt_cmpR op_ne (pe_callB call_isV (by rfl) T.isi (by decide +kernel) (pa_cons (pv 4) (pa_cons (pe_glob (v := .ref cM) rfl mM rfl) pa_nil))) (pe_cmpR op_eq (pv 5) pe_str (nomark _)) (nomark _)) (pw_or1 (pt_cmpR op_eq (pe_callB call_isV (by rfl) T.isi (by decide +kernel) (pa_cons (pv 4) (pa_cons (pe_bltn (v := .ty "LookupError") (by rfl) T.l (by decide +kernel) rfl) pa_nil))) (pv 6) (nomark _))))) (pss_one (ps_ret pe_bl)) pss_nil) (pss_cons 
      (ps_if (pt_cmpR op_ne (pe_callB call_isV (by rfl) T.isi (by decide +kernel) (pa_cons (pv 4) (pa_cons (pe_bltn (v := .ty "IndexError") (by rfl) T.i (by decide +kernel) rfl) pa_nil))) (pe_cmpR op_eq (pv 5) pe_str (nomark _)) (nomark _)) (pss_one (ps_ret pe_bl)) pss_nil) (pss_cons 
      (ps_set (i := 7) scLaw.nd rfl (.inl rfl) (pe_ifExp (pt_cmpR (op_inDT (hu65 hr)) (pv 5) (pe_tup (pa_cons pe_str (pa_cons pe_str (pa_cons pe_str (pa_cons pe_str (pa_cons pe_str (pa_cons pe_str (pa_cons pe_str (pa_cons pe_str (pa_cons pe_str pa_nil)))))))))) (by rfl)) (pe_tup pa_nil) (pe_tup (pa_cons (pv 3) pa_nil)))) (pss_one 
      (ps_if (pt_not (pt_val (pe_call GS hr rfl mS kS bS .nil pass0 (pa_cons (pe_call GF (hr.mono (by decide)) rfl mF kF bF .nil pass0 (pa_cons (pv 4) pa_nil)) (pa_cons (pe_ifExp (pt_cmpR op_eq (pv 5) pe_str (nomark _)) (pe_tup (pa_cons (pv 3) (pa_cons (pv 2) pa_nil))) (pv 7)) pa_nil))))) (pss_one (ps_ret pe_bl)) pss_nil)))))))))) (pss_cons 
    (ps_set (i := 8) scLaw.nd rfl (.inl rfl) (pe_lst (pa_cons (pe_ef (pe_mkEK (ErrK.mkk (r := ⟨"InvalidLine", C 7, ["given"], true⟩) (E 4 _ rfl) (by rfl) (hr.mono (by decide)) pass0) (by show (1 : Nat) ≤ 1000; decide) rfl (pk_cons pe_int pk_nil))) (pa_cons (pe_ef (pe_mkEK (ErrK.mkk (r := ⟨"Misfit", C 11, ["at"], true⟩) (E 8 _ rfl) (by rfl) (hr.mono (by decide)) pass0) (by show (1 : Nat) ≤ 1000; decide) rfl (pk_cons pe_int pk_nil))) (pa_cons (pe_ef (pe_mkEK (ErrK.mkk (r := ⟨"Entangled", C 25, ["first", "second"], true⟩) (E 22 _ rfl) (by rfl) (hr.mono (by decide)) pass0) (by show (2 : Nat) ≤ 1000; decide) rfl (pk_cons pe_str (pk_cons pe_str pk_nil)))) (pa_cons (pe_ef (pe_mkEK (ErrK.mkk (r := ⟨"UnknownName", C 30, ["name"], false⟩) (E 27 _ rfl) (by rfl) (hr.mono (by decide)) pass0) (by show (1 : Nat) ≤ 1000; decide) rfl (pk_cons pe_str pk_nil))) pa_nil)))))) (pss_one 
    (ps_ret (pe_call GS hr rfl mS kS bS .nil pass0 (pa_cons (pv 8) (pa_cons (pe_lst (pa_cons pe_int (pa_cons pe_int (pa_cons pe_str (pa_cons pe_str pa_nil))))) pa_nil)))))))), ?_⟩
  refine ⟨_, rfl, a, ns, rfl, hS, hlen, fun d c H1 s1 hd1 => ?_⟩
  refine ⟨4, rfl, by decide, by decide, ?_⟩
  refine for_range (lo := 0) (n := 4) (fun i σ H2 => DealAt H2 d c ∧ ∃ x2 x3 x4 x5 x6 x7 x8 : Option V, σ = [some (.ref a), some (.ref d), x2, x3, x4, x5, x6, x7, x8]) ⟨hd1, none, none, none, none, none, none, none, rfl⟩ ?_ ?_
  · rintro i σ H0 hi ⟨hd0, x2, x3, x4, x5, x6, x7, x8, rfl⟩
    refine ⟨_, rfl, (by show 2 ≤ sizeLine; decide), fun pt npt => ⟨(by show 1 ≤ sizeLine; decide), fun pl npl => ⟨(by show 5 ≤ sizeLine; decide), fun p np => ?_⟩⟩⟩
    have t1 := same_new npt (.tup [.int 1, .int 2])
    have t2 := same_new npl (.lst [.int 4])
    have t3 := same_new np (.lst [.non, .int 3, .str (Str.ofString "x"), .ref pt, .ref pl])
    have hd5 := hd0.same (t1.trans (t2.trans t3))
    have npd : p ≠ d := ((hd0.same t1).same t2).ne np
    refine ⟨d, c, hd5, .inl ⟨p, _, rfl, upd_same, npd, by show 0 < 5; decide, by show 5 ≤ 1000; decide, fun odd H6 hx hd6 kp6 => ?_⟩⟩
    have hodd : ∃ od : PyData, Dp K H6 odd od ∧ od.depth ≤ 1 ∧ wid od ≤ 2 := by
      have pld : pl ≠ d := (hd0.same t1).ne npl
      have ptd : pt ≠ d := hd0.ne npt
      simp only [List.mem_cons, List.not_mem_nil, or_false] at hx
      rcases hx with rfl | rfl | rfl | rfl | rfl
      · exact ⟨_, .non, by decide, by decide⟩
      · exact ⟨_, .int _, by decide, by decide⟩
      · exact ⟨_, .str _, by decide, by decide⟩
      · exact ⟨_, .tup (SqT.of (kp6 _ _ (t3 _ _ (t2 _ _ upd_same)) ptd)) (.cons (.int _) (.cons (.int _) .nil)), by decide, by decide⟩
      · exact ⟨_, .lst (SqL.of (kp6 _ _ (t3 _ _ upd_same) pld)) (.cons (.int _) .nil), by decide, by decide⟩
    obtain ⟨od, hod, dep, wi⟩ := hodd
    have ez : (0 : Int) + (i : Int) = (i : Int) := by omega
    rw [ez]
    refine ⟨_, rfl, _, rfl, odd, .int i, rfl, fun R xs H7 s7 nR hR rows => ⟨R, rfl, ⟨xs, SqL.of hR⟩, ?_⟩⟩
    refine for_list (K := K) (a := R) (xs := xs) (fun j σ H' => Same H7 H' ∧ ∃ y4 y5 y6 y7 y8 : Option V, σ = [some (.ref a), some (.ref d), some (.int i), some odd, y4, y5, y6, y7, y8])
        ⟨Same.refl _, _, _, _, _, _, rfl⟩ (fun j σ H' _ h => h.1.seq (SqL.of hR)) ?_ ?_
    · rintro j x σ H' hx ⟨sH, y4, y5, y6, y7, y8, rfl⟩
      obtain ⟨r, at_, pp, ae, dx, rfl, hp, hae, hdx⟩ := rows.at hx
      have hp := sH _ _ hp
      have hae := sH _ _ hae
      have hdx := sH _ _ hdx
      have mem : r ∈ tab C := List.mem_of_getElem? at_
      have ks := kinds r mem
      unfold kindsB at ks
      simp only [Bool.and_eq_true, decide_eq_true_eq] at ks
      obtain ⟨kt, kv, km, kl, ki⟩ := ks
      have EE := E j r at_
      have gd := good_of mem
      unfold good at gd
      simp only [Bool.and_eq_true, decide_eq_true_eq] at gd
      obtain ⟨ck, fo, nd, nc, shp⟩ := gd
      have lk : (mkOf r.x r.fls (List.take r.fls.length [odd, .int i])).lookup ("code" : Str) = some (.str r.x) := by unfold mkOf; rw [lookup_put, if_pos rfl]
      have s0 := Same.refl H'
      refine ⟨pp, _, rfl, SqT.of hp, rfl, _, _, rfl, _, _, rfl, _, _, rfl, rfl, ?_⟩
      refine ⟨_, rfl, ae, r.C, dx, _, _, rfl, EE.xf, EE.no "code" (List.mem_cons_self ..), hae, hdx, lk, _, rfl, rfl, _, rfl, ?_⟩
      rw [same_not]
      refine iteF ?_
      refine ⟨_, rfl, ae, r.C, dx, _, _, (.ref cT), _, rfl, hae, hdx, EE.ec, (fun u e => e), kt, ?_⟩
      refine ⟨_, rfl, rfl, _, rfl, ?_⟩
      rw [same_not]
      refine iteF ?_
      refine ⟨_, rfl, ae, r.C, dx, _, _, (.type "ValueError"), _, rfl, hae, hdx, EE.ec, (fun u e => e), kv, ?_⟩
      refine ⟨_, rfl, rfl, _, rfl, ?_⟩
      rw [same_not]
      refine iteF ?_
      refine ⟨_, rfl, ae, r.C, dx, _, _, (.ref cM), _, rfl, hae, hdx, EE.ec, (fun u e => e), km, ?_⟩
      refine ⟨_, rfl, rfl, rfl, _, rfl, ?_⟩
      have ex : ∀ z : Str, decide (V.str r.x = V.str z) = decide (r.x = z) := fun z => decide_eq_decide.mpr ⟨V.str.inj, congrArg V.str⟩
      rw [ex, same_not]
      refine iteF ?_
      refine ⟨_, rfl, ae, r.C, dx, _, _, (.type "LookupError"), _, rfl, hae, hdx, EE.ec, (fun u e => e), kl, ?_⟩
      refine ⟨_, rfl, rfl, _, rfl, ?_⟩
      have el : decide (V.bl (!r.plain) = V.bl r.plain) = false := by cases r.plain <;> decide
      rw [el]
      refine iteF ?_
      refine ⟨_, rfl, ae, r.C, dx, _, _, (.type "IndexError"), _, rfl, hae, hdx, EE.ec, (fun u e => e), ki, ?_⟩
      refine ⟨_, rfl, rfl, rfl, _, rfl, ?_⟩
      rw [ex, same_not]
      refine iteF ?_
      -- due
      refine ⟨_, rfl, small (by show (9 : Nat) ≤ 1000; decide), fun p1 n1 => ⟨.str r.x, l9.map PyData.str, .str _, .tup (SqT.of upd_same) (dpAll_strs l9), shape_str ck, by decide +kernel, _, rfl, ?_⟩⟩
      refine rd_due2 (b := inS r.x l9) (o := odd) rfl fun pd npd2 => ?_
      have z1 := same_new n1 (.tup (l9.map V.str))
      have z2 := same_new npd2 (.tup (if inS r.x l9 = true then [] else [odd]))
      have z12 := z1.trans z2
      have lw : (List.take r.fls.length [odd, V.int i]).length = r.fls.length ∧ r.fls.length ≤ 2 := by
        have : r.fls.length ≤ 2 := by
          by_cases c1 : r.x = "Entangled"
          · rw [if_pos c1] at shp; have := of_decide_eq_true shp; omega
          · rw [if_neg c1] at shp
            by_cases c2 : inS r.x l9 = true
            · rw [if_pos c2] at shp; have := of_decide_eq_true shp; omega
            · rw [if_neg c2] at shp; have := of_decide_eq_true shp; omega
        refine ⟨?_, this⟩
        rw [List.length_take]
        show min r.fls.length 2 = _
        omega
      refine ⟨_, rfl, ae, r.C, dx, _, r.x, List.take r.fls.length [odd, .int i], rfl, ck, EE.xf, (by rw [fo]; exact EE.no), z12 _ _ hae, z12 _ _ hdx, lk, (by rw [fo]; exact fields_at lw.1 nd nc), fun pf Hf sf hf => ?_⟩
      refine ⟨_, rfl, rfl, _, rfl, ?_⟩
      refine rd_due3 (o := odd) (t := .int i) (pd := pd) (ws := List.take r.fls.length [odd, .int i]) rfl rfl rfl (fun e => ?_) (fun e => ?_) fun pz Hz sz hz => ?_
      · rw [ex] at e
        have e := of_decide_eq_true e
        rw [if_pos e] at shp
        rw [of_decide_eq_true shp]
        rfl
      · rw [ex] at e
        have e := of_decide_eq_false e
        rw [if_neg e] at shp
        refine (sf _ _ upd_same).trans ?_
        by_cases c2 : inS r.x l9 = true
        · rw [if_pos c2] at shp ⊢; rw [of_decide_eq_true shp]; rfl
        · rw [if_neg c2] at shp ⊢; rw [of_decide_eq_true shp]; rfl
      have hodz : Dp K Hz odd od := Dp.same (s7.trans (sH.trans (z12.trans (sf.trans sz)))) _ _ hod
      have alls : DpAll K Hz (List.take r.fls.length [odd, V.int i]) (List.take r.fls.length [od, .int i]) ∧ (PyData.tuple (List.take r.fls.length [od, .int i])).depth < 3 ∧ wid (.tuple (List.take r.fls.length [od, .int i])) ≤ 1000 := by
        have l2 := lw.2
        generalize r.fls.length = n at l2
        match n, l2 with
        | 0, _ => exact ⟨.nil, by show (PyData.tuple []).depth < 3; decide, by show wid (.tuple []) ≤ 1000; decide⟩
        | 1, _ =>
          refine ⟨.cons hodz .nil, ?_, ?_⟩
          · show (PyData.tuple [od]).depth < 3
            simp only [PyData.depth, PyData.depthAll]; omega
          · show wid (.tuple [od]) ≤ 1000
            simp only [wid, widAll, List.length_cons, List.length_nil]; omega
        | 2, _ =>
          refine ⟨.cons hodz (.cons (.int _) .nil), ?_, ?_⟩
          · show (PyData.tuple [od, .int i]).depth < 3
            simp only [PyData.depth, PyData.depthAll]; omega
          · show wid (.tuple [od, .int i]) ≤ 1000
            simp only [wid, widAll, List.length_cons, List.length_nil]; omega
      obtain ⟨da, dd, dw⟩ := alls
      refine ⟨.ref pf, .ref pz, .tuple (List.take r.fls.length [od, .int i]), .tuple (List.take r.fls.length [od, .int i]), rfl, .tup (SqT.of (sz _ _ hf)) da, .tup (SqT.of hz) da, dd, dw, fun b H9 hb s9 => ?_⟩
      have hb : b = true := hb.mpr rfl
      subst hb
      refine ⟨_, rfl, ?_⟩
      refine iteF ?_
      exact ⟨sH.trans (z12.trans (sf.trans (sz.trans s9))), _, _, _, _, _, rfl⟩
    · rintro σ H' ⟨sH, y4, y5, y6, y7, y8, rfl⟩
      exact ⟨(hd6.same s7).same sH, _, _, _, _, _, _, _, rfl⟩
  · rintro σ H2 ⟨hd2, x2, x3, x4, x5, x6, x7, x8, rfl⟩
    have E4 := E 4 _ rfl
    have E8 := E 8 _ rfl
    have E22 := E 22 _ rfl
    have E27 := E 27 _ rfl
    refine ⟨rfl, fun a1 d1 na1 nd1 ne1 => ⟨a1, _, d1, _, _, rfl, E4.xf, E4.no "given" (by simp [tab]), errO_a, errO_d ne1, rfl, ?_⟩⟩
    refine ⟨rfl, fun a2 d2 na2 nd2 ne2 => ⟨a2, _, d2, _, _, rfl, E8.xf, E8.no "at" (by simp [tab]), errO_a, errO_d ne2, rfl, ?_⟩⟩
    refine ⟨rfl, fun a3 d3 na3 nd3 ne3 => ⟨a3, _, d3, _, _, rfl, E22.xf, E22.no "second" (by simp [tab]), errO_a, errO_d ne3, rfl, ?_⟩⟩
    refine ⟨rfl, fun a4 d4 na4 nd4 ne4 => ⟨a4, _, d4, _, _, rfl, E27.xf, E27.no "name" (by simp [tab]), errO_a, errO_d ne4, rfl, ?_⟩⟩
    refine ⟨small (by show (4 : Nat) ≤ 1000; decide), fun pk npk => ?_⟩
    refine ⟨_, rfl, small (by show (4 : Nat) ≤ 1000; decide), fun pw npw => ?_⟩
    refine ⟨.ref pk, .ref pw, .list [.int 2, .int 3, .str "b", .str "q"], .list [.int 2, .int 3, .str "b", .str "q"], rfl, .lst (SqL.of ((same_new npw _) _ _ upd_same)) (.cons (.int _) (.cons (.int _) (.cons (.str _) (.cons (.str _) .nil)))), .lst (SqL.of upd_same) (.cons (.int _) (.cons (.int _) (.cons (.str _) (.cons (.str _) .nil)))), by decide, by decide, fun b H9 hb s9 => ?_⟩
    have hb : b = true := hb.mpr rfl
    subst hb
    exact q _
end
end KK

set_option Elab.async false
set_option linter.all false
set_option maxRecDepth 100000
set_option maxHeartbeats 4000000
namespace KK
open PySem PySem.Spec PyProof.Rows L2 RT
theorem same0 {P : Program} {w : World} {K : PySem.W.Frag} {mg : Str → Option Value} {base : Heap} {f : Addr} {fd : FuncData} : FnOk P w K mg base CX0 0 f fd ["_law_found", "_law_due"] (spSame K 0) := by
  have no : ∀ vs H Q E, ¬ spSame K 0 vs H Q E := fun vs H Q E h => by
    obtain ⟨x, y, d, e, _, _, _, h, _⟩ := h
    omega
  exact ⟨fun vs H Q E h => absurd h (no vs H Q E), fun A outer s H args us vs Q E _ _ _ _ h => absurd h (no vs H Q E)⟩
def pickC (l : List Addr) (n : Nat) : Addr := l.getD (n - 3) 0
abbrev AllD (P : Program) (K : PySem.W.Frag) (cT cM : Addr) : Prop := ClsD P K "InvalidSize" "InvalidSize.__init__" (initOf (top 3)) cT cM "ValueError" "ValueError.__new__" "ValueError.__init__" bmV ["given"] true true false false false ∧
  ClsD P K "InvalidSheet" "InvalidSheet.__init__" (initOf (top 4)) cT cM "ValueError" "ValueError.__new__" "ValueError.__init__" bmV [] true true false false false ∧
  ClsD P K "InvalidTriangle" "InvalidTriangle.__init__" (initOf (top 5)) cT cM "ValueError" "ValueError.__new__" "ValueError.__init__" bmV ["at"] true true false false false ∧
  ClsD P K "InvalidOrder" "InvalidOrder.__init__" (initOf (top 6)) cT cM "ValueError" "ValueError.__new__" "ValueError.__init__" bmV [] true true false false false ∧
  ClsD P K "InvalidLine" "InvalidLine.__init__" (initOf (top 7)) cT cM "ValueError" "ValueError.__new__" "ValueError.__init__" bmV ["given"] true true false false false ∧
  ClsD P K "InvalidNail" "InvalidNail.__init__" (initOf (top 8)) cT cM "ValueError" "ValueError.__new__" "ValueError.__init__" bmV ["given"] true true false false false ∧
  ClsD P K "Unflippable" "Unflippable.__init__" (initOf (top 9)) cT cM "ValueError" "ValueError.__new__" "ValueError.__init__" bmV ["at"] true true false false false ∧
  ClsD P K "InvalidCounts" "InvalidCounts.__init__" (initOf (top 10)) cT cM "ValueError" "ValueError.__new__" "ValueError.__init__" bmV [] true true false false false ∧
  ClsD P K "Misfit" "Misfit.__init__" (initOf (top 11)) cT cM "ValueError" "ValueError.__new__" "ValueError.__init__" bmV ["at"] true true false false false ∧
  ClsD P K "InvalidFactor" "InvalidFactor.__init__" (initOf (top 12)) cT cM "ValueError" "ValueError.__new__" "ValueError.__init__" bmV ["given"] true true false false false ∧
  ClsD P K "InvalidPosition" "InvalidPosition.__init__" (initOf (top 13)) cT cM "ValueError" "ValueError.__new__" "ValueError.__init__" bmV ["given"] true true false false false ∧
  ClsD P K "OtherSheet" "OtherSheet.__init__" (initOf (top 14)) cT cM "ValueError" "ValueError.__new__" "ValueError.__init__" bmV [] true true false false false ∧
  ClsD P K "TooGreat" "TooGreat.__init__" (initOf (top 15)) cT cM "ValueError" "ValueError.__new__" "ValueError.__init__" bmV ["most"] true true false false false ∧
  ClsD P K "NotThread" "NotThread.__init__" (initOf (top 16)) cT cM "ValueError" "ValueError.__new__" "ValueError.__init__" bmV [] true true false false false ∧
  ClsD P K "EndsMeet" "EndsMeet.__init__" (initOf (top 17)) cT cM "ValueError" "ValueError.__new__" "ValueError.__init__" bmV ["line"] true true false false false ∧
  ClsD P K "InvalidPath" "InvalidPath.__init__" (initOf (top 18)) cT cM "ValueError" "ValueError.__new__" "ValueError.__init__" bmV ["at"] true true false false false ∧
  ClsD P K "NotPlain" "NotPlain.__init__" (initOf (top 19)) cT cM "ValueError" "ValueError.__new__" "ValueError.__init__" bmV [] true true false false false ∧
  ClsD P K "InvalidRenaming" "InvalidRenaming.__init__" (initOf (top 20)) cT cM "ValueError" "ValueError.__new__" "ValueError.__init__" bmV [] true true false false false ∧
  ClsD P K "InvalidTurn" "InvalidTurn.__init__" (initOf (top 21)) cT cM "ValueError" "ValueError.__new__" "ValueError.__init__" bmV ["line"] true true false false false ∧
  ClsD P K "InvalidName" "InvalidName.__init__" (initOf (top 22)) cT cM "ValueError" "ValueError.__new__" "ValueError.__init__" bmV ["name"] true true false false false ∧
  ClsD P K "DuplicateName" "DuplicateName.__init__" (initOf (top 23)) cT cM "ValueError" "ValueError.__new__" "ValueError.__init__" bmV ["name"] true true false false false ∧
  ClsD P K "TooMany" "TooMany.__init__" (initOf (top 24)) cT cM "ValueError" "ValueError.__new__" "ValueError.__init__" bmV ["most"] true true false false false ∧
  ClsD P K "Entangled" "Entangled.__init__" (initOf (top 25)) cT cM "ValueError" "ValueError.__new__" "ValueError.__init__" bmV ["first", "second"] true true false false false ∧
  ClsD P K "InvalidDeed" "InvalidDeed.__init__" (initOf (top 26)) cT cM "ValueError" "ValueError.__new__" "ValueError.__init__" bmV ["at"] true true false false false ∧
  ClsD P K "InvalidLimit" "InvalidLimit.__init__" (initOf (top 27)) cT cM "ValueError" "ValueError.__new__" "ValueError.__init__" bmV ["given"] true true false false false ∧
  ClsD P K "InvalidText" "InvalidText.__init__" (initOf (top 28)) cT cM "ValueError" "ValueError.__new__" "ValueError.__init__" bmV [] true true false false false ∧
  ClsD P K "InvalidPage" "InvalidPage.__init__" (initOf (top 29)) cT cM "ValueError" "ValueError.__new__" "ValueError.__init__" bmV ["line"] true true false false false ∧
  ClsD P K "UnknownName" "UnknownName.__init__" (initOf (top 30)) cT cM "LookupError" "LookupError.__new__" "LookupError.__init__" bmL ["name"] false false true true false ∧
  ClsD P K "NothingLeft" "NothingLeft.__init__" (initOf (top 31)) cT cM "IndexError" "IndexError.__new__" "IndexError.__init__" bmI [] false false false true true
theorem tab_mk {P : Program} {w : World} {K : PySem.W.Frag} {h : Heap} {mg : Str → Option Value} {cT cM : Addr} (X : K.In h) (G : h.Ns mainGlobals mg) (Ev : Env1 P K mg) (D : AllD P K cT cM) :
    ∃ C : Nat → Addr, (∀ (base : Heap) (i : Nat) (r : RowD), (tab C)[i]? = some r → ErrK P w K mg base r) ∧ ∀ r ∈ tab C, kindsB K r.C cT cM r.plain r.plain (decide (r.x = "UnknownName")) (!r.plain) (decide (r.x = "NothingLeft")) = true := by
  obtain ⟨d3, d4, d5, d6, d7, d8, d9, d10, d11, d12, d13, d14, d15, d16, d17, d18, d19, d20, d21, d22, d23, d24, d25, d26, d27, d28, d29, d30, d31⟩ := D
  obtain ⟨C3, E3, g3⟩ := err1 (w := w) (pl := true) rootV Ev X G d3 form_InvalidSize rfl rfl bind_InvalidSize bindk_InvalidSize
  obtain ⟨C4, E4, g4⟩ := err0 (w := w) (pl := true) rootV Ev X G d4 form_InvalidSheet bind_InvalidSheet
  obtain ⟨C5, E5, g5⟩ := err1 (w := w) (pl := true) rootV Ev X G d5 form_InvalidTriangle rfl rfl bind_InvalidTriangle bindk_InvalidTriangle
  obtain ⟨C6, E6, g6⟩ := err0 (w := w) (pl := true) rootV Ev X G d6 form_InvalidOrder bind_InvalidOrder
  obtain ⟨C7, E7, g7⟩ := err1 (w := w) (pl := true) rootV Ev X G d7 form_InvalidLine rfl rfl bind_InvalidLine bindk_InvalidLine
  obtain ⟨C8, E8, g8⟩ := err1 (w := w) (pl := true) rootV Ev X G d8 form_InvalidNail rfl rfl bind_InvalidNail bindk_InvalidNail
  obtain ⟨C9, E9, g9⟩ := err1 (w := w) (pl := true) rootV Ev X G d9 form_Unflippable rfl rfl bind_Unflippable bindk_Unflippable
  obtain ⟨C10, E10, g10⟩ := err0 (w := w) (pl := true) rootV Ev X G d10 form_InvalidCounts bind_InvalidCounts
  obtain ⟨C11, E11, g11⟩ := err1 (w := w) (pl := true) rootV Ev X G d11 form_Misfit rfl rfl bind_Misfit bindk_Misfit
  obtain ⟨C12, E12, g12⟩ := err1 (w := w) (pl := true) rootV Ev X G d12 form_InvalidFactor rfl rfl bind_InvalidFactor bindk_InvalidFactor
  obtain ⟨C13, E13, g13⟩ := err1 (w := w) (pl := true) rootV Ev X G d13 form_InvalidPosition rfl rfl bind_InvalidPosition bindk_InvalidPosition
  obtain ⟨C14, E14, g14⟩ := err0 (w := w) (pl := true) rootV Ev X G d14 form_OtherSheet bind_OtherSheet
  obtain ⟨C15, E15, g15⟩ := err1 (w := w) (pl := true) rootV Ev X G d15 form_TooGreat rfl rfl bind_TooGreat bindk_TooGreat
  obtain ⟨C16, E16, g16⟩ := err0 (w := w) (pl := true) rootV Ev X G d16 form_NotThread bind_NotThread
  obtain ⟨C17, E17, g17⟩ := err1 (w := w) (pl := true) rootV Ev X G d17 form_EndsMeet rfl rfl bind_EndsMeet bindk_EndsMeet
  obtain ⟨C18, E18, g18⟩ := err1 (w := w) (pl := true) rootV Ev X G d18 form_InvalidPath rfl rfl bind_InvalidPath bindk_InvalidPath
  obtain ⟨C19, E19, g19⟩ := err0 (w := w) (pl := true) rootV Ev X G d19 form_NotPlain bind_NotPlain
  obtain ⟨C20, E20, g20⟩ := err0 (w := w) (pl := true) rootV Ev X G d20 form_InvalidRenaming bind_InvalidRenaming
  obtain ⟨C21, E21, g21⟩ := err1 (w := w) (pl := true) rootV Ev X G d21 form_InvalidTurn rfl rfl bind_InvalidTurn bindk_InvalidTurn
  obtain ⟨C22, E22, g22⟩ := err1 (w := w) (pl := true) rootV Ev X G d22 form_InvalidName rfl rfl bind_InvalidName bindk_InvalidName
  obtain ⟨C23, E23, g23⟩ := err1 (w := w) (pl := true) rootV Ev X G d23 form_DuplicateName rfl rfl bind_DuplicateName bindk_DuplicateName
  obtain ⟨C24, E24, g24⟩ := err1 (w := w) (pl := true) rootV Ev X G d24 form_TooMany rfl rfl bind_TooMany bindk_TooMany
  obtain ⟨C25, E25, g25⟩ := err2 (w := w) (pl := true) rootV Ev X G d25 form_Entangled rfl rfl rfl rfl bind_Entangled bindk_Entangled
  obtain ⟨C26, E26, g26⟩ := err1 (w := w) (pl := true) rootV Ev X G d26 form_InvalidDeed rfl rfl bind_InvalidDeed bindk_InvalidDeed
  obtain ⟨C27, E27, g27⟩ := err1 (w := w) (pl := true) rootV Ev X G d27 form_InvalidLimit rfl rfl bind_InvalidLimit bindk_InvalidLimit
  obtain ⟨C28, E28, g28⟩ := err0 (w := w) (pl := true) rootV Ev X G d28 form_InvalidText bind_InvalidText
  obtain ⟨C29, E29, g29⟩ := err1 (w := w) (pl := true) rootV Ev X G d29 form_InvalidPage rfl rfl bind_InvalidPage bindk_InvalidPage
  obtain ⟨C30, E30, g30⟩ := err1 (w := w) (pl := false) rootL Ev X G d30 form_UnknownName rfl rfl bind_UnknownName bindk_UnknownName
  obtain ⟨C31, E31, g31⟩ := err0 (w := w) (pl := false) rootI Ev X G d31 form_NothingLeft bind_NothingLeft
  refine ⟨pickC [C3, C4, C5, C6, C7, C8, C9, C10, C11, C12, C13, C14, C15, C16, C17, C18, C19, C20, C21, C22, C23, C24, C25, C26, C27, C28, C29, C30, C31], fun base i r h => ?_, fun r hr => ?_⟩
  · match i, h with
    | 0, h => cases h; exact E3 base
    | 1, h => cases h; exact E4 base
    | 2, h => cases h; exact E5 base
    | 3, h => cases h; exact E6 base
    | 4, h => cases h; exact E7 base
    | 5, h => cases h; exact E8 base
    | 6, h => cases h; exact E9 base
    | 7, h => cases h; exact E10 base
    | 8, h => cases h; exact E11 base
    | 9, h => cases h; exact E12 base
    | 10, h => cases h; exact E13 base
    | 11, h => cases h; exact E14 base
    | 12, h => cases h; exact E15 base
    | 13, h => cases h; exact E16 base
    | 14, h => cases h; exact E17 base
    | 15, h => cases h; exact E18 base
    | 16, h => cases h; exact E19 base
    | 17, h => cases h; exact E20 base
    | 18, h => cases h; exact E21 base
    | 19, h => cases h; exact E22 base
    | 20, h => cases h; exact E23 base
    | 21, h => cases h; exact E24 base
    | 22, h => cases h; exact E25 base
    | 23, h => cases h; exact E26 base
    | 24, h => cases h; exact E27 base
    | 25, h => cases h; exact E28 base
    | 26, h => cases h; exact E29 base
    | 27, h => cases h; exact E30 base
    | 28, h => cases h; exact E31 base
    | n + 29, h => exact absurd (List.getElem?_eq_some_iff.mp h).1 (by show ¬ (n + 29 < 29); omega)
  · obtain ⟨i, h⟩ := List.mem_iff_getElem?.mp hr
    match i, h with
    | 0, h => cases h; exact g3
    | 1, h => cases h; exact g4
    | 2, h => cases h; exact g5
    | 3, h => cases h; exact g6
    | 4, h => cases h; exact g7
    | 5, h => cases h; exact g8
    | 6, h => cases h; exact g9
    | 7, h => cases h; exact g10
    | 8, h => cases h; exact g11
    | 9, h => cases h; exact g12
    | 10, h => cases h; exact g13
    | 11, h => cases h; exact g14
    | 12, h => cases h; exact g15
    | 13, h => cases h; exact g16
    | 14, h => cases h; exact g17
    | 15, h => cases h; exact g18
    | 16, h => cases h; exact g19
    | 17, h => cases h; exact g20
    | 18, h => cases h; exact g21
    | 19, h => cases h; exact g22
    | 20, h => cases h; exact g23
    | 21, h => cases h; exact g24
    | 22, h => cases h; exact g25
    | 23, h => cases h; exact g26
    | 24, h => cases h; exact g27
    | 25, h => cases h; exact g28
    | 26, h => cases h; exact g29
    | 27, h => cases h; exact g30
    | 28, h => cases h; exact g31
    | n + 29, h => exact absurd (List.getElem?_eq_some_iff.mp h).1 (by show ¬ (n + 29 < 29); omega)
/-- what is looked at of a class -/
structure CD where
  x : Str
  s : Stmt
  B : String
  nI : String
  iI : String
  bm : List Value
  fls : List Str
  ks : Bool × Bool × Bool × Bool × Bool
def CD.ok (P : Program) (K : PySem.W.Frag) (d : CD) : Bool := He.eqO (PySem.W.nsIn K mainGlobals d.x) (some (some (.ref (He.ga K d.x)))) && (He.eqO (PySem.W.findIn K (.ref (He.ga K d.x)) "__init__") (some (some (.ref (He.ma K (He.ga K d.x) "__init__")))) && (cellB K (HK.cellOf K (d.x, some "__init__")) (He.ga K d.x) && (codeB P K (HK.codeAt K (d.x, some "__init__")) &&
  (clsB K (He.ga K d.x) (He.ma K (He.ga K d.x) "__init__") d.B d.nI d.iI d.bm && (wordsB K (He.ga K d.x) (("code" : Str) :: d.fls) && kindsB K (He.ga K d.x) (He.ga K "ThreadError") (He.ga K "Missing") d.ks.1 d.ks.2.1 d.ks.2.2.1 d.ks.2.2.2.1 d.ks.2.2.2.2)))))
theorem CD.cls {P : Program} {K : PySem.W.Frag} {d : CD} (h : d.ok P K = true) {q : Str} (sh : HK.shp K (d.x, some "__init__") = (HK.ini d.x q d.s).val ∧ (HK.ini d.x q d.s).ok K = true) :
    ClsD P K d.x q d.s (He.ga K "ThreadError") (He.ga K "Missing") d.B d.nI d.iI d.bm d.fls d.ks.1 d.ks.2.1 d.ks.2.2.1 d.ks.2.2.2.1 d.ks.2.2.2.2 := by
  obtain ⟨h1, h⟩ := HK.two h
  obtain ⟨h2, h⟩ := HK.two h
  obtain ⟨h3, h⟩ := HK.two h
  obtain ⟨h4, h⟩ := HK.two h
  obtain ⟨h5, h⟩ := HK.two h
  obtain ⟨h6, h7⟩ := HK.two h
  obtain ⟨oc, kV, doc, pm, ct, od, an, osl, l, c⟩ := HK.DX.ini_ (d := HK.ini d.x q d.s) sh.1 sh.2 rfl rfl
  exact cls_mk (He.eqO_ok h1) (He.eqO_ok h2) l c h3 h4 h5 h6 h7
def cd3 : CD := ⟨"InvalidSize", initOf (top 3), "ValueError", "ValueError.__new__", "ValueError.__init__", bmV, ["given"], (true, true, false, false, false)⟩
def cd4 : CD := ⟨"InvalidSheet", initOf (top 4), "ValueError", "ValueError.__new__", "ValueError.__init__", bmV, [], (true, true, false, false, false)⟩
def cd5 : CD := ⟨"InvalidTriangle", initOf (top 5), "ValueError", "ValueError.__new__", "ValueError.__init__", bmV, ["at"], (true, true, false, false, false)⟩
def cd6 : CD := ⟨"InvalidOrder", initOf (top 6), "ValueError", "ValueError.__new__", "ValueError.__init__", bmV, [], (true, true, false, false, false)⟩
def cd7 : CD := ⟨"InvalidLine", initOf (top 7), "ValueError", "ValueError.__new__", "ValueError.__init__", bmV, ["given"], (true, true, false, false, false)⟩
def cd8 : CD := ⟨"InvalidNail", initOf (top 8), "ValueError", "ValueError.__new__", "ValueError.__init__", bmV, ["given"], (true, true, false, false, false)⟩
def cd9 : CD := ⟨"Unflippable", initOf (top 9), "ValueError", "ValueError.__new__", "ValueError.__init__", bmV, ["at"], (true, true, false, false, false)⟩
def cd10 : CD := ⟨"InvalidCounts", initOf (top 10), "ValueError", "ValueError.__new__", "ValueError.__init__", bmV, [], (true, true, false, false, false)⟩
def cd11 : CD := ⟨"Misfit", initOf (top 11), "ValueError", "ValueError.__new__", "ValueError.__init__", bmV, ["at"], (true, true, false, false, false)⟩
def cd12 : CD := ⟨"InvalidFactor", initOf (top 12), "ValueError", "ValueError.__new__", "ValueError.__init__", bmV, ["given"], (true, true, false, false, false)⟩
def cd13 : CD := ⟨"InvalidPosition", initOf (top 13), "ValueError", "ValueError.__new__", "ValueError.__init__", bmV, ["given"], (true, true, false, false, false)⟩
def cd14 : CD := ⟨"OtherSheet", initOf (top 14), "ValueError", "ValueError.__new__", "ValueError.__init__", bmV, [], (true, true, false, false, false)⟩
def cd15 : CD := ⟨"TooGreat", initOf (top 15), "ValueError", "ValueError.__new__", "ValueError.__init__", bmV, ["most"], (true, true, false, false, false)⟩
def cd16 : CD := ⟨"NotThread", initOf (top 16), "ValueError", "ValueError.__new__", "ValueError.__init__", bmV, [], (true, true, false, false, false)⟩
def cd17 : CD := ⟨"EndsMeet", initOf (top 17), "ValueError", "ValueError.__new__", "ValueError.__init__", bmV, ["line"], (true, true, false, false, false)⟩
def cd18 : CD := ⟨"InvalidPath", initOf (top 18), "ValueError", "ValueError.__new__", "ValueError.__init__", bmV, ["at"], (true, true, false, false, false)⟩
def cd19 : CD := ⟨"NotPlain", initOf (top 19), "ValueError", "ValueError.__new__", "ValueError.__init__", bmV, [], (true, true, false, false, false)⟩
def cd20 : CD := ⟨"InvalidRenaming", initOf (top 20), "ValueError", "ValueError.__new__", "ValueError.__init__", bmV, [], (true, true, false, false, false)⟩
def cd21 : CD := ⟨"InvalidTurn", initOf (top 21), "ValueError", "ValueError.__new__", "ValueError.__init__", bmV, ["line"], (true, true, false, false, false)⟩
def cd22 : CD := ⟨"InvalidName", initOf (top 22), "ValueError", "ValueError.__new__", "ValueError.__init__", bmV, ["name"], (true, true, false, false, false)⟩
def cd23 : CD := ⟨"DuplicateName", initOf (top 23), "ValueError", "ValueError.__new__", "ValueError.__init__", bmV, ["name"], (true, true, false, false, false)⟩
def cd24 : CD := ⟨"TooMany", initOf (top 24), "ValueError", "ValueError.__new__", "ValueError.__init__", bmV, ["most"], (true, true, false, false, false)⟩
def cd25 : CD := ⟨"Entangled", initOf (top 25), "ValueError", "ValueError.__new__", "ValueError.__init__", bmV, ["first", "second"], (true, true, false, false, false)⟩
def cd26 : CD := ⟨"InvalidDeed", initOf (top 26), "ValueError", "ValueError.__new__", "ValueError.__init__", bmV, ["at"], (true, true, false, false, false)⟩
def cd27 : CD := ⟨"InvalidLimit", initOf (top 27), "ValueError", "ValueError.__new__", "ValueError.__init__", bmV, ["given"], (true, true, false, false, false)⟩
def cd28 : CD := ⟨"InvalidText", initOf (top 28), "ValueError", "ValueError.__new__", "ValueError.__init__", bmV, [], (true, true, false, false, false)⟩
def cd29 : CD := ⟨"InvalidPage", initOf (top 29), "ValueError", "ValueError.__new__", "ValueError.__init__", bmV, ["line"], (true, true, false, false, false)⟩
def cd30 : CD := ⟨"UnknownName", initOf (top 30), "LookupError", "LookupError.__new__", "LookupError.__init__", bmL, ["name"], (false, false, true, true, false)⟩
def cd31 : CD := ⟨"NothingLeft", initOf (top 31), "IndexError", "IndexError.__new__", "IndexError.__init__", bmI, [], (false, false, false, true, true)⟩
def cds : List CD := [cd3, cd4, cd5, cd6, cd7, cd8, cd9, cd10, cd11, cd12, cd13, cd14, cd15, cd16, cd17, cd18, cd19, cd20, cd21, cd22, cd23, cd24, cd25, cd26, cd27, cd28, cd29, cd30, cd31]
def fns : List HK.DX := [HK.glob "_law_deal" sDeal, HK.glob "_law_pick" sPick, HK.glob "_law_of" sOf, HK.glob "_law_same" sSame, HK.glob "_law_field" sField, HK.glob "_law_error_rows" sRows, HK.glob "law" sLaw, HK.ini "InvalidSize" "InvalidSize.__init__" (initOf (top 3)), HK.ini "InvalidSheet" "InvalidSheet.__init__" (initOf (top 4)), HK.ini "InvalidTriangle" "InvalidTriangle.__init__" (initOf (top 5)), HK.ini "InvalidOrder" "InvalidOrder.__init__" (initOf (top 6)), HK.ini "InvalidLine" "InvalidLine.__init__" (initOf (top 7)), HK.ini "InvalidNail" "InvalidNail.__init__" (initOf (top 8)), HK.ini "Unflippable" "Unflippable.__init__" (initOf (top 9)), HK.ini "InvalidCounts" "InvalidCounts.__init__" (initOf (top 10)), HK.ini "Misfit" "Misfit.__init__" (initOf (top 11)), HK.ini "InvalidFactor" "InvalidFactor.__init__" (initOf (top 12)), HK.ini "InvalidPosition" "InvalidPosition.__init__" (initOf (top 13)), HK.ini "OtherSheet" "OtherSheet.__init__" (initOf (top 14)), HK.ini "TooGreat" "TooGreat.__init__" (initOf (top 15)), HK.ini "NotThread" "NotThread.__init__" (initOf (top 16)), HK.ini "EndsMeet" "EndsMeet.__init__" (initOf (top 17)), HK.ini "InvalidPath" "InvalidPath.__init__" (initOf (top 18)), HK.ini "NotPlain" "NotPlain.__init__" (initOf (top 19)), HK.ini "InvalidRenaming" "InvalidRenaming.__init__" (initOf (top 20)), HK.ini "InvalidTurn" "InvalidTurn.__init__" (initOf (top 21)), HK.ini "InvalidName" "InvalidName.__init__" (initOf (top 22)), HK.ini "DuplicateName" "DuplicateName.__init__" (initOf (top 23)), HK.ini "TooMany" "TooMany.__init__" (initOf (top 24)), HK.ini "Entangled" "Entangled.__init__" (initOf (top 25)), HK.ini "InvalidDeed" "InvalidDeed.__init__" (initOf (top 26)), HK.ini "InvalidLimit" "InvalidLimit.__init__" (initOf (top 27)), HK.ini "InvalidText" "InvalidText.__init__" (initOf (top 28)), HK.ini "InvalidPage" "InvalidPage.__init__" (initOf (top 29)), HK.ini "UnknownName" "UnknownName.__init__" (initOf (top 30)), HK.ini "NothingLeft" "NothingLeft.__init__" (initOf (top 31))]
def fas : List He.Fa := [.glo "_law_deal", .glo "_law_pick", .glo "_law_of", .glo "_law_same", .glo "_law_field", .glo "_law_error_rows", .glo "law", .free "len", .free "int", .free "range", .free "list", .free "tuple", .free "isinstance", .free "bool", .free "str", .free "all", .free "zip", .free "ValueError", .free "LookupError", .free "IndexError", .free "super", .glo "ThreadError", .glo "Missing"]
abbrev Pr : Program := PySem.Challenge.rw_flipthreads_k01_errors_by_themselves.prog
def exs (K : PySem.W.Frag) : Bool := (cds.all fun d => d.ok Pr K) && (decide (PySem.W.nsIn K PySem.cStatics "thirdparty.any" = some none) && (decide (PySem.W.specialIn K (.builtin "object.__class__") "__get__" = some (some (.builtin "getset_descriptor.__get__"))) && decide (PySem.W.takesIn K (.builtin "object.__class__") = some true)))
theorem facts {w : World} {K : PySem.W.Frag} {h : Heap} {mg : Str → Option Value} {fa : Addr} (X : K.In h) (G : h.Ns mainGlobals mg) (hfa : mg "law" = some (.ref fa)) (c : HK.Says fas fns exs K) :
    ∃ fd : FuncData, (∀ (s : Shared) (v : Value), BindsTo s fd ⟨[v], []⟩ [("_law_script", v)]) ∧ ∀ base : Heap, K.In base → base.Ns mainGlobals mg → FnOk Pr w K mg base CX0 4 fa fd ["_law_script"] (spLaw K) := by
  obtain ⟨fd0, F0⟩ := c.get 0 (d := HK.glob "_law_deal" sDeal) rfl
  have k0 := F0.kp
  have b0 := F0.binds (ps := ["_law_script"]) fun _ _ _ _ _ _ us hl => match us, hl with | [_], _ => rfl
  have m0 := He.glo_ok X G (c.fact 0 (f := .glo "_law_deal") rfl)
  obtain ⟨fd1, F1⟩ := c.get 1 (d := HK.glob "_law_pick" sPick) rfl
  have k1 := F1.kp
  have b1 := F1.binds (ps := ["_law_deal_here", "_law_many"]) fun _ _ _ _ _ _ us hl => match us, hl with | [_, _], _ => rfl
  have m1 := He.glo_ok X G (c.fact 1 (f := .glo "_law_pick") rfl)
  obtain ⟨fd2, F2⟩ := c.get 2 (d := HK.glob "_law_of" sOf) rfl
  have k2 := F2.kp
  have b2 := F2.binds (ps := ["_law_deal_here", "_law_items"]) fun _ _ _ _ _ _ us hl => match us, hl with | [_, _], _ => rfl
  have m2 := He.glo_ok X G (c.fact 2 (f := .glo "_law_of") rfl)
  obtain ⟨fd3, F3⟩ := c.get 3 (d := HK.glob "_law_same" sSame) rfl
  have k3 := F3.kp
  have b3 := F3.binds (ps := ["_law_found", "_law_due"]) fun _ _ _ _ _ _ us hl => match us, hl with | [_, _], _ => rfl
  have m3 := He.glo_ok X G (c.fact 3 (f := .glo "_law_same") rfl)
  obtain ⟨fd4, F4⟩ := c.get 4 (d := HK.glob "_law_field" sField) rfl
  have k4 := F4.kp
  have b4 := F4.binds (ps := ["_law_e"]) fun _ _ _ _ _ _ us hl => match us, hl with | [_], _ => rfl
  have m4 := He.glo_ok X G (c.fact 4 (f := .glo "_law_field") rfl)
  obtain ⟨fd5, F5⟩ := c.get 5 (d := HK.glob "_law_error_rows" sRows) rfl
  have k5 := F5.kp
  have b5 := F5.binds (ps := ["_law_odd", "_law_turn"]) fun _ _ _ _ _ _ us hl => match us, hl with | [_, _], _ => rfl
  have m5 := He.glo_ok X G (c.fact 5 (f := .glo "_law_error_rows") rfl)
  obtain ⟨fd6, F6⟩ := c.get 6 (d := HK.glob "law" sLaw) rfl
  have k6 := F6.kp
  have y_len := He.free_ok X G (c.fact 7 (f := .free "len") rfl)
  have y_int := He.free_ok X G (c.fact 8 (f := .free "int") rfl)
  have y_range := He.free_ok X G (c.fact 9 (f := .free "range") rfl)
  have y_list := He.free_ok X G (c.fact 10 (f := .free "list") rfl)
  have y_tuple := He.free_ok X G (c.fact 11 (f := .free "tuple") rfl)
  have y_isinstance := He.free_ok X G (c.fact 12 (f := .free "isinstance") rfl)
  have y_bool := He.free_ok X G (c.fact 13 (f := .free "bool") rfl)
  have y_str := He.free_ok X G (c.fact 14 (f := .free "str") rfl)
  have y_all := He.free_ok X G (c.fact 15 (f := .free "all") rfl)
  have y_zip := He.free_ok X G (c.fact 16 (f := .free "zip") rfl)
  have y_ValueError := He.free_ok X G (c.fact 17 (f := .free "ValueError") rfl)
  have y_LookupError := He.free_ok X G (c.fact 18 (f := .free "LookupError") rfl)
  have y_IndexError := He.free_ok X G (c.fact 19 (f := .free "IndexError") rfl)
  have y_super := He.free_ok X G (c.fact 20 (f := .free "super") rfl)
  have e := hfa.symm.trans (He.glo_ok X G (c.fact 6 (f := .glo "law") rfl))
  cases e
  obtain ⟨ocL, odL, kVL, docL, pmL, anL, cdL, ctL, oslL, efd, lkL, hcdL⟩ := F6.ex
  have bL : ∀ (s : Shared) (v : Value), BindsTo s fd6 ⟨[v], []⟩ [("_law_script", v)] := fun s v => by rw [efd]; exact .of_eq rfl
  have aT := He.glo_ok X G (c.fact 21 (f := .glo "ThreadError") rfl)
  have aM := He.glo_ok X G (c.fact 22 (f := .glo "Missing") rfl)
  obtain ⟨e1, e2⟩ := HK.two c.bs.2.2
  obtain ⟨e2, e3⟩ := HK.two e2
  obtain ⟨e3, e4⟩ := HK.two e3
  have Ev : Env1 Pr K mg := ⟨of_decide_eq_true e2, y_super, rfl, of_decide_eq_true e3, of_decide_eq_true e4⟩
  have cl : ∀ (i : Nat) (d : CD) (q : Str), cds[i]? = some d → fns[i + 7]? = some (HK.ini d.x q d.s) → ClsD Pr K d.x q d.s (He.ga K "ThreadError") (He.ga K "Missing") d.B d.nI d.iI d.bm d.fls d.ks.1 d.ks.2.1 d.ks.2.2.1 d.ks.2.2.2.1 d.ks.2.2.2.2 := fun i d q h1 h2 =>
    CD.cls (List.all_eq_true.mp e1 d (List.mem_of_getElem? h1)) (c.sh (i + 7) h2)
  have DD : AllD Pr K (He.ga K "ThreadError") (He.ga K "Missing") := ⟨cl 0 cd3 "InvalidSize.__init__" rfl rfl, cl 1 cd4 "InvalidSheet.__init__" rfl rfl, cl 2 cd5 "InvalidTriangle.__init__" rfl rfl, cl 3 cd6 "InvalidOrder.__init__" rfl rfl, cl 4 cd7 "InvalidLine.__init__" rfl rfl, cl 5 cd8 "InvalidNail.__init__" rfl rfl, cl 6 cd9 "Unflippable.__init__" rfl rfl, cl 7 cd10 "InvalidCounts.__init__" rfl rfl, cl 8 cd11 "Misfit.__init__" rfl rfl, cl 9 cd12 "InvalidFactor.__init__" rfl rfl, cl 10 cd13 "InvalidPosition.__init__" rfl rfl, cl 11 cd14 "OtherSheet.__init__" rfl rfl, cl 12 cd15 "TooGreat.__init__" rfl rfl, cl 13 cd16 "NotThread.__init__" rfl rfl, cl 14 cd17 "EndsMeet.__init__" rfl rfl, cl 15 cd18 "InvalidPath.__init__" rfl rfl, cl 16 cd19 "NotPlain.__init__" rfl rfl, cl 17 cd20 "InvalidRenaming.__init__" rfl rfl, cl 18 cd21 "InvalidTurn.__init__" rfl rfl, cl 19 cd22 "InvalidName.__init__" rfl rfl, cl 20 cd23 "DuplicateName.__init__" rfl rfl, cl 21 cd24 "TooMany.__init__" rfl rfl, cl 22 cd25 "Entangled.__init__" rfl rfl, cl 23 cd26 "InvalidDeed.__init__" rfl rfl, cl 24 cd27 "InvalidLimit.__init__" rfl rfl, cl 25 cd28 "InvalidText.__init__" rfl rfl, cl 26 cd29 "InvalidPage.__init__" rfl rfl, cl 27 cd30 "UnknownName.__init__" rfl rfl, cl 28 cd31 "NothingLeft.__init__" rfl rfl⟩
  have TS : SameT mg := ⟨y_isinstance, y_bool, y_int, y_str, y_list, y_tuple, y_len, y_all, y_zip⟩
  have TL : LawT mg := ⟨y_range, y_isinstance, y_ValueError, y_LookupError, y_IndexError⟩
  obtain ⟨C, E, kinds⟩ := tab_mk (w := w) X G Ev DD
  refine ⟨fd6, bL, fun base _ _ => ?_⟩
  have G0 : FnOk Pr w K mg base CX0 1 _ _ ["_law_script"] (spDeal K) := ok_deal F0 y_len y_int
  have G1 : FnOk Pr w K mg base CX0 1 _ _ ["_law_deal_here", "_law_many"] spPick := ok_pick F1 y_len y_int
  have G2 := ok_of F2 y_len G1 b1 k1 m1
  have S1 : FnOk Pr w K mg base CX0 1 _ _ ["_law_found", "_law_due"] (spSame K 1) := ok_same F3 TS same0 b3 k3 m3
  have S2 := ok_same F3 TS S1 b3 k3 m3
  have S3 := ok_same F3 TS S2 b3 k3 m3
  have G4 : FnOk Pr w K mg base CX0 1 _ _ ["_law_e"] (spField K) := ok_field F4
  have G5 : FnOk Pr w K mg base CX0 3 _ _ ["_law_odd", "_law_turn"] (spRows C) := ok_rows F5 (E base)
  exact ok_law F6 TL aT aM (E base) kinds G0 b0 k0 m0 G2 b2 k2 m2 S3 b3 k3 m3 G4 b4 k4 m4 G5 b5 k5 m5
end KK

set_option Elab.async false
set_option linter.all false
set_option maxRecDepth 100000
set_option maxHeartbeats 0
namespace KK
open PySem PySem.Spec PyProof.Rows L2 RT
def lo0 : List Str := ["ThreadError", "Missing", "InvalidSize", "InvalidSheet", "InvalidTriangle", "InvalidOrder", "InvalidLine", "InvalidNail", "Unflippable", "InvalidCounts", "Misfit", "InvalidFactor", "InvalidPosition", "OtherSheet", "TooGreat", "NotThread", "EndsMeet", "InvalidPath", "NotPlain", "InvalidRenaming", "InvalidTurn", "InvalidName", "DuplicateName", "TooMany", "Entangled", "InvalidDeed", "InvalidLimit", "InvalidText", "InvalidPage", "UnknownName"]
def lo1 : List Str := ["NothingLeft", "_law_deal", "_law_pick", "_law_of", "_law_same", "_law_field", "_law_error_rows"]
def lo : List Str := lo0 ++ lo1
abbrev Rr : PySem.W.OpenRow := PySem.W.OpenLaw.row PySem.Challenge.rw_flipthreads_k01_errors_by_themselves
abbrev hk : PySem.W.Hook := HK.hook 5 [PySem.cStatics] fas fns exs
def ob (s : PySem.W.SharedT) : HK.Obs := HK.obsG 5 [PySem.cStatics] fas fns exs (HandSHeadRun.getT s)
theorem ob_eq (s : PySem.W.SharedT) : ob s = hk.obs s.abs := HK.obs_eq (HandSHeadRun.getT_eq s)
theorem run (w : World) : HandSHeadRun.RunEq Rr (PySem.W.view Rr.prog [39]) hk ob 9000 lo w := by
  intro os
  kernel_rfl
end KK
open PySem PySem.W PySem.Calls PyProof.Rows
set_option maxRecDepth 100000 in
set_option maxHeartbeats 0 in
theorem PySem.Challenge.cw_flipthreads_k01_errors_by_themselves_holds : PySem.Challenge.rw_flipthreads_k01_errors_by_themselves.Holds := by
  w_on; o_law
  refine HandSHeadRun.head_any (r := OpenLaw.row PySem.Challenge.rw_flipthreads_k01_errors_by_themselves) (q := view (OpenLaw.row PySem.Challenge.rw_flipthreads_k01_errors_by_themselves).prog [39]) (H := KK.hk) (ob := KK.ob) (M := 9000) (loose := KK.lo) (d := HandSHeadRun.topDef (OpenLaw.row PySem.Challenge.rw_flipthreads_k01_errors_by_themselves).prog 39) (kwd := []) KK.ob_eq
    (by kernel_rfl) (fun s => by kernel_rfl) KK.run (by kernel_rfl) (by kernel_rfl) (by kernel_rfl) (by rfl) (by first | assumption | decide +kernel) (by decide +kernel) ⟨rfl, rfl, rfl, rfl, rfl, by decide +kernel⟩ ?hw ?hc
  case hw => w_witness2
  case hc =>
    refine L2.walk_ofE (l := PySem.Challenge.rw_flipthreads_k01_errors_by_themselves) (n := 63) (k := 4) (x := "_law_script") (CX := L2.CX0) rfl (by decide) (by kernel_rfl) ⟨rfl, by decide, by decide⟩ ?F (fun _ _ _ _ z => z)
    intro w mg fa h Y G hmg0
    obtain ⟨K, KX, c⟩ := Y
    have hmg : mg ("law" : PySem.Str) = some (.ref fa) := by
      have e : (HandSHeadRun.topDef (OpenLaw.row PySem.Challenge.rw_flipthreads_k01_errors_by_themselves).prog 39).name = ("law" : PySem.Str) := by kernel_rfl
      rw [← e]
      exact hmg0
    obtain ⟨fd, hb, hF⟩ := KK.facts (w := w) KX G hmg c
    exact ⟨K, fd, KK.spLaw K, KX, hb, fun H a ns hl _ hS => ⟨a, ns, rfl, hS, hl, fun _ => rfl⟩, hF⟩

