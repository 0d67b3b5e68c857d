import PyProof.Rows.All
import Wide.All
import OpenK.AllK
import Wide.FinOn
import HandS.ForMost
import HandS.Strs
import HandS.SetFor
import PyProof.FactsAll.bool_1
import HandS.Sort
import HandS.More
import HandS.Conv
import HandS.DictComp
import HandS.SortInts
import HandS.Style
import HandS.Evl
import HandS.IsInst
import HandS.Steps
import HandS.SetKeys
import HandS.Flow
import HandS.Walk
import HandS.LawCells
import PySem.Challenge.RW_stonerow_k07_whole_one_more_or_less
set_option Elab.async false
set_option linter.all false
set_option maxRecDepth 100000
namespace Sw
/-! ## numbers that hang together -/
inductive Conn (st : List (Int × Int)) : Int → Int → Prop
  | refl (x : Int) : Conn st x x
  | edge {a b : Int} : (a, b) ∈ st → Conn st a b
  | symm {x y : Int} : Conn st x y → Conn st y x
  | trans {x y z : Int} : Conn st x y → Conn st y z → Conn st x z

def IsEnd (st : List (Int × Int)) (x : Int) : Prop := ∃ s ∈ st, x = s.1 ∨ x = s.2

theorem Conn.mono {st st' : List (Int × Int)} (h : ∀ s ∈ st, s ∈ st') {x y : Int} (c : Conn st x y) : Conn st' x y := by
  induction c with
  | refl x => exact .refl x
  | edge e => exact .edge (h _ e)
  | symm _ ih => exact .symm ih
  | trans _ _ i1 i2 => exact .trans i1 i2

theorem Conn.isEnd {st : List (Int × Int)} {x y : Int} (c : Conn st x y) : x = y ∨ (IsEnd st x ∧ IsEnd st y) := by
  induction c with
  | refl x => exact .inl rfl
  | edge e => exact .inr ⟨⟨_, e, .inl rfl⟩, ⟨_, e, .inr rfl⟩⟩
  | symm _ ih =>
    rcases ih with h | ⟨h, h'⟩
    · exact .inl h.symm
    · exact .inr ⟨h', h⟩
  | trans _ _ i1 i2 =>
    rcases i1 with h | ⟨h, h'⟩
    · subst h
      exact i2
    · rcases i2 with k | ⟨_, k'⟩
      · subst k
        exact .inr ⟨h, h'⟩
      · exact .inr ⟨h, k'⟩

/-- how one stone more joins -/
theorem conn_snoc {st : List (Int × Int)} {a b x y : Int} : Conn (st ++ [(a, b)]) x y ↔ Conn st x y ∨ (Conn st x a ∧ Conn st b y) ∨ (Conn st x b ∧ Conn st a y) := by
  constructor
  · intro c
    induction c with
    | refl x => exact .inl (.refl x)
    | edge e =>
      rcases List.mem_append.mp e with h | h
      · exact .inl (.edge h)
      · have h := List.mem_singleton.mp h
        cases h
        exact .inr (.inl ⟨.refl _, .refl _⟩)
    | symm _ ih =>
      rcases ih with h | ⟨h, h'⟩ | ⟨h, h'⟩
      · exact .inl h.symm
      · exact .inr (.inr ⟨h'.symm, h.symm⟩)
      · exact .inr (.inl ⟨h'.symm, h.symm⟩)
    | trans _ _ i1 i2 =>
      rcases i1 with h | ⟨h, h'⟩ | ⟨h, h'⟩
      · rcases i2 with k | ⟨k, k'⟩ | ⟨k, k'⟩
        · exact .inl (h.trans k)
        · exact .inr (.inl ⟨h.trans k, k'⟩)
        · exact .inr (.inr ⟨h.trans k, k'⟩)
      · rcases i2 with k | ⟨k, k'⟩ | ⟨k, k'⟩
        · exact .inr (.inl ⟨h, h'.trans k⟩)
        · exact .inr (.inl ⟨h, k'⟩)
        · exact .inl (h.trans k')
      · rcases i2 with k | ⟨k, k'⟩ | ⟨k, k'⟩
        · exact .inr (.inr ⟨h, h'.trans k⟩)
        · exact .inl (h.trans k')
        · exact .inr (.inr ⟨h, k'⟩)
  · have up : ∀ {u v : Int}, Conn st u v → Conn (st ++ [(a, b)]) u v := fun c => c.mono fun s h => List.mem_append.mpr (.inl h)
    have e : Conn (st ++ [(a, b)]) a b := .edge (List.mem_append.mpr (.inr (List.mem_singleton.mpr rfl)))
    rintro (h | ⟨h, h'⟩ | ⟨h, h'⟩)
    · exact up h
    · exact (up h).trans (e.trans (up h'))
    · exact (up h).trans (e.symm.trans (up h'))

/-! ## the labels, as the program gives them -/
def look (l : List (Int × Int)) (x : Int) : Option Int := (l.find? fun p => decide (p.1 = x)).map (·.2)
def setd (l : List (Int × Int)) (x v : Int) : List (Int × Int) := if (look l x).isSome then l else l ++ [(x, v)]
def relab (o n : Int) (l : List (Int × Int)) : List (Int × Int) := l.map fun p => (p.1, if p.2 = o then n else p.2)
def labStep (l : List (Int × Int)) (s : Int × Int) : List (Int × Int) :=
  let l2 := setd (setd l s.1 s.1) s.2 s.2
  let o := (look l2 s.1).getD 0
  let n := (look l2 s.2).getD 0
  if o ≠ n then relab o n l2 else l2
def labOf (st : List (Int × Int)) : List (Int × Int) := st.foldl labStep []

theorem look_append (l r : List (Int × Int)) (x : Int) : look (l ++ r) x = (look l x).or (look r x) := by
  unfold look
  rw [List.find?_append]
  cases List.find? (fun p => decide (p.1 = x)) l <;> rfl
theorem look_cons (p : Int × Int) (l : List (Int × Int)) (x : Int) : look (p :: l) x = if p.1 = x then some p.2 else look l x := by
  unfold look
  rw [List.find?_cons]
  by_cases h : p.1 = x
  · rw [if_pos h, decide_eq_true h]
    rfl
  · rw [if_neg h, decide_eq_false h]
theorem look_nil (x : Int) : look [] x = none := rfl
theorem look_setd (l : List (Int × Int)) (x v y : Int) : look (setd l x v) y = if y = x then some ((look l x).getD v) else look l y := by
  unfold setd
  cases h : look l x with
  | some w =>
    show look l y = _
    by_cases e : y = x
    · rw [if_pos e, e, h]
      rfl
    · rw [if_neg e]
  | none =>
    show look (l ++ [(x, v)]) y = _
    rw [look_append, look_cons, look_nil]
    by_cases e : y = x
    · rw [if_pos e, e, h, if_pos rfl]
      rfl
    · rw [if_neg e, if_neg (fun z => e z.symm)]
      cases look l y <;> rfl
theorem look_relab (o n : Int) (l : List (Int × Int)) (x : Int) : look (relab o n l) x = (look l x).map fun m => if m = o then n else m := by
  induction l with
  | nil => rfl
  | cons p l ih =>
    show look ((p.1, if p.2 = o then n else p.2) :: relab o n l) x = _
    rw [look_cons, look_cons, ih]
    by_cases e : p.1 = x
    · rw [if_pos e, if_pos e]
      rfl
    · rw [if_neg e, if_neg e]

structure LabOk (pre l : List (Int × Int)) : Prop where
  key : ∀ x, (look l x).isSome = true ↔ IsEnd pre x
  to : ∀ x m, look l x = some m → Conn pre x m
  same : ∀ x y m k, look l x = some m → look l y = some k → Conn pre x y → m = k

theorem isEnd_snoc {pre : List (Int × Int)} {s : Int × Int} {x : Int} : IsEnd (pre ++ [s]) x ↔ IsEnd pre x ∨ x = s.1 ∨ x = s.2 := by
  constructor
  · rintro ⟨t, ht, e⟩
    rcases List.mem_append.mp ht with h | h
    · exact .inl ⟨t, h, e⟩
    · rw [List.mem_singleton.mp h] at e
      exact .inr e
  · rintro (⟨t, ht, e⟩ | e)
    · exact ⟨t, List.mem_append.mpr (.inl ht), e⟩
    · exact ⟨s, List.mem_append.mpr (.inr (List.mem_singleton.mpr rfl)), e⟩

theorem look_of_not {l : List (Int × Int)} {x : Int} (h : ¬ (look l x).isSome = true) : look l x = none := by
  cases e : look l x with
  | none => rfl
  | some m => rw [e] at h; exact absurd rfl h

/-- keys may lie beyond the ends: the extra set -/
structure LabX (pre : List (Int × Int)) (ex : Int → Prop) (l : List (Int × Int)) : Prop where
  key : ∀ x, (look l x).isSome = true ↔ IsEnd pre x ∨ ex x
  to : ∀ x m, look l x = some m → Conn pre x m
  same : ∀ x y m k, look l x = some m → look l y = some k → Conn pre x y → m = k
theorem LabX.setd {pre : List (Int × Int)} {ex : Int → Prop} {l : List (Int × Int)} (h : LabX pre ex l) (a : Int) : LabX pre (fun x => ex x ∨ x = a) (setd l a a) := by
  have hd : ∀ x m, look (Sw.setd l a a) x = some m → (look l x = some m) ∨ (x = a ∧ m = a ∧ look l a = none) := by
    intro x m e
    rw [look_setd] at e
    by_cases q : x = a
    · rw [if_pos q] at e
      cases ha : look l a with
      | none =>
        rw [ha] at e
        exact .inr ⟨q, (Option.some.inj e).symm, rfl⟩
      | some w =>
        rw [ha] at e
        left
        rw [q, ha]
        exact e
    · rw [if_neg q] at e
      exact .inl e
  have fresh : look l a = none → ∀ y, Conn pre a y → y = a := by
    intro hn y c
    have na : ¬ (IsEnd pre a ∨ ex a) := fun z => by
      have := (h.key a).mpr z
      rw [hn] at this
      cases this
    rcases c.isEnd with e | ⟨e, _⟩
    · exact e.symm
    · exact absurd (.inl e) na
  refine ⟨fun x => ?_, fun x m e => ?_, fun x y m k e1 e2 c => ?_⟩
  · rw [look_setd]
    by_cases q : x = a
    · rw [if_pos q]
      exact ⟨fun _ => .inr (.inr q), fun _ => rfl⟩
    · rw [if_neg q, h.key]
      constructor
      · rintro (z | z)
        · exact .inl z
        · exact .inr (.inl z)
      · rintro (z | z | z)
        · exact .inl z
        · exact .inr z
        · exact absurd z q
  · rcases hd x m e with z | ⟨rfl, rfl, _⟩
    · exact h.to x m z
    · exact .refl _
  · rcases hd x m e1 with z1 | ⟨rfl, rfl, n1⟩
    · rcases hd y k e2 with z2 | ⟨rfl, rfl, n2⟩
      · exact h.same x y m k z1 z2 c
      · have := fresh n2 x c.symm
        rw [this, n2] at z1
        cases z1
    · rcases hd y k e2 with z2 | ⟨rfl, rfl, n2⟩
      · have := fresh n1 y c
        rw [this, n1] at z2
        cases z2
      · rfl

theorem labStep_ok {pre l : List (Int × Int)} (h : LabOk pre l) (s : Int × Int) : LabOk (pre ++ [s]) (labStep l s) := by
  obtain ⟨a, b⟩ := s
  have h0 : LabX pre (fun _ => False) l := ⟨fun x => (h.key x).trans ⟨.inl, fun z => z.resolve_right id⟩, h.to, h.same⟩
  have h2 := (h0.setd a).setd b
  generalize el : setd (setd l a a) b b = l2 at h2
  have ka : (look l2 a).isSome = true := (h2.key a).mpr (.inr (.inl (.inr rfl)))
  have kb : (look l2 b).isSome = true := (h2.key b).mpr (.inr (.inr rfl))
  obtain ⟨o, eo⟩ := Option.isSome_iff_exists.mp ka
  obtain ⟨n, en⟩ := Option.isSome_iff_exists.mp kb
  have es : labStep l (a, b) = if o ≠ n then relab o n l2 else l2 := by
    show (if (look (setd (setd l a a) b b) a).getD 0 ≠ (look (setd (setd l a a) b b) b).getD 0 then relab ((look (setd (setd l a a) b b) a).getD 0) ((look (setd (setd l a a) b b) b).getD 0) (setd (setd l a a) b b) else setd (setd l a a) b b) = _
    rw [el, eo, en]
    rfl
  have up : ∀ {u v : Int}, Conn pre u v → Conn (pre ++ [(a, b)]) u v := fun c => c.mono fun s h => List.mem_append.mpr (.inl h)
  have eab : Conn (pre ++ [(a, b)]) a b := .edge (List.mem_append.mpr (.inr (List.mem_singleton.mpr rfl)))
  have lk : ∀ x, look (labStep l (a, b)) x = (look l2 x).map fun m => if m = o then n else m := by
    intro x
    rw [es]
    by_cases q : o = n
    · rw [if_neg (fun z => z q)]
      cases look l2 x with
      | none => rfl
      | some m =>
        show some m = some (if m = o then n else m)
        by_cases z : m = o
        · rw [if_pos z, z, q]
        · rw [if_neg z]
    · rw [if_pos q, look_relab]
  have ao : Conn pre a o := h2.to a o eo
  have bn : Conn pre b n := h2.to b n en
  refine ⟨fun x => ?_, fun x m e => ?_, fun x y m k e1 e2 c => ?_⟩
  · rw [lk, Option.isSome_map, h2.key, isEnd_snoc]
    constructor
    · rintro (z | (z | z) | z)
      · exact .inl z
      · exact z.elim
      · exact .inr (.inl z)
      · exact .inr (.inr z)
    · rintro (z | z | z)
      · exact .inl z
      · exact .inr (.inl (.inr z))
      · exact .inr (.inr z)
  · rw [lk] at e
    cases e1 : look l2 x with
    | none =>
      rw [e1] at e
      cases e
    | some m0 =>
      rw [e1] at e
      have e : (if m0 = o then n else m0) = m := Option.some.inj e
      have c0 := h2.to x m0 e1
      by_cases q : m0 = o
      · rw [if_pos q] at e
        rw [← e]
        rw [q] at c0
        exact (up c0).trans ((up ao).symm.trans (eab.trans (up bn)))
      · rw [if_neg q] at e
        rw [← e]
        exact up c0
  · rw [lk] at e1 e2
    cases f1 : look l2 x with
    | none =>
      rw [f1] at e1
      cases e1
    | some m0 =>
      cases f2 : look l2 y with
      | none =>
        rw [f2] at e2
        cases e2
      | some k0 =>
        rw [f1] at e1
        rw [f2] at e2
        have e1 : (if m0 = o then n else m0) = m := Option.some.inj e1
        have e2 : (if k0 = o then n else k0) = k := Option.some.inj e2
        rcases conn_snoc.mp c with c | ⟨c, c'⟩ | ⟨c, c'⟩
        · have q := h2.same x y m0 k0 f1 f2 c
          rw [← e1, ← e2, q]
        · have q1 := h2.same x a m0 o f1 eo c
          have q2 := h2.same b y n k0 en f2 c'
          rw [← e1, ← e2, q1, ← q2, if_pos rfl]
          by_cases z : n = o
          · rw [if_pos z]
          · rw [if_neg z]
        · have q1 := h2.same x b m0 n f1 en c
          have q2 := h2.same a y o k0 eo f2 c'
          rw [← e1, ← e2, q1, ← q2, if_pos rfl]
          by_cases z : n = o
          · rw [if_pos z]
          · rw [if_neg z]

theorem labFold_ok : ∀ (r pre l : List (Int × Int)), LabOk pre l → LabOk (pre ++ r) (r.foldl labStep l)
  | [], pre, l, h => by
    rw [List.append_nil]
    exact h
  | s :: r, pre, l, h => by
    have := labFold_ok r (pre ++ [s]) (labStep l s) (labStep_ok h s)
    rw [List.append_assoc] at this
    exact this
theorem labOk_nil : LabOk [] [] := by
  refine ⟨fun x => ⟨fun z => ?_, fun z => ?_⟩, fun x m e => ?_, fun x y m k e => ?_⟩
  · cases z
  · obtain ⟨s, hs, _⟩ := z
    cases hs
  · cases e
  · cases e
theorem labOf_ok (st : List (Int × Int)) : LabOk st (labOf st) := labFold_ok st [] [] labOk_nil

/-- the label of a number -/
def lab (st : List (Int × Int)) (x : Int) : Int := (look (labOf st) x).getD 0
theorem lab_iff {st : List (Int × Int)} {x y : Int} (hx : IsEnd st x) (hy : IsEnd st y) : lab st x = lab st y ↔ Conn st x y := by
  have L := labOf_ok st
  obtain ⟨m, em⟩ := Option.isSome_iff_exists.mp ((L.key x).mpr hx)
  obtain ⟨k, ek⟩ := Option.isSome_iff_exists.mp ((L.key y).mpr hy)
  unfold lab
  rw [em, ek]
  show m = k ↔ _
  constructor
  · intro e
    have c1 := L.to x m em
    have c2 := L.to y k ek
    rw [e] at c1
    exact c1.trans c2.symm
  · exact L.same x y m k em ek

/-- the length and the keys, for the dict -/
theorem setd_keys (l : List (Int × Int)) (x v : Int) (h : (l.map (·.1)).Nodup) : ((setd l x v).map (·.1)).Nodup := by
  unfold setd
  cases e : look l x with
  | some w => exact h
  | none =>
    show ((l ++ [(x, v)]).map (·.1)).Nodup
    rw [List.map_append]
    refine List.nodup_append.mpr ⟨h, by simp, fun a ha b hb => ?_⟩
    have hb : b = x := List.mem_singleton.mp hb
    intro q
    obtain ⟨p, hp, ep⟩ := List.mem_map.mp ha
    have := List.find?_eq_none.mp (Option.map_eq_none_iff.mp e) p hp
    exact this (decide_eq_true (ep.trans (q.trans hb)))
theorem setd_len (l : List (Int × Int)) (x v : Int) : (setd l x v).length ≤ l.length + 1 := by
  unfold setd
  split
  · omega
  · rw [List.length_append]
    exact Nat.le_refl _
theorem relab_keys (o n : Int) (l : List (Int × Int)) : (relab o n l).map (·.1) = l.map (·.1) := by
  unfold relab
  rw [List.map_map]
  rfl
end Sw
namespace Sw
theorem relab_len (o n : Int) (l : List (Int × Int)) : (relab o n l).length = l.length := List.length_map _
theorem labStep_len (l : List (Int × Int)) (s : Int × Int) : (labStep l s).length ≤ l.length + 2 := by
  have h1 := setd_len l s.1 s.1
  have h2 := setd_len (setd l s.1 s.1) s.2 s.2
  unfold labStep
  dsimp only
  split
  · rw [relab_len]
    omega
  · omega
theorem labStep_keys (l : List (Int × Int)) (s : Int × Int) (h : (l.map (·.1)).Nodup) : ((labStep l s).map (·.1)).Nodup := by
  have h2 := setd_keys _ s.2 s.2 (setd_keys l s.1 s.1 h)
  unfold labStep
  dsimp only
  split
  · rw [relab_keys]
    exact h2
  · exact h2
theorem labTake_ok (st : List (Int × Int)) : ∀ i, ((st.take i).foldl labStep []).length ≤ 2 * i ∧ (((st.take i).foldl labStep []).map (·.1)).Nodup
  | 0 => ⟨Nat.le_refl _, List.nodup_nil⟩
  | i + 1 => by
    obtain ⟨h1, h2⟩ := labTake_ok st i
    rw [List.take_add_one]
    cases e : st[i]? with
    | none =>
      rw [Option.toList_none, List.append_nil]
      exact ⟨by omega, h2⟩
    | some s =>
      show ((st.take i ++ [s]).foldl labStep []).length ≤ _ ∧ (((st.take i ++ [s]).foldl labStep []).map (·.1)).Nodup
      rw [List.foldl_append]
      exact ⟨Nat.le_trans (labStep_len _ s) (by omega), labStep_keys _ s h2⟩
theorem labTake_succ {st : List (Int × Int)} {i : Nat} {s : Int × Int} (h : st[i]? = some s) : (st.take (i + 1)).foldl labStep [] = labStep ((st.take i).foldl labStep []) s := by
  rw [List.take_add_one, h, Option.toList_some, List.foldl_append]
  rfl
/-- the label of the first number is as it was when the second is put in -/
theorem look_second (l : List (Int × Int)) (a b : Int) : (look (setd (setd l a a) b b) a).getD 0 = (look (setd l a a) a).getD 0 := by
  rw [look_setd]
  by_cases e : a = b
  · rw [if_pos e]
    subst e
    rw [look_setd, if_pos rfl]
    rfl
  · rw [if_neg e]
/-- a list grown by what it had not -/
theorem look_none {l : List (Int × Int)} {x : Int} (h : x ∉ l.map (·.1)) : look l x = none := by
  refine look_of_not fun z => ?_
  obtain ⟨m, hm⟩ := Option.isSome_iff_exists.mp z
  unfold look at hm
  obtain ⟨p, hp, _⟩ := Option.map_eq_some_iff.mp hm
  have h1 := List.mem_of_find?_eq_some hp
  have h2 := List.find?_some hp
  exact h (List.mem_map.mpr ⟨p, h1, of_decide_eq_true h2⟩)
end Sw
namespace Sw
theorem nodup_take {α : Type} {l : List α} {j : Nat} {x : α} (h : l.Nodup) (hx : l[j]? = some x) : x ∉ l.take j := by
  intro m
  obtain ⟨i, hi⟩ := List.mem_iff_getElem?.mp m
  rw [List.getElem?_take] at hi
  by_cases c : i < j
  · rw [if_pos c] at hi
    obtain ⟨h1, e1⟩ := List.getElem?_eq_some_iff.mp hi
    obtain ⟨h2, e2⟩ := List.getElem?_eq_some_iff.mp hx
    have := (List.getElem_inj h).mp (e1.trans e2.symm)
    omega
  · rw [if_neg c] at hi
    cases hi
theorem relab_at {o n : Int} {l : List (Int × Int)} {j : Nat} {p : Int × Int} (h : l[j]? = some p) : (relab o n l)[j]? = some (p.1, if p.2 = o then n else p.2) := by
  unfold relab
  rw [List.getElem?_map, h]
  rfl
theorem relab_take_look {o n : Int} {l : List (Int × Int)} {j : Nat} {p : Int × Int} (hn : (l.map (·.1)).Nodup) (h : l[j]? = some p) : look ((relab o n l).take j) p.1 = none := by
  refine look_none ?_
  rw [List.map_take, relab_keys]
  exact nodup_take hn (by rw [List.getElem?_map, h]; rfl)
end Sw
namespace Sw
/-! ## groups by a class function on places -/
/-- the groups of a rising list of places: the first of each class, then all of its class -/
def grpsL (c : Nat → Int) (l : List Nat) : List (List Nat) := (l.filter fun p => l.all fun q => decide (q < p → c q ≠ c p)).map fun p => l.filter fun q => decide (c q = c p)

/-- what the program's dict holds after the places ahead of i -/
def grpD (c : Nat → Int) (i : Nat) : List (Int × List Nat) :=
  ((List.range i).filter fun p => (List.range i).all fun q => decide (q < p → c q ≠ c p)).map fun p => (c p, (List.range i).filter fun q => decide (c q = c p))
theorem grpD_snd (c : Nat → Int) (i : Nat) : (grpD c i).map (·.2) = grpsL c (List.range i) := by
  unfold grpD grpsL
  rw [List.map_map]
  rfl
theorem grpD_zero (c : Nat → Int) : grpD c 0 = [] := rfl
theorem grpD_fst (c : Nat → Int) (i : Nat) : (grpD c i).map (·.1) = ((List.range i).filter fun p => (List.range i).all fun q => decide (q < p → c q ≠ c p)).map c := by
  unfold grpD
  rw [List.map_map]
  rfl
theorem first_range (c : Nat → Int) (i p : Nat) (hp : p < i) : ((List.range (i + 1)).all fun q => decide (q < p → c q ≠ c p)) = (List.range i).all fun q => decide (q < p → c q ≠ c p) := by
  rw [List.range_succ, List.all_append]
  have : ([i].all fun q => decide (q < p → c q ≠ c p)) = true := by
    rw [List.all_cons, List.all_nil, Bool.and_true]
    exact decide_eq_true fun h => absurd h (by omega)
  rw [this, Bool.and_true]
theorem firsts_succ (c : Nat → Int) (i : Nat) : ((List.range (i + 1)).filter fun p => (List.range (i + 1)).all fun q => decide (q < p → c q ≠ c p)) =
    ((List.range i).filter fun p => (List.range i).all fun q => decide (q < p → c q ≠ c p)) ++ if ((List.range i).all fun q => decide (c q ≠ c i)) = true then [i] else [] := by
  have e1 : ((List.range (i + 1)).filter fun p => (List.range (i + 1)).all fun q => decide (q < p → c q ≠ c p)) =
      ((List.range i).filter fun p => (List.range (i + 1)).all fun q => decide (q < p → c q ≠ c p)) ++ ([i].filter fun p => (List.range (i + 1)).all fun q => decide (q < p → c q ≠ c p)) := by
    rw [← List.filter_append, ← List.range_succ]
  rw [e1]
  congr 1
  · exact List.filter_congr fun p hp => first_range c i p (List.mem_range.mp hp)
  · have e2 : ((List.range (i + 1)).all fun q => decide (q < i → c q ≠ c i)) = (List.range i).all fun q => decide (c q ≠ c i) := by
      rw [List.range_succ, List.all_append]
      have : ([i].all fun q => decide (q < i → c q ≠ c i)) = true := by
        rw [List.all_cons, List.all_nil, Bool.and_true]
        exact decide_eq_true fun h => absurd h (by omega)
      rw [this, Bool.and_true]
      refine Bool.eq_iff_iff.mpr ?_
      rw [List.all_eq_true, List.all_eq_true]
      constructor
      · intro h q hq
        have := of_decide_eq_true (h q hq) (List.mem_range.mp hq)
        exact decide_eq_true this
      · intro h q hq
        exact decide_eq_true fun _ => of_decide_eq_true (h q hq)
    rw [List.filter_cons, e2]
    rfl
theorem class_succ (c : Nat → Int) (i : Nat) (k : Int) : ((List.range (i + 1)).filter fun q => decide (c q = k)) = ((List.range i).filter fun q => decide (c q = k)) ++ if c i = k then [i] else [] := by
  rw [List.range_succ, List.filter_append, List.filter_cons]
  by_cases h : c i = k
  · rw [if_pos h, if_pos (decide_eq_true h)]
    rfl
  · rw [if_neg h, if_neg (by rw [decide_eq_false h]; exact Bool.false_ne_true)]
    rfl
/-- a class that is met for the first time -/
theorem grpD_new (c : Nat → Int) (i : Nat) (h : ∀ q, q < i → c q ≠ c i) : grpD c (i + 1) = grpD c i ++ [(c i, [i])] := by
  unfold grpD
  rw [firsts_succ, if_pos (List.all_eq_true.mpr fun q hq => decide_eq_true (h q (List.mem_range.mp hq))), List.map_append]
  congr 1
  · refine List.map_congr_left fun p hp => ?_
    have hp := List.mem_range.mp (List.mem_filter.mp hp).1
    rw [class_succ, if_neg (fun z => h p hp z.symm), List.append_nil]
  · show [(c i, _)] = [(c i, [i])]
    rw [class_succ, if_pos rfl]
    have : ((List.range i).filter fun q => decide (c q = c i)) = [] := List.filter_eq_nil_iff.mpr fun q hq z => h q (List.mem_range.mp hq) (of_decide_eq_true z)
    rw [this]
    rfl
/-- a class that was met -/
theorem grpD_old (c : Nat → Int) (i : Nat) (h : ∃ q, q < i ∧ c q = c i) : grpD c (i + 1) = (grpD c i).map fun e => (e.1, if e.1 = c i then e.2 ++ [i] else e.2) := by
  unfold grpD
  obtain ⟨q, hq, e⟩ := h
  have hno : ¬ ((List.range i).all fun q => decide (c q ≠ c i)) = true := fun z => by
    have z2 : c q ≠ c i := of_decide_eq_true (List.all_eq_true.mp z q (List.mem_range.mpr hq))
    exact z2 e
  rw [firsts_succ, if_neg hno, List.append_nil, List.map_map]
  refine List.map_congr_left fun p hp => ?_
  show (c p, _) = (c p, if c p = c i then _ else _)
  rw [class_succ]
  by_cases z : c i = c p
  · rw [if_pos z, if_pos z.symm]
  · rw [if_neg z, if_neg (fun y => z y.symm), List.append_nil]
/-- which keys it holds -/
theorem exists_first (c : Nat → Int) (k : Int) : ∀ (n q : Nat), q ≤ n → c q = k → ∃ p, p ≤ q ∧ c p = k ∧ ∀ r, r < p → c r ≠ k
  | 0, q, hq, e => ⟨q, Nat.le_refl _, e, fun r hr => absurd hr (by omega)⟩
  | n + 1, q, hq, e => by
    by_cases h : ∃ r, r < q ∧ c r = k
    · obtain ⟨r, hr, er⟩ := h
      obtain ⟨p, hp, ep, fp⟩ := exists_first c k n r (by omega) er
      exact ⟨p, by omega, ep, fp⟩
    · exact ⟨q, Nat.le_refl _, e, fun r hr z => h ⟨r, hr, z⟩⟩
theorem grpD_key (c : Nat → Int) (i : Nat) (k : Int) : k ∈ (grpD c i).map (·.1) ↔ ∃ q, q < i ∧ c q = k := by
  rw [grpD_fst]
  constructor
  · intro h
    obtain ⟨p, hp, e⟩ := List.mem_map.mp h
    exact ⟨p, List.mem_range.mp (List.mem_filter.mp hp).1, e⟩
  · rintro ⟨q, hq, e⟩
    obtain ⟨p, hp, ep, fp⟩ := exists_first c k q q (Nat.le_refl _) e
    refine List.mem_map.mpr ⟨p, List.mem_filter.mpr ⟨List.mem_range.mpr (by omega), List.all_eq_true.mpr fun r _ => decide_eq_true fun hr => ?_⟩, ep⟩
    rw [ep]
    exact fp r hr
theorem grpD_len (c : Nat → Int) (i : Nat) : (grpD c i).length ≤ i := by
  unfold grpD
  rw [List.length_map]
  have h := List.length_filter_le (fun p => (List.range i).all fun q => decide (q < p → c q ≠ c p)) (List.range i)
  rw [List.length_range] at h
  exact h
theorem grpD_nodup (c : Nat → Int) : ∀ i, ((grpD c i).map (·.1)).Nodup
  | 0 => List.nodup_nil
  | i + 1 => by
    by_cases h : ∃ q, q < i ∧ c q = c i
    · rw [grpD_old c i h, List.map_map]
      exact grpD_nodup c i
    · have h' : ∀ q, q < i → c q ≠ c i := fun q hq e => h ⟨q, hq, e⟩
      rw [grpD_new c i h', List.map_append]
      refine List.nodup_append.mpr ⟨grpD_nodup c i, by simp, fun a ha b hb e => ?_⟩
      have hb : b = c i := List.mem_singleton.mp hb
      rw [e, hb] at ha
      obtain ⟨q, hq, z⟩ := (grpD_key c i (c i)).mp ha
      exact h' q hq z

/-! ## the same by walks: one class out of the list at a time -/
theorem grpsL_nil (c : Nat → Int) : grpsL c [] = [] := rfl
theorem grpsL_cons (c : Nat → Int) (p : Nat) (r : List Nat) (hs : (p :: r).Pairwise (· < ·)) :
    grpsL c (p :: r) = ((p :: r).filter fun q => decide (c q = c p)) :: grpsL c (r.filter fun q => decide (c q ≠ c p)) := by
  obtain ⟨h1, h2⟩ := List.pairwise_cons.mp hs
  unfold grpsL
  have f1 : ((p :: r).all fun q => decide (q < p → c q ≠ c p)) = true := by
    refine List.all_eq_true.mpr fun q hq => decide_eq_true fun hlt => ?_
    rcases List.mem_cons.mp hq with e | e
    · omega
    · have := h1 q e
      omega
  rw [List.filter_cons, if_pos f1, List.map_cons]
  congr 1
  have f2 : (r.filter fun q => (p :: r).all fun q' => decide (q' < q → c q' ≠ c q)) = ((r.filter fun q => decide (c q ≠ c p)).filter fun q => (r.filter fun q => decide (c q ≠ c p)).all fun q' => decide (q' < q → c q' ≠ c q)) := by
    rw [List.filter_filter]
    refine List.filter_congr fun q hq => ?_
    refine Bool.eq_iff_iff.mpr ?_
    rw [Bool.and_eq_true, List.all_eq_true, List.all_eq_true]
    constructor
    · intro h
      refine ⟨fun q' hq' => ?_, ?_⟩
      · exact h q' (List.mem_cons.mpr (.inr (List.mem_filter.mp hq').1))
      · have := of_decide_eq_true (h p List.mem_cons_self) (h1 q hq)
        exact decide_eq_true fun z => this z.symm
    · rintro ⟨h, h'⟩ q' hq'
      have h' := of_decide_eq_true h'
      refine decide_eq_true fun hlt => ?_
      rcases List.mem_cons.mp hq' with e | e
      · rw [e]
        exact fun z => h' z.symm
      · by_cases z : c q' = c p
        · rw [z]
          exact fun y => h' y.symm
        · exact of_decide_eq_true (h q' (List.mem_filter.mpr ⟨e, decide_eq_true z⟩)) hlt
  rw [f2]
  refine List.map_congr_left fun q hq => ?_
  have hq' := of_decide_eq_true (List.mem_filter.mp (List.mem_filter.mp hq).1).2
  rw [List.filter_cons, if_neg (by rw [decide_eq_false (fun z => hq' z.symm)]; exact Bool.false_ne_true), List.filter_filter]
  refine List.filter_congr fun x _ => ?_
  refine Bool.eq_iff_iff.mpr ?_
  rw [Bool.and_eq_true, decide_eq_true_eq, decide_eq_true_eq]
  exact ⟨fun z => ⟨z, by rw [z]; exact hq'⟩, fun z => z.1⟩

/-- each place of the list stands in just one of the groups -/
theorem grpsL_perm (c : Nat → Int) : ∀ (n : Nat) (l : List Nat), l.length ≤ n → l.Pairwise (· < ·) → (grpsL c l).flatten.Perm l
  | 0, [], _, _ => List.Perm.refl _
  | n + 1, [], _, _ => List.Perm.refl _
  | n + 1, p :: r, hn, hs => by
    rw [grpsL_cons c p r hs, List.flatten_cons]
    have h2 := (List.pairwise_cons.mp hs).2
    have ih := grpsL_perm c n (r.filter fun q => decide (c q ≠ c p)) (Nat.le_trans (List.length_filter_le _ _) (Nat.le_of_succ_le_succ hn)) (h2.filter _)
    refine (List.Perm.append_left _ ih).trans ?_
    have e : (r.filter fun q => decide (c q ≠ c p)) = (p :: r).filter fun q => !decide (c q = c p) := by
      rw [List.filter_cons, if_neg (by rw [decide_eq_true rfl]; exact Bool.false_ne_true)]
      refine List.filter_congr fun x _ => ?_
      by_cases z : c x = c p
      · rw [decide_eq_true z, decide_eq_false (fun y => y z)]
        rfl
      · rw [decide_eq_false z, decide_eq_true z]
        rfl
    rw [e]
    exact List.filter_append_perm _ _
end Sw
namespace Sw
/-! ## two rising lists of the same items -/
theorem perm_sorted_eq : ∀ {l m : List Int}, l.Perm m → l.Pairwise (· ≤ ·) → m.Pairwise (· ≤ ·) → l = m
  | [], m, h, _, _ => (List.nil_perm.mp h).symm
  | a :: l, [], h, _, _ => by
    have := h.length_eq
    simp at this
  | a :: l, b :: m, h, hl, hm => by
    obtain ⟨l1, l2⟩ := List.pairwise_cons.mp hl
    obtain ⟨m1, m2⟩ := List.pairwise_cons.mp hm
    have e : a = b := by
      have ha : a ∈ b :: m := h.mem_iff.mp List.mem_cons_self
      have hb : b ∈ a :: l := h.mem_iff.mpr List.mem_cons_self
      rcases List.mem_cons.mp ha with e | ha
      · exact e
      rcases List.mem_cons.mp hb with e | hb
      · exact e.symm
      have := m1 a ha
      have := l1 b hb
      omega
    subst e
    rw [perm_sorted_eq h.cons_inv l2 m2]
theorem sorted_ext {l m : List Int} (hl : l.Pairwise (· < ·)) (hm : m.Pairwise (· < ·)) (h : ∀ k, k ∈ l ↔ k ∈ m) : l = m := by
  have nd : ∀ {l : List Int}, l.Pairwise (· < ·) → l.Nodup := fun h => h.imp fun h => by omega
  have le : ∀ {l : List Int}, l.Pairwise (· < ·) → l.Pairwise (· ≤ ·) := fun h => h.imp fun h => by omega
  exact perm_sorted_eq ((List.perm_ext_iff_of_nodup (nd hl) (nd hm)).mpr h) (le hl) (le hm)
theorem nat_sorted_ext {l m : List Nat} (hl : l.Pairwise (· < ·)) (hm : m.Pairwise (· < ·)) (h : ∀ k, k ∈ l ↔ k ∈ m) : l = m := by
  have up : ∀ {l : List Nat}, l.Pairwise (· < ·) → (l.map fun n : Nat => (n : Int)).Pairwise (· < ·) := fun h => List.pairwise_map.mpr (h.imp fun h => by omega)
  have e := sorted_ext (up hl) (up hm) fun k => by
    rw [List.mem_map, List.mem_map]
    exact ⟨fun ⟨a, ha, e⟩ => ⟨a, (h a).mp ha, e⟩, fun ⟨a, ha, e⟩ => ⟨a, (h a).mpr ha, e⟩⟩
  exact (List.map_inj_right (f := fun n : Nat => (n : Int)) (fun a b (e : (a : Int) = b) => by omega)).mp e

/-! ## places and their stones -/
def sa (st : List (Int × Int)) (p : Nat) : Int := (st.getD p (0, 0)).1
def sb (st : List (Int × Int)) (p : Nat) : Int := (st.getD p (0, 0)).2
def cls (st : List (Int × Int)) (p : Nat) : Int := lab st (sa st p)
theorem st_at {st : List (Int × Int)} {p : Nat} (h : p < st.length) : st[p]? = some (sa st p, sb st p) := by
  unfold sa sb
  rw [List.getD_eq_getElem?_getD, List.getElem?_eq_getElem h]
  rfl
theorem st_mem {st : List (Int × Int)} {p : Nat} (h : p < st.length) : (sa st p, sb st p) ∈ st := List.mem_of_getElem? (st_at h)
theorem st_ends {st : List (Int × Int)} {p : Nat} (h : p < st.length) : IsEnd st (sa st p) ∧ IsEnd st (sb st p) := ⟨⟨_, st_mem h, .inl rfl⟩, ⟨_, st_mem h, .inr rfl⟩⟩
theorem conn_of_cls {st : List (Int × Int)} {p q : Nat} (hp : p < st.length) (hq : q < st.length) : cls st p = cls st q ↔ Conn st (sa st p) (sa st q) := lab_iff (st_ends hp).1 (st_ends hq).1
/-- the groups of the stones -/
def grps (st : List (Int × Int)) : List (List Nat) := grpsL (cls st) (List.range st.length)

/-! ## the law's walk: one group -/
def touch (st : List (Int × Int)) (ns : List Int) (q : Nat) : Bool := decide (sa st q ∈ ns) || decide (sb st q ∈ ns)
def endsOf (st : List (Int × Int)) (l : List Nat) : List Int := l.flatMap fun q => [sa st q, sb st q]
theorem mem_endsOf {st : List (Int × Int)} {l : List Nat} {x : Int} : x ∈ endsOf st l ↔ ∃ q ∈ l, x = sa st q ∨ x = sb st q := by
  unfold endsOf
  rw [List.mem_flatMap]
  constructor
  · rintro ⟨q, hq, h⟩
    refine ⟨q, hq, ?_⟩
    rcases List.mem_cons.mp h with h | h
    · exact .inl h
    · exact .inr (List.mem_singleton.mp h)
  · rintro ⟨q, hq, h⟩
    refine ⟨q, hq, ?_⟩
    rcases h with h | h
    · exact List.mem_cons.mpr (.inl h)
    · exact List.mem_cons.mpr (.inr (List.mem_singleton.mpr h))
theorem endsOf_append (st : List (Int × Int)) (l m : List Nat) : endsOf st (l ++ m) = endsOf st l ++ endsOf st m := List.flatMap_append

/-- a rising list of places that holds whole groups -/
structure Whole (st : List (Int × Int)) (l : List Nat) : Prop where
  up : l.Pairwise (· < ·)
  lt : ∀ q ∈ l, q < st.length
  all : ∀ q ∈ l, ∀ k, k < st.length → cls st k = cls st q → k ∈ l
theorem whole_range (st : List (Int × Int)) : Whole st (List.range st.length) :=
  ⟨List.pairwise_lt_range, fun _ h => List.mem_range.mp h, fun _ _ _ h _ => List.mem_range.mpr h⟩
theorem Whole.rest {st : List (Int × Int)} {p : Nat} {r : List Nat} (h : Whole st (p :: r)) : Whole st (r.filter fun q => decide (cls st q ≠ cls st p)) := by
  refine ⟨(List.pairwise_cons.mp h.up).2.filter _, fun q hq => h.lt q (List.mem_cons.mpr (.inr (List.mem_filter.mp hq).1)), fun q hq k hk e => ?_⟩
  obtain ⟨h1, h2⟩ := List.mem_filter.mp hq
  have h2 : cls st q ≠ cls st p := of_decide_eq_true h2
  have hm := h.all q (List.mem_cons.mpr (.inr h1)) k hk e
  rcases List.mem_cons.mp hm with z | z
  · rw [z] at e
    exact absurd e.symm h2
  · exact List.mem_filter.mpr ⟨z, decide_eq_true (by rw [e]; exact h2)⟩

/-- what the walk knows: the places of the group so far, those that are left -/
structure Walk1 (st : List (Int × Int)) (p : Nat) (r left group : List Nat) (ns : List Int) : Prop where
  left : left = r.filter fun q => decide (q ∉ group)
  nd : group.Nodup
  has : p ∈ group
  sub : ∀ q ∈ group, q ∈ p :: r ∧ cls st q = cls st p
  num : ∀ x, x ∈ ns ↔ x ∈ endsOf st group
theorem walk1_start {st : List (Int × Int)} {p : Nat} {r : List Nat} (h : Whole st (p :: r)) : Walk1 st p r r [p] [sa st p, sb st p] := by
  refine ⟨?_, by simp, List.mem_singleton.mpr rfl, fun q hq => ?_, fun x => Iff.rfl⟩
  · symm
    refine List.filter_eq_self.mpr fun q hq => decide_eq_true fun z => ?_
    have := (List.pairwise_cons.mp h.up).1 q hq
    have := List.mem_singleton.mp z
    omega
  · have e := List.mem_singleton.mp hq
    rw [e]
    exact ⟨List.mem_cons_self, rfl⟩
theorem cls_touch {st : List (Int × Int)} {q k : Nat} (hq : q < st.length) (hk : k < st.length) {x : Int} (e1 : x = sa st q ∨ x = sb st q) (e2 : x = sa st k ∨ x = sb st k) : cls st q = cls st k := by
  refine (conn_of_cls hq hk).mpr ?_
  have c1 : Conn st (sa st q) x := by
    rcases e1 with e | e
    · rw [e]
      exact .refl _
    · rw [e]
      exact .edge (st_mem hq)
  have c2 : Conn st (sa st k) x := by
    rcases e2 with e | e
    · rw [e]
      exact .refl _
    · rw [e]
      exact .edge (st_mem hk)
  exact c1.trans c2.symm
theorem touch_iff {st : List (Int × Int)} {ns : List Int} {q : Nat} : touch st ns q = true ↔ ∃ x, x ∈ ns ∧ (x = sa st q ∨ x = sb st q) := by
  unfold touch
  rw [Bool.or_eq_true, decide_eq_true_eq, decide_eq_true_eq]
  constructor
  · rintro (h | h)
    · exact ⟨_, h, .inl rfl⟩
    · exact ⟨_, h, .inr rfl⟩
  · rintro ⟨x, h, e | e⟩
    · rw [← e]
      exact .inl h
    · rw [← e]
      exact .inr h
theorem Walk1.turn {st : List (Int × Int)} {p : Nat} {r left group : List Nat} {ns ns' : List Int} (h : Whole st (p :: r)) (w : Walk1 st p r left group ns) (e : ns' = ns ++ endsOf st (left.filter (touch st ns))) :
    Walk1 st p r (left.filter fun q => decide (q ∉ left.filter (touch st ns))) (group ++ left.filter (touch st ns)) ns' := by
  have hleft : ∀ q, q ∈ left ↔ q ∈ r ∧ q ∉ group := fun q => by
    rw [w.left, List.mem_filter, decide_eq_true_eq]
  have ndr : r.Nodup := (List.pairwise_cons.mp h.up).2.imp fun h => by omega
  have ndl : left.Nodup := by
    rw [w.left]
    exact ndr.filter _
  refine ⟨?_, ?_, List.mem_append.mpr (.inl w.has), fun q hq => ?_, fun x => ?_⟩
  · rw [w.left, List.filter_filter]
    refine List.filter_congr fun q hq => ?_
    refine Bool.eq_iff_iff.mpr ?_
    rw [Bool.and_eq_true, decide_eq_true_eq, decide_eq_true_eq, decide_eq_true_eq, List.mem_append, not_or]
    exact And.comm
  · refine List.nodup_append.mpr ⟨w.nd, ndl.filter _, fun a ha b hb z => ?_⟩
    rw [z] at ha
    exact ((hleft b).mp (List.mem_filter.mp hb).1).2 ha
  · rcases List.mem_append.mp hq with hq | hq
    · exact w.sub q hq
    · obtain ⟨h1, h2⟩ := List.mem_filter.mp hq
      have hr := ((hleft q).mp h1).1
      refine ⟨List.mem_cons.mpr (.inr hr), ?_⟩
      obtain ⟨x, hx, ex⟩ := touch_iff.mp h2
      obtain ⟨k, hk, ek⟩ := mem_endsOf.mp ((w.num x).mp hx)
      obtain ⟨k1, k2⟩ := w.sub k hk
      rw [← k2]
      exact cls_touch (h.lt q (List.mem_cons.mpr (.inr hr))) (h.lt k k1) ex ek
  · rw [e, endsOf_append, List.mem_append, List.mem_append, w.num]
theorem Walk1.fin {st : List (Int × Int)} {p : Nat} {r left group : List Nat} {ns : List Int} (h : Whole st (p :: r)) (w : Walk1 st p r left group ns) (e : left.filter (touch st ns) = []) :
    (∀ q, q ∈ group ↔ q ∈ (p :: r).filter fun q => decide (cls st q = cls st p)) ∧ left = r.filter fun q => decide (cls st q ≠ cls st p) := by
  have hleft : ∀ q, q ∈ left ↔ q ∈ r ∧ q ∉ group := fun q => by
    rw [w.left, List.mem_filter, decide_eq_true_eq]
  have no : ∀ q ∈ left, touch st ns q = false := fun q hq => by
    cases z : touch st ns q with
    | false => rfl
    | true =>
      have : q ∈ left.filter (touch st ns) := List.mem_filter.mpr ⟨hq, z⟩
      rw [e] at this
      cases this
  -- a stone that touches the numbers lies in the group
  have key : ∀ k, k < st.length → touch st ns k = true → k ∈ group := by
    intro k hk t
    obtain ⟨x, hx, ex⟩ := touch_iff.mp t
    obtain ⟨q, hq, eq⟩ := mem_endsOf.mp ((w.num x).mp hx)
    obtain ⟨q1, q2⟩ := w.sub q hq
    have ck := cls_touch hk (h.lt q q1) ex eq
    have km := h.all q q1 k hk ck
    by_cases kg : k ∈ group
    · exact kg
    · rcases List.mem_cons.mp km with z | z
      · rw [z] at kg
        exact absurd w.has kg
      · have := no k ((hleft k).mpr ⟨z, kg⟩)
        rw [this] at t
        cases t
  have conn : ∀ {x y : Int}, Conn st x y → (x ∈ ns ↔ y ∈ ns) := by
    intro x y c
    induction c with
    | refl x => exact Iff.rfl
    | @edge a b he =>
      obtain ⟨k, hk⟩ := List.mem_iff_getElem?.mp he
      have kl : k < st.length := (List.getElem?_eq_some_iff.mp hk).1
      rw [st_at kl] at hk
      have hk := Option.some.inj hk
      have e1 : sa st k = a := congrArg Prod.fst hk
      have e2 : sb st k = b := congrArg Prod.snd hk
      constructor
      · intro ha
        have kg := key k kl (touch_iff.mpr ⟨a, ha, .inl e1.symm⟩)
        exact (w.num b).mpr (mem_endsOf.mpr ⟨k, kg, .inr e2.symm⟩)
      · intro hb
        have kg := key k kl (touch_iff.mpr ⟨b, hb, .inr e2.symm⟩)
        exact (w.num a).mpr (mem_endsOf.mpr ⟨k, kg, .inl e1.symm⟩)
    | symm _ ih => exact ih.symm
    | trans _ _ i1 i2 => exact i1.trans i2
  have grp : ∀ q, q ∈ group ↔ q ∈ (p :: r).filter fun q => decide (cls st q = cls st p) := by
    intro q
    rw [List.mem_filter, decide_eq_true_eq]
    constructor
    · exact w.sub q
    · rintro ⟨hq, ec⟩
      have hp := h.lt p List.mem_cons_self
      have hql := h.lt q hq
      have c := (conn_of_cls hql hp).mp ec
      have pin : sa st p ∈ ns := (w.num _).mpr (mem_endsOf.mpr ⟨p, w.has, .inl rfl⟩)
      exact key q hql (touch_iff.mpr ⟨_, (conn c).mpr pin, .inl rfl⟩)
  refine ⟨grp, ?_⟩
  rw [w.left]
  refine List.filter_congr fun q hq => ?_
  refine Bool.eq_iff_iff.mpr ?_
  rw [decide_eq_true_eq, decide_eq_true_eq, grp q, List.mem_filter, decide_eq_true_eq]
  constructor
  · intro z y
    exact z ⟨List.mem_cons.mpr (.inr hq), y⟩
  · intro z y
    exact z y.2
/-- the sorted group is the group -/
theorem Walk1.sorted {st : List (Int × Int)} {p : Nat} {r left group : List Nat} {ns : List Int} (h : Whole st (p :: r)) (w : Walk1 st p r left group ns) (e : left.filter (touch st ns) = []) {gs : List Int}
    (hp : gs.Perm (group.map fun n : Nat => (n : Int))) (hs : gs.Pairwise (· ≤ ·)) : gs = ((p :: r).filter fun q => decide (cls st q = cls st p)).map fun n : Nat => (n : Int) := by
  have g := (w.fin h e).1
  have u := h.up.filter fun q => decide (cls st q = cls st p)
  have pm : group.Perm ((p :: r).filter fun q => decide (cls st q = cls st p)) := (List.perm_ext_iff_of_nodup w.nd (u.imp fun h => by omega)).mpr g
  exact perm_sorted_eq (hp.trans (pm.map _)) hs (List.pairwise_map.mpr (u.imp fun h => by omega))
end Sw
namespace Sw
/-! ## numbers that stand an odd number of times -/
def IsOdd (E l : List Int) : Prop := l.Pairwise (· < ·) ∧ ∀ k, k ∈ l ↔ E.count k % 2 = 1
theorem IsOdd.uniq {E l m : List Int} (a : IsOdd E l) (b : IsOdd E m) : l = m := sorted_ext a.1 b.1 fun k => (a.2 k).trans (b.2 k).symm
def tog (x : Int) : List Int → List Int
  | [] => [x]
  | y :: l => if x < y then x :: y :: l else if x = y then l else y :: tog x l
def oddL (E : List Int) : List Int := E.foldr tog []
theorem tog_mem {x k : Int} : ∀ {l : List Int}, l.Pairwise (· < ·) → (k ∈ tog x l ↔ if k = x then x ∉ l else k ∈ l)
  | [], _ => by
    show k ∈ [x] ↔ _
    rw [List.mem_singleton]
    by_cases h : k = x
    · rw [if_pos h]
      exact ⟨fun _ z => (by cases z), fun _ => h⟩
    · rw [if_neg h]
      exact ⟨fun z => absurd z h, fun z => (by cases z)⟩
  | y :: l, hp => by
    obtain ⟨h1, h2⟩ := List.pairwise_cons.mp hp
    have ih := tog_mem (x := x) (k := k) h2
    unfold tog
    by_cases c1 : x < y
    · rw [if_pos c1]
      have nx : x ∉ y :: l := fun z => by
        rcases List.mem_cons.mp z with e | e
        · omega
        · have := h1 x e
          omega
      by_cases h : k = x
      · rw [if_pos h]
        exact ⟨fun _ => nx, fun _ => by rw [h]; exact List.mem_cons_self⟩
      · rw [if_neg h]
        exact ⟨fun z => (List.mem_cons.mp z).resolve_left h, fun z => List.mem_cons.mpr (.inr z)⟩
    · rw [if_neg c1]
      by_cases c2 : x = y
      · rw [if_pos c2]
        have nx : x ∉ l := fun z => by
          have := h1 x z
          omega
        by_cases h : k = x
        · rw [if_pos h]
          rw [h]
          exact ⟨fun z => absurd z nx, fun z => absurd (by rw [c2]; exact List.mem_cons_self) z⟩
        · rw [if_neg h]
          exact ⟨fun z => List.mem_cons.mpr (.inr z), fun z => (List.mem_cons.mp z).resolve_left (by omega)⟩
      · rw [if_neg c2, List.mem_cons, ih]
        by_cases h : k = x
        · rw [if_pos h, if_pos h, List.mem_cons]
          constructor
          · rintro (z | z)
            · omega
            · rintro (y' | y')
              · exact c2 y'
              · exact z y'
          · intro z
            exact .inr fun y' => z (.inr y')
        · rw [if_neg h, if_neg h, List.mem_cons]
theorem tog_up {x : Int} : ∀ {l : List Int}, l.Pairwise (· < ·) → (tog x l).Pairwise (· < ·)
  | [], _ => by
    show ([x] : List Int).Pairwise (· < ·)
    exact List.pairwise_singleton _ _
  | y :: l, hp => by
    obtain ⟨h1, h2⟩ := List.pairwise_cons.mp hp
    have ih := tog_up (x := x) h2
    unfold tog
    by_cases c1 : x < y
    · rw [if_pos c1]
      refine List.pairwise_cons.mpr ⟨fun z hz => ?_, hp⟩
      rcases List.mem_cons.mp hz with e | e
      · omega
      · have := h1 z e
        omega
    · rw [if_neg c1]
      by_cases c2 : x = y
      · rw [if_pos c2]
        exact h2
      · rw [if_neg c2]
        refine List.pairwise_cons.mpr ⟨fun z hz => ?_, ih⟩
        have := (tog_mem h2).mp hz
        by_cases e : z = x
        · omega
        · rw [if_neg e] at this
          exact h1 z this
theorem tog_len (x : Int) : ∀ (l : List Int), (tog x l).length % 2 = (l.length + 1) % 2
  | [] => rfl
  | y :: l => by
    have ih := tog_len x l
    unfold tog
    by_cases c1 : x < y
    · rw [if_pos c1]
      rfl
    · rw [if_neg c1]
      by_cases c2 : x = y
      · rw [if_pos c2, List.length_cons]
        omega
      · rw [if_neg c2, List.length_cons, List.length_cons]
        omega
theorem tog_size (x : Int) : ∀ (l : List Int), (tog x l).length ≤ l.length + 1 ∧ l.length ≤ (tog x l).length + 1
  | [] => ⟨Nat.le_refl _, Nat.zero_le _⟩
  | y :: l => by
    have ih := tog_size x l
    unfold tog
    by_cases c1 : x < y
    · rw [if_pos c1]
      simp only [List.length_cons]
      omega
    · rw [if_neg c1]
      by_cases c2 : x = y
      · rw [if_pos c2]
        simp only [List.length_cons]
        omega
      · rw [if_neg c2]
        simp only [List.length_cons]
        omega
theorem oddL_cons (x : Int) (E : List Int) : oddL (x :: E) = tog x (oddL E) := rfl
theorem oddL_ok : ∀ E : List Int, IsOdd E (oddL E)
  | [] => ⟨List.Pairwise.nil, fun k => ⟨fun z => (by cases z), fun z => by rw [List.count_nil] at z; omega⟩⟩
  | x :: E => by
    have ih := oddL_ok E
    refine ⟨tog_up ih.1, fun k => ?_⟩
    rw [oddL_cons, tog_mem ih.1, List.count_cons]
    by_cases h : k = x
    · rw [if_pos h, ih.2, if_pos (by rw [h]; exact beq_self_eq_true _), h]
      omega
    · rw [if_neg h, ih.2, if_neg (fun z => h (eq_of_beq z).symm)]
      exact Iff.rfl
theorem oddL_len : ∀ E : List Int, (oddL E).length % 2 = E.length % 2
  | [] => rfl
  | x :: E => by
    have := oddL_len E
    rw [oddL_cons, tog_len, List.length_cons]
    omega
theorem oddL_le : ∀ E : List Int, (oddL E).length ≤ E.length
  | [] => Nat.le_refl _
  | x :: E => by
    have := oddL_le E
    have := (tog_size x (oddL E)).1
    rw [oddL_cons, List.length_cons]
    omega
/-- from the sorted keys of the counts -/
theorem isOdd_filter {E ks : List Int} (hp : ks.Pairwise (· < ·)) (hk : ∀ k, k ∈ ks ↔ k ∈ E) : IsOdd E (ks.filter fun k => decide (E.count k % 2 = 1)) := by
  refine ⟨hp.filter _, fun k => ?_⟩
  rw [List.mem_filter, decide_eq_true_eq, hk]
  constructor
  · exact fun z => z.2
  · intro z
    refine ⟨?_, z⟩
    have : 0 < E.count k := by omega
    exact List.count_pos_iff.mp this
theorem isOdd_mem {E l : List Int} (hp : l.Pairwise (· < ·)) (hk : ∀ k, k ∈ l ↔ k ∈ E.filter fun k => decide (E.count k % 2 = 1)) : IsOdd E l := by
  refine ⟨hp, fun k => ?_⟩
  rw [hk, List.mem_filter, decide_eq_true_eq]
  constructor
  · exact fun z => z.2
  · intro z
    exact ⟨List.count_pos_iff.mp (by omega), z⟩
theorem endsOf_len (st : List (Int × Int)) : ∀ l : List Nat, (endsOf st l).length = 2 * l.length
  | [] => rfl
  | q :: l => by
    have := endsOf_len st l
    show (sa st q :: sb st q :: endsOf st l).length = _
    simp only [List.length_cons]
    omega
/-- the odd ends of the stones at these places -/
def odds (st : List (Int × Int)) (l : List Nat) : List Int := oddL (endsOf st l)
theorem odds_even (st : List (Int × Int)) (l : List Nat) : (odds st l).length % 2 = 0 := by
  unfold odds
  rw [oddL_len, endsOf_len]
  omega
theorem lt_of_le_nd : ∀ {l : List Int}, l.Pairwise (· ≤ ·) → l.Nodup → l.Pairwise (· < ·)
  | [], _, _ => List.Pairwise.nil
  | a :: l, h, n => by
    obtain ⟨h1, h2⟩ := List.pairwise_cons.mp h
    obtain ⟨n1, n2⟩ := List.nodup_cons.mp n
    refine List.pairwise_cons.mpr ⟨fun b hb => ?_, lt_of_le_nd h2 n2⟩
    have := h1 b hb
    have : a ≠ b := fun e => n1 (by rw [e]; exact hb)
    omega
/-- how many chains it takes -/
def few (st : List (Int × Int)) : Nat := ((grps st).map fun g => max 1 ((odds st g).length / 2)).sum
end Sw
namespace Sw
open Classical
/-! ## a sum over one of each class -/
theorem sum_perm {l m : List Nat} (h : l.Perm m) : l.sum = m.sum := by
  induction h with
  | nil => rfl
  | cons x _ ih => rw [List.sum_cons, List.sum_cons, ih]
  | swap x y l =>
    simp only [List.sum_cons]
    omega
  | trans _ _ a b => exact a.trans b
theorem trans_sum {α : Type} {r : α → α → Prop} (rf : ∀ x, r x x) (sy : ∀ {x y}, r x y → r y x) (tr : ∀ {x y z}, r x y → r y z → r x z) {f : α → Nat} (hf : ∀ x y, r x y → f x = f y) :
    ∀ (R S : List α), R.Pairwise (fun x y => ¬ r x y) → S.Pairwise (fun x y => ¬ r x y) → (∀ x ∈ R, ∃ y ∈ S, r x y) → (∀ y ∈ S, ∃ x ∈ R, r x y) → (R.map f).sum = (S.map f).sum
  | [], S, _, _, _, h => by
    cases S with
    | nil => rfl
    | cons y S =>
      obtain ⟨x, hx, _⟩ := h y List.mem_cons_self
      cases hx
  | x :: R, S, hR, hS, h1, h2 => by
    obtain ⟨a1, a2⟩ := List.pairwise_cons.mp hR
    obtain ⟨y, hy, rxy⟩ := h1 x List.mem_cons_self
    obtain ⟨s, t, e⟩ := List.append_of_mem hy
    subst e
    have pm : (s ++ y :: t).Perm (y :: (s ++ t)) := List.perm_middle
    have hS' : (y :: (s ++ t)).Pairwise (fun x y => ¬ r x y) := (pm.pairwise_iff (fun h k => h (sy k))).mp hS
    obtain ⟨b1, b2⟩ := List.pairwise_cons.mp hS'
    have ih := trans_sum rf sy tr hf R (s ++ t) a2 b2 (fun z hz => ?_) fun z hz => ?_
    · rw [sum_perm (pm.map f), List.map_cons, List.map_cons, List.sum_cons, List.sum_cons, ih, hf x y rxy]
    · obtain ⟨u, hu, rzu⟩ := h1 z (List.mem_cons.mpr (.inr hz))
      rcases List.mem_cons.mp (pm.mem_iff.mp hu) with e | hu
      · subst e
        exact absurd (tr rxy (sy rzu)) (a1 z hz)
      · exact ⟨u, hu, rzu⟩
    · obtain ⟨u, hu, ruz⟩ := h2 z (pm.mem_iff.mpr (List.mem_cons.mpr (.inr hz)))
      rcases List.mem_cons.mp hu with e | hu
      · subst e
        exact absurd (tr (sy rxy) ruz) (b1 z hz)
      · exact ⟨u, hu, ruz⟩

/-! ## all the ends -/
def allE (st : List (Int × Int)) : List Int := st.flatMap fun s => [s.1, s.2]
theorem mem_allE {st : List (Int × Int)} {x : Int} : x ∈ allE st ↔ IsEnd st x := by
  unfold allE IsEnd
  rw [List.mem_flatMap]
  constructor
  · rintro ⟨s, hs, h⟩
    refine ⟨s, hs, ?_⟩
    rcases List.mem_cons.mp h with h | h
    · exact .inl h
    · exact .inr (List.mem_singleton.mp h)
  · rintro ⟨s, hs, h⟩
    refine ⟨s, hs, ?_⟩
    rcases h with h | h
    · exact List.mem_cons.mpr (.inl h)
    · exact List.mem_cons.mpr (.inr (List.mem_singleton.mpr h))
theorem allE_range (st : List (Int × Int)) : endsOf st (List.range st.length) = allE st := by
  unfold endsOf allE
  rw [List.flatMap_def, List.flatMap_def]
  congr 1
  refine List.ext_getElem (by simp) fun i h1 h2 => ?_
  rw [List.getElem_map, List.getElem_map, List.getElem_range]
  have hi : i < st.length := by simpa using h2
  have e := st_at hi
  rw [List.getElem?_eq_getElem hi] at e
  have e := Option.some.inj e
  rw [e]
theorem oddL_congr {E F : List Int} (h : ∀ k, E.count k = F.count k) : oddL E = oddL F := by
  refine (oddL_ok E).uniq ⟨(oddL_ok F).1, fun k => ?_⟩
  rw [(oddL_ok F).2, h]
/-- how many odd ones have a property -/
noncomputable def nO (E : List Int) (P : Int → Prop) : Nat := ((oddL E).filter fun y => decide (P y)).length
theorem tog_filter (a : Int) (P : Int → Prop) : ∀ {l : List Int}, l.Pairwise (· < ·) → (((tog a l).filter fun y => decide (P y)).length : Int) = ((l.filter fun y => decide (P y)).length : Int) + (if P a then (if a ∈ l then -1 else 1) else 0)
  | [], _ => by
    show ((([a] : List Int).filter fun y => decide (P y)).length : Int) = _
    by_cases h : P a
    · rw [if_pos h, List.filter_cons, if_pos (decide_eq_true h)]
      simp
    · rw [if_neg h, List.filter_cons, if_neg (by rw [decide_eq_false h]; exact Bool.false_ne_true)]
      simp
  | y :: l, hp => by
    obtain ⟨h1, h2⟩ := List.pairwise_cons.mp hp
    have ih := tog_filter a P h2
    unfold tog
    by_cases c1 : a < y
    · rw [if_pos c1]
      have na : a ∉ y :: l := fun z => by
        rcases List.mem_cons.mp z with e | e
        · omega
        · have := h1 a e
          omega
      rw [if_neg na, List.filter_cons]
      by_cases h : P a
      · rw [if_pos h, if_pos (decide_eq_true h), List.length_cons]
        omega
      · rw [if_neg h, if_neg (by rw [decide_eq_false h]; exact Bool.false_ne_true)]
        omega
    · rw [if_neg c1]
      by_cases c2 : a = y
      · rw [if_pos c2]
        subst c2
        rw [if_pos List.mem_cons_self, List.filter_cons]
        by_cases h : P a
        · rw [if_pos h, if_pos (decide_eq_true h), List.length_cons]
          omega
        · rw [if_neg h, if_neg (by rw [decide_eq_false h]; exact Bool.false_ne_true)]
          omega
      · rw [if_neg c2, List.filter_cons, List.filter_cons]
        have hm : (a ∈ y :: l) ↔ a ∈ l := ⟨fun z => (List.mem_cons.mp z).resolve_left c2, fun z => List.mem_cons.mpr (.inr z)⟩
        have hif : (if a ∈ y :: l then (-1 : Int) else 1) = if a ∈ l then -1 else 1 := by
          by_cases z : a ∈ l
          · rw [if_pos z, if_pos (hm.mpr z)]
          · rw [if_neg z, if_neg (fun q => z (hm.mp q))]
        rw [hif]
        by_cases h : P y
        · rw [if_pos (decide_eq_true h), if_pos (decide_eq_true h), List.length_cons, List.length_cons]
          omega
        · rw [if_neg (by rw [decide_eq_false h]; exact Bool.false_ne_true), if_neg (by rw [decide_eq_false h]; exact Bool.false_ne_true)]
          exact ih
theorem nO_cons (a : Int) (E : List Int) (P : Int → Prop) : (nO (a :: E) P : Int) = (nO E P : Int) + (if P a then (if a ∈ oddL E then -1 else 1) else 0) := tog_filter a P (oddL_ok E).1
theorem nO_congr {E F : List Int} {P Q : Int → Prop} (h : ∀ k, E.count k = F.count k) (hp : ∀ k ∈ E, (P k ↔ Q k)) : nO E P = nO F Q := by
  unfold nO
  rw [← oddL_congr h]
  congr 1
  refine List.filter_congr fun y hy => ?_
  have hy : y ∈ E := by
    have := ((oddL_ok E).2 y).mp hy
    exact List.count_pos_iff.mp (by omega)
  refine Bool.eq_iff_iff.mpr ?_
  rw [decide_eq_true_eq, decide_eq_true_eq]
  exact hp y hy
theorem nO_or {E : List Int} {P Q : Int → Prop} (h : ∀ k ∈ E, P k → ¬ Q k) : nO E (fun k => P k ∨ Q k) = nO E P + nO E Q := by
  unfold nO
  have key : ∀ l : List Int, (∀ k ∈ l, P k → ¬ Q k) → (l.filter fun y => @decide (P y ∨ Q y) (propDecidable _)).length = (l.filter fun y => decide (P y)).length + (l.filter fun y => decide (Q y)).length := by
    intro l
    induction l with
    | nil => intro _; rfl
    | cons x l ih =>
      intro hl
      have ih := ih fun k hk => hl k (List.mem_cons.mpr (.inr hk))
      have hx := hl x List.mem_cons_self
      rw [List.filter_cons, List.filter_cons, List.filter_cons]
      by_cases p : P x
      · have q := hx p
        rw [if_pos (@decide_eq_true _ (propDecidable _) (.inl p)), if_pos (decide_eq_true p), if_neg (by rw [decide_eq_false q]; exact Bool.false_ne_true)]
        simp only [List.length_cons]
        omega
      · by_cases q : Q x
        · rw [if_pos (@decide_eq_true _ (propDecidable _) (.inr q)), if_neg (by rw [decide_eq_false p]; exact Bool.false_ne_true), if_pos (decide_eq_true q)]
          simp only [List.length_cons]
          omega
        · rw [if_neg (by rw [@decide_eq_false _ (propDecidable _) (fun z => z.elim p q)]; exact Bool.false_ne_true), if_neg (by rw [decide_eq_false p]; exact Bool.false_ne_true), if_neg (by rw [decide_eq_false q]; exact Bool.false_ne_true)]
          exact ih
  refine key _ fun k hk => h k ?_
  have := ((oddL_ok E).2 k).mp hk
  exact List.count_pos_iff.mp (by omega)

/-! ## the fewest by one of each class -/
structure Trans (st : List (Int × Int)) (R : List Int) : Prop where
  apart : R.Pairwise fun x y => ¬ Conn st x y
  isE : ∀ x ∈ R, IsEnd st x
  all : ∀ x, IsEnd st x → ∃ r ∈ R, Conn st x r
noncomputable def nodd (st : List (Int × Int)) (x : Int) : Nat := nO (allE st) fun y => Conn st y x
theorem nodd_conn {st : List (Int × Int)} {x y : Int} (c : Conn st x y) : nodd st x = nodd st y := nO_congr (fun _ => rfl) fun k _ => ⟨fun h => h.trans c, fun h => h.trans c.symm⟩
theorem count_filter {st : List (Int × Int)} {x k : Int} (hx : IsEnd st x) : ∀ l : List Nat, (∀ q ∈ l, q < st.length) → (endsOf st (l.filter fun q => decide (cls st q = k))).count x = if lab st x = k then (endsOf st l).count x else 0
  | [], _ => by
    show ([] : List Int).count x = _
    split <;> rfl
  | q :: l, hl => by
    have ih := count_filter hx (k := k) l fun p hp => hl p (List.mem_cons.mpr (.inr hp))
    have hq := hl q List.mem_cons_self
    have e : endsOf st (q :: l) = [sa st q, sb st q] ++ endsOf st l := rfl
    have key : x ∈ [sa st q, sb st q] → lab st x = cls st q := fun m => by
      refine (lab_iff hx (st_ends hq).1).mpr ?_
      rcases List.mem_cons.mp m with e | m
      · rw [e]
        exact .refl _
      · rw [List.mem_singleton.mp m]
        exact (Conn.edge (st_mem hq)).symm
    rw [List.filter_cons]
    by_cases c : cls st q = k
    · rw [if_pos (decide_eq_true c)]
      show ([sa st q, sb st q] ++ endsOf st (l.filter fun q => decide (cls st q = k))).count x = _
      rw [List.count_append, ih, e, List.count_append]
      by_cases d : lab st x = k
      · rw [if_pos d, if_pos d]
      · rw [if_neg d, if_neg d, List.count_eq_zero.mpr fun m => d ((key m).trans c)]
    · rw [if_neg (by rw [decide_eq_false c]; exact Bool.false_ne_true), ih, e, List.count_append]
      by_cases d : lab st x = k
      · rw [if_pos d, if_pos d, List.count_eq_zero.mpr fun m => c ((key m).symm.trans d), Nat.zero_add]
      · rw [if_neg d, if_neg d]
/-- the odd ends of a group are the odd numbers of its class -/
theorem odds_len {st : List (Int × Int)} {x : Int} (hx : IsEnd st x) : (odds st ((List.range st.length).filter fun q => decide (cls st q = lab st x))).length = nodd st x := by
  have e : odds st ((List.range st.length).filter fun q => decide (cls st q = lab st x)) = (oddL (allE st)).filter fun y => decide (Conn st y x) := by
    refine (oddL_ok _).uniq ⟨(oddL_ok (allE st)).1.filter _, fun y => ?_⟩
    rw [List.mem_filter, decide_eq_true_eq, (oddL_ok (allE st)).2]
    by_cases hy : IsEnd st y
    · rw [count_filter hy _ fun q hq => List.mem_range.mp hq, allE_range]
      by_cases c : Conn st y x
      · rw [if_pos ((lab_iff hy hx).mpr c)]
        exact ⟨fun z => z.1, fun z => ⟨z, c⟩⟩
      · rw [if_neg (fun z => c ((lab_iff hy hx).mp z))]
        exact ⟨fun z => absurd z.2 c, fun z => absurd z (by decide)⟩
    · have h0 : (allE st).count y = 0 := List.count_eq_zero.mpr fun m => hy (mem_allE.mp m)
      have h1 : (endsOf st ((List.range st.length).filter fun q => decide (cls st q = lab st x))).count y = 0 := List.count_eq_zero.mpr fun m => by
        obtain ⟨q, hq, e⟩ := mem_endsOf.mp m
        have hq := List.mem_range.mp (List.mem_filter.mp hq).1
        rcases e with e | e
        · exact hy (by rw [e]; exact (st_ends hq).1)
        · exact hy (by rw [e]; exact (st_ends hq).2)
      rw [h0, h1]
      exact ⟨fun z => absurd z.1 (by decide), fun z => absurd z (by decide)⟩
  rw [e]
  rfl
theorem nodd_even {st : List (Int × Int)} {x : Int} (hx : IsEnd st x) : nodd st x % 2 = 0 := by
  rw [← odds_len hx]
  exact odds_even st _
noncomputable def fC (st : List (Int × Int)) (x : Int) : Nat := max 1 (nodd st x / 2)
theorem fC_conn {st : List (Int × Int)} {x y : Int} (c : Conn st x y) : fC st x = fC st y := by
  unfold fC
  rw [nodd_conn c]
/-- the first ends of the groups' first stones -/
theorem few_first (st : List (Int × Int)) : ∃ R, Trans st R ∧ few st = (R.map (fC st)).sum := by
  let fs := (List.range st.length).filter fun p => (List.range st.length).all fun q => decide (q < p → cls st q ≠ cls st p)
  have hfs : ∀ p ∈ fs, p < st.length := fun p hp => List.mem_range.mp (List.mem_filter.mp hp).1
  refine ⟨fs.map (sa st), ⟨?_, fun x hx => ?_, fun x hx => ?_⟩, ?_⟩
  · refine List.pairwise_map.mpr ?_
    have h : fs.Pairwise (· < ·) := List.pairwise_lt_range.filter _
    refine List.Pairwise.imp_of_mem (fun {p q} hp hq hlt c => ?_) h
    have hq2 := (List.mem_filter.mp hq).2
    have := of_decide_eq_true (List.all_eq_true.mp hq2 p (List.mem_range.mpr (hfs p hp))) hlt
    exact this ((conn_of_cls (hfs p hp) (hfs q hq)).mpr c)
  · obtain ⟨p, hp, rfl⟩ := List.mem_map.mp hx
    exact (st_ends (hfs p hp)).1
  · obtain ⟨s, hs, e⟩ := hx
    obtain ⟨i, hi⟩ := List.mem_iff_getElem?.mp hs
    have il : i < st.length := (List.getElem?_eq_some_iff.mp hi).1
    rw [st_at il] at hi
    have hi := Option.some.inj hi
    obtain ⟨p, hp, ep, fp⟩ := exists_first (cls st) (cls st i) i i (Nat.le_refl _) rfl
    have pl : p < st.length := by omega
    refine ⟨sa st p, List.mem_map.mpr ⟨p, List.mem_filter.mpr ⟨List.mem_range.mpr pl, List.all_eq_true.mpr fun r _ => decide_eq_true fun hr => by rw [ep]; exact fp r hr⟩, rfl⟩, ?_⟩
    have c1 : Conn st x (sa st i) := by
      rcases e with e | e
      · rw [e, ← hi]
        exact .refl _
      · rw [e, ← hi]
        exact (Conn.edge (st_mem il)).symm
    exact c1.trans ((conn_of_cls il pl).mp ep.symm)
  · unfold few grps grpsL
    rw [List.map_map, List.map_map]
    congr 1
    refine List.map_congr_left fun p hp => ?_
    show max 1 ((odds st ((List.range st.length).filter fun q => decide (cls st q = cls st p))).length / 2) = fC st (sa st p)
    have := odds_len (st_ends (hfs p hp)).1
    unfold fC
    rw [← this]
    rfl
theorem few_trans {st : List (Int × Int)} {R : List Int} (t : Trans st R) : few st = (R.map (fC st)).sum := by
  obtain ⟨S, s, e⟩ := few_first st
  rw [e]
  refine trans_sum (r := Conn st) (fun x => .refl x) (fun h => h.symm) (fun h k => h.trans k) (fun x y c => fC_conn c) S R s.apart t.apart (fun x hx => t.all x (s.isE x hx)) fun y hy => ?_
  obtain ⟨x, hx, c⟩ := s.all y (t.isE y hy)
  exact ⟨x, hx, c.symm⟩
theorem exists_trans (st : List (Int × Int)) : ∃ R, Trans st R := by
  obtain ⟨R, t, _⟩ := few_first st
  exact ⟨R, t⟩
/-- it hangs on what stands together, and how often, alone -/
theorem few_congr {st st' : List (Int × Int)} (hc : ∀ x y, Conn st x y ↔ Conn st' x y) (hn : ∀ k, (allE st).count k = (allE st').count k) : few st = few st' := by
  obtain ⟨R, t⟩ := exists_trans st
  have he : ∀ x, IsEnd st x ↔ IsEnd st' x := fun x => by
    rw [← mem_allE, ← mem_allE, ← List.count_pos_iff, ← List.count_pos_iff, hn]
  have t' : Trans st' R := ⟨t.apart.imp fun h k => h ((hc _ _).mpr k), fun x hx => (he x).mp (t.isE x hx), fun x hx => by
    obtain ⟨r, hr, c⟩ := t.all x ((he x).mpr hx)
    exact ⟨r, hr, (hc _ _).mp c⟩⟩
  rw [few_trans t, few_trans t']
  congr 1
  refine List.map_congr_left fun x _ => ?_
  unfold fC nodd
  rw [nO_congr (P := fun y => Conn st y x) (Q := fun y => Conn st' y x) hn fun k _ => hc k x]
end Sw
namespace Sw
open Classical
/-! ## in another order, turned -/
theorem conn_turn {st st' : List (Int × Int)} (h : ∀ s ∈ st, s ∈ st' ∨ (s.2, s.1) ∈ st') {x y : Int} (c : Conn st x y) : Conn st' x y := by
  induction c with
  | refl x => exact .refl x
  | edge e =>
    rcases h _ e with q | q
    · exact .edge q
    · exact (Conn.edge q).symm
  | symm _ ih => exact .symm ih
  | trans _ _ a b => exact .trans a b
theorem few_turn {st st' : List (Int × Int)} (h : ∀ s ∈ st, s ∈ st' ∨ (s.2, s.1) ∈ st') (h' : ∀ s ∈ st', s ∈ st ∨ (s.2, s.1) ∈ st) (hn : ∀ k, (allE st).count k = (allE st').count k) : few st = few st' :=
  few_congr (fun _ _ => ⟨conn_turn h, conn_turn h'⟩) hn
theorem allE_cons (s : Int × Int) (st : List (Int × Int)) : allE (s :: st) = s.1 :: s.2 :: allE st := rfl
theorem allE_append (s t : List (Int × Int)) : allE (s ++ t) = allE s ++ allE t := List.flatMap_append
theorem allE_perm {s t : List (Int × Int)} (h : s.Perm t) : ∀ k, (allE s).count k = (allE t).count k := by
  induction h with
  | nil => intro k; rfl
  | cons x _ ih =>
    intro k
    rw [allE_cons, allE_cons, List.count_cons, List.count_cons, List.count_cons, List.count_cons, ih]
  | swap x y l =>
    intro k
    simp only [allE_cons, List.count_cons]
    omega
  | trans _ _ a b => exact fun k => (a k).trans (b k)
theorem few_perm {s t : List (Int × Int)} (h : s.Perm t) : few s = few t :=
  few_turn (fun _ hs => .inl (h.mem_iff.mp hs)) (fun _ hs => .inl (h.mem_iff.mpr hs)) (allE_perm h)

/-! ## one stone more -/
theorem count_snoc (st : List (Int × Int)) (a b k : Int) : (allE (st ++ [(a, b)])).count k = (b :: a :: allE st).count k := by
  rw [allE_append]
  show (allE st ++ [a, b]).count k = _
  rw [List.count_append, List.count_cons, List.count_cons, List.count_cons, List.count_cons, List.count_nil]
  omega
theorem nodd_snoc (st : List (Int × Int)) (a b x : Int) : nodd (st ++ [(a, b)]) x = nO (b :: a :: allE st) fun y => Conn (st ++ [(a, b)]) y x := nO_congr (count_snoc st a b) fun _ _ => Iff.rfl
theorem nodd_far {st : List (Int × Int)} {a b x : Int} (ha : ¬ Conn st a x) (hb : ¬ Conn st b x) : nodd (st ++ [(a, b)]) x = nodd st x := by
  have h1 : ¬ Conn (st ++ [(a, b)]) a x := fun c => by
    rcases conn_snoc.mp c with c | ⟨_, c⟩ | ⟨_, c⟩
    · exact ha c
    · exact hb c
    · exact ha c
  have h2 : ¬ Conn (st ++ [(a, b)]) b x := fun c => by
    rcases conn_snoc.mp c with c | ⟨_, c⟩ | ⟨_, c⟩
    · exact hb c
    · exact hb c
    · exact ha c
  have e : nO (allE st) (fun y => Conn (st ++ [(a, b)]) y x) = nodd st x := nO_congr (fun _ => rfl) fun k _ => by
    rw [conn_snoc]
    constructor
    · rintro (c | ⟨_, c⟩ | ⟨_, c⟩)
      · exact c
      · exact absurd c hb
      · exact absurd c ha
    · exact .inl
  have n1 := nO_cons b (a :: allE st) fun y => Conn (st ++ [(a, b)]) y x
  have n2 := nO_cons a (allE st) fun y => Conn (st ++ [(a, b)]) y x
  rw [if_neg h2] at n1
  rw [if_neg h1, e] at n2
  rw [nodd_snoc]
  omega
theorem fC_far {st : List (Int × Int)} {a b x : Int} (ha : ¬ Conn st a x) (hb : ¬ Conn st b x) : fC (st ++ [(a, b)]) x = fC st x := by
  unfold fC
  rw [nodd_far ha hb]
theorem sum_far {st : List (Int × Int)} {a b : Int} : ∀ {R : List Int}, (∀ r ∈ R, ¬ Conn st a r ∧ ¬ Conn st b r) → (R.map (fC (st ++ [(a, b)]))).sum = (R.map (fC st)).sum := fun {R} h => by
  congr 1
  exact List.map_congr_left fun r hr => fC_far (h r hr).1 (h r hr).2
theorem not_end_conn {st : List (Int × Int)} {a x : Int} (ha : ¬ IsEnd st a) (hx : IsEnd st x) : ¬ Conn st a x := fun c => by
  rcases c.isEnd with e | ⟨e, _⟩
  · exact ha (by rw [e]; exact hx)
  · exact ha e
/-- one of each class, the one of a number first -/
theorem trans_pick {st : List (Int × Int)} {a : Int} (ha : IsEnd st a) : ∃ r R, Trans st (r :: R) ∧ Conn st a r ∧ ∀ x ∈ R, ¬ Conn st a x := by
  obtain ⟨S, s⟩ := exists_trans st
  obtain ⟨r, hr, c⟩ := s.all a ha
  obtain ⟨u, v, e⟩ := List.append_of_mem hr
  subst e
  have pm : (u ++ r :: v).Perm (r :: (u ++ v)) := List.perm_middle
  have t : Trans st (r :: (u ++ v)) := ⟨(pm.pairwise_iff (fun h k => h k.symm)).mp s.apart, fun x hx => s.isE x (pm.mem_iff.mpr hx), fun x hx => by
    obtain ⟨y, hy, d⟩ := s.all x hx
    exact ⟨y, pm.mem_iff.mp hy, d⟩⟩
  exact ⟨r, u ++ v, t, c, fun x hx d => (List.pairwise_cons.mp t.apart).1 x hx (c.symm.trans d)⟩
theorem isEnd_more {st : List (Int × Int)} {a b x : Int} : IsEnd (st ++ [(a, b)]) x ↔ IsEnd st x ∨ x = a ∨ x = b := isEnd_snoc
/-- neither number stood there -/
theorem few_apart' {st : List (Int × Int)} {a b : Int} (ha : ¬ IsEnd st a) (hb : ¬ IsEnd st b) : few (st ++ [(a, b)]) = few st + 1 := by
  obtain ⟨R, t⟩ := exists_trans st
  have na : ∀ r ∈ R, ¬ Conn st a r ∧ ¬ Conn st b r := fun r hr => ⟨not_end_conn ha (t.isE r hr), not_end_conn hb (t.isE r hr)⟩
  have oldc : ∀ x y, IsEnd st x → IsEnd st y → Conn (st ++ [(a, b)]) x y → Conn st x y := fun x y hx hy c => by
    rcases conn_snoc.mp c with c | ⟨c, _⟩ | ⟨c, _⟩
    · exact c
    · exact absurd c.symm (not_end_conn ha hx)
    · exact absurd c.symm (not_end_conn hb hx)
  have apt : ∀ r ∈ R, ¬ Conn (st ++ [(a, b)]) a r := fun r hr c => by
    rcases conn_snoc.mp c with c | ⟨_, c⟩ | ⟨_, c⟩
    · exact (na r hr).1 c
    · exact (na r hr).2 c
    · exact (na r hr).1 c
  have t' : Trans (st ++ [(a, b)]) (a :: R) := by
    refine ⟨List.pairwise_cons.mpr ⟨apt, ?_⟩, fun x hx => ?_, fun x hx => ?_⟩
    · exact List.Pairwise.imp_of_mem (fun {x y} hx hy h c => h (oldc x y (t.isE x hx) (t.isE y hy) c)) t.apart
    · rcases List.mem_cons.mp hx with e | hx
      · rw [e]
        exact isEnd_more.mpr (.inr (.inl rfl))
      · exact isEnd_more.mpr (.inl (t.isE x hx))
    · rcases isEnd_more.mp hx with h | h | h
      · obtain ⟨r, hr, c⟩ := t.all x h
        exact ⟨r, List.mem_cons.mpr (.inr hr), conn_snoc.mpr (.inl c)⟩
      · exact ⟨a, List.mem_cons_self, by rw [h]; exact .refl _⟩
      · exact ⟨a, List.mem_cons_self, by rw [h]; exact conn_snoc.mpr (.inr (.inr ⟨.refl _, .refl _⟩))⟩
  rw [few_trans t', few_trans t, List.map_cons, List.sum_cons, sum_far na]
  have f1 : fC (st ++ [(a, b)]) a = 1 := by
    unfold fC
    have e0 : nO (allE st) (fun y => Conn (st ++ [(a, b)]) y a) = 0 := by
      unfold nO
      rw [List.length_eq_zero_iff, List.filter_eq_nil_iff]
      intro y hy z
      have hy : y ∈ allE st := by
        have := ((oddL_ok (allE st)).2 y).mp hy
        exact List.count_pos_iff.mp (by omega)
      have hy := mem_allE.mp hy
      have c := of_decide_eq_true z
      rcases conn_snoc.mp c with c | ⟨c, _⟩ | ⟨c, _⟩
      · exact not_end_conn ha hy c.symm
      · exact not_end_conn ha hy c.symm
      · exact not_end_conn hb hy c.symm
    have n1 := nO_cons b (a :: allE st) fun y => Conn (st ++ [(a, b)]) y a
    have n2 := nO_cons a (allE st) fun y => Conn (st ++ [(a, b)]) y a
    rw [nodd_snoc]
    rw [e0] at n2
    have d1 : (if Conn (st ++ [(a, b)]) b a then if b ∈ oddL (a :: allE st) then (-1 : Int) else 1 else 0) ≤ 1 := by split <;> (try split) <;> omega
    have d2 : (if Conn (st ++ [(a, b)]) a a then if a ∈ oddL (allE st) then (-1 : Int) else 1 else 0) ≤ 1 := by split <;> (try split) <;> omega
    omega
  rw [f1]
  omega
theorem few_double' {st : List (Int × Int)} {a : Int} (ha : IsEnd st a) : few (st ++ [(a, a)]) = few st := by
  obtain ⟨r, R, t, c, h⟩ := trans_pick ha
  have cc : ∀ x y, Conn (st ++ [(a, a)]) x y ↔ Conn st x y := fun x y => by
    rw [conn_snoc]
    constructor
    · rintro (c | ⟨c, d⟩ | ⟨c, d⟩)
      · exact c
      · exact c.trans d
      · exact c.trans d
    · exact .inl
  have t' : Trans (st ++ [(a, a)]) (r :: R) := ⟨t.apart.imp fun h k => h ((cc _ _).mp k), fun x hx => isEnd_more.mpr (.inl (t.isE x hx)), fun x hx => by
    rcases isEnd_more.mp hx with q | q | q
    · obtain ⟨y, hy, d⟩ := t.all x q
      exact ⟨y, hy, (cc _ _).mpr d⟩
    · exact ⟨r, List.mem_cons_self, by rw [q]; exact (cc _ _).mpr c⟩
    · exact ⟨r, List.mem_cons_self, by rw [q]; exact (cc _ _).mpr c⟩⟩
  rw [few_trans t', few_trans t, List.map_cons, List.map_cons, List.sum_cons, List.sum_cons, sum_far fun x hx => ⟨h x hx, h x hx⟩]
  congr 1
  unfold fC
  have e : nodd (st ++ [(a, a)]) r = nodd st r := by
    rw [nodd_snoc]
    have e0 : nO (allE st) (fun y => Conn (st ++ [(a, a)]) y r) = nodd st r := nO_congr (fun _ => rfl) fun k _ => cc k r
    have n1 := nO_cons a (a :: allE st) fun y => Conn (st ++ [(a, a)]) y r
    have n2 := nO_cons a (allE st) fun y => Conn (st ++ [(a, a)]) y r
    have pa : Conn (st ++ [(a, a)]) a r := (cc _ _).mpr c
    rw [if_pos pa] at n1 n2
    have m : a ∈ oddL (a :: allE st) ↔ a ∉ oddL (allE st) := by
      rw [(oddL_ok _).2, (oddL_ok _).2, List.count_cons, if_pos (beq_self_eq_true _)]
      omega
    rw [e0] at n2
    by_cases q : a ∈ oddL (allE st)
    · rw [if_pos q] at n2
      rw [if_neg (fun z => m.mp z q)] at n1
      omega
    · rw [if_neg q] at n2
      rw [if_pos (m.mpr q)] at n1
      omega
  rw [e]
theorem half_near {m n : Nat} (h : (m : Int) = n - 2 ∨ m = n ∨ m = n + 2) : max 1 (m / 2) ≤ max 1 (n / 2) + 1 ∧ max 1 (n / 2) ≤ max 1 (m / 2) + 1 := by
  rw [Nat.max_def, Nat.max_def]
  split <;> split <;> omega
theorem half_join {m n k : Nat} (hn : n % 2 = 0) (hk : k % 2 = 0) (h : (m : Int) = n + k - 2 ∨ m = n + k ∨ m = n + k + 2) (h0 : n = 0 → k = 0 → m = 2) (h1 : n = 0 → k ≤ m) (h2 : k = 0 → n ≤ m) : max 1 (m / 2) ≤ max 1 (n / 2) + max 1 (k / 2) + 1 ∧ max 1 (n / 2) + max 1 (k / 2) ≤ max 1 (m / 2) + 1 := by
  rw [Nat.max_def, Nat.max_def, Nat.max_def]
  split <;> split <;> split <;> omega
theorem nO_pos {E : List Int} {P : Int → Prop} {a : Int} (h : a ∈ oddL E) (p : P a) : 0 < nO E P := by
  unfold nO
  exact List.length_pos_of_mem (List.mem_filter.mpr ⟨h, decide_eq_true p⟩)
theorem odd_cons_ne {E : List Int} {a b : Int} (h : a ≠ b) : b ∈ oddL (a :: E) ↔ b ∈ oddL E := by
  rw [(oddL_ok _).2, (oddL_ok _).2, List.count_cons, if_neg (fun z => h (eq_of_beq z))]
  exact Iff.rfl
theorem odd_isEnd {st : List (Int × Int)} {b : Int} (h : b ∈ oddL (allE st)) : IsEnd st b := by
  have := ((oddL_ok _).2 b).mp h
  exact mem_allE.mp (List.count_pos_iff.mp (by omega))
theorem near_same {st : List (Int × Int)} {a b : Int} (ha : IsEnd st a) (cab : Conn st a b) : few (st ++ [(a, b)]) ≤ few st + 1 ∧ few st ≤ few (st ++ [(a, b)]) + 1 := by
  obtain ⟨r, R, t, c, h⟩ := trans_pick ha
  have cb : Conn st b r := cab.symm.trans c
  have cc : ∀ x y, Conn (st ++ [(a, b)]) x y ↔ Conn st x y := fun x y => by
    rw [conn_snoc]
    constructor
    · rintro (c | ⟨c, d⟩ | ⟨c, d⟩)
      · exact c
      · exact c.trans (cab.trans d)
      · exact c.trans (cab.symm.trans d)
    · exact .inl
  have t' : Trans (st ++ [(a, b)]) (r :: R) := ⟨t.apart.imp fun h k => h ((cc _ _).mp k), fun x hx => isEnd_more.mpr (.inl (t.isE x hx)), fun x hx => by
    rcases isEnd_more.mp hx with q | q | q
    · obtain ⟨y, hy, d⟩ := t.all x q
      exact ⟨y, hy, (cc _ _).mpr d⟩
    · exact ⟨r, List.mem_cons_self, by rw [q]; exact (cc _ _).mpr c⟩
    · exact ⟨r, List.mem_cons_self, by rw [q]; exact (cc _ _).mpr cb⟩⟩
  have hb : ∀ x ∈ R, ¬ Conn st b x := fun x hx d => h x hx (cab.trans d)
  rw [few_trans t', few_trans t, List.map_cons, List.map_cons, List.sum_cons, List.sum_cons, sum_far fun x hx => ⟨h x hx, hb x hx⟩]
  have e0 : nO (allE st) (fun y => Conn (st ++ [(a, b)]) y r) = nodd st r := nO_congr (fun _ => rfl) fun k _ => cc k r
  have n1 := nO_cons b (a :: allE st) fun y => Conn (st ++ [(a, b)]) y r
  have n2 := nO_cons a (allE st) fun y => Conn (st ++ [(a, b)]) y r
  rw [if_pos ((cc _ _).mpr cb)] at n1
  rw [if_pos ((cc _ _).mpr c), e0] at n2
  rw [← nodd_snoc] at n1
  have d1 : (if b ∈ oddL (a :: allE st) then (-1 : Int) else 1) = -1 ∨ (if b ∈ oddL (a :: allE st) then (-1 : Int) else 1) = 1 := by split <;> simp
  have d2 : (if a ∈ oddL (allE st) then (-1 : Int) else 1) = -1 ∨ (if a ∈ oddL (allE st) then (-1 : Int) else 1) = 1 := by split <;> simp
  have hn := half_near (m := nodd (st ++ [(a, b)]) r) (n := nodd st r) (by omega)
  unfold fC
  omega
theorem near_one {st : List (Int × Int)} {a b : Int} (ha : IsEnd st a) (hb : ¬ IsEnd st b) : few (st ++ [(a, b)]) ≤ few st + 1 ∧ few st ≤ few (st ++ [(a, b)]) + 1 := by
  obtain ⟨r, R, t, c, h⟩ := trans_pick ha
  have ne : a ≠ b := fun e => hb (by rw [← e]; exact ha)
  have nb : ∀ x, IsEnd st x → ¬ Conn st b x := fun x hx => not_end_conn hb hx
  have cc : ∀ x y, IsEnd st x → IsEnd st y → (Conn (st ++ [(a, b)]) x y ↔ Conn st x y) := fun x y hx hy => by
    rw [conn_snoc]
    constructor
    · rintro (c | ⟨_, d⟩ | ⟨d, _⟩)
      · exact c
      · exact absurd d (nb y hy)
      · exact absurd d.symm (nb x hx)
    · exact .inl
  have hr := t.isE r List.mem_cons_self
  have ca' : Conn (st ++ [(a, b)]) a r := conn_snoc.mpr (.inl c)
  have cb' : Conn (st ++ [(a, b)]) b r := conn_snoc.mpr (.inr (.inr ⟨.refl _, c⟩))
  have t' : Trans (st ++ [(a, b)]) (r :: R) := ⟨List.Pairwise.imp_of_mem (fun {x y} hx hy h k => h ((cc x y (t.isE x hx) (t.isE y hy)).mp k)) t.apart, fun x hx => isEnd_more.mpr (.inl (t.isE x hx)), fun x hx => by
    rcases isEnd_more.mp hx with q | q | q
    · obtain ⟨y, hy, d⟩ := t.all x q
      exact ⟨y, hy, conn_snoc.mpr (.inl d)⟩
    · exact ⟨r, List.mem_cons_self, by rw [q]; exact ca'⟩
    · exact ⟨r, List.mem_cons_self, by rw [q]; exact cb'⟩⟩
  rw [few_trans t', few_trans t, List.map_cons, List.map_cons, List.sum_cons, List.sum_cons, sum_far fun x hx => ⟨h x hx, nb x (t.isE x (List.mem_cons.mpr (.inr hx)))⟩]
  have e0 : nO (allE st) (fun y => Conn (st ++ [(a, b)]) y r) = nodd st r := nO_congr (fun _ => rfl) fun k hk => cc k r (mem_allE.mp hk) hr
  have n1 := nO_cons b (a :: allE st) fun y => Conn (st ++ [(a, b)]) y r
  have n2 := nO_cons a (allE st) fun y => Conn (st ++ [(a, b)]) y r
  rw [if_pos cb', if_neg (fun z => hb (odd_isEnd ((odd_cons_ne ne).mp z)))] at n1
  rw [if_pos ca', e0] at n2
  rw [← nodd_snoc] at n1
  have d2 : (if a ∈ oddL (allE st) then (-1 : Int) else 1) = -1 ∨ (if a ∈ oddL (allE st) then (-1 : Int) else 1) = 1 := by split <;> simp
  have hn := half_near (m := nodd (st ++ [(a, b)]) r) (n := nodd st r) (by omega)
  unfold fC
  omega
theorem near_two {st : List (Int × Int)} {a b : Int} (ha : IsEnd st a) (hb : IsEnd st b) (nc : ¬ Conn st a b) : few (st ++ [(a, b)]) ≤ few st + 1 ∧ few st ≤ few (st ++ [(a, b)]) + 1 := by
  obtain ⟨r, R, t, c, h⟩ := trans_pick ha
  have ne : a ≠ b := fun e => nc (by rw [e]; exact .refl _)
  obtain ⟨s, hs, cs⟩ := t.all b hb
  have sR : s ∈ R := by
    rcases List.mem_cons.mp hs with e | hs
    · rw [e] at cs
      exact absurd (c.trans cs.symm) nc
    · exact hs
  obtain ⟨u, v, e⟩ := List.append_of_mem sR
  subst e
  have pm : (u ++ s :: v).Perm (s :: (u ++ v)) := List.perm_middle
  have pm2 : (r :: (u ++ s :: v)).Perm (r :: s :: (u ++ v)) := pm.cons r
  have t2 : Trans st (r :: s :: (u ++ v)) := ⟨(pm2.pairwise_iff (fun h k => h k.symm)).mp t.apart, fun x hx => t.isE x (pm2.mem_iff.mpr hx), fun x hx => by
    obtain ⟨y, hy, d⟩ := t.all x hx
    exact ⟨y, pm2.mem_iff.mp hy, d⟩⟩
  obtain ⟨p1, p2⟩ := List.pairwise_cons.mp t2.apart
  obtain ⟨p3, p4⟩ := List.pairwise_cons.mp p2
  have fa : ∀ x ∈ u ++ v, ¬ Conn st a x := fun x hx d => p1 x (List.mem_cons.mpr (.inr hx)) (c.symm.trans d)
  have fb : ∀ x ∈ u ++ v, ¬ Conn st b x := fun x hx d => p3 x hx (cs.symm.trans d)
  have rs : ¬ Conn st r s := p1 s List.mem_cons_self
  have ca' : Conn (st ++ [(a, b)]) a r := conn_snoc.mpr (.inl c)
  have cb' : Conn (st ++ [(a, b)]) b r := conn_snoc.mpr (.inr (.inr ⟨.refl _, c⟩))
  have cc : ∀ y, Conn (st ++ [(a, b)]) y r ↔ Conn st y r ∨ Conn st y s := fun y => by
    rw [conn_snoc]
    constructor
    · rintro (c | ⟨_, d⟩ | ⟨d, _⟩)
      · exact .inl c
      · exact absurd (c.trans d.symm) nc
      · exact .inr (d.trans cs)
    · rintro (d | d)
      · exact .inl d
      · exact .inr (.inr ⟨d.trans cs.symm, c⟩)
  have t' : Trans (st ++ [(a, b)]) (r :: (u ++ v)) := by
    refine ⟨List.pairwise_cons.mpr ⟨fun x hx d => ?_, ?_⟩, fun x hx => ?_, fun x hx => ?_⟩
    · rcases (cc x).mp d.symm with d | d
      · exact p1 x (List.mem_cons.mpr (.inr hx)) d.symm
      · exact p3 x hx d.symm
    · refine List.Pairwise.imp_of_mem (fun {x y} hx hy h k => ?_) p4
      rcases conn_snoc.mp k with k | ⟨k, _⟩ | ⟨k, _⟩
      · exact h k
      · exact fa x hx k.symm
      · exact fb x hx k.symm
    · rcases List.mem_cons.mp hx with e | hx
      · rw [e]
        exact isEnd_more.mpr (.inl (t.isE r List.mem_cons_self))
      · exact isEnd_more.mpr (.inl (t2.isE x (List.mem_cons.mpr (.inr (List.mem_cons.mpr (.inr hx))))))
    · rcases isEnd_more.mp hx with q | q | q
      · obtain ⟨y, hy, d⟩ := t2.all x q
        rcases List.mem_cons.mp hy with e | hy
        · exact ⟨r, List.mem_cons_self, by rw [← e]; exact conn_snoc.mpr (.inl d)⟩
        · rcases List.mem_cons.mp hy with e | hy
          · exact ⟨r, List.mem_cons_self, (cc x).mpr (.inr (by rw [← e]; exact d))⟩
          · exact ⟨y, List.mem_cons.mpr (.inr hy), conn_snoc.mpr (.inl d)⟩
      · exact ⟨r, List.mem_cons_self, by rw [q]; exact ca'⟩
      · exact ⟨r, List.mem_cons_self, by rw [q]; exact cb'⟩
  rw [few_trans t', few_trans t2, List.map_cons, List.map_cons, List.map_cons, List.sum_cons, List.sum_cons, List.sum_cons, sum_far fun x hx => ⟨fa x hx, fb x hx⟩]
  have e0 : nO (allE st) (fun y => Conn (st ++ [(a, b)]) y r) = nodd st r + nodd st s := by
    unfold nodd
    rw [← nO_or fun k _ h1 h2 => rs (h1.symm.trans h2)]
    exact nO_congr (fun _ => rfl) fun k _ => cc k
  have n1 := nO_cons b (a :: allE st) fun y => Conn (st ++ [(a, b)]) y r
  have n2 := nO_cons a (allE st) fun y => Conn (st ++ [(a, b)]) y r
  rw [if_pos cb'] at n1
  rw [if_pos ca', e0] at n2
  rw [← nodd_snoc] at n1
  have d1 : (if b ∈ oddL (a :: allE st) then (-1 : Int) else 1) = -1 ∨ (if b ∈ oddL (a :: allE st) then (-1 : Int) else 1) = 1 := by split <;> simp
  have d2 : (if a ∈ oddL (allE st) then (-1 : Int) else 1) = -1 ∨ (if a ∈ oddL (allE st) then (-1 : Int) else 1) = 1 := by split <;> simp
  have z1 : nodd st r = 0 → (if a ∈ oddL (allE st) then (-1 : Int) else 1) = 1 := fun z => by
    refine if_neg fun m => ?_
    have := nO_pos (P := fun y => Conn st y r) m c
    unfold nodd at z
    omega
  have z2 : nodd st s = 0 → (if b ∈ oddL (a :: allE st) then (-1 : Int) else 1) = 1 := fun z => by
    refine if_neg fun m => ?_
    have := nO_pos (P := fun y => Conn st y s) ((odd_cons_ne ne).mp m) cs
    unfold nodd at z
    omega
  have hn := half_join (m := nodd (st ++ [(a, b)]) r) (n := nodd st r) (k := nodd st s) (nodd_even (t.isE r List.mem_cons_self)) (nodd_even (t2.isE s (List.mem_cons.mpr (.inr List.mem_cons_self)))) (by omega) (fun x y => by have := z1 x; have := z2 y; omega) (fun x => by have := z1 x; omega) (fun y => by have := z2 y; omega)
  unfold fC
  omega
/-- a stone more changes it by one at most -/
theorem few_near (st : List (Int × Int)) (s : Int × Int) : few (st ++ [s]) ≤ few st + 1 ∧ few st ≤ few (st ++ [s]) + 1 := by
  obtain ⟨a, b⟩ := s
  by_cases ha : IsEnd st a
  · by_cases hb : IsEnd st b
    · by_cases c : Conn st a b
      · exact near_same ha c
      · exact near_two ha hb c
    · exact near_one ha hb
  · by_cases hb : IsEnd st b
    · have e : few (st ++ [(a, b)]) = few (st ++ [(b, a)]) := by
        refine few_turn (fun s hs => ?_) (fun s hs => ?_) fun k => ?_
        · rcases List.mem_append.mp hs with h | h
          · exact .inl (List.mem_append.mpr (.inl h))
          · rw [List.mem_singleton.mp h]
            exact .inr (List.mem_append.mpr (.inr (List.mem_singleton.mpr rfl)))
        · rcases List.mem_append.mp hs with h | h
          · exact .inl (List.mem_append.mpr (.inl h))
          · rw [List.mem_singleton.mp h]
            exact .inr (List.mem_append.mpr (.inr (List.mem_singleton.mpr rfl)))
        · rw [count_snoc, count_snoc, List.count_cons, List.count_cons, List.count_cons, List.count_cons]
          omega
      rw [e]
      exact near_one hb ha
    · rw [few_apart' ha hb]
      omega
end Sw
namespace Sw
/-! ## numbers that stand nowhere -/
theorem nodup_drop1 {l : List Nat} (h : l.Nodup) (x : Nat) : l.length ≤ (l.filter fun y => decide (y ≠ x)).length + 1 := by
  induction l with
  | nil => exact Nat.zero_le _
  | cons a l ih =>
    obtain ⟨h1, h2⟩ := List.nodup_cons.mp h
    have ih := ih h2
    rw [List.filter_cons]
    by_cases e : a = x
    · rw [if_neg (by rw [decide_eq_false (fun z => z e)]; exact Bool.false_ne_true)]
      have : l.filter (fun y => decide (y ≠ x)) = l := List.filter_eq_self.mpr fun y hy => decide_eq_true fun z => h1 (by rw [e, ← z]; exact hy)
      rw [this]
      exact Nat.le_refl _
    · rw [if_pos (decide_eq_true e), List.length_cons, List.length_cons]
      omega
def freeN (u : List Int) : List Nat := (List.range 200).filter fun n : Nat => decide ((n : Int) ∉ u)
theorem free_len (u : List Int) : 200 ≤ (freeN u).length + u.length := by
  unfold freeN
  induction u with
  | nil =>
    rw [List.filter_eq_self.mpr fun _ _ => decide_eq_true (by simp), List.length_range]
    exact Nat.le_refl _
  | cons x u ih =>
    by_cases hx : 0 ≤ x
    · have e : ((List.range 200).filter fun n : Nat => decide ((n : Int) ∉ x :: u)) = ((List.range 200).filter fun n : Nat => decide ((n : Int) ∉ u)).filter fun y => decide (y ≠ x.toNat) := by
        rw [List.filter_filter]
        refine List.filter_congr fun n _ => ?_
        refine Bool.eq_iff_iff.mpr ?_
        rw [Bool.and_eq_true, decide_eq_true_eq, decide_eq_true_eq, decide_eq_true_eq, List.mem_cons, not_or]
        constructor
        · rintro ⟨a, b⟩
          exact ⟨fun z => a (by omega), b⟩
        · rintro ⟨a, b⟩
          exact ⟨fun z => a (by omega), b⟩
      rw [e]
      have := nodup_drop1 ((List.nodup_range (n := 200)).filter fun n : Nat => decide ((n : Int) ∉ u)) x.toNat
      rw [List.length_cons]
      omega
    · have e : ((List.range 200).filter fun n : Nat => decide ((n : Int) ∉ x :: u)) = (List.range 200).filter fun n : Nat => decide ((n : Int) ∉ u) := by
        refine List.filter_congr fun n _ => ?_
        refine Bool.eq_iff_iff.mpr ?_
        rw [decide_eq_true_eq, decide_eq_true_eq, List.mem_cons, not_or]
        exact ⟨fun z => z.2, fun z => ⟨fun q => hx (by omega), z⟩⟩
      rw [e, List.length_cons]
      omega
theorem free_nodup (u : List Int) : (freeN u).Nodup := (List.nodup_range (n := 200)).filter _
theorem free_get {u : List Int} {i : Nat} (h : i < (freeN u).length) : (((freeN u).getD i 0 : Nat) : Int) ∉ u ∧ (freeN u).getD i 0 < 200 := by
  have e : (freeN u).getD i 0 = (freeN u)[i] := by
    rw [List.getD_eq_getElem?_getD, List.getElem?_eq_getElem h]
    rfl
  have m : (freeN u)[i] ∈ freeN u := List.getElem_mem h
  rw [e]
  unfold freeN at m ⊢
  obtain ⟨h1, h2⟩ := List.mem_filter.mp m
  exact ⟨of_decide_eq_true h2, List.mem_range.mp h1⟩
theorem free_inj {u : List Int} {i j : Nat} (hi : i < (freeN u).length) (hj : j < (freeN u).length) (e : (freeN u).getD i 0 = (freeN u).getD j 0) : i = j := by
  rw [List.getD_eq_getElem?_getD, List.getD_eq_getElem?_getD, List.getElem?_eq_getElem hi, List.getElem?_eq_getElem hj] at e
  exact (List.getElem_inj (free_nodup u)).mp e
/-- pairs of such -/
def apartL (u : List Int) (m : Nat) : List (Int × Int) := (List.range m).map fun k => ((((freeN u).getD (2 * k) 0 : Nat) : Int), (((freeN u).getD (2 * k + 1) 0 : Nat) : Int))
theorem apart_len (u : List Int) (m : Nat) : (apartL u m).length = m := by
  unfold apartL
  rw [List.length_map, List.length_range]
theorem apart_succ (u : List Int) (m : Nat) : apartL u (m + 1) = apartL u m ++ [((((freeN u).getD (2 * m) 0 : Nat) : Int), (((freeN u).getD (2 * m + 1) 0 : Nat) : Int))] := by
  unfold apartL
  rw [List.range_succ, List.map_append]
  rfl
theorem apart_end {u : List Int} {m : Nat} {x : Int} (h : IsEnd (apartL u m) x) : ∃ i, i < 2 * m ∧ x = (((freeN u).getD i 0 : Nat) : Int) := by
  obtain ⟨s, hs, e⟩ := h
  obtain ⟨k, hk, rfl⟩ := List.mem_map.mp hs
  have hk := List.mem_range.mp hk
  rcases e with e | e
  · exact ⟨2 * k, by omega, e⟩
  · exact ⟨2 * k + 1, by omega, e⟩
theorem isEnd_app {s t : List (Int × Int)} {x : Int} : IsEnd (s ++ t) x ↔ IsEnd s x ∨ IsEnd t x := by
  rw [← mem_allE, allE_append, List.mem_append, mem_allE, mem_allE]
/-- each takes a chain of its own -/
theorem few_apart {st : List (Int × Int)} {u : List Int} (hu : ∀ x, IsEnd st x → x ∈ u) : ∀ m : Nat, 2 * m ≤ (freeN u).length → few (st ++ apartL u m) = few st + m
  | 0, _ => by
    show few (st ++ []) = _
    rw [List.append_nil]
    rfl
  | m + 1, h => by
    have ih := few_apart hu m (by omega)
    have new : ∀ i, 2 * m ≤ i → i < (freeN u).length → ¬ IsEnd (st ++ apartL u m) (((freeN u).getD i 0 : Nat) : Int) := fun i h1 h2 z => by
      rcases isEnd_app.mp z with z | z
      · exact (free_get h2).1 (hu _ z)
      · obtain ⟨j, hj, e⟩ := apart_end z
        have ee : (freeN u).getD i 0 = (freeN u).getD j 0 := Int.ofNat.inj e
        have := free_inj h2 (by omega) ee
        omega
    rw [apart_succ, ← List.append_assoc, few_apart' (new _ (Nat.le_refl _) (by omega)) (new _ (by omega) (by omega)), ih]
    omega
/-! ## what the law asks of one stone more or less -/
theorem few_insert (s t : List (Int × Int)) (x : Int × Int) : few (s ++ [x] ++ t) ≤ few (s ++ t) + 1 ∧ few (s ++ t) ≤ few (s ++ [x] ++ t) + 1 := by
  have p : (s ++ [x] ++ t).Perm (s ++ t ++ [x]) := by
    rw [List.append_assoc, List.append_assoc]
    exact List.Perm.append_left s List.perm_append_comm
  rw [few_perm p]
  exact few_near (s ++ t) x
theorem few_without {st : List (Int × Int)} {i : Nat} (h : i < st.length) : few (st.take i ++ st.drop (i + 1)) ≤ few st + 1 ∧ few st ≤ few (st.take i ++ st.drop (i + 1)) + 1 := by
  have e : st = st.take i ++ [st[i]] ++ st.drop (i + 1) := by
    rw [List.append_assoc]
    show st = st.take i ++ (st[i] :: st.drop (i + 1))
    rw [List.getElem_cons_drop, List.take_append_drop]
  have n := few_insert (st.take i) (st.drop (i + 1)) st[i]
  rw [← e] at n
  exact ⟨n.2, n.1⟩
theorem turned_count : ∀ {st st' : List (Int × Int)}, st.length = st'.length → (∀ (i : Nat) (s t : Int × Int), st[i]? = some s → st'[i]? = some t → t = s ∨ t = (s.2, s.1)) → ∀ k, (allE st).count k = (allE st').count k
  | [], [], _, _, _ => rfl
  | [], _ :: _, hl, _, _ => by simp at hl
  | _ :: _, [], hl, _, _ => by simp at hl
  | s :: st, t :: st', hl, h, k => by
    have ih := turned_count (Nat.succ.inj hl) (fun i s t a b => h (i + 1) s t a b) k
    rw [allE_cons, allE_cons, List.count_cons, List.count_cons, List.count_cons, List.count_cons, ih]
    rcases h 0 s t rfl rfl with e | e
    · rw [e]
    · rw [e]
      dsimp only
      omega
theorem few_turned {st st' : List (Int × Int)} (hl : st.length = st'.length) (h : ∀ (i : Nat) (s t : Int × Int), st[i]? = some s → st'[i]? = some t → t = s ∨ t = (s.2, s.1)) : few st' = few st := by
  refine few_turn (fun t ht => ?_) (fun s hs => ?_) ?_
  · obtain ⟨i, hi⟩ := List.mem_iff_getElem?.mp ht
    have il : i < st.length := by
      rw [hl]
      exact (List.getElem?_eq_some_iff.mp hi).1
    have hs := List.getElem?_eq_getElem il
    have hm : st[i] ∈ st := List.getElem_mem il
    rcases h i _ t hs hi with e | e
    · exact .inl (by rw [e]; exact hm)
    · refine .inr ?_
      rw [e]
      exact hm
  · obtain ⟨i, hi⟩ := List.mem_iff_getElem?.mp hs
    have il : i < st'.length := by
      rw [← hl]
      exact (List.getElem?_eq_some_iff.mp hi).1
    have ht := List.getElem?_eq_getElem il
    have hm : st'[i] ∈ st' := List.getElem_mem il
    rcases h i s _ hi ht with e | e
    · exact .inl (by rw [← e]; exact hm)
    · refine .inr ?_
      rw [← e]
      exact hm
  · refine turned_count hl.symm fun i t s ht hs => ?_
    rcases h i s t hs ht with e | e
    · exact .inl e.symm
    · exact .inr (by rw [e])
end Sw
set_option maxHeartbeats 3200000
namespace Sw
open PySem PySem.Spec PyProof.Rows L2
abbrev emptyS (w : World) : Obj := { cls := .type "set", dict := none, data := .set #[] 0 (.fresh 0 0 (!w.params.followText "set-order")) }
abbrev withS (w : World) (h : Heap) : Heap := h.push (emptyS w)
section
variable {P : Program} {w : World} {A : Around} {E : Value → Shared → Prop} {s : Shared}
/-- set(xs) of a list of ints -/
theorem set_of_ints {at_ : Addr} {us : Array Value} (zs : List Int) {Q : Value → Shared → Prop} (calm : A.handled = none) (hl : s.heap.IsList at_ us) (hi : IntsAre us.toList zs) (few : zs.length + 1 < scanBound)
    (q : ∀ (h' : Heap) (tk n : Nat), SetR w h' s.heap.objs.size (fun j => decide (j ∈ zs)) n → n ≤ zs.length → (∀ b o, s.heap.get? b = some o → h'.get? b = some o) → Q (.ref s.heap.objs.size) { s with heap := h', toks := tk }) :
    wpAny (model P w) A (call (.type "set") [.ref at_]) Q E s := by
  have usz : us.size = zs.length := by
    have z := IntsAre.length hi
    rw [Array.length_toList] at z
    exact z
  obtain ⟨c, tl, mro_⟩ := F.called_set.mro
  have made_ := F.called_set.made
  have sub_ := F.called_set.sub
  refine wpAny_call (codeAny_of_tree ?_)
  show wpAny _ _ (callAny (.type "set") _) _ _ _
  refine wpAny_pure ⟨Code.quiet_builtin _ (by decide +kernel), codeAny_builtin F.entry_type_call ?_⟩
  rw [Around.under_plain (weight_type_call_type "set" [.ref at_] []) rfl]
  have t1 := F.called_set.notType
  have t2 := F.called_set.canCreate
  have t3 := F.typeCall_set_1 (.ref at_)
  repeat (any_goals (first | assumption | wp_step))
  refine codeAny_mono (code_set_led1 (.ref at_) (E := E) (Q₁ := fun ob s1 => ob = .ref s.heap.objs.size ∧ s1 = { s with heap := withS w s.heap }) ⟨rfl, rfl⟩) fun r s1 hr => ?_
  cases r with
  | error e => exact hr
  | ok fl =>
    cases fl with
    | ret ob =>
      obtain ⟨rfl, rfl⟩ := hr
      have new : (withS w s.heap).get? s.heap.objs.size = some (emptyS w) := Heap.get?_push_size _ rfl
      have typ : Shared.TypeIs { s with heap := withS w s.heap } (.ref s.heap.objs.size) "set" := ⟨_, new, rfl⟩
      have i1 := F.called_set.init.lookup
      have i2 := F.called_set.init.bind (.ref s.heap.objs.size)
      repeat (any_goals (first | assumption | wp_step))
      refine codeAny_mono (codeAny_call_builtin (R := wants (fun r s2 => r = .none ∧ ∃ h' tk n, s2 = { s with heap := h', toks := tk } ∧ SetR w h' s.heap.objs.size (fun j => decide (j ∈ zs)) n ∧ n ≤ zs.length ∧
          (∀ b o, s.heap.get? b = some o → h'.get? b = some o)) E) F.called_set.init.plain F.entry_set_init (check_set_init_1 typ ?_)) fun r2 s2 hr2 => ?_
      · obtain ⟨ol, hol, hcl, nl, hdl⟩ := hl
        obtain ⟨ocls, odict, odata, oslots⟩ := ol
        simp only at hcl hdl
        subst hcl
        subst hdl
        have there : (withS w s.heap).get? at_ = some { cls := .type "list", dict := odict, data := .seq us nl, slots := oslots } := Heap.get?_push_of_some _ hol
        have n1 := F.sub_list_set
        have n2 := F.sub_list_frozenset
        have n3 : (Value.type "list" == Value.type "dict") = false := by decide
        have ls1 : (withS w s.heap).IsList at_ us := ⟨_, there, rfl, nl, rfl⟩
        unfold Builtin.«set.__init__» noKeywords Builtin.Frozenset.updateFrom
        generalize ePI : pyIter = PI
        wp_walk
        subst ePI
        refine wpAny_pyIter_list ls1 ?_
        refine wpAny_bind (wpAny_runValue ?_)
        have lt0 : at_ < s.heap.objs.size := Heap.lt_size hol
        have calm3 : A.in1.in1.in1.handled = none := by simp [calm]
        have apart : at_ ≠ (withS w s.heap).objs.size := by
          rw [Heap.size_push]
          exact Nat.ne_of_lt (Nat.lt_succ_of_lt lt0)
        have notIn : s.heap.objs.size ∉ [(withS w s.heap).objs.size, at_] := by
          rw [Heap.size_push]
          simp only [List.mem_cons, List.mem_singleton, List.not_mem_nil, or_false, not_or]
          exact ⟨Nat.ne_of_lt (Nat.lt_succ_self _), Nat.ne_of_gt lt0⟩
        have vals : ∀ (i : Nat) (v : Value), us[i]? = some v → ∃ k t, zs[i]? = some k ∧ v = .int k t := fun i v hv => by
          have lt1 : i < zs.length := by
            rw [← usz]
            exact (Array.getElem?_eq_some_iff.mp hv).1
          obtain ⟨t, e⟩ := PyProof.Rows.IntsAre.int_at hi i v (by rw [Array.getElem?_toList]; exact hv)
          refine ⟨zs[i], t, List.getElem?_eq_getElem lt1, ?_⟩
          rw [e, List.getD_eq_getElem?_getD, List.getElem?_eq_getElem lt1]
          all_goals rfl
        refine set_update_ints ((Walks.list calm3 _ at_ apart us).toS) s.heap.objs.size notIn zs usz few vals (us.size - 0) 0 _ (by omega) (Nat.zero_le _) ⟨⟨_, Heap.get?_push_size _ rfl, rfl, rfl⟩, (ls1.push _)⟩ ?a0 ?a1
        case a0 =>
          have g0 : ((withS w s.heap).push { cls := .type "list_iterator", data := .fields #[.ref at_, .int 0 0] }).get? s.heap.objs.size = some (emptyS w) := Heap.get?_push_of_some _ new
          exact ⟨0, Nat.le_refl 0, setR_new_at g0⟩
        case a1 =>
          intro s' n hm hn hS'
          obtain ⟨h', g2, d', tk', os'⟩ := s'
          have e1 : g2 = s.gens := hm.gens
          have e2 : d' = s.drawn := hm.drawn
          have e3 : os' = s.os := hm.os
          subst e1
          subst e2
          subst e3
          show wpAny _ _ _ _ _ _
          refine wpAny_pure ?_
          show wpAny _ _ (ret Value.none) _ _ _
          rw [usz] at hn
          refine wpAny_pure ⟨rfl, h', tk', n, rfl, hS', hn, fun b o e => ?_⟩
          have b0 : b < s.heap.objs.size := Heap.lt_size e
          have b1 : b ≠ s.heap.objs.size := Nat.ne_of_lt b0
          have b2 : b ≠ (withS w s.heap).objs.size := by
            rw [Heap.size_push]
            exact Nat.ne_of_lt (Nat.lt_succ_of_lt b0)
          exact hm.heap b o (by simp only [List.mem_cons, List.mem_singleton, List.not_mem_nil, or_false, not_or]; exact ⟨b1, b2⟩) (Heap.get?_push_of_some _ (Heap.get?_push_of_some _ e))
      · cases r2 with
        | error e => exact hr2
        | ok fl2 =>
          cases fl2 with
          | ret r =>
            obtain ⟨rfl, h', tk, n, rfl, hS', hn, k'⟩ := hr2
            repeat (any_goals (first | assumption | wp_step))
            exact q _ _ _ hS' hn k'
          | _ => exact hr2.elim
    | _ => exact hr.elim
end
section
variable {X : Cx}
/-- set(xs): at most 62 ints or so -/
def rSetI (K : PySem.W.Frag) (w : World) : List V → Hp → VK → Prop := fun xs H Q => ∃ (l : Addr) (zs : List Int), xs = [.ref l] ∧ SqL K H l (zs.map V.int) ∧ zs.length ≤ 1000 ∧
  ∀ (n : Nat) (p : Addr), n ≤ zs.length → H p = none → Q (.ref p) (upd H p (SetO w p (fun j => decide (j ∈ zs)) n))
theorem cr_setI (hc : X.calm = true) : CallR X (.type "set") (rSetI X.K X.w) := by
  intro pins s σ H xs us Q I r h
  obtain ⟨l, zs, rfl, hl, few, q⟩ := h
  rw [Vals.ref1 r]
  obtain ⟨its, rv, pl, hz⟩ := I.list hl
  have hi : IntsAre its.toArray.toList zs := by
    have := ints_of_vals rv
    simpa using this
  refine set_of_ints zs (I.ok.hd hc) pl.isList hi (by unfold scanBound; omega) fun h' tk n R hn k => ?_
  exact ⟨.ref _, upd H s.heap.objs.size (SetO X.w s.heap.objs.size (fun j => decide (j ∈ zs)) n), I.laid (t' := tk) k (Nat.le_refl _) (setO_new R), rfl, q n _ hn (I.hok.fresh (Nat.le_refl _))⟩
end
end Sw
set_option maxHeartbeats 3200000
namespace Sw
open PySem PySem.Spec PyProof.Rows L2
section
variable {X : Cx}
/-- list(o.values()) of a dict -/
def tListVals (td : TE) : TE := fun σ H Q => td σ H fun x H1 => ∃ a kvs, x = V.ref a ∧ H1 a = some (.dK kvs) ∧ ∀ p, H1 p = none → Q (.ref p) (upd H1 p (.lst (kvs.map (·.2))))
variable {o : Expr} {p pos apos mpos : Pos} {td : TE}
theorem pe_listVals (hc : X.calm = true) (hg : Gl X "list") (hm : X.mg "list" = none) (hd : PE X o td)
    (hb : attributeBase o "values" X.env (eval o X.env) = eval o X.env := by rfl) (hl : (apos.endLine == mpos.line) = true := by rfl)
    (na : starEach [Expr.Call (.Attribute o "values" apos) [] [] mpos] X.env = (false, eval (Expr.Call (.Attribute o "values" apos) [] [] mpos) X.env) :: starEach [] X.env := by rfl) :
    PE X (.Call (.Name "list" p) [.Call (.Attribute o "values" apos) [] [] mpos] [] pos) (tListVals td) := by
  refine ⟨fun pins s σ H Q I h => ?_⟩
  refine Call_ (ld_blt I hg hm PyProof.Rows.boot_list ?_)
  refine PyProof.Rows.callWith_type1 (PyProof.Rows.args_cons (wpAny_Call_method0_late hb hl (thn (hd.run pins s σ H _ I h) fun v s1 ⟨x, H1, I1, r1, a, kvs, ex, ha, q⟩ => ?_)) na) na rfl
  subst ex
  obtain rfl : v = Value.ref a := r1
  obtain ⟨z, lo, vs, rel, dof⟩ := dk_of I1.hok ha
  obtain ⟨ep, dat⟩ := dof.dictAt
  have dat' := dat
  obtain ⟨ob, es, ho, ex, hdat, hko, hpr, hnd⟩ := dat'
  refine ⟨"dict", "dict.values", F.plainAttrs_dict, F.slot_dict_values, F.type_dict_values, ⟨ob, ho, ex.1⟩, fun b e => ?_, Calls.callWith_builtin rfl (PySem.evalArgs_none ?_)⟩
  · cases e
    exact ⟨ob, ho, ex.2.1⟩
  refine call_meetsIn F.slot_dict_values ⟨ob, ho, ex.1⟩ F.entry_dict_values (F.args_dict_values_1 _) (meets_dict_values (mixKind X.prog X.w) a lo) ⟨⟨vs, dof⟩, ?_⟩
  refine PyProof.Rows.args_nil ?_
  have up : ∀ b u, s1.heap.get? b = some u → (s1.heap.push { cls := .type "dict_values", data := .fields #[.ref a] }).get? b = some u := fun b u e => Heap.get?_push_of_some _ e
  have dat1 : (s1.heap.push { cls := .type "dict_values", data := .fields #[.ref a] }).DictAt (mixKind X.prog X.w) a vs ep := dat.keep up
  refine PySem.W.kdl_call (s := { s1 with heap := s1.heap.push { cls := .type "dict_values", data := .fields #[.ref a] } }) (PySem.W.kdl_values (knd := mixKind X.prog X.w) (kvs := vs) (ep := ep) (r := s1.heap.objs.size) (d := a)) (I1.ok.hd hc) ⟨⟨_, Heap.get?_push_size _ rfl, rfl, rfl⟩, dat1⟩ (by rw [← rel.length]; exact z) fun h' tk acc c' hk hD hacc => ?_
  have hv : Vals (kvs.map (·.2)) acc.toList := by
    have el : (kvs.map (·.2)).length = acc.toList.length := by
      rw [List.length_map, rel.length]
      exact hacc.1.symm
    refine vals_of_at el fun j x u e1 e2 => ?_
    obtain ⟨k, hk2⟩ := hacc.2 j u (by rw [← Array.getElem?_toList]; exact e2)
    obtain ⟨x', h1, h2⟩ := KV.at' rel hk2
    rw [List.getElem?_map, h1] at e1
    have e1 := Option.some.inj e1
    rw [← e1]
    exact h2
  have hsz : (s1.heap.push { cls := .type "dict_values", data := .fields #[.ref a] }).objs.size = s1.heap.objs.size + 1 := Heap.size_push _ _
  refine ⟨.ref (s1.heap.push { cls := .type "dict_values", data := .fields #[.ref a] }).objs.size, upd H1 (s1.heap.push { cls := .type "dict_values", data := .fields #[.ref a] }).objs.size (.lst (kvs.map (·.2))), I1.laid (t' := tk) (fun b u e => hk b u (up b u e)) (by rw [hsz]; exact Nat.le_succ _) ?_, rfl, q _ (I1.hok.fresh (by rw [hsz]; exact Nat.le_succ _))⟩
  exact (show ObjOk X.prog X.w _ _ _ (.lst (kvs.map (·.2))) from ⟨by rw [List.length_map]; exact z, acc.toList, c', hv, by rw [Array.toArray_toList]; exact hD⟩)
end
end Sw
set_option maxHeartbeats 3200000
namespace Sw
open PySem PySem.Spec PyProof.Rows L2
section
variable {X : Cx}
/-- name = {..} on one line, the name a local -/
theorem ps_setDc {n : Nat} {nm : Str} {np : Pos} {kx vx tgt iter : Expr} {ifs : List Expr} {sc : Scope} {own : List (Str × Nat)} {p1 p2 : Pos} {wi : TI} {g : TG} {tt : TT} {tk tv : TE} (hc : X.calm = true) (hN : X.N.Nodup) (hn : X.N[n]? = some nm) (hl : X.env.scope.names.lookup nm = some .local)
    (sw : swapsWith (.DictComp kx vx [⟨tgt, iter, ifs, 0⟩] sc p1) (some (.Name nm np)) p2.line X.env = pure true) (hi : PI X tgt iter wi) (ok : BlkOk X.N X.env.scope sc own)
    (h1 : ∀ (s : Shared) (H : Hp) (C : Addr) (cl : List (Str × Addr)) (fp : List Addr), PG (X.blk s H sc (compEnvC sc cl C X.env) fp) tgt g) (h2 : ∀ (s : Shared) (H : Hp) (C : Addr) (cl : List (Str × Addr)) (fp : List Addr), PTs (X.blk s H sc (compEnvC sc cl C X.env) fp) ifs tt)
    (h3 : ∀ (s : Shared) (H : Hp) (C : Addr) (cl : List (Str × Addr)) (fp : List Addr), PE (X.blk s H sc (compEnvC sc cl C X.env) fp) kx tk) (h4 : ∀ (s : Shared) (H : Hp) (C : Addr) (cl : List (Str × Addr)) (fp : List Addr), PE (X.blk s H sc (compEnvC sc cl C X.env) fp) vx tv)
    (fo : ∀ x, foldedSetIterable iter X.env x = pure x := by intro _; rfl) : PS X (.Assign [.Name nm np] (.DictComp kx vx [⟨tgt, iter, ifs, 0⟩] sc p1) p2) (tAsg (tDc wi g tt tk tv (own.map (·.2))) (gName n)) := by
  refine ⟨fun pins s σ H D I h => ?_⟩
  rw [exec_Assign_Name_used _ _ _ _ sw]
  refine wpAny_bind (wpAny_standAt (wpAny_bind ?_))
  show wpAny _ X.A (do let _ ← comprehension (.DictComp kx vx [⟨tgt, iter, ifs, 0⟩] sc p1) sc X.env (firstIterPos [⟨tgt, iter, ifs, 0⟩] p1) newDict false (eval iter X.env) (some (assign (.Name nm np) X.env))) _ _ s
  have h : tDc wi g tt tk tv (own.map (·.2)) σ H (fun x H1 => gName n x σ H1 D.nx) := h
  refine wpAny_bind (thn (dc_core (Qf := fun _ s' => SP X pins D .next s') hc hN I hi ok h1 h2 h3 h4 fo h fun L C s1 m H1 I1 q hm f => ?_) fun _ s1 hq => wpAny_pure (wpAny_pure hq))
  show wpAny _ _ (assign (.Name nm np) X.env (.ref L)) _ _ _
  refine wpAny_assign_Name (store_ok2 (v := V.ref L) I1 hN hn (.inl hl) rfl (fun s2 I2 ⟨a, sb, ha⟩ => ?_) (.inr hl))
  obtain ⟨f0, f1, f2, f3, f4, f5⟩ := f
  have apart : C ≠ a := by
    rcases ha with z | z
    · rw [z]
      exact f1
    · exact fun e => f4 nm a z e.symm
  refine ⟨m, hm.sameBut sb apart, fun h5 sb5 => ?_⟩
  exact ⟨_, H1, I2.turned (t' := s2.toks) (fun b o hb e => (sb5.2 b hb).trans e) f0 f1 f3 f4 f5, q⟩
theorem sw_dict {kx vx : Expr} {gs : List Comprehension} {sc : Scope} {p1 np : Pos} {nm : Str} {l : Nat} {env : Env} (hk : env.scope.kind = .function) (hy : env.scope.names.lookup nm = some .local) (hl : (np.line == p1.line) = true)
    (ha : (sc.names.any fun (n, k) => n == nm && (k == .local || k == .cell)) = false) : swapsWith (.DictComp kx vx gs sc p1) (some (.Name nm np)) l env = pure true := by
  have k1 : env.kindOf nm = some .local := hy
  have k2 : env.blockKind = .function := by
    unfold Env.blockKind
    rw [hk]
    rfl
  unfold swapsWith
  simp only [k2, k1, ha, Expr.pos, hl]
  rfl
end
end Sw
set_option maxHeartbeats 3200000
namespace Sw
open PySem PySem.Spec PyProof.Rows L2
section
variable {prog : Program} {w : World} {A : Around} {E : Value → Shared → Prop} {s : Shared}
/-- the end of sorted: the gathered ints laid in a new list, and that one sorted -/
theorem sort_gathered {vs : List Value} {ns : List Int} {R : PySem.Fin → Shared → Prop} (hi : IntsAre vs ns) (hz : vs.length ≤ sizeLine)
    (h : ∀ (h' : Heap) (out : List Value) (zs : List Int) (c : Nat), (∀ b o, s.heap.get? b = some o → h'.get? b = some o) → h'.get? s.heap.objs.size = some (seqObj "list" out.toArray c) → IntsAre out zs → zs.Perm ns → zs.Pairwise (· ≤ ·) → R (.done (.ret (.ref s.heap.objs.size))) { s with heap := h' }) :
    wpAny (model prog w) A (newList vs >>= fun l => do let _ ← holding [l] (call (.builtin "list.sort") [l] []); ret l) R E s := by
  refine wpAny_bind (wpAny_newList ?_ hz)
  have hoL : (s.heap.push (seqObj "list" vs.toArray 0)).get? s.heap.objs.size = some (seqObj "list" vs.toArray 0) := Heap.get?_push_size _ rfl
  show wpAny _ _ _ _ _ { s with heap := s.heap.push (seqObj "list" vs.toArray 0) }
  refine wpAny_bind (wpAny_holding (wpAny_call_entry PyProof.Rows.slot_list_sort ⟨_, hoL, rfl⟩ PyProof.Rows.entry_list_sort
    (SrtO.list_sort_ord (s := { s with heap := s.heap.push (seqObj "list" vs.toArray 0) }) SrtO.swo_int hoL hz (fun h2 => SrtO.ints_sortable hi h2) fun out h1 h2 => ⟨_, rfl, ?_⟩) (PyProof.Rows.args_list_sort _)))
  obtain ⟨k1, k2, k3⟩ := SrtO.ints_out hi h1 h2
  obtain ⟨ep, he'⟩ := PyProof.Rows.sortedHeap_at (vs := vs) (out := out.toArray) hoL
  refine wpAny_pure (h _ out (out.map SrtO.iv) ep (fun b u e => ?_) he' k1 k2 k3)
  have hb : b < s.heap.objs.size := Heap.lt_size e
  rw [PyProof.Rows.sortedHeap_old (Nat.ne_of_lt hb) (by rw [size_push']; exact Nat.lt_succ_of_lt hb)]
  exact Heap.get?_push_of_some _ e
end
section
variable {X : Cx}
/-- sorted(d), a dict whose keys are ints, any number of them -/
def rSortedKeys : List V → Hp → VK → Prop := fun xs H Q => ∃ (a : Addr) (kvs : List (Key × V)) (ks : List Int), xs = [.ref a] ∧ Rd H a (.dK kvs) ∧ kvs.map (·.1) = ks.map Sum.inl ∧
  ∀ (ys : List Int) (p : Addr), ys.Perm ks → ys.Pairwise (· ≤ ·) → H p = none → Q (.ref p) (upd H p (.lst (ys.map V.int)))
theorem cr_sortedKeys (hc : X.calm = true) : CallR X (.builtin "sorted") rSortedKeys := by
  intro pins s σ H xs us Q I r q
  obtain ⟨a, kvs, ks, ex, hd, hks, q⟩ := q
  subst ex
  rw [Vals.ref1 r]
  obtain ⟨z, lo, vs, rel, dd⟩ := dk_rd I.hok hd
  obtain ⟨ep, hat⟩ := dd.dictAt
  have hkeys : vs.map (·.1) = ks.map Sum.inl := rel.keys.symm.trans hks
  have hl : vs.length = ks.length := by
    have e := congrArg List.length hkeys
    rw [List.length_map, List.length_map] at e
    exact e
  have hz : vs.length ≤ sizeLine := by
    rw [← rel.length]
    exact z
  refine Calls.call_function_entry PyProof.Rows.kind_sorted PyProof.Rows.plain_sorted PyProof.Rows.entry_sorted (PyProof.Rows.args_sorted1 _) ?_
  unfold Builtin.«sorted»
  refine wpAny_bind (m := checkCount "sorted" 1 1 _) (wpAny_pure ?_)
  refine wpAny_bind (PySem.W.kdu_collect (A := X.A.in1) (PySem.W.kdl_dict (knd := mixKind X.prog X.w) (kvs := vs) (ep := ep) lo) (I.ok.hd hc) hat hz fun h' tk acc hk hacc => ?_)
  have hal : acc.toList.length = ks.length := by
    rw [← hl]
    exact hacc.1
  have hS : IntsAre acc.toList ks := ints_each hal fun j v e => by
    obtain ⟨k, x, e1, e2⟩ := hacc.2 j v (by rw [← Array.getElem?_toList]; exact e)
    have e3 : (vs.map (·.1))[j]? = some k := by
      rw [List.getElem?_map, e1]
      rfl
    rw [hkeys, List.getElem?_map] at e3
    obtain ⟨y, e4, e5⟩ := Option.map_eq_some_iff.mp e3
    subst e5
    rcases keyIs_shape (show keyIs (Sum.inl y) v = true from e2) with ⟨i, t, ek, ev⟩ | ⟨z, t, ek, ev⟩
    · cases ek
      exact ⟨y, t, e4, ev⟩
    · cases ek
  have I1 : Inv X pins σ H { s with heap := h', toks := tk } := I.kept hk
  refine sort_gathered (s := { s with heap := h', toks := tk }) hS (by rw [hal, ← hl]; exact hz) fun h2 out zs c k2 hg hi hp hs => ?_
  have hlen : (zs.map V.int).length ≤ sizeLine := by
    rw [List.length_map, hp.length_eq, ← hl]
    exact hz
  exact ⟨_, rfl, .ref h'.objs.size, upd H h'.objs.size (.lst (zs.map V.int)), I1.laid (t' := tk) k2 (Nat.le_refl _) (show ObjOk X.prog X.w _ _ _ (.lst (zs.map V.int)) from ⟨hlen, out, c, vals_of_ints hi, hg⟩), rfl, q zs _ hp hs (I1.hok.fresh (Nat.le_refl _))⟩
/-- sorted(s), a set of ints, any number of them -/
def rSortedSetN (w : World) : List V → Hp → VK → Prop := fun vs H Q => ∃ (a : Addr) (S : Int → Bool) (n : Nat), vs = [V.ref a] ∧ H a = some (SetO w a S n) ∧
  ∀ (ns : List Int) (p : Addr), ns.Pairwise (· < ·) → (∀ k : Int, k ∈ ns ↔ S k = true) → H p = none → Q (.ref p) (upd H p (.lst (ns.map V.int)))
theorem cr_sortedSetN (hc : X.calm = true) : CallR X (.builtin "sorted") (rSortedSetN X.w) := by
  intro pins s σ H vs us Q I r h
  obtain ⟨a, S, n, rfl, ha, q⟩ := h
  obtain ⟨o, es, ep, t, ho, hex, hd, g, nd, hm, hb, hf, hn, hr, hl⟩ := setO_get I ha
  rw [Vals.ref1 r]
  refine Calls.call_function_entry kind_sorted plain_sorted entry_sorted (args_sorted1 _) ?_
  unfold Builtin.«sorted»
  refine wpAny_bind (m := checkCount "sorted" 1 1 _) (wpAny_pure ?_)
  refine wpAny_bind (collect_set (A := X.A.in1) (I.ok.hd hc) ⟨o, ho, hex.1, hd⟩ hf hb hr hl fun s1 vs k1 hz g1 o1 pm => ?_)
  have hvl : vs.length ≤ sizeLine := by
    rw [pm.length_eq, List.length_map, Array.length_toList]
    exact fits_of_scanBound hb
  have hI : IntsAre vs (vs.map Builtin.Re.reRawOf) := ints_of vs fun v hv => by
    obtain ⟨e, he, q⟩ := List.mem_map.mp (pm.mem_iff.mp hv)
    obtain ⟨k, tk, h1, _⟩ := g e he
    exact ⟨k, tk, by rw [← q]; exact h1⟩
  have pk : (vs.map Builtin.Re.reRawOf).Perm (es.toList.map keyOf) := by
    have q := pm.map Builtin.Re.reRawOf
    rw [List.map_map] at q
    exact q
  refine sort_gathered (s := s1) hI hvl fun h2 out zs c k2 hg hi hp hs => ?_
  have pn : zs.Perm (es.toList.map keyOf) := hp.trans pk
  have hlen : (zs.map V.int).length ≤ sizeLine := by
    rw [List.length_map, hp.length_eq, List.length_map]
    exact hvl
  have kk : ∀ b u, s.heap.get? b = some u → h2.get? b = some u := fun b u e => k2 b u (k1 b u e)
  have hfr : H s1.heap.objs.size = none := I.hok.fresh hz
  have J : Inv X pins σ (upd H s1.heap.objs.size (.lst (zs.map V.int))) { s with heap := h2, gens := s1.gens, drawn := s1.drawn, toks := s1.toks } :=
    I.call (ch := []) (Un.laid kk hz hfr) (I.hok.laid kk hz ⟨hlen, out, c, vals_of_ints hi, hg⟩) (by rw [g1]; exact I.bare) (fun _ z => nomatch z)
  have e : { s1 with heap := h2 } = { s with heap := h2, gens := s1.gens, drawn := s1.drawn, toks := s1.toks } := by
    cases s1
    cases s
    cases o1
    rfl
  refine ⟨_, rfl, ?_⟩
  rw [e]
  exact ⟨.ref s1.heap.objs.size, _, J, rfl, q zs _ (L2.lt_of_le_nodup zs hs (pn.nodup_iff.mpr nd)) (fun k => by rw [pn.mem_iff, ← hm k]) hfr⟩
end
end Sw
set_option maxHeartbeats 3200000
namespace Sw
open PySem PySem.Spec PyProof.Rows L2 HT
section
variable {prog : Program} {w : World} {A : Around} {E : Value → Shared → Prop} {s : Shared}
theorem applied_back {sl : Addr} {vs : Value} {Q : Int × Int × Nat → Shared → Prop} (hs : s.heap.IsSliceOf sl .none .none vs) (p : IsPart vs (some (-1))) (h : Q ((1 : Int), -1, 2) s) : wpAny (model prog w) A (Builtin.Slice.sliceApplied (.ref sl) (pure ((2 : Nat) : Int))) Q E s := by
  obtain ⟨os, hos, hcs, hds⟩ := id hs
  unfold Builtin.Slice.sliceApplied Builtin.Slice.sliceFields
  refine wpAny_bind (wpAny_bind (wpAny_field hos hds (x := .none) rfl (wpAny_bind (wpAny_field hos hds (x := .none) rfl (wpAny_bind (wpAny_field hos hds (x := vs) rfl (wpAny_pure ?_)))))))
  refine wpAny_bind (HT.slicePart_ p ?_)
  show wpAny _ _ (if ((-1 : Int) == 0) = true then _ else _) _ _ s
  rw [if_neg (by decide)]
  refine wpAny_bind (slicePart_none (wpAny_bind (slicePart_none (wpAny_bind (wpAny_pure ?_)))))
  show wpAny _ _ (match Builtin.Slice.sliceAdjust none none (-1) ((2 : Nat) : Int) with | (lo, hi) => pure (lo, (-1 : Int), Builtin.Slice.slicePlaces lo hi (-1))) _ _ s
  exact wpAny_pure h
theorem item_back {t sl : Addr} {x y vs : Value} {Q : Value → Shared → Prop} (ht : IsTup s.heap t #[x, y]) (hs : s.heap.IsSliceOf sl .none .none vs) (p : IsPart vs (some (-1)))
    (h : Q (.ref s.heap.objs.size) { s with heap := s.heap.push { cls := .type "tuple", data := .seq #[y, x] } }) : wpAny (model prog w) A (getItem (.ref t) (.ref sl)) Q E s := by
  have fits : sizeOk (.seq #[y, x]) := by
    show 2 ≤ sizeLine
    decide
  obtain ⟨os, hos, hcs, hds⟩ := id hs
  have typ : s.TypeIs (.ref sl) "slice" := ⟨os, hos, hcs⟩
  unfold getItem
  try with_reducible refine wpAny_holding ?_
  first | refine wpAny_bind (wpAny_pure ?_) | skip
  refine wpAny_bind (wpAny_sequenceKey ht.typeIs (by decide) ?_)
  refine wpAny_bind (wpAny_callSpecial?_slot (name := Str.ofString "__getitem__") ht.typeIs PyProof.Rows.slot_tuple_getitem
    (wpAny_call_entry PyProof.Rows.slot_tuple_getitem ht.typeIs entry_tuple_getitem ?_ (args_tuple_getitem _ _)))
  show wpAny _ _ (Builtin.Tuple.tupleItemsOf (.ref t) >>= _) _ _ s
  refine wpAny_bind (tupleItemsOf_ ht ?_)
  refine wpAny_bind (wpAny_typeOf typ ?_)
  rw [if_pos (by decide)]
  refine wpAny_bind (applied_back hs p ?_)
  show wpAny _ _ (if (((1 : Int) == 0 && (-1 : Int) == 1 && (2 : Nat) == 2) = true) then _ else _) _ _ s
  rw [if_neg (by decide)]
  first
    | exact wpAny_bind (m := Builtin.Tuple.tupleExact _) (wpAny_newObj_type (wpAny_pure ⟨_, rfl, wpAny_pure h⟩) fits)
    | exact wpAny_bind (m := Builtin.Tuple.tupleExact _) (wpAny_newObj_type (wpAny_bind (wpAny_pure (wpAny_pure ⟨_, rfl, wpAny_pure h⟩))) fits)
    | exact wpAny_bind (wpAny_bind (m := Builtin.Tuple.tupleExact _) (wpAny_newObj_type (wpAny_pure (wpAny_pure ⟨_, rfl, wpAny_pure h⟩)) fits))
    | exact wpAny_bind (wpAny_bind (m := Builtin.Tuple.tupleExact _) (wpAny_newObj_type (wpAny_pure ⟨_, rfl, wpAny_pure h⟩) fits))
end
section
variable {X : Cx}
/-- t[::-1] of a pair -/
def tRevT (K : PySem.W.Frag) (te : TE) : TE := fun σ H Q => te σ H fun v H1 => ∃ a x y, v = .ref a ∧ SqT K H1 a [x, y] ∧ ∀ p, H1 p = none → Q (.ref p) (upd H1 p (.tup [y, x]))
theorem pe_revT {e : Expr} {te : TE} {k : Nat} {p1 p2 p3 pos : Pos} (he : PE X e te) : PE X (.Subscript e (.Slice none none (some (.UnaryOp .USub (.Constant (.int 1) k p1) p2)) p3) pos) (tRevT X.K te) := by
  refine ⟨fun pins s σ H Q I h => ?_⟩
  refine Subscript_ (thn (he.run pins s σ H _ I h) fun v s1 ⟨z, H1, I1, r1, a, x, y, ex, hx, q⟩ => ?_)
  subst ex
  cases r1
  have part : PO X (some (.UnaryOp .USub (.Constant (.int 1) k p1) p2)) (tPart (tUn (rU fun i => .int (-i)) (tC (.int 1)))) := po_some (pe_un un_neg pe_int)
  refine wpAny_Slice (thn (po_none.run pins s1 σ H1 (fun o H2 => o = none ∧ H2 = H1) I1 ⟨rfl, rfl⟩) fun vl s2 ⟨l, H2, I2, pl, e1, e2⟩ => ?_)
  subst e1 e2
  refine thn (po_none.run pins s2 σ H2 (fun o H3 => o = none ∧ H3 = H2) I2 ⟨rfl, rfl⟩) fun vu s3 ⟨u, H3, I3, pu, e1, e2⟩ => ?_
  subst e1 e2
  refine thn (part.run pins s3 σ H3 (fun o H4 => o = some (-1) ∧ H4 = H3) I3 ⟨1, rfl, -1, rfl, rfl, rfl⟩) fun vs s4 ⟨o, H4, I4, ps, e1, e2⟩ => ?_
  subst e1 e2
  have I5 : Inv X pins σ H4 { s4 with heap := s4.heap.push { cls := .type "slice", data := .fields #[vl, vu, vs] } } := I4.kept (t' := s4.toks) fun b ob q => Heap.get?_push_of_some _ q
  obtain ⟨its, r, ht, hz⟩ := I5.tuple hx
  cases pl
  cases pu
  obtain ⟨u1, u2, rfl, ra, rb⟩ := Vals.two r
  show wpAny (model X.prog X.w) X.A (subscriptTail e (.Slice none none (some (.UnaryOp .USub (.Constant (.int 1) k p1) p2)) p3) (.ref a) (.ref s4.heap.objs.size)) (EP X pins σ Q) X.xe { s4 with heap := s4.heap.push { cls := .type "slice", data := .fields #[.none, .none, vs] } }
  refine tail_any (ops := [.ref a, .ref s4.heap.objs.size]) ht.typeIs (PyProof.Rows.slot_tuple_getitem.lookup) ?_ (by with_unfolding_all rfl)
  refine item_back ht (Heap.IsSliceOf.new _ .none .none vs) ps ?_
  refine ⟨.ref _, _, I5.laid (t' := s4.toks) (o := .tup [y, x]) (fun b ob q => Heap.get?_push_of_some _ q) (Nat.le_refl _) ?_, rfl, q _ (I5.hok.fresh (Nat.le_refl _))⟩
  exact ⟨by show 2 ≤ sizeLine; decide, _, .cons rb (.cons ra .nil), IsTup.new _ _⟩
end
end Sw
namespace Sw
open PySem PySem.Spec PyProof.Rows L2
open Evl (Ex Ex.refl Ex.trans Ex.new Ex.mut ex_l ex_t ex_rd fresh_back Ev EvL EvU EvT EvA RV RC RCL SpV SpL)
section
variable {K : PySem.W.Frag} {σ : L2.St} {H H' : Hp} {ta tb te : TE} {t u : TT} {x y z v : V} {r : R2}
/-- a built-in's call over a new list -/
theorem ev_cbN {r : List V → Hp → VK → Prop} {xs : List V} (h : EvL te σ H xs) (hr : ∀ p H1, H1 p = some (.lst xs) → Ex H H1 → RC r [.ref p] H1 z) : Ev (tCB r (tCons te tNil)) σ H z := fun H1 e Q q =>
  h H1 e _ fun p H2 _ e2 hp => hr p H2 hp (e.trans e2) H2 (Ex.refl H2) Q fun H3 e3 => q H3 (e2.trans e3)
theorem el_cbN {r : List V → Hp → VK → Prop} {xs ys : List V} (h : EvL te σ H xs) (hr : ∀ p H1, H1 p = some (.lst xs) → Ex H H1 → RCL r [.ref p] H1 ys) : EvL (tCB r (tCons te tNil)) σ H ys := fun H1 e Q q =>
  h H1 e _ fun p H2 _ e2 hp => hr p H2 hp (e.trans e2) H2 (Ex.refl H2) Q fun l H3 h3 e3 hl => q l H3 (fresh_back e2 h3) (e2.trans e3) hl
theorem rc_all {p : Addr} {bs : List Bool} (h : H p = some (.lst (bs.map V.bl))) : RC (rAll K) [.ref p] H (.bl (bs.all id)) := fun H1 e Q q => ⟨p, bs, rfl, SqL.of (e _ _ h), q H1 (Ex.refl H1)⟩
theorem rc_isi {x c : V} {t u : Value} {b : Bool} (k : ClsV c u) (ty : ∀ H1, Ex H H1 → TyX K H1 x t) (e : PySem.W.kitOne K t u = some b) : RC (rIsi K) [x, c] H (.bl b) := fun H1 e1 Q q => ⟨x, c, t, u, b, rfl, k, ty H1 e1, e, q H1 (Ex.refl H1)⟩
theorem given_all (n : Nat) (v : Nat → V) : Evl.given n (fun _ => true) v = (List.range n).map v := by
  unfold Evl.given
  rw [List.filter_eq_self.mpr fun _ _ => rfl]
theorem given_list {α : Type} (l : List α) (v : Nat → V) (f : α → V) (h : ∀ i a, l[i]? = some a → v i = f a) : Evl.given l.length (fun _ => true) v = l.map f := by
  rw [given_all]
  refine List.ext_getElem (by rw [List.length_map, List.length_map, List.length_range]) fun i h1 h2 => ?_
  rw [List.length_map] at h2
  rw [List.getElem_map, List.getElem_map, List.getElem_range]
  exact h i _ (List.getElem?_eq_getElem h2)
theorem given_take {α : Type} (l : List α) (f : Nat → Bool) (v : Nat → V) (p : α → Bool) (g : α → V) (h : ∀ i a, l[i]? = some a → f i = p a ∧ (p a = true → v i = g a)) : ∀ n, n ≤ l.length → Evl.given n f v = ((l.take n).filter p).map g
  | 0, _ => rfl
  | n + 1, hn => by
    have ih := given_take l f v p g h n (by omega)
    have hlt : n < l.length := hn
    obtain ⟨h1, h2⟩ := h n _ (List.getElem?_eq_getElem hlt)
    rw [List.take_add_one, List.getElem?_eq_getElem hlt, List.filter_append, List.map_append, ← ih]
    cases hp : p l[n] with
    | true =>
      rw [Evl.given_yes (h1.trans hp), h2 hp]
      show _ = _ ++ ([l[n]].filter p).map g
      rw [List.filter_cons, if_pos hp]
      rfl
    | false =>
      rw [Evl.given_no (h1.trans hp)]
      show _ = _ ++ ([l[n]].filter p).map g
      rw [List.filter_cons, if_neg (by rw [hp]; exact Bool.false_ne_true)]
      show _ = _ ++ []
      rw [List.append_nil]
theorem given_filter {α : Type} (l : List α) (f : Nat → Bool) (v : Nat → V) (p : α → Bool) (g : α → V) (h : ∀ i a, l[i]? = some a → f i = p a ∧ (p a = true → v i = g a)) : Evl.given l.length f v = (l.filter p).map g := by
  rw [given_take l f v p g h l.length (Nat.le_refl _), List.take_length]
/-- a call whose first argument is a new list -/
theorem ev_callN {sp : Sp} {dvs vs : List V} {E : XK} {tr : TA} {xs : List V} (h : EvL te σ H xs) (ht : EvA tr σ H vs) (hs : ∀ p H1, H1 p = some (.lst xs) → Ex H H1 → SpV sp ((.ref p :: vs) ++ dvs) H1 z) : Ev (tCall sp dvs E (tCons te tr)) σ H z := fun H1 e Q q =>
  h H1 e _ fun p H2 _ e2 hp => ht H2 (e.trans e2) _ fun H3 e3 => hs p H3 (e3 _ _ hp) ((e.trans e2).trans e3) H3 (Ex.refl H3) Q (fun H4 e4 => q H4 ((e2.trans e3).trans e4)) E
theorem el_rev {a : Addr} {xs : List V} (h : Ev te σ H (.ref a)) (hx : SqL K H a xs) : EvL (tRevL K te) σ H xs.reverse := fun H1 e Q q =>
  h H1 e _ fun H2 e2 => ⟨a, xs, rfl, ex_l (e.trans e2) hx, fun p np => q p _ (fresh_back e2 np) (e2.trans (Ex.new np)) upd_same⟩
theorem q_call {sp : Sp} {dvs : List V} {E : XK} {ta : TA} {i : Nat} {tz : TS} {D : Ends} (h : ta σ H fun vs H1 => sp (vs ++ dvs) H1 (fun v H2 => tz D (σ.set i (some v)) H2) E) : tSeq (tAsg (tCall sp dvs E ta) (gName i)) tz D σ H := h
end
end Sw
namespace Sw
open PySem PySem.Spec PyProof.Rows L2
open Evl (Ex Ex.refl Ex.trans Ex.new Ex.mut ex_l ex_t ex_rd fresh_back Ev EvL EvU EvT EvA RV RC RCL SpV SpL)
/-! ### data in memory, all tracked -/
mutual
inductive Dt (H : Hp) : V → PyData → Prop
  | non : Dt H .non .none
  | bl (b : Bool) : Dt H (.bl b) (.bool b)
  | int (i : Int) : Dt H (.int i) (.int i)
  | str (x : Str) : Dt H (.str x) (.str x)
  | lst {a : Addr} {xs : List V} {ds : List PyData} : H a = some (.lst xs) → DtAll H xs ds → Dt H (.ref a) (.list ds)
  | tup {a : Addr} {xs : List V} {ds : List PyData} : H a = some (.tup xs) → DtAll H xs ds → Dt H (.ref a) (.tuple ds)
inductive DtAll (H : Hp) : List V → List PyData → Prop
  | nil : DtAll H [] []
  | cons {v : V} {vs : List V} {d : PyData} {ds : List PyData} : Dt H v d → DtAll H vs ds → DtAll H (v :: vs) (d :: ds)
end
mutual
theorem Dt.dp {K : PySem.W.Frag} {H : Hp} : ∀ (d : PyData) (v : V), Dt H v d → Dp K H v d
  | .none, _, .non => .non
  | .bool _, _, .bl b => .bl b
  | .int _, _, .int i => .int i
  | .str _, _, .str x => .str x
  | .list ds, _, .lst h t => .lst (SqL.of h) (DtAll.dp ds _ t)
  | .tuple ds, _, .tup h t => .tup (SqT.of h) (DtAll.dp ds _ t)
theorem DtAll.dp {K : PySem.W.Frag} {H : Hp} : ∀ (ds : List PyData) (vs : List V), DtAll H vs ds → DpAll K H vs ds
  | [], _, .nil => .nil
  | d :: ds, _, .cons h t => .cons (Dt.dp d _ h) (DtAll.dp ds _ t)
end
mutual
theorem Dt.ex {H H' : Hp} (e : Ex H H') : ∀ (d : PyData) (v : V), Dt H v d → Dt H' v d
  | .none, _, .non => .non
  | .bool _, _, .bl b => .bl b
  | .int _, _, .int i => .int i
  | .str _, _, .str x => .str x
  | .list ds, _, .lst h t => .lst (e _ _ h) (DtAll.ex e ds _ t)
  | .tuple ds, _, .tup h t => .tup (e _ _ h) (DtAll.ex e ds _ t)
theorem DtAll.ex {H H' : Hp} (e : Ex H H') : ∀ (ds : List PyData) (vs : List V), DtAll H vs ds → DtAll H' vs ds
  | [], _, .nil => .nil
  | d :: ds, _, .cons h t => .cons (Dt.ex e d _ h) (DtAll.ex e ds _ t)
end
theorem DtAll.len {H : Hp} : ∀ {vs : List V} {ds : List PyData}, DtAll H vs ds → vs.length = ds.length
  | [], [], .nil => rfl
  | _ :: _, _ :: _, .cons _ t => congrArg Nat.succ (DtAll.len t)
theorem DtAll.at {H : Hp} : ∀ {vs : List V} {ds : List PyData}, DtAll H vs ds → ∀ (i : Nat) (v : V), vs[i]? = some v → ∃ d, ds[i]? = some d ∧ Dt H v d
  | [], [], .nil, i, v, e => by simp at e
  | v0 :: vs, d0 :: ds, .cons h t, 0, v, e => by
    have e := Option.some.inj e
    subst e
    exact ⟨d0, rfl, h⟩
  | v0 :: vs, d0 :: ds, .cons h t, i + 1, v, e => DtAll.at t i v e
theorem DtAll.of {H : Hp} : ∀ {vs : List V} {ds : List PyData}, vs.length = ds.length → (∀ (i : Nat) (v : V) (d : PyData), vs[i]? = some v → ds[i]? = some d → Dt H v d) → DtAll H vs ds
  | [], [], _, _ => .nil
  | v0 :: vs, d0 :: ds, hl, h => .cons (h 0 v0 d0 rfl rfl) (DtAll.of (Nat.succ.inj hl) fun i v d e1 e2 => h (i + 1) v d e1 e2)
  | [], _ :: _, hl, _ => by simp at hl
  | _ :: _, [], hl, _ => by simp at hl
/-- of some depth, all can lie, nothing too long -/
def Lay : Nat → PyData → Prop
  | _, .none => True
  | _, .bool _ => True
  | _, .int _ => True
  | _, .str x => PyData.strOk x = true
  | n + 1, .list ds => ds.length ≤ 1000 ∧ ∀ d ∈ ds, Lay n d
  | n + 1, .tuple ds => ds.length ≤ 1000 ∧ ∀ d ∈ ds, Lay n d
  | _, _ => False
theorem layAll {n : Nat} : ∀ {ds : List PyData}, (∀ d ∈ ds, d.canLay0 = true ∧ d.depth ≤ n) → PyData.canLayAll0 ds = true ∧ PyData.depthAll ds ≤ n
  | [], _ => by
    simp only [PyData.canLayAll0, PyData.depthAll]
    exact ⟨trivial, Nat.zero_le _⟩
  | d :: ds, h => by
    obtain ⟨a, b⟩ := layAll fun d hd => h d (List.mem_cons.mpr (.inr hd))
    obtain ⟨c, e⟩ := h d List.mem_cons_self
    simp only [PyData.canLayAll0, PyData.depthAll]
    exact ⟨by rw [a, c]; rfl, by omega⟩
theorem Lay.can : ∀ {n : Nat} {d : PyData}, Lay n d → d.canLay0 = true ∧ d.depth ≤ n
  | n, .none, _ => ⟨by simp only [PyData.canLay0], by simp only [PyData.depth]; exact Nat.zero_le _⟩
  | n, .bool _, _ => ⟨by simp only [PyData.canLay0], by simp only [PyData.depth]; exact Nat.zero_le _⟩
  | n, .int _, _ => ⟨by simp only [PyData.canLay0], by simp only [PyData.depth]; exact Nat.zero_le _⟩
  | n, .str _, h => by
    simp only [Lay] at h
    exact ⟨by simp only [PyData.canLay0]; exact h, by simp only [PyData.depth]; exact Nat.zero_le _⟩
  | 0, .list _, h => by simp only [Lay] at h
  | 0, .tuple _, h => by simp only [Lay] at h
  | 0, .dict _, h => by simp only [Lay] at h
  | n + 1, .dict _, h => by simp only [Lay] at h
  | n + 1, .list ds, h => by
    simp only [Lay] at h
    obtain ⟨a, b⟩ := layAll fun d hd => Lay.can (h.2 d hd)
    exact ⟨by simp only [PyData.canLay0]; exact a, by simp only [PyData.depth]; omega⟩
  | n + 1, .tuple ds, h => by
    simp only [Lay] at h
    obtain ⟨a, b⟩ := layAll fun d hd => Lay.can (h.2 d hd)
    exact ⟨by simp only [PyData.canLay0]; exact a, by simp only [PyData.depth]; omega⟩
theorem Lay.shaped {n : Nat} {d : PyData} (h : Lay n d) (hn : n ≤ 64) : SeqAt.shaped d = true := by
  obtain ⟨a, b⟩ := h.can
  show (d.canLay0 && decide (d.depth ≤ 64)) = true
  rw [Bool.and_eq_true]
  exact ⟨a, decide_eq_true (Nat.le_trans b hn)⟩
theorem Lay.lst {n : Nat} {ds : List PyData} (hz : ds.length ≤ 1000) (h : ∀ d ∈ ds, Lay n d) : Lay (n + 1) (.list ds) := by
  simp only [Lay]
  exact ⟨hz, h⟩
theorem Lay.tup {n : Nat} {ds : List PyData} (hz : ds.length ≤ 1000) (h : ∀ d ∈ ds, Lay n d) : Lay (n + 1) (.tuple ds) := by
  simp only [Lay]
  exact ⟨hz, h⟩
theorem Lay.lst_inv {n : Nat} {ds : List PyData} (h : Lay (n + 1) (.list ds)) : ds.length ≤ 1000 ∧ ∀ d ∈ ds, Lay n d := by
  simp only [Lay] at h
  exact h
theorem Lay.tup_inv {n : Nat} {ds : List PyData} (h : Lay (n + 1) (.tuple ds)) : ds.length ≤ 1000 ∧ ∀ d ∈ ds, Lay n d := by
  simp only [Lay] at h
  exact h
theorem Lay.lst_pos {ds : List PyData} (h : Lay 0 (.list ds)) : False := by simp only [Lay] at h
theorem Lay.tup_pos {ds : List PyData} (h : Lay 0 (.tuple ds)) : False := by simp only [Lay] at h
theorem Lay.int (n : Nat) (i : Int) : Lay n (.int i) := by simp only [Lay]
theorem Lay.bool (n : Nat) (b : Bool) : Lay n (.bool b) := by simp only [Lay]
theorem Lay.mono : ∀ {n m : Nat} {d : PyData}, Lay n d → n ≤ m → Lay m d
  | _, _, .none, _, _ => by simp only [Lay]
  | _, _, .bool _, _, _ => by simp only [Lay]
  | _, _, .int _, _, _ => by simp only [Lay]
  | _, _, .str _, h, _ => by
    simp only [Lay] at h ⊢
    exact h
  | 0, _, .list _, h, _ => by simp only [Lay] at h
  | 0, _, .tuple _, h, _ => by simp only [Lay] at h
  | 0, _, .dict _, h, _ => by simp only [Lay] at h
  | n + 1, _, .dict _, h, _ => by simp only [Lay] at h
  | n + 1, 0, _, _, k => absurd k (by omega)
  | n + 1, m + 1, .list ds, h, k => by
    simp only [Lay] at h ⊢
    exact ⟨h.1, fun d hd => Lay.mono (h.2 d hd) (by omega)⟩
  | n + 1, m + 1, .tuple ds, h, k => by
    simp only [Lay] at h ⊢
    exact ⟨h.1, fun d hd => Lay.mono (h.2 d hd) (by omega)⟩
/-! ### plain data -/
def dInts (ns : List Int) : PyData := .list (ns.map PyData.int)
def dIntss (l : List (List Int)) : PyData := .list (l.map dInts)
def dPair (s : Int × Int) : PyData := .tuple [.int s.1, .int s.2]
def dStones (st : List (Int × Int)) : PyData := .list (st.map dPair)
theorem lay_ints (ns : List Int) (hz : ns.length ≤ 1000) : Lay 1 (dInts ns) := Lay.lst (by rw [List.length_map]; exact hz) fun d hd => by
  obtain ⟨i, _, e⟩ := List.mem_map.mp hd
  rw [← e]
  exact Lay.int _ _
theorem lay_intss (l : List (List Int)) (hz : l.length ≤ 1000) (hy : ∀ g ∈ l, g.length ≤ 1000) : Lay 2 (dIntss l) := Lay.lst (by rw [List.length_map]; exact hz) fun d hd => by
  obtain ⟨i, hi, e⟩ := List.mem_map.mp hd
  rw [← e]
  exact lay_ints _ (hy i hi)
theorem lay_pair (s : Int × Int) : Lay 1 (dPair s) := Lay.tup (by show 2 ≤ 1000; decide) fun d hd => by
  rcases List.mem_cons.mp hd with e | hd
  · rw [e]
    exact Lay.int _ _
  · rw [List.mem_singleton.mp hd]
    exact Lay.int _ _
theorem lay_stones (st : List (Int × Int)) (hz : st.length ≤ 1000) : Lay 2 (dStones st) := Lay.lst (by rw [List.length_map]; exact hz) fun d hd => by
  obtain ⟨i, _, e⟩ := List.mem_map.mp hd
  rw [← e]
  exact lay_pair _
theorem dt_intsAll {H : Hp} : ∀ ns : List Int, DtAll H (ns.map V.int) (ns.map PyData.int)
  | [] => .nil
  | n :: ns => .cons (.int n) (dt_intsAll ns)
theorem dt_ints {H : Hp} {a : Addr} {ns : List Int} (h : H a = some (.lst (ns.map V.int))) : Dt H (.ref a) (dInts ns) := .lst h (dt_intsAll ns)
theorem dp_ints {K : PySem.W.Frag} {H : Hp} {a : Addr} {ns : List Int} (h : SqL K H a (ns.map V.int)) : Dp K H (.ref a) (dInts ns) := .lst h (DtAll.dp _ _ (dt_intsAll ns))
theorem eqv_ints : ∀ ns ms : List Int, PyData.eqvAll (ns.map PyData.int) (ms.map PyData.int) = decide (ns = ms)
  | [], [] => by
    simp [PyData.eqvAll]
  | [], _ :: _ => by simp [PyData.eqvAll]
  | _ :: _, [] => by simp [PyData.eqvAll]
  | n :: ns, m :: ms => by
    rw [List.map_cons, List.map_cons, PyData.eqvAll, eqv_ints ns ms]
    simp only [PyData.eqv]
    refine Bool.eq_iff_iff.mpr ?_
    simp
theorem eqv_dInts (ns ms : List Int) : PyData.eqv (dInts ns) (dInts ms) = decide (ns = ms) := by
  unfold dInts
  rw [PyData.eqv]
  exact eqv_ints ns ms
theorem eqv_pair (s t : Int × Int) : PyData.eqv (dPair s) (dPair t) = decide (s = t) := by
  unfold dPair
  rw [PyData.eqv]
  refine Bool.eq_iff_iff.mpr ?_
  simp only [PyData.eqvAll, PyData.eqv]
  obtain ⟨a, b⟩ := s
  obtain ⟨c, d⟩ := t
  simp
theorem eqv_pairs : ∀ ns ms : List (Int × Int), PyData.eqvAll (ns.map dPair) (ms.map dPair) = decide (ns = ms)
  | [], [] => by
    simp [PyData.eqvAll]
  | [], _ :: _ => by simp [PyData.eqvAll]
  | _ :: _, [] => by simp [PyData.eqvAll]
  | n :: ns, m :: ms => by
    rw [List.map_cons, List.map_cons, PyData.eqvAll, eqv_pairs ns ms, eqv_pair]
    refine Bool.eq_iff_iff.mpr ?_
    simp
theorem eqv_stones (ns ms : List (Int × Int)) : PyData.eqv (dStones ns) (dStones ms) = decide (ns = ms) := by
  unfold dStones
  rw [PyData.eqv]
  exact eqv_pairs ns ms
theorem eqv_intss (ns ms : List (List Int)) : PyData.eqv (dIntss ns) (dIntss ms) = decide (ns = ms) := by
  unfold dIntss
  rw [PyData.eqv]
  induction ns generalizing ms with
  | nil => cases ms <;> simp [PyData.eqvAll]
  | cons n ns ih =>
    cases ms with
    | nil => simp [PyData.eqvAll]
    | cons m ms =>
      rw [List.map_cons, List.map_cons, PyData.eqvAll, ih ms, eqv_dInts]
      refine Bool.eq_iff_iff.mpr ?_
      simp
/-- the kind of a value that is data -/
def kindOf : PyData → String
  | .none => "NoneType"
  | .bool _ => "bool"
  | .int _ => "int"
  | .str _ => "str"
  | .list _ => "list"
  | .tuple _ => "tuple"
  | .dict _ => "dict"
theorem Dt.ty {K : PySem.W.Frag} {H : Hp} {v : V} {d : PyData} (h : Dt H v d) : TyX K H v (.type (kindOf d)) := by
  cases h with
  | non => exact .base .non
  | bl b => exact .base (.bl b)
  | int i => exact .base (.int i)
  | str x => exact .base (.str x)
  | lst h _ => exact .base (.lst h)
  | tup h _ => exact .base (.tup h)
def kinds : List String := ["NoneType", "bool", "int", "str", "list", "tuple", "dict"]
theorem kind_in (d : PyData) : kindOf d ∈ kinds := by cases d <;> simp [kindOf, kinds]
theorem kits : ∀ k ∈ kinds, kitB k "bool" = some (decide (k = "bool")) ∧ kitB k "tuple" = some (decide (k = "tuple")) ∧ kitB k "list" = some (decide (k = "list")) := by decide +kernel
theorem kit_bool {K : PySem.W.Frag} (d : PyData) : PySem.W.kitOne K (.type (kindOf d)) (.type "bool") = some (decide (kindOf d = "bool")) := kit_ty (kits _ (kind_in d)).1
theorem kit_tuple {K : PySem.W.Frag} (d : PyData) : PySem.W.kitOne K (.type (kindOf d)) (.type "tuple") = some (decide (kindOf d = "tuple")) := kit_ty (kits _ (kind_in d)).2.1
theorem kit_list {K : PySem.W.Frag} (d : PyData) : PySem.W.kitOne K (.type (kindOf d)) (.type "list") = some (decide (kindOf d = "list")) := kit_ty (kits _ (kind_in d)).2.2
end Sw
namespace Sw
open PySem PySem.Spec PyProof.Rows L2
open Evl (Ex Ex.refl Ex.trans Ex.new Ex.mut ex_l ex_t ex_rd fresh_back Ev EvL EvU EvT EvA RV RC RCL SpV SpL)
/-! ### stones in memory -/
def GoodS (s : Int × Int) : Prop := (0 ≤ s.1 ∧ s.1 ≤ 999999) ∧ 0 ≤ s.2 ∧ s.2 ≤ 999999
def Good (st : List (Int × Int)) : Prop := st.length ≤ 60 ∧ ∀ s ∈ st, GoodS s
def StonesAt (H : Hp) (a : Addr) (st : List (Int × Int)) : Prop := ∃ ts : List Addr, H a = some (.lst (ts.map V.ref)) ∧ ts.length = st.length ∧ ∀ (i : Nat) (t : Addr) (s : Int × Int), ts[i]? = some t → st[i]? = some s → H t = some (.tup [.int s.1, .int s.2])
theorem StonesAt.ex {H H' : Hp} {a : Addr} {st : List (Int × Int)} (h : StonesAt H a st) (e : Ex H H') : StonesAt H' a st := by
  obtain ⟨ts, h1, h2, h3⟩ := h
  exact ⟨ts, e _ _ h1, h2, fun i t s e1 e2 => e _ _ (h3 i t s e1 e2)⟩
theorem StonesAt.dt {H : Hp} {a : Addr} {st : List (Int × Int)} (h : StonesAt H a st) : Dt H (.ref a) (dStones st) := by
  obtain ⟨ts, h1, h2, h3⟩ := h
  refine .lst h1 (DtAll.of (by rw [List.length_map, List.length_map, h2]) fun i v d e1 e2 => ?_)
  rw [List.getElem?_map] at e1 e2
  obtain ⟨t, ht, rfl⟩ := Option.map_eq_some_iff.mp e1
  obtain ⟨s, hs, rfl⟩ := Option.map_eq_some_iff.mp e2
  exact .tup (h3 i t s ht hs) (.cons (.int _) (.cons (.int _) .nil))
theorem stones_nil {H : Hp} {a : Addr} (h : H a = some (.lst [])) : StonesAt H a [] := ⟨[], h, rfl, fun i t s e => by simp at e⟩
/-- a new tuple, put behind the others -/
theorem StonesAt.app {H : Hp} {a t : Addr} {st : List (Int × Int)} {s : Int × Int} {ts : List Addr} (h1 : H a = some (.lst (ts.map V.ref))) (h2 : ts.length = st.length)
    (h3 : ∀ (i : Nat) (t : Addr) (s : Int × Int), ts[i]? = some t → st[i]? = some s → H t = some (.tup [.int s.1, .int s.2])) (nt : H t = none) :
    StonesAt (upd (upd H t (.tup [.int s.1, .int s.2])) a (.lst (ts.map V.ref ++ [.ref t]))) a (st ++ [s]) := by
  have ta : t ≠ a := fun e => by
    rw [e, h1] at nt
    cases nt
  refine ⟨ts ++ [t], by rw [upd_same, List.map_append]; rfl, by rw [List.length_append, List.length_append, h2]; rfl, fun i t' s' e1 e2 => ?_⟩
  by_cases hi : i < ts.length
  · rw [List.getElem?_append_left hi] at e1
    rw [List.getElem?_append_left (by omega)] at e2
    have q := h3 i t' s' e1 e2
    have n1 : t' ≠ a := fun e => by
      rw [e, h1] at q
      cases q
    have n2 : t' ≠ t := fun e => by
      rw [e, nt] at q
      cases q
    rw [upd_ne n1, upd_ne n2]
    exact q
  · rw [List.getElem?_append_right (by omega)] at e1
    rw [List.getElem?_append_right (by omega)] at e2
    have z : i - ts.length = 0 := by
      have := (List.getElem?_eq_some_iff.mp e1).1
      simp at this
      omega
    have z2 : i - st.length = 0 := by omega
    rw [z] at e1
    rw [z2] at e2
    have e1 : t = t' := Option.some.inj e1
    have e2 : s = s' := Option.some.inj e2
    rw [← e1, ← e2, upd_ne ta, upd_same]
/-- a new tuple, put in the place of one -/
theorem StonesAt.put {H : Hp} {a t : Addr} {st : List (Int × Int)} {s : Int × Int} {ts : List Addr} {j : Nat} (h1 : H a = some (.lst (ts.map V.ref))) (h2 : ts.length = st.length)
    (h3 : ∀ (i : Nat) (t : Addr) (s : Int × Int), ts[i]? = some t → st[i]? = some s → H t = some (.tup [.int s.1, .int s.2])) (nt : H t = none) :
    StonesAt (upd (upd H t (.tup [.int s.1, .int s.2])) a (.lst ((ts.map V.ref).set j (.ref t)))) a (st.set j s) := by
  have ta : t ≠ a := fun e => by
    rw [e, h1] at nt
    cases nt
  refine ⟨ts.set j t, by rw [upd_same, List.map_set], by rw [List.length_set, List.length_set, h2], fun i t' s' e1 e2 => ?_⟩
  rw [List.getElem?_set] at e1 e2
  by_cases hi : j = i
  · subst hi
    rw [if_pos rfl] at e1 e2
    by_cases hl : j < ts.length
    · rw [if_pos hl] at e1
      rw [if_pos (by omega)] at e2
      have e1 : t = t' := Option.some.inj e1
      have e2 : s = s' := Option.some.inj e2
      rw [← e1, ← e2, upd_ne ta, upd_same]
    · rw [if_neg hl] at e1
      cases e1
  · rw [if_neg hi] at e1 e2
    have q := h3 i t' s' e1 e2
    have n1 : t' ≠ a := fun e => by
      rw [e, h1] at q
      cases q
    have n2 : t' ≠ t := fun e => by
      rw [e, nt] at q
      cases q
    rw [upd_ne n1, upd_ne n2]
    exact q
theorem goods_snoc {st : List (Int × Int)} {s : Int × Int} (h : ∀ s ∈ st, GoodS s) (g : GoodS s) : ∀ x ∈ st ++ [s], GoodS x := fun x hx => by
  rcases List.mem_append.mp hx with e | e
  · exact h x e
  · rw [List.mem_singleton.mp e]
    exact g
theorem goods_set {st : List (Int × Int)} {s : Int × Int} {j : Nat} (h : ∀ s ∈ st, GoodS s) (g : GoodS s) : ∀ x ∈ st.set j s, GoodS x := fun x hx => by
  rcases List.mem_or_eq_of_mem_set hx with e | e
  · exact h x e
  · rw [e]
    exact g
end Sw
namespace Sw
open PySem PySem.Spec PyProof.Rows L2
open Evl (Ex Ex.refl Ex.trans Ex.new Ex.mut ex_l ex_t ex_rd fresh_back Ev EvL EvU EvT EvA RV RC RCL SpV SpL)
/-! ### places, lists of places -/
def nats (l : List Nat) : List V := l.map fun p : Nat => V.int (p : Int)
theorem nats_len (l : List Nat) : (nats l).length = l.length := by
  unfold nats
  rw [List.length_map]
theorem nats_at {l : List Nat} {i p : Nat} (h : l[i]? = some p) : (nats l)[i]? = some (.int (p : Int)) := by
  unfold nats
  rw [List.getElem?_map, h]
  rfl
theorem nats_inv {l : List Nat} {i : Nat} {y : V} (h : (nats l)[i]? = some y) : ∃ p : Nat, l[i]? = some p ∧ y = .int (p : Int) := by
  unfold nats at h
  rw [List.getElem?_map] at h
  obtain ⟨p, h1, h2⟩ := Option.map_eq_some_iff.mp h
  exact ⟨p, h1, h2.symm⟩
def ofNats (l : List Nat) : List Int := l.map fun p : Nat => (p : Int)
theorem nats_eq (l : List Nat) : nats l = (ofNats l).map V.int := by
  unfold nats ofNats
  rw [List.map_map]
  rfl
/-- a new list of new lists of places -/
structure NewLL (H H' : Hp) (p : Addr) (T : List (Addr × List Nat)) : Prop where
  np : H p = none
  at_ : H' p = some (.lst (T.map fun t => V.ref t.1))
  nd : (T.map (·.1)).Nodup
  in_ : ∀ t ∈ T, H t.1 = none ∧ t.1 ≠ p ∧ H' t.1 = some (.lst (nats t.2))
def dGroups (gs : List (List Nat)) : PyData := dIntss (gs.map ofNats)
theorem NewLL.dt {H H' : Hp} {p : Addr} {T : List (Addr × List Nat)} (h : NewLL H H' p T) : Dt H' (.ref p) (dGroups (T.map (·.2))) := by
  refine .lst h.at_ (DtAll.of (by rw [List.length_map, List.length_map, List.length_map, List.length_map]) fun i v d e1 e2 => ?_)
  rw [List.getElem?_map] at e1
  rw [List.getElem?_map, List.getElem?_map, List.getElem?_map] at e2
  obtain ⟨t, ht, rfl⟩ := Option.map_eq_some_iff.mp e1
  rw [ht] at e2
  have e2 := Option.some.inj e2
  rw [← e2]
  have q := (h.in_ t (List.mem_of_getElem? ht)).2.2
  rw [nats_eq] at q
  exact dt_ints q
theorem lay_groups {gs : List (List Nat)} (h1 : gs.length ≤ 1000) (h2 : ∀ g ∈ gs, g.length ≤ 1000) : Lay 2 (dGroups gs) := lay_intss _ (by rw [List.length_map]; exact h1) fun g hg => by
  obtain ⟨l, hl, e⟩ := List.mem_map.mp hg
  rw [← e]
  unfold ofNats
  rw [List.length_map]
  exact h2 l hl
/-- the sizes of groups -/
theorem grpsL_size (c : Nat → Int) (l : List Nat) : (grpsL c l).length ≤ l.length ∧ ∀ g ∈ grpsL c l, g.length ≤ l.length := by
  unfold grpsL
  refine ⟨by rw [List.length_map]; exact List.length_filter_le _ _, fun g hg => ?_⟩
  obtain ⟨p, _, e⟩ := List.mem_map.mp hg
  rw [← e]
  exact List.length_filter_le _ _
theorem grps_size (st : List (Int × Int)) : (grps st).length ≤ st.length ∧ ∀ g ∈ grps st, g.length ≤ st.length := by
  have h := grpsL_size (cls st) (List.range st.length)
  rw [List.length_range] at h
  exact h
theorem endsOf_take {st : List (Int × Int)} {ps : List Nat} {i p : Nat} (h : ps[i]? = some p) : endsOf st (ps.take (i + 1)) = endsOf st (ps.take i) ++ [sa st p, sb st p] := by
  rw [List.take_add_one, h, endsOf_append]
  rfl
end Sw
namespace Sw
open PySem PySem.Spec PyProof.Rows L2
open Evl (Ex Ex.refl Ex.trans Ex.new Ex.mut ex_l ex_t ex_rd fresh_back Ev EvL EvU EvT EvA RV RC RCL SpV SpL)
/-- a pair's tuple, its group's list, its odd ends' list, the group -/
structure WE where
  t : Addr
  g : Addr
  o : Addr
  l : List Nat
/-- a new list of new pairs of a new group and its new odd ends -/
structure NewWhy (st : List (Int × Int)) (H H' : Hp) (p : Addr) (T : List WE) : Prop where
  np : H p = none
  at_ : H' p = some (.lst (T.map fun e => V.ref e.t))
  in_ : ∀ e ∈ T, (H e.t = none ∧ H e.g = none ∧ H e.o = none) ∧ (p ≠ e.t ∧ p ≠ e.g ∧ p ≠ e.o) ∧ H' e.t = some (.tup [.ref e.g, .ref e.o]) ∧ H' e.g = some (.lst (nats e.l)) ∧ H' e.o = some (.lst ((odds st e.l).map V.int))
  ng : (T.map WE.g).Nodup
  no : (T.map WE.o).Nodup
  go : ∀ e ∈ T, ∀ f ∈ T, e.g ≠ f.o
  gs : T.map WE.l = grps st
def dWhy (st : List (Int × Int)) (gs : List (List Nat)) : PyData := .list (gs.map fun l => .tuple [dInts (ofNats l), dInts (odds st l)])
theorem NewWhy.dt {st : List (Int × Int)} {H H' : Hp} {p : Addr} {T : List WE} (h : NewWhy st H H' p T) : Dt H' (.ref p) (dWhy st (grps st)) := by
  rw [← h.gs]
  refine .lst h.at_ (DtAll.of (by rw [List.length_map, List.length_map, List.length_map]) fun i v d e1 e2 => ?_)
  rw [List.getElem?_map] at e1
  rw [List.getElem?_map, List.getElem?_map] at e2
  obtain ⟨t, ht, rfl⟩ := Option.map_eq_some_iff.mp e1
  rw [ht] at e2
  have e2 := Option.some.inj e2
  rw [← e2]
  obtain ⟨_, _, q1, q2, q3⟩ := h.in_ t (List.mem_of_getElem? ht)
  rw [nats_eq] at q2
  exact .tup q1 (.cons (dt_ints q2) (.cons (dt_ints q3) .nil))
theorem odds_size (st : List (Int × Int)) (l : List Nat) : (odds st l).length ≤ 2 * l.length := by
  have h := oddL_le (endsOf st l)
  rw [endsOf_len] at h
  exact h
theorem lay_why (st : List (Int × Int)) {gs : List (List Nat)} (h1 : gs.length ≤ 1000) (h2 : ∀ g ∈ gs, g.length ≤ 500) : Lay 3 (dWhy st gs) := Lay.lst (by rw [List.length_map]; exact h1) fun d hd => by
  obtain ⟨l, hl, e⟩ := List.mem_map.mp hd
  rw [← e]
  have a := h2 l hl
  have b := odds_size st l
  refine Lay.tup (by show 2 ≤ 1000; decide) fun d hd => ?_
  rcases List.mem_cons.mp hd with e | hd
  · rw [e]
    exact lay_ints _ (by unfold ofNats; rw [List.length_map]; omega)
  · rw [List.mem_singleton.mp hd]
    exact lay_ints _ (by omega)
theorem grps_lt (st : List (Int × Int)) : ∀ g ∈ grps st, ∀ p ∈ g, p < st.length := by
  intro g hg p hp
  unfold grps grpsL at hg
  obtain ⟨q, _, e⟩ := List.mem_map.mp hg
  rw [← e] at hp
  exact List.mem_range.mp (List.mem_filter.mp hp).1
/-- [(group, f(stones, group)) for group in g(stones)] -/
theorem why_comp {K : PySem.W.Frag} {σ : L2.St} {H : Hp} {tg : TE} {a : Addr} {i j : Nat} {vs : List Nat} {sp : Sp} {E : XK} {st : List (Int × Int)} {Q : VK}
    (h1 : ∀ x, ((wipe σ vs).set j (some x))[i]? = some (some (.ref a))) (h2 : ∀ x, ((wipe σ vs).set j (some x))[j]? = some (some x)) (h3 : ∀ x, wipe ((wipe σ vs).set j (some x)) vs = wipe σ vs)
    (hS : StonesAt H a st) (hl : st.length ≤ 60) (hg : ∀ Q : VK, (∀ p T H1, Ex H H1 → NewLL H H1 p T → T.map (·.2) = grps st → Q (.ref p) H1) → tg σ H Q)
    (hsp : ∀ H' g l, StonesAt H' a st → H' g = some (.lst (nats l)) → (∀ p ∈ l, p < st.length) → l.length ≤ 100 → SpL sp [.ref a, .ref g] H' ((odds st l).map V.int))
    (q : ∀ p T H', Ex H H' → NewWhy st H H' p T → Q (.ref p) H') :
    tLc (iList K tg) (gName j) tYes (tTup (tCons (tVar j) (tCons (tCall sp [] E (tCons (tVar i) (tCons (tVar j) tNil))) tNil))) vs σ H Q := by
  refine hg _ fun p T H1 e1 n1 hT => ⟨p, rfl, ⟨_, SqL.of n1.at_⟩, fun D nD => ?_⟩
  have hsz := (grps_size st)
  refine lc_list (xs := T.map fun t => V.ref t.1) (fun k H' => ∃ W : List WE, (W.map fun e => (e.g, e.l)) = T.take k ∧ Ex H1 H' ∧ H' D = some (.lst (W.map fun e => V.ref e.t)) ∧
      (∀ e ∈ W, H1 e.t = none ∧ H1 e.o = none ∧ D ≠ e.t ∧ D ≠ e.o ∧ H' e.t = some (.tup [.ref e.g, .ref e.o]) ∧ H' e.o = some (.lst ((odds st e.l).map V.int))) ∧ (W.map WE.o).Nodup)
    ⟨[], rfl, Ex.new nD, upd_same, fun e he => (nomatch he), List.nodup_nil⟩ (fun k H' _ ⟨_, _, e, _⟩ => SqL.of (e _ _ n1.at_)) ?_ ?_
  · rintro k x H2 hk ⟨W, hW, e2, hD, hin, hno⟩
    rw [List.getElem?_map] at hk
    obtain ⟨t, ht, rfl⟩ := Option.map_eq_some_iff.mp hk
    have htm := n1.in_ t (List.mem_of_getElem? ht)
    have hgm : t.2 ∈ grps st := by
      rw [← hT]
      exact List.mem_map.mpr ⟨t, List.mem_of_getElem? ht, rfl⟩
    have hg2 := e2 _ _ htm.2.2
    refine ⟨h3 _, ?_⟩
    unfold tYes
    dsimp only
    rw [if_pos rfl]
    refine ⟨_, h2 _, ?_⟩
    refine ⟨_, h1 _, _, h2 _, hsp H2 t.1 t.2 (hS.ex (e1.trans e2)) hg2 (grps_lt st _ hgm) (by have := hsz.2 _ hgm; omega) H2 (Ex.refl H2) _ (fun o H3 no e3 ho => ?_) _⟩
    refine ⟨by show 2 ≤ sizeLine; decide, fun u nu => ?_⟩
    have Do : D ≠ o := ne_of_none hD no
    have Du : D ≠ u := ne_of_none (e3 _ _ hD) nu
    have e4 : Ex H2 (upd H3 u (.tup [.ref t.1, .ref o])) := e3.trans (Ex.new nu)
    have wl : W.length ≤ k := by
      have h5 := congrArg List.length hW
      rw [List.length_map, List.length_take] at h5
      omega
    have tl : T.length ≤ 60 := by
      have h5 := congrArg List.length hT
      rw [List.length_map] at h5
      omega
    have kl : k < T.length := (List.getElem?_eq_some_iff.mp ht).1
    refine ⟨_, e4 _ _ hD, by rw [List.length_map]; exact small1000 (by omega), W ++ [⟨u, t.1, o, t.2⟩], ?_, ?_, ?_, fun e he => ?_, ?_⟩
    · rw [List.map_append, hW, List.take_add_one, ht]
      rfl
    · exact Ex.mut (e2.trans e4) nD
    · rw [upd_same, List.map_append]
      rfl
    · rcases List.mem_append.mp he with he | he
      · obtain ⟨a1, a2, a3, a4, a5, a6⟩ := hin e he
        refine ⟨a1, a2, a3, a4, ?_, ?_⟩
        · rw [upd_ne (fun z => a3 z.symm)]
          exact e4 _ _ a5
        · rw [upd_ne (fun z => a4 z.symm)]
          exact e4 _ _ a6
      · rw [List.mem_singleton.mp he]
        have ou : o ≠ u := ne_of_none ho nu
        refine ⟨fresh_back (e2.trans e3) nu, fresh_back e2 no, Du, Do, ?_, ?_⟩
        · show upd _ D _ u = _
          rw [upd_ne (fun z => Du z.symm), upd_same]
        · show upd _ D _ o = _
          rw [upd_ne (fun z => Do z.symm), upd_ne ou]
          exact ho
    · rw [List.map_append]
      refine List.nodup_append.mpr ⟨hno, by simp, fun x hx y hy z => ?_⟩
      obtain ⟨e, he, ee⟩ := List.mem_map.mp hx
      have hy : y = o := List.mem_singleton.mp hy
      have a6 := (hin e he).2.2.2.2.2
      rw [ee, z, hy, no] at a6
      cases a6
  · rintro H2 ⟨W, hW, e2, hD, hin, hno⟩
    rw [List.length_map, List.take_length] at hW
    have hWT : ∀ e ∈ W, (e.g, e.l) ∈ T := fun e he => by
      rw [← hW]
      exact List.mem_map.mpr ⟨e, he, rfl⟩
    refine q D W H2 (e1.trans e2) ⟨fresh_back e1 nD, hD, fun e he => ?_, ?_, hno, fun e he f hf z => ?_, ?_⟩
    · obtain ⟨a1, a2, a3, a4, a5, a6⟩ := hin e he
      have ht := n1.in_ _ (hWT e he)
      have Dg : D ≠ e.g := fun z => by
        have h5 : H1 e.g = _ := ht.2.2
        rw [← z, nD] at h5
        cases h5
      exact ⟨⟨fresh_back e1 a1, ht.1, fresh_back e1 a2⟩, ⟨a3, Dg, a4⟩, a5, e2 _ _ ht.2.2, a6⟩
    · have h5 : W.map WE.g = T.map (·.1) := by
        rw [← hW, List.map_map]
        rfl
      rw [h5]
      exact n1.nd
    · have h5 : H1 e.g = _ := (n1.in_ _ (hWT e he)).2.2
      rw [z, (hin f hf).2.1] at h5
      cases h5
    · rw [← hT, ← hW, List.map_map]
      rfl
theorem q_why {K : PySem.W.Frag} {σ : L2.St} {H : Hp} {tg : TE} {a : Addr} {i j k : Nat} {vs : List Nat} {sp : Sp} {E : XK} {st : List (Int × Int)} {tz : TS} {D : Ends}
    (h1 : ∀ x, ((wipe σ vs).set j (some x))[i]? = some (some (.ref a))) (h2 : ∀ x, ((wipe σ vs).set j (some x))[j]? = some (some x)) (h3 : ∀ x, wipe ((wipe σ vs).set j (some x)) vs = wipe σ vs)
    (hS : StonesAt H a st) (hl : st.length ≤ 60) (hg : ∀ Q : VK, (∀ p T H1, Ex H H1 → NewLL H H1 p T → T.map (·.2) = grps st → Q (.ref p) H1) → tg σ H Q)
    (hsp : ∀ H' g l, StonesAt H' a st → H' g = some (.lst (nats l)) → (∀ p ∈ l, p < st.length) → l.length ≤ 100 → SpL sp [.ref a, .ref g] H' ((odds st l).map V.int))
    (q : ∀ p T H', Ex H H' → NewWhy st H H' p T → tz D (σ.set k (some (.ref p))) H') :
    tSeq (tAsg (tLc (iList K tg) (gName j) tYes (tTup (tCons (tVar j) (tCons (tCall sp [] E (tCons (tVar i) (tCons (tVar j) tNil))) tNil))) vs) (gName k)) tz D σ H :=
  why_comp (Q := fun x H1 => tz D (σ.set k (some x)) H1) h1 h2 h3 hS hl hg hsp q
end Sw
namespace Sw
open PySem PySem.Spec PyProof.Rows L2
open Evl (Ex Ex.refl Ex.trans Ex.new Ex.mut ex_l ex_t ex_rd fresh_back Ev EvL EvU EvT EvA RV RC RCL SpV SpL)
section
variable {K : PySem.W.Frag} {σ : L2.St} {H H' : Hp} {ta tb te : TE} {st su : List (Int × Int)}
/-- what tells a list of stones, old or new -/
def EvSt (te : TE) (σ : L2.St) (H : Hp) (st : List (Int × Int)) : Prop := ∀ H1, Ex H H1 → ∀ Q : VK, (∀ p H2, Ex H1 H2 → StonesAt H2 p st → Q (.ref p) H2) → te σ H1 Q
theorem EvSt.mono (e : Ex H H') (h : EvSt te σ H st) : EvSt te σ H' st := fun H1 a Q q => h H1 (e.trans a) Q q
theorem EvSt.is (h : EvSt te σ H st) (e : st = su) : EvSt te σ H su := by
  rw [← e]
  exact h
theorem es_var {i : Nat} {a : Addr} (h : σ[i]? = some (some (.ref a))) (hS : StonesAt H a st) : EvSt (tVar i) σ H st := fun H1 e Q q => ⟨_, h, q a H1 (Ex.refl H1) (hS.ex e)⟩
/-- a new list of the tuples of others -/
theorem stones_refs {ts : List Addr} {p : Addr} (h1 : H p = some (.lst (ts.map V.ref))) (h2 : ts.length = st.length) (h3 : ∀ (i : Nat) (t : Addr) (s : Int × Int), ts[i]? = some t → st[i]? = some s → H t = some (.tup [.int s.1, .int s.2])) : StonesAt H p st := ⟨ts, h1, h2, h3⟩
theorem es_sl {tl th : TO} {lo hi : Option Int} (h : EvSt te σ H st) (h1 : Evl.EvO tl σ H lo) (h2 : Evl.EvO th σ H hi) :
    EvSt (tSl (rSlL K) te tl th) σ H ((st.drop (HT.sIx st.length 0 lo)).take (HT.sIx st.length st.length hi - HT.sIx st.length 0 lo)) := fun H1 e Q q =>
  h H1 e _ fun a H2 e2 hS => h1 H2 (e.trans e2) _ fun H3 e3 => h2 H3 ((e.trans e2).trans e3) _ fun H4 e4 => by
    obtain ⟨ts, t1, t2, t3⟩ := hS.ex (e3.trans e4)
    refine ⟨a, ts.map V.ref, rfl, SqL.of t1, fun p np => ?_⟩
    refine q p _ (((e2.trans e3).trans e4).trans (Ex.new np)) ⟨(ts.drop (HT.sIx st.length 0 lo)).take (HT.sIx st.length st.length hi - HT.sIx st.length 0 lo), ?_, ?_, fun i t s g1 g2 => ?_⟩
    · rw [upd_same]
      unfold cutV
      rw [List.length_map, t2, ← List.map_drop, ← List.map_take]
    · rw [List.length_take, List.length_take, List.length_drop, List.length_drop, t2]
    · rw [List.getElem?_take] at g1 g2
      by_cases c : i < HT.sIx st.length st.length hi - HT.sIx st.length 0 lo
      · rw [if_pos c, List.getElem?_drop] at g1 g2
        exact Ex.new np _ _ (t3 _ t s g1 g2)
      · rw [if_neg c] at g1
        cases g1
theorem es_take {n : Nat} {tl th : TO} (h : EvSt te σ H st) (h1 : Evl.EvO tl σ H none) (h2 : Evl.EvO th σ H (some (n : Int))) : EvSt (tSl (rSlL K) te tl th) σ H (st.take n) := (es_sl h h1 h2).is (by
  rw [HT.sIx_none, HT.sIx_nat, List.drop_zero, Nat.sub_zero]
  by_cases c : n ≤ st.length
  · rw [Nat.min_eq_left c]
  · rw [Nat.min_eq_right (by omega), List.take_length, List.take_of_length_le (by omega)])
theorem es_drop {n : Nat} {tl th : TO} (h : EvSt te σ H st) (h1 : Evl.EvO tl σ H (some (n : Int))) (h2 : Evl.EvO th σ H none) : EvSt (tSl (rSlL K) te tl th) σ H (st.drop n) := (es_sl h h1 h2).is (by
  rw [HT.sIx_none, HT.sIx_nat]
  by_cases c : n ≤ st.length
  · rw [Nat.min_eq_left c]
    exact List.take_of_length_le (by rw [List.length_drop]; exact Nat.le_refl _)
  · rw [Nat.min_eq_right (by omega), List.drop_length, List.drop_of_length_le (by omega), List.take_nil])
theorem es_cat (h : EvSt ta σ H st) (k : EvSt tb σ H su) (hz : st.length + su.length ≤ 100000) : EvSt (tOp rCat ta tb) σ H (st ++ su) := fun H1 e Q q =>
  h H1 e _ fun a H2 e2 hS => k H2 (e.trans e2) _ fun b H3 e3 hT => by
    obtain ⟨ts, t1, t2, t3⟩ := hS.ex e3
    obtain ⟨us, u1, u2, u3⟩ := hT
    refine ⟨a, b, _, _, rfl, rfl, t1, u1, by rw [List.length_map, List.length_map, t2, u2]; exact Evl.sz_of hz, fun p np => ?_⟩
    refine q p _ ((e2.trans e3).trans (Ex.new np)) ⟨ts ++ us, by rw [upd_same, List.map_append], by rw [List.length_append, List.length_append, t2, u2], fun i t s g1 g2 => ?_⟩
    by_cases c : i < ts.length
    · rw [List.getElem?_append_left c] at g1
      rw [List.getElem?_append_left (by omega)] at g2
      exact Ex.new np _ _ (t3 i t s g1 g2)
    · rw [List.getElem?_append_right (by omega)] at g1
      rw [List.getElem?_append_right (by omega), ← t2] at g2
      exact Ex.new np _ _ (u3 _ t s g1 g2)
theorem es_rev (h : EvSt te σ H st) : EvSt (tRevL K te) σ H st.reverse := fun H1 e Q q =>
  h H1 e _ fun a H2 e2 hS => by
    obtain ⟨ts, t1, t2, t3⟩ := hS
    refine ⟨a, _, rfl, SqL.of t1, fun p np => q p _ (e2.trans (Ex.new np)) ⟨ts.reverse, by rw [upd_same, List.map_reverse], by rw [List.length_reverse, List.length_reverse, t2], fun i t s g1 g2 => ?_⟩⟩
    have c : i < ts.length := by
      have := (List.getElem?_eq_some_iff.mp g1).1
      rwa [List.length_reverse] at this
    rw [List.getElem?_reverse c] at g1
    rw [List.getElem?_reverse (by omega), ← t2] at g2
    exact Ex.new np _ _ (t3 _ t s g1 g2)
/-- [t] of a tuple -/
theorem es_one {i : Nat} {t : Addr} {x y : Int} (h : σ[i]? = some (some (.ref t))) (ht : H t = some (.tup [.int x, .int y])) : EvSt (tLst (tCons (tVar i) tNil)) σ H [(x, y)] := fun H1 e Q q =>
  ⟨_, h, by show 1 ≤ sizeLine; decide, fun p np => q p _ (Ex.new np) ⟨[t], by rw [upd_same]; rfl, rfl, fun j t' s g1 g2 => by
    cases j with
    | zero =>
      have g1 := Option.some.inj g1
      have g2 := Option.some.inj g2
      subst g1 g2
      exact Ex.new np _ _ (e _ _ ht)
    | succ j => simp at g1⟩⟩
/-- [(x, y)] -/
theorem es_pair {x y : Int} (h : Ev ta σ H (.int x)) (k : Ev tb σ H (.int y)) : EvSt (tLst (tCons (tTup (tCons ta (tCons tb tNil))) tNil)) σ H [(x, y)] := fun H1 e Q q =>
  h H1 e _ fun H2 e2 => k H2 (e.trans e2) _ fun H3 e3 => ⟨by show 2 ≤ sizeLine; decide, fun t nt => ⟨by show 1 ≤ sizeLine; decide, fun p np => q p _ (((e2.trans e3).trans (Ex.new nt)).trans (Ex.new np)) ⟨[t], by rw [upd_same]; rfl, rfl, fun j t' s g1 g2 => by
    cases j with
    | zero =>
      have g1 := Option.some.inj g1
      have g2 := Option.some.inj g2
      subst g1 g2
      exact Ex.new np _ _ upd_same
    | succ j => simp at g1⟩⟩⟩
theorem es_nil : EvSt (tLst tNil) σ H [] := fun H1 e Q q => ⟨Nat.zero_le _, fun p np => q p _ (Ex.new np) (stones_nil upd_same)⟩
theorem q_st {i : Nat} {tz : TS} {D : Ends} (h : EvSt te σ H st) (k : ∀ p H1, Ex H H1 → StonesAt H1 p st → tz D (σ.set i (some (.ref p))) H1) : tSeq (tAsg te (gName i)) tz D σ H := h H (Ex.refl H) _ fun p H1 e hS => k p H1 e hS
theorem ev_lenSt {a : Addr} {i : Nat} (h : σ[i]? = some (some (.ref a))) (hS : StonesAt H a st) : Ev (tCB (Evl.rLenS K) (tCons (tVar i) tNil)) σ H (.int (st.length : Int)) := by
  obtain ⟨ts, t1, t2, t3⟩ := hS
  have h := Evl.ev_len (K := K) (Evl.ev_var (H := H) h) (SqL.of t1)
  rw [List.length_map, t2] at h
  exact h
end
end Sw
namespace Sw
open PySem PySem.Spec PyProof.Rows L2
/-! ### the text by places -/
def topS (i : Nat) : Stmt := PySem.Challenge.pw_stonerow_k07_whole_one_more_or_less.main.body.getD i (.Pass ⟨0, 0, 0, 0⟩)
abbrev sNum : Stmt := topS 6
abbrev sStone : Stmt := topS 7
abbrev sAre : Stmt := topS 8
abbrev sNeed : Stmt := topS 9
abbrev sGroups : Stmt := topS 11
abbrev sLabels : Stmt := topS 12
abbrev sOddE : Stmt := topS 13
abbrev sWhy : Stmt := topS 14
abbrev sFew : Stmt := topS 15
abbrev sChains : Stmt := topS 16
abbrev sCell : Stmt := topS 18
abbrev sStones : Stmt := topS 19
abbrev sLApart : Stmt := topS 20
abbrev sLaw : Stmt := topS 21
end Sw
namespace Sw
open PySem PySem.Spec PyProof.Rows L2
open Evl (Ex Ex.refl Ex.trans Ex.new Ex.mut ex_l ex_t ex_rd fresh_back Ev EvL EvU EvT EvA RV RC RCL SpV SpL)
section
variable {P : Program} {w : World} {K : PySem.W.Frag} {mg : Str → Option Value} {base : Heap}
/-! ### is_number -/
theorem scNum : FnScope ["thing", "highest"] ["thing", "highest"] (defScope sNum) := ⟨rfl, rfl, rfl, by decide +kernel, rfl, by decide +kernel, by decide +kernel⟩
def spNum : Sp := fun vs H Q _ => ∃ i n : Int, vs = [.int i, .int n] ∧ Q (.bl (decide (0 ≤ i) && decide (i ≤ n))) H
theorem ok_num {f : Addr} {fd : FuncData} (F : Fun K "is_number" "is_number" sNum f fd) (mI : mg "isinstance" = none) (mB : mg "bool" = none) (mN : mg "int" = none) : FnOk P w K mg base CX0 1 f fd ["thing", "highest"] spNum := by
  refine F.ok scNum (fun vs H Q E h => ?_) (fun cdv A outer s H vs Q E hr h => ?_)
  · obtain ⟨i, n, rfl, _⟩ := h
    rfl
  · obtain ⟨i, n, rfl, q⟩ := h
    refine ⟨_, pss_cons (ps_if (PW.pt (pw_or (pt_val (pe_callB call_isi (by rfl) mI (by decide +kernel) (pa_cons (pv 0) (pa_cons (pe_bltn (v := .ty "bool") (by rfl) mB (by decide +kernel) rfl) pa_nil))))
        (pw_or1 (pt_not (pt_val (pe_callB call_isi (by rfl) mI (by decide +kernel) (pa_cons (pv 0) (pa_cons (pe_bltn (v := .ty "int") (by rfl) mN (by decide +kernel) rfl) pa_nil)))))))) 
        (pss_one (ps_ret pe_bl)) pss_nil)
      (pss_one (ps_ret (pe_chain op_le op_le pe_int (pv 0) (pv 1)))), ?_⟩
    refine ⟨_, rfl, _, _, _, _, false, rfl, .ty _, .base (.int i), kit_ty (by decide +kernel), false, rfl, ?_⟩
    refine iteF ?_
    refine ⟨_, rfl, _, _, _, _, true, rfl, .ty _, .base (.int i), kit_ty (by decide +kernel), true, rfl, ?_⟩
    refine iteF ?_
    refine ⟨_, rfl, _, _, rfl, rfl, _, rfl, ?_⟩
    by_cases h0 : 0 ≤ i
    · rw [decide_eq_true h0] at q ⊢
      refine iteT ?_
      exact ⟨_, rfl, _, _, rfl, rfl, q⟩
    · rw [decide_eq_false h0] at q ⊢
      exact iteF q
theorem num_in {i n : Int} (h0 : 0 ≤ i) (h1 : i ≤ n) : (decide (0 ≤ i) && decide (i ≤ n)) = true := by rw [decide_eq_true h0, decide_eq_true h1] <;> rfl
theorem pv_num {i n : Int} {H : Hp} : Evl.SpV spNum [.int i, .int n] H (.bl (decide (0 ≤ i) && decide (i ≤ n))) := fun H1 _ Q q _ => ⟨i, n, rfl, q H1 (Ex.refl H1)⟩
/-! ### is_stone -/
theorem scStone : FnScope ["thing"] ["thing"] (defScope sStone) := ⟨rfl, rfl, rfl, by decide +kernel, rfl, by decide +kernel, by decide +kernel⟩
def spStone : Sp := fun vs H Q _ => ∃ (t : Addr) (a b : Int), vs = [.ref t] ∧ H t = some (.tup [.int a, .int b]) ∧ (0 ≤ a ∧ a ≤ 999999) ∧ (0 ≤ b ∧ b ≤ 999999) ∧ Q (.bl true) H
theorem ok_stone {f fE : Addr} {fd fdE : FuncData} (F : Fun K "is_stone" "is_stone" sStone f fd) (mI : mg "isinstance" = none) (mT : mg "tuple" = none) (mL : mg "len" = none) (mH : ∃ t, mg "HIGHEST_END" = some (.int 999999 t))
    (GE : FnOk P w K mg base CX0 1 fE fdE ["thing", "highest"] spNum) (gE : mg "is_number" = some (.ref fE)) (kE : PySem.W.keepIn K (.ref fE) = true) (bE : Binds K fdE ["thing", "highest"] []) : FnOk P w K mg base CX0 2 f fd ["thing"] spStone := by
  obtain ⟨tH, mH⟩ := mH
  refine F.ok scStone (fun vs H Q E h => ?_) (fun cdv A outer s H vs Q E hr h => ?_)
  · obtain ⟨t, a, b, rfl, _⟩ := h
    rfl
  · obtain ⟨t, a, b, rfl, ht, ha, hb, q⟩ := h
    refine ⟨_, pss_cons (ps_if (PW.pt (pw_or (pt_not (pt_val (pe_callB call_isi (by rfl) mI (by decide +kernel) (pa_cons (pv 0) (pa_cons (pe_bltn (v := .ty "tuple") (by rfl) mT (by decide +kernel) rfl) pa_nil)))))
        (pw_or1 (pt_cmpR op_ne (pe_callB call_len_seq (by rfl) mL boot_len (pa_cons (pv 0) pa_nil)) pe_int (nomark _))))) (pss_one (ps_ret pe_bl)) pss_nil)
      (pss_one (ps_ret (pe_and (pe_call GE hr (by rfl) gE kE bE .nil pass0 (pa_cons (pe_ix ix_tup (pv 0) pe_int (fun _ _ => rfl)) (pa_cons (pe_glob (v := .int 999999) rfl mH ⟨_, rfl⟩) pa_nil)))
        (pe_one (pe_call GE hr (by rfl) gE kE bE .nil pass0 (pa_cons (pe_ix ix_tup (pv 0) pe_int (fun _ _ => rfl)) (pa_cons (pe_glob (v := .int 999999) rfl mH ⟨_, rfl⟩) pa_nil))))))), ?_⟩
    refine ⟨_, rfl, _, _, _, _, true, rfl, .ty _, .base (.tup ht), kit_ty (by decide +kernel), true, rfl, ?_⟩
    refine iteF ?_
    refine ⟨_, rfl, t, _, rfl, .inr (SqT.of ht), rfl, _, rfl, ?_⟩
    refine iteF ?_
    refine ⟨_, rfl, t, _, 0, _, rfl, rfl, SqT.of ht, atI_nat (j := 0) rfl, a, _, rfl, true, congrArg V.bl (num_in ha.1 ha.2), ?_⟩
    refine iteT ?_
    refine ⟨_, rfl, t, _, 1, _, rfl, rfl, SqT.of ht, atI_nat (j := 1) rfl, b, _, rfl, ?_⟩
    rw [num_in hb.1 hb.2]
    exact q
theorem pv_stone {t : Addr} {a b : Int} {H : Hp} (ht : H t = some (.tup [.int a, .int b])) (ha : 0 ≤ a ∧ a ≤ 999999) (hb : 0 ≤ b ∧ b ≤ 999999) : Evl.SpV spStone [.ref t] H (.bl true) := fun H1 e Q q _ => ⟨t, a, b, rfl, e _ _ ht, ha, hb, q H1 (Ex.refl H1)⟩
/-! ### are_stones -/
theorem scAre : FnScope ["thing", "stone"] ["thing"] (defScope sAre) := ⟨rfl, rfl, rfl, by decide +kernel, rfl, by decide +kernel, by decide +kernel⟩
def spAre : Sp := fun vs H Q _ => ∃ (a : Addr) (st : List (Int × Int)), vs = [.ref a] ∧ StonesAt H a st ∧ Good st ∧ Evl.RetV (.bl true) H Q
theorem ok_are {f fS : Addr} {fd fdS : FuncData} (F : Fun K "are_stones" "are_stones" sAre f fd) (mI : mg "isinstance" = none) (mT : mg "list" = none) (mL : mg "len" = none) (mA : mg "all" = none) (mM : ∃ t, mg "MOST_STONES" = some (.int 60 t))
    (GS : FnOk P w K mg base CX0 2 fS fdS ["thing"] spStone) (gS : mg "is_stone" = some (.ref fS)) (kS : PySem.W.keepIn K (.ref fS) = true) (bS : Binds K fdS ["thing"] []) : FnOk P w K mg base CX0 3 f fd ["thing"] spAre := by
  obtain ⟨tM, mM⟩ := mM
  refine F.ok scAre (fun vs H Q E h => ?_) (fun cdv A outer s H vs Q E hr h => ?_)
  · obtain ⟨a, st, rfl, _⟩ := h
    rfl
  · obtain ⟨a, st, rfl, hS, hG, q⟩ := h
    refine ⟨_, pss_cons (ps_if (PW.pt (pw_or (pt_not (pt_val (pe_callB call_isi (by rfl) mI (by decide +kernel) (pa_cons (pv 0) (pa_cons (pe_bltn (v := .ty "list") (by rfl) mT (by decide +kernel) rfl) pa_nil)))))
        (pw_or1 (pt_cmpR op_gt (pe_callB call_len_seq (by rfl) mL boot_len (pa_cons (pv 0) pa_nil)) (pe_glob (v := .int 60) rfl mM ⟨_, rfl⟩) (nomark _))))) (pss_one (ps_ret pe_bl)) pss_nil)
      (pss_one (ps_ret (pe_callB (cr_all rfl) (by rfl) mA (by decide +kernel) (pa_cons (pe_lc (own := [("stone", 1)]) (g := gName 1) (tt := tYes) rfl scAre.nd (pi_list (pv 0)) (blkOk_by (N := ["thing", "stone"]) (sc := defScope sAre) (by decide +kernel))
        (fun _ _ _ _ _ => pg_name (i := 1) scAre.nd rfl (Or.inl rfl)) (fun _ _ _ _ _ => pts_nil) (fun _ _ _ _ _ => pe_call GS hr (by rfl) gS kS bS .nil pass0 (pa_cons (pv 1) pa_nil))) pa_nil)))), ?_⟩
    obtain ⟨ts, h1, h2, h3⟩ := hS
    refine ⟨_, rfl, _, _, _, _, true, rfl, .ty _, .base (.lst h1), kit_ty (by decide +kernel), true, rfl, ?_⟩
    refine iteF ?_
    refine ⟨_, rfl, a, _, rfl, .inl (SqL.of h1), _, _, rfl, rfl, false, ?_, ?_⟩
    · show V.bl (decide ((60 : Int) < ((ts.map V.ref).length : Int))) = V.bl false
      rw [List.length_map, decide_eq_false]
      have := hG.1
      omega
    refine iteF ?_
    refine st_next ?_
    dsimp only
    refine Evl.s_ret (v := .bl true) ?_ q
    refine ev_cbN (xs := Evl.given (ts.map V.ref).length (fun _ => true) fun _ => V.bl true) (Evl.el_lcL (fun _ => true) (fun _ => V.bl true) (Evl.ev_var rfl) (SqL.of h1) ?_ (fun _ => rfl) (fun i x H1 e hx H2 e2 Q q => q H2 (Ex.refl H2)) fun i x H1 e hx _ => ?_) fun p H1 hp e => ?_
    · rw [List.length_map]
      have := hG.1
      omega
    · have hi : i < st.length := by
        have := (List.getElem?_eq_some_iff.mp hx).1
        rw [List.length_map] at this
        omega
      rw [List.getElem?_map] at hx
      obtain ⟨t, ht, ex⟩ := Option.map_eq_some_iff.mp hx
      subst ex
      have g := hG.2 _ (List.getElem_mem hi)
      exact Evl.ev_call (Evl.ea_cons (Evl.ev_var rfl) Evl.ea_nil) (pv_stone (e _ _ (h3 i t _ ht (List.getElem?_eq_getElem hi))) g.1 g.2)
    · rw [given_all] at hp
      have e1 : (List.range (ts.map V.ref).length).map (fun _ => V.bl true) = ((List.range (ts.map V.ref).length).map fun _ => true).map V.bl := by
        rw [List.map_map]
        rfl
      rw [e1] at hp
      have r := rc_all (K := K) hp
      have e2 : (((List.range (ts.map V.ref).length).map fun _ => true).all id) = true := by
        rw [List.all_eq_true]
        intro b hb
        obtain ⟨_, _, e⟩ := List.mem_map.mp hb
        exact e.symm
      rw [e2] at r
      exact r
theorem pv_are {a : Addr} {st : List (Int × Int)} {H : Hp} (hS : StonesAt H a st) (hG : Good st) : SpV spAre [.ref a] H (.bl true) := fun H1 e Q q _ => ⟨a, st, rfl, hS.ex e, hG, q⟩
/-! ### need_stones -/
theorem scNeed : FnScope ["thing"] ["thing"] (defScope sNeed) := ⟨rfl, rfl, rfl, by decide +kernel, rfl, by decide +kernel, by decide +kernel⟩
def spNeed : Sp := fun vs H Q _ => ∃ (a : Addr) (st : List (Int × Int)), vs = [.ref a] ∧ StonesAt H a st ∧ Good st ∧ Evl.RetV .non H Q
theorem ok_need {f fA : Addr} {fd fdA : FuncData} (F : Fun K "need_stones" "need_stones" sNeed f fd) (GA : FnOk P w K mg base CX0 3 fA fdA ["thing"] spAre) (gA : mg "are_stones" = some (.ref fA)) (kA : PySem.W.keepIn K (.ref fA) = true) (bA : Binds K fdA ["thing"] []) : FnOk P w K mg base CX0 4 f fd ["thing"] spNeed := by
  refine F.ok scNeed (fun vs H Q E h => ?_) (fun cdv A outer s H vs Q E hr h => ?_)
  · obtain ⟨a, st, rfl, _⟩ := h
    rfl
  · obtain ⟨a, st, rfl, hS, hG, q⟩ := h
    refine ⟨_, pss_one (ps_if (pt_not (pt_val (pe_call GA hr (by rfl) gA kA bA .nil pass0 (pa_cons (pv 0) pa_nil)))) (pss_one ps_never) pss_nil), ?_⟩
    refine ⟨_, rfl, a, st, rfl, hS, hG, fun H1 e => ⟨true, rfl, ?_⟩⟩
    refine iteF ?_
    exact q H1 e
theorem pv_need {a : Addr} {st : List (Int × Int)} {H : Hp} (hS : StonesAt H a st) (hG : Good st) : SpV spNeed [.ref a] H .non := fun H1 e Q q _ => ⟨a, st, rfl, hS.ex e, hG, q⟩
end
end Sw
namespace Sw
open PySem PySem.Spec PyProof.Rows L2
open Evl (Ex Ex.refl Ex.trans Ex.new Ex.mut ex_l ex_t ex_rd fresh_back Ev EvL EvU EvT EvA RV RC RCL SpV SpL)
section
variable {P : Program} {w : World} {K : PySem.W.Frag} {mg : Str → Option Value} {base : Heap}
/-! ### _law_cell -/
theorem scCell : FnScope ["_law_script", "_law_k", "_law_cell_here", "_law_more"] ["_law_script", "_law_k"] (defScope sCell) := ⟨rfl, rfl, rfl, by decide +kernel, rfl, by decide +kernel, by decide +kernel⟩
def cellH (ns : List Int) (k : Int) : Int := if ns = [] then 7919 * k + 11 else ns.getD (k % (ns.length : Int)).toNat 0 * 48271 + 104729 * k + k.fdiv (ns.length : Int) * 7919
def cellM (z : Int) : Int := z % 2147483647 * (z % 2147483647) % 2147483629
def cellF (ns : List Int) (k : Int) : Int := (cellM (cellH ns k) * cellM (cellH ns k) + 69621 * cellM (cellH ns k) + k) % 2147483587
theorem cellF_0 (ns : List Int) (k : Int) : 0 ≤ cellF ns k := Int.emod_nonneg _ (by decide)
theorem cellF_9 (ns : List Int) (k : Int) : cellF ns k < 2147483587 := Int.emod_lt_of_pos _ (by decide)
def spCellS (K : PySem.W.Frag) : Sp := fun vs H Q _ => ∃ (a : Addr) (ns : List Int) (k : Int), vs = [.ref a, .int k] ∧ SqL K H a (ns.map V.int) ∧ ns.length ≤ 63 ∧ Evl.RetV (.int (cellF ns k)) H Q
theorem pv_cell {a : Addr} {ns : List Int} {k : Int} {H : Hp} (hS : SqL K H a (ns.map V.int)) (hl : ns.length ≤ 63) : SpV (spCellS K) [.ref a, .int k] H (.int (cellF ns k)) := fun H1 e Q q _ => ⟨a, ns, k, rfl, ex_l e hS, hl, q⟩
theorem fmod_of {a b : Int} (h : 0 < b) : a.fmod b = a % b := Int.fmod_eq_emod_of_nonneg a (by omega)
theorem ok_cell {f : Addr} {fd : FuncData} (F : Fun K "_law_cell" "_law_cell" sCell f fd) (mL : mg "len" = none) : FnOk P w K mg base CX0 1 f fd ["_law_script", "_law_k"] (spCellS K) := by
  refine F.ok scCell (fun vs H Q E h => ?_) (fun cdv A outer s H vs Q E hr h => ?_)
  · obtain ⟨a, ns, k, rfl, _⟩ := h
    rfl
  · obtain ⟨a, ns, k, rfl, hS, hl, q⟩ := h
    refine ⟨_, pss_cons (ps_set (i := 2) scCell.nd rfl (.inl rfl) (pe_op op_add (pe_op op_mul pe_int (pv 1)) pe_int))
      (Evl.pss_cut (ps_if (pt_cmpR (op_neD hr.units) (pv 0) (pe_lst pa_nil) (nomark _))
        (pss_cons (ps_set (i := 2) scCell.nd rfl (.inl rfl) (pe_op op_mul (pe_ix ix_list (pv 0) (pe_op op_modN (pv 1) (pe_callB call_len_seq (by rfl) mL boot_len (pa_cons (pv 0) pa_nil))) (fun _ _ => rfl)) pe_int))
        (pss_one (ps_set (i := 2) scCell.nd rfl (.inl rfl) (pe_op op_add (pe_op op_add (pv 2) (pe_op op_mul pe_int (pv 1))) (pe_op op_mul (pe_op op_fdivN (pv 1) (pe_callB call_len_seq (by rfl) mL boot_len (pa_cons (pv 0) pa_nil))) pe_int))))) pss_nil)
      (pss_cons (ps_set (i := 3) scCell.nd rfl (.inl rfl) (pe_op op_mod (pv 2) pe_int))
      (pss_cons (ps_set (i := 3) scCell.nd rfl (.inl rfl) (pe_op op_mod (pe_op op_mul (pv 3) (pv 3)) pe_int))
      (pss_one (ps_ret (pe_op op_mod (pe_op op_add (pe_op op_add (pe_op op_mul (pv 3) (pv 3)) (pe_op op_mul pe_int (pv 3))) (pv 1)) pe_int)))))), ?_⟩
    refine ⟨_, rfl, _, _, rfl, rfl, .inl ⟨by decide, by decide⟩, _, _, rfl, rfl, ?_⟩
    refine ⟨fun σ H' => Ex H H' ∧ σ = [some (.ref a), some (.int k), some (.int (cellH ns k)), none], ?_, ?_⟩
    · refine ⟨_, rfl, Nat.zero_le _, fun p hp => ?_⟩
      have e1 : Ex H (upd H p (.lst [])) := Ex.new hp
      refine ⟨dInts ns, dInts [], dp_ints (ex_l e1 hS), dt_ints (ns := []) upd_same |>.dp, (lay_ints _ (by omega)).shaped (by decide), (lay_ints _ (by decide)).shaped (by decide), _, rfl, ?_⟩
      rw [eqv_dInts]
      by_cases hn : ns = []
      · rw [decide_eq_true hn]
        refine ⟨e1, ?_⟩
        unfold cellH
        rw [if_pos hn]
        rfl
      · rw [decide_eq_false hn]
        refine iteT ?_
        have hpos : 0 < ns.length := List.length_pos_iff.mpr hn
        have hS1 := ex_l (K := K) e1 hS
        have hlen : (ns.map V.int).length = ns.length := List.length_map _
        have hm := Int.emod_nonneg k (show (ns.length : Int) ≠ 0 by omega)
        have hm2 := Int.emod_lt_of_pos k (show 0 < (ns.length : Int) by omega)
        have hj : (k % (ns.length : Int)).toNat < ns.length := by omega
        have hat : (ns.map V.int)[(k % (ns.length : Int)).toNat]? = some (.int (ns.getD (k % (ns.length : Int)).toNat 0)) := by
          rw [List.getElem?_map, List.getElem?_eq_getElem hj, List.getD_eq_getElem?_getD, List.getElem?_eq_getElem hj]
          rfl
        have hix : atI (ns.map V.int) (k.fmod ((ns.map V.int).length : Int)) = some (.int (ns.getD (k % (ns.length : Int)).toNat 0)) := by
          refine at_of ?_ hat
          rw [hlen, fmod_of (by omega)]
          omega
        refine ⟨_, rfl, _, rfl, _, rfl, a, _, rfl, .inl hS1, _, _, rfl, rfl, by rw [List.length_map]; omega, a, _, _, _, rfl, rfl, hS1, hix, _, _, rfl, rfl, .inr ⟨by decide, by decide⟩, ?_⟩
        refine ⟨_, rfl, _, rfl, _, _, rfl, rfl, .inl ⟨by decide, by decide⟩, _, _, rfl, rfl, _, rfl, _, rfl, a, _, rfl, .inl hS1, _, _, rfl, rfl, ⟨by rw [List.length_map]; omega, by rw [List.length_map]; omega⟩, _, _, rfl, rfl, .inr ⟨by decide, by decide⟩, _, _, rfl, rfl, ?_⟩
        refine ⟨e1, ?_⟩
        unfold cellH
        rw [if_neg hn, hlen]
        rfl
    · rintro σ H1 ⟨e1, rfl⟩
      have fin : cellF ns k = (cellM (cellH ns k) * cellM (cellH ns k) + 69621 * cellM (cellH ns k) + k) % 2147483587 := rfl
      generalize cellH ns k = z at fin ⊢
      unfold cellM at fin
      refine ⟨_, rfl, _, _, rfl, rfl, (by show (0 : Int) < 2147483647; decide), ?_⟩
      have a1 := Int.emod_nonneg z (show (2147483647 : Int) ≠ 0 by decide)
      have a2 := Int.emod_lt_of_pos z (show (0 : Int) < 2147483647 by decide)
      refine ⟨_, rfl, _, rfl, _, _, rfl, rfl, .inl ⟨by show _ < z % 2147483647; omega, by show z % 2147483647 < _; omega⟩, _, _, rfl, rfl, (by show (0 : Int) < 2147483629; decide), ?_⟩
      generalize z % 2147483647 * (z % 2147483647) = y at fin
      have b1 := Int.emod_nonneg y (show (2147483629 : Int) ≠ 0 by decide)
      have b2 := Int.emod_lt_of_pos y (show (0 : Int) < 2147483629 by decide)
      refine ⟨_, rfl, _, rfl, _, _, rfl, rfl, .inl ⟨by show _ < y % 2147483629; omega, by show y % 2147483629 < _; omega⟩, _, rfl, _, _, rfl, rfl, .inl ⟨by decide, by decide⟩, _, _, rfl, rfl, _, rfl, _, _, rfl, rfl, _, _, rfl, rfl, (by show (0 : Int) < 2147483587; decide), ?_⟩
      have r := q _ e1
      rw [fin] at r
      exact r
/-! ### _law_stones -/
theorem scStones : FnScope ["_law_script", "_law_kind", "_law_found", "_law_k", "_law_cell_here", "_law_most"] ["_law_script"] (defScope sStones) := ⟨rfl, rfl, rfl, by decide +kernel, rfl, by decide +kernel, by decide +kernel⟩
def spStones (K : PySem.W.Frag) : Sp := fun vs H Q _ => ∃ (a : Addr) (ns : List Int), vs = [.ref a] ∧ SqL K H a (ns.map V.int) ∧ ns.length ≤ 63 ∧ ∀ p st H', Ex H H' → H p = none → Good st → StonesAt H' p st → Q (.ref p) H'
theorem ok_stones {f fC : Addr} {fd fdC : FuncData} (F : Fun K "_law_stones" "_law_stones" sStones f fd) (mL : mg "len" = none) (mR : mg "range" = none) (mX : mg "max" = none) (mN : mg "min" = none)
    (GC : FnOk P w K mg base CX0 1 fC fdC ["_law_script", "_law_k"] (spCellS K)) (gC : mg "_law_cell" = some (.ref fC)) (kC : PySem.W.keepIn K (.ref fC) = true) (bC : Binds K fdC ["_law_script", "_law_k"] []) : FnOk P w K mg base CX0 2 f fd ["_law_script"] (spStones K) := by
  refine F.ok scStones (fun vs H Q E h => ?_) (fun cdv A outer s H vs Q E hr h => ?_)
  · obtain ⟨a, ns, rfl, _⟩ := h
    rfl
  · obtain ⟨a, ns, rfl, hS, hl, q⟩ := h
    refine ⟨_, pss_cons (ps_set (i := 1) scStones.nd rfl (.inl rfl) (pe_call GC hr (by rfl) gC kC bC .nil pass0 (pa_cons (pv 0) (pa_cons pe_int pa_nil))))
      (pss_cons (ps_set (i := 2) scStones.nd rfl (.inl rfl) (pe_lst pa_nil))
      (pss_cons (ps_for PassesOwn.never rfl (pi_range1 (by rfl) mR (pa_cons (pe_callB (call_max2 rfl) (by rfl) mX (by decide +kernel) (pa_cons (pe_callB (call_min2 rfl) (by rfl) mN (by decide +kernel) (pa_cons (pe_callB call_len_seq (by rfl) mL boot_len (pa_cons (pv 0) pa_nil)) (pa_cons pe_int pa_nil))) (pa_cons (pe_op op_mod (pe_op op_fdiv (pv 1) pe_int) pe_int) pa_nil))) pa_nil)) (pg_name (i := 3) scStones.nd rfl (.inl rfl))
        (pss_cons (ps_set (i := 4) scStones.nd rfl (.inl rfl) (pe_call GC hr (by rfl) gC kC bC .nil pass0 (pa_cons (pv 0) (pa_cons (pe_op op_add pe_int (pv 3)) pa_nil))))
        (pss_cons (ps_set (i := 5) scStones.nd rfl (.inl rfl) (pe_ix ix_list (pe_lst (pa_cons pe_int (pa_cons pe_int (pa_cons pe_int (pa_cons pe_int pa_nil))))) (pe_op op_mod (pe_op op_add (pe_op op_mod (pv 1) pe_int) (pe_op op_fdiv (pe_op op_mod (pe_op op_fdiv (pv 4) pe_int) pe_int) pe_int)) pe_int) (fun _ _ => rfl)))
        (pss_cons (ps_expr (pe_bm PySem.F.plainAttrs_list PySem.F.slot_list_append PySem.F.type_list_append mt_append (pv 2) (pa_cons (pe_tup (pa_cons (pe_op op_mod (pe_op op_fdiv (pv 4) pe_int) (pv 5)) (pa_cons (pe_op op_mod (pe_op op_fdiv (pe_call GC hr (by rfl) gC kC bC .nil pass0 (pa_cons (pv 0) (pa_cons (pe_op op_add pe_int (pv 3)) pa_nil))) pe_int) (pv 5)) pa_nil))) pa_nil)))
        (pss_one (ps_if (pt_cmpR op_eq (pe_op op_mod (pv 4) pe_int) pe_int (nomark _)) (pss_one (ps_asg (pe_tup (pa_cons (pe_ix ix_tup (pe_ix ix_list (pv 2) (pv 3) (fun _ _ => rfl)) pe_int (fun _ _ => rfl)) (pa_cons (pe_ix ix_tup (pe_ix ix_list (pv 2) (pv 3) (fun _ _ => rfl)) pe_int (fun _ _ => rfl)) pa_nil))) (pg_sub (pv 2) (pv 3) set_list))) pss_nil))))))
      (pss_one (ps_ret (pv 2))))), ?_⟩
    refine ⟨_, rfl, a, ns, 1, rfl, hS, hl, fun H1 e1 => ?_⟩
    have k0 := cellF_0 ns 1
    generalize cellF ns 1 = kind at k0 ⊢
    refine ⟨Nat.zero_le _, fun fl nf => ?_⟩
    have e2 : Ex H (upd H1 fl (.lst [])) := e1.trans (Ex.new nf)
    refine ⟨_, rfl, a, _, rfl, .inl (ex_l e2 hS), _, _, rfl, _, rfl, _, _, rfl, rfl, ⟨by decide, by decide⟩, _, _, rfl, rfl, (by show (0 : Int) < 16; decide), _, _, rfl, ?_⟩
    have m1 := Int.emod_nonneg (kind / 4) (show (16 : Int) ≠ 0 by decide)
    have m2 := Int.emod_lt_of_pos (kind / 4) (show (0 : Int) < 16 by decide)
    rw [List.length_map]
    generalize hJ : (if (kind / 4 % 16 : Int) > (if (60 : Int) < (ns.length : Int) then (60 : Int) else (ns.length : Int)) then kind / 4 % 16 else (if (60 : Int) < (ns.length : Int) then (60 : Int) else (ns.length : Int))) = J
    have j0 : 0 ≤ J := by
      rw [← hJ]
      split <;> split <;> omega
    have j1 : J ≤ 60 := by
      rw [← hJ]
      split <;> split <;> omega
    refine ⟨J, rfl, by omega, by omega, for_range (lo := 0) (n := J.toNat) (fun i σ H' => ∃ (st : List (Int × Int)) (x3 x4 x5 : Option V), σ = [some (.ref a), some (.int kind), some (.ref fl), x3, x4, x5] ∧ st.length = i ∧ (∀ s ∈ st, GoodS s) ∧ StonesAt H' fl st ∧ Ex H H')
      ⟨[], none, none, none, rfl, rfl, fun s hs => (nomatch hs), stones_nil upd_same, e2⟩ ?_ ?_⟩
    · rintro i σ H2 hi ⟨st, x3, x4, x5, rfl, el, hg, ⟨ts, t1, t2, t3⟩, e3⟩
      have hf : H fl = none := fresh_back e1 nf
      rw [Int.zero_add]
      refine ⟨_, rfl, _, rfl, _, _, rfl, rfl, a, ns, _, rfl, ex_l e3 hS, hl, fun H3 e4 => ?_⟩
      have c0 := cellF_0 ns (10 + (i : Int))
      generalize cellF ns (10 + (i : Int)) = c at c0 ⊢
      refine ⟨by show 4 ≤ sizeLine; decide, fun p np => ?_⟩
      refine ⟨_, rfl, _, _, rfl, rfl, (by show (0 : Int) < 4; decide), _, rfl, _, _, rfl, rfl, ⟨by decide, by decide⟩, _, _, rfl, rfl, (by show (0 : Int) < 9; decide), _, _, rfl, rfl, ⟨by decide, by decide⟩, _, _, rfl, rfl, _, _, rfl, rfl, (by show (0 : Int) < 4; decide), ?_⟩
      generalize kind % 4 + c / 1000 % 9 / 8 = y
      obtain ⟨m, hm, m0, m9⟩ : ∃ m : Int, atI [V.int 3, V.int 6, V.int 14, V.int 1000000] (y % 4) = some (.int m) ∧ 1 ≤ m ∧ m ≤ 1000000 := by
        have y0 := Int.emod_nonneg y (show (4 : Int) ≠ 0 by decide)
        have y1 := Int.emod_lt_of_pos y (show (0 : Int) < 4 by decide)
        have : y % 4 = 0 ∨ y % 4 = 1 ∨ y % 4 = 2 ∨ y % 4 = 3 := by omega
        rcases this with e | e | e | e
        · exact ⟨3, by rw [e]; rfl, by decide, by decide⟩
        · exact ⟨6, by rw [e]; rfl, by decide, by decide⟩
        · exact ⟨14, by rw [e]; rfl, by decide, by decide⟩
        · exact ⟨1000000, by rw [e]; rfl, by decide, by decide⟩
      refine ⟨p, _, _, _, rfl, rfl, SqL.of upd_same, hm, ?_⟩
      have e5 : Ex H2 (upd H3 p (.lst [V.int 3, V.int 6, V.int 14, V.int 1000000])) := e4.trans (Ex.new np)
      refine ⟨_, rfl, .inl ⟨rfl, _, SqL.of (e5 _ _ t1)⟩, ?_⟩
      refine ⟨_, rfl, _, _, rfl, rfl, ⟨by decide, by decide⟩, _, rfl, _, _, rfl, rfl, (show (0 : Int) < m by omega), ?_⟩
      refine ⟨_, rfl, _, rfl, _, _, rfl, rfl, a, ns, _, rfl, ex_l (e3.trans e5) hS, hl, fun H4 e6 => ?_⟩
      have d0 := cellF_0 ns (100 + (i : Int))
      generalize cellF ns (100 + (i : Int)) = d at d0 ⊢
      refine ⟨_, _, rfl, rfl, ⟨by decide, by decide⟩, _, rfl, _, _, rfl, rfl, (show (0 : Int) < m by omega), ?_⟩
      refine ⟨by show 2 ≤ sizeLine; decide, fun t nt => ?_⟩
      have e7 : Ex H2 H4 := e5.trans e6
      have t1' := e7 _ _ t1
      have tf : fl ≠ t := ne_of_none t1' nt
      refine ⟨fl, _, _, rfl, rfl, (by rw [upd_ne tf]; exact t1'), ?_, ?_⟩
      · rw [List.length_map, t2]
        exact small1000 (by omega)
      have gs : GoodS (c / 7 % m, d / 5 % m) := by
        have := Int.emod_nonneg (c / 7) (show m ≠ 0 by omega)
        have := Int.emod_lt_of_pos (c / 7) (show 0 < m by omega)
        have := Int.emod_nonneg (d / 5) (show m ≠ 0 by omega)
        have := Int.emod_lt_of_pos (d / 5) (show 0 < m by omega)
        exact ⟨⟨by assumption, by show c / 7 % m ≤ _; omega⟩, by assumption, by show d / 5 % m ≤ _; omega⟩
      have S5 := StonesAt.app (s := (c / 7 % m, d / 5 % m)) t1' t2 (fun i t s e1 e2 => e7 _ _ (t3 i t s e1 e2)) nt
      have G5 := goods_snoc hg gs
      have L5 : (st ++ [(c / 7 % m, d / 5 % m)]).length = i + 1 := by rw [List.length_append, el]; rfl
      have E5 : Ex H (upd (upd H4 t (.tup [.int (c / 7 % m), .int (d / 5 % m)])) fl (.lst (ts.map V.ref ++ [.ref t]))) := Ex.mut ((e3.trans e7).trans (Ex.new nt)) hf
      generalize upd (upd H4 t (.tup [.int (c / 7 % m), .int (d / 5 % m)])) fl (.lst (ts.map V.ref ++ [.ref t])) = H5 at S5 E5 ⊢
      generalize st ++ [(c / 7 % m, d / 5 % m)] = st5 at S5 G5 L5
      -- if cell % 23 == 1
      refine ⟨_, rfl, _, _, rfl, rfl, (by show (0 : Int) < 23; decide), rfl, _, rfl, ite2 (fun _ => ?_) (fun _ => ?_)⟩
      · obtain ⟨us, u1, u2, u3⟩ := S5
        have iu : i < us.length := by omega
        have is5 : i < st5.length := by omega
        have hu := u3 i _ _ (List.getElem?_eq_getElem iu) (List.getElem?_eq_getElem is5)
        have hat : (us.map V.ref)[i]? = some (.ref us[i]) := by
          rw [List.getElem?_map, List.getElem?_eq_getElem iu]
          rfl
        refine ⟨_, rfl, _, rfl, fl, _, _, _, rfl, rfl, SqL.of u1, atI_nat hat, us[i], _, _, _, rfl, rfl, SqT.of hu, atI_nat (j := 0) rfl, _, rfl, _, rfl, fl, _, _, _, rfl, rfl, SqL.of u1, atI_nat hat, us[i], _, _, _, rfl, rfl, SqT.of hu, atI_nat (j := 0) rfl, ?_⟩
        refine ⟨by show 2 ≤ sizeLine; decide, fun t6 nt6 => ?_⟩
        have tf6 : fl ≠ t6 := ne_of_none u1 nt6
        refine ⟨_, rfl, _, rfl, fl, _, _, i, rfl, rfl, (by rw [upd_ne tf6]; exact u1), Evl.ixN_nat (by rw [List.length_map]; exact iu), ?_⟩
        have gi := G5 _ (List.getElem_mem is5)
        refine ⟨st5.set i (st5[i].1, st5[i].1), _, _, _, rfl, by rw [List.length_set]; exact L5, goods_set G5 ⟨gi.1, gi.1⟩, StonesAt.put (s := (st5[i].1, st5[i].1)) u1 u2 u3 nt6, Ex.mut (E5.trans (Ex.new nt6)) hf⟩
      · exact ⟨st5, _, _, _, rfl, L5, G5, S5, E5⟩
    · rintro σ H2 ⟨st, x3, x4, x5, rfl, el, hg, hS2, e3⟩
      exact ⟨_, rfl, q fl st H2 e3 (fresh_back e1 nf) ⟨by omega, hg⟩ hS2⟩
end
end Sw
namespace Sw
open PySem PySem.Spec PyProof.Rows L2
open Evl (Ex Ex.refl Ex.trans Ex.new Ex.mut ex_l ex_t ex_rd fresh_back Ev EvL EvU EvT EvA RV RC RCL SpV SpL)
/-! ### a dict of ints -/
def encL (l : List (Int × Int)) : List (Key × V) := l.map fun p => ((Sum.inl p.1 : Key), V.int p.2)
theorem encL_len (l : List (Int × Int)) : (encL l).length = l.length := List.length_map _
theorem encL_val (l : List (Int × Int)) (x : Int) : valV (encL l) (Sum.inl x) = (look l x).map V.int := by
  induction l with
  | nil => rfl
  | cons p l ih =>
    rw [look_cons]
    show valV (((Sum.inl p.1 : Key), V.int p.2) :: encL l) (Sum.inl x) = _
    by_cases h : p.1 = x
    · rw [valV_pos (by show (Sum.inl p.1 : Key) = Sum.inl x; rw [h]), if_pos h]
      rfl
    · rw [valV_neg (fun q => h (Sum.inl.inj q)), if_neg h, ih]
theorem encL_put {l : List (Int × Int)} {x v : Int} (h : look l x = none) : putK (encL l) (Sum.inl x) (.int v) = encL (l ++ [(x, v)]) := by
  rw [putK_new _ (by rw [encL_val, h]; rfl)]
  unfold encL
  rw [List.map_append]
  rfl
theorem setd_read {H0 H3 : Hp} {d : Addr} {l : List (Int × Int)} {a v : Int} {Q : VK} (hd : H3 d = some (.dK (encL l))) (nd : H0 d = none) (e : Ex H0 H3) (hl : l.length < 1000)
    (q : ∀ H', Ex H0 H' → H' d = some (.dK (encL (setd l a v))) → Q (.int ((look (setd l a v) a).getD 0)) H') :
    ∃ (kvs : List (Key × V)) (k : Key), H3 d = some (.dK kvs) ∧ V.int a = kV k ∧ kvs.length < sizeLine ∧ (∀ v', valV kvs k = some v' → Q v' H3) ∧ (valV kvs k = none → Q (.int v) (upd H3 d (.dK (putK kvs k (.int v))))) := by
  refine ⟨encL l, Sum.inl a, hd, rfl, by rw [encL_len]; exact small1000 (by omega), fun v' hv => ?_, fun hv => ?_⟩
  · rw [encL_val] at hv
    obtain ⟨w, hw, rfl⟩ := Option.map_eq_some_iff.mp hv
    have es : setd l a v = l := by
      unfold setd
      rw [hw]
      rfl
    have r := q H3 e (by rw [es]; exact hd)
    rw [es, hw] at r
    exact r
  · rw [encL_val] at hv
    have hn : look l a = none := Option.map_eq_none_iff.mp hv
    have es : setd l a v = l ++ [(a, v)] := by
      unfold setd
      rw [hn]
      rfl
    have r := q (upd H3 d (.dK (putK (encL l) (Sum.inl a) (.int v)))) (Ex.mut e nd) (by rw [upd_same, encL_put hn, es])
    rw [es, look_append, hn, look_cons, if_pos rfl] at r
    exact r
/-- a dict comprehension over anything that is walked -/
theorem dc_it {J : It} {n : Nat} {G : Hp → Prop} {Y : Nat → Hp → V → Hp → Prop} (w : Walk J n G Y) {g : TG} {tt : TT} {tk tv : TE} {vs : List Nat} {σ : L2.St} {H1 : Hp} {D : Addr} {Qd : Hp → Prop} (Pv : Nat → Hp → Prop) (h0 : Pv 0 (upd H1 D (.dK []))) (hG : ∀ i H, i ≤ n → Pv i H → G H)
    (hs : ∀ i x H H', i < n → Pv i H → Y i H x H' → g x (wipe σ vs) H' fun σ2 H2 => wipe σ2 vs = wipe σ vs ∧ tt σ2 H2 fun b H3 =>
      if b = true then tk σ2 H3 fun y H4 => tv σ2 H4 fun z H5 => ∃ kvs k, y = kV k ∧ H5 D = some (.dK kvs) ∧ kvs.length < sizeLine ∧ Pv (i + 1) (upd H5 D (.dK (putK kvs k z))) else Pv (i + 1) H3) (hd : ∀ H, Pv n H → Qd H) :
    ∃ W : Nat → Nat → Hp → Prop, (∃ m, W 0 m (upd H1 D (.dK []))) ∧ ∀ i m H, W i m H →
      (J.stop i H ∧ Qd H) ∨ (J.go i H ∧ ∃ Nx : Hp → Prop, (∀ H', Nx H' → ∃ m', m' < m ∧ W (i + 1) m' H') ∧ ∀ x H', J.yld i H x H' → g x (wipe σ vs) H' fun σ2 H2 => wipe σ2 vs = wipe σ vs ∧ tt σ2 H2 fun b H3 =>
        if b = true then tk σ2 H3 fun y H4 => tv σ2 H4 fun z H5 => ∃ kvs k, y = kV k ∧ H5 D = some (.dK kvs) ∧ kvs.length < sizeLine ∧ Nx (upd H5 D (.dK (putK kvs k z))) else Nx H3) := by
  refine ⟨fun i m H => m = n - i ∧ i ≤ n ∧ Pv i H, ⟨n, rfl, Nat.zero_le _, h0⟩, ?_⟩
  rintro i m H ⟨rfl, hi, p⟩
  by_cases hlt : i < n
  · exact .inr ⟨w.goes i H hlt (hG i H hi p), Pv (i + 1), fun H' p' => ⟨n - (i + 1), by omega, rfl, hlt, p'⟩, fun x H' y => hs i x H H' hlt p (w.yields i H x H' hlt (hG i H hi p) y)⟩
  · have e : i = n := by omega
    subst e
    exact .inl ⟨w.stops H (hG i H hi p), hd H p⟩
section
variable {P : Program} {w : World} {K : PySem.W.Frag} {mg : Str → Option Value} {base : Heap}
theorem scLabels : FnScope ["stones", "labels", "first", "second", "old", "new", "number", "label"] ["stones"] (defScope sLabels) := ⟨rfl, rfl, rfl, by decide +kernel, rfl, by decide +kernel, by decide +kernel⟩
/-- a new dict of labels -/
def spLabels : Sp := fun vs H Q _ => ∃ (a : Addr) (st : List (Int × Int)), vs = [.ref a] ∧ StonesAt H a st ∧ st.length ≤ 60 ∧ ∀ d H', H d = none → Ex H H' → H' d = some (.dK (encL (labOf st))) → Q (.ref d) H'
theorem ok_labels {f : Addr} {fd : FuncData} (F : Fun K "_labels" "_labels" sLabels f fd) : FnOk P w K mg base CX0 1 f fd ["stones"] spLabels := by
  refine F.ok scLabels (fun vs H Q E h => ?_) (fun cdv A outer s H vs Q E hr h => ?_)
  · obtain ⟨a, st, rfl, _⟩ := h
    rfl
  · obtain ⟨a, st, rfl, hS, hl, q⟩ := h
    refine ⟨_, pss_cons (ps_set (i := 1) scLabels.nd rfl (.inl rfl) pe_dnewK)
      (pss_cons (ps_for PassesOwn.never rfl (pi_list (pv 0)) (pg_tup rfl (pgs_cons (pg_name (i := 2) scLabels.nd rfl (.inl rfl)) (pgs_cons (pg_name (i := 3) scLabels.nd rfl (.inl rfl)) pgs_nil)))
        (pss_cons (ps_set (i := 4) scLabels.nd rfl (.inr rfl) (pe_dsetd (pv 1) (pv 2) (pv 2) ⟨rfl, rfl, rfl, rfl⟩))
        (pss_cons (ps_set (i := 5) scLabels.nd rfl (.inr rfl) (pe_dsetd (pv 1) (pv 3) (pv 3) ⟨rfl, rfl, rfl, rfl⟩))
        (pss_one (ps_if (pt_cmpR op_ne (pv 4) (pv 5) (nomark _)) (pss_one (ps_lock (ps_setDc (n := 1) (own := [("number", 6), ("label", 7)]) (tt := tYes) (g := gTup K 2 (gCons (gName 6) (gCons (gName 7) gNil))) (tk := tVar 6) (tv := tIf (tTest (tOp rEq (tVar 7) (tVar 4))) (tVar 5) (tVar 7)) rfl scLabels.nd rfl rfl (sw_dict rfl rfl rfl (by decide +kernel)) (pi_items (pv 1)) (blkOk_by (own := [("number", 6), ("label", 7)]) (N := ["stones", "labels", "first", "second", "old", "new", "number", "label"]) (sc := defScope sLabels) (by decide +kernel))
          (fun _ _ _ _ _ => pg_tup rfl (pgs_cons (pg_name (i := 6) scLabels.nd rfl (Or.inl rfl)) (pgs_cons (pg_name (i := 7) scLabels.nd rfl (Or.inl rfl)) pgs_nil))) (fun _ _ _ _ _ => pts_nil) (fun _ _ _ _ _ => pv 6) (fun _ _ _ _ _ => pe_ifExp (pt_cmpR op_eq (pv 7) (pv 4) (nomark _)) (pv 5) (pv 7))))) pss_nil)))))
      (pss_one (ps_ret (pv 1)))), ?_⟩
    refine fun d nd => ?_
    obtain ⟨ts, t1, t2, t3⟩ := id hS
    have e1 : Ex H (upd H d (.dK [])) := Ex.new nd
    refine ⟨_, rfl, a, rfl, ⟨_, SqL.of (e1 _ _ t1)⟩, for_list (K := K) (a := a) (xs := ts.map V.ref) (fun i σ H' => ∃ (d : Addr) (x2 x3 x4 x5 x6 x7 : Option V), σ = [some (.ref a), some (.ref d), x2, x3, x4, x5, x6, x7] ∧ Ex H H' ∧ H d = none ∧ H' d = some (.dK (encL ((st.take i).foldl labStep []))))
      ⟨d, _, _, _, _, _, _, rfl, e1, nd, upd_same⟩ (fun i σ H' _ ⟨_, _, _, _, _, _, _, _, e, _⟩ => SqL.of (e _ _ t1)) ?_ ?_⟩
    · rintro i y σ H1 hi ⟨d, x2, x3, x4, x5, x6, x7, rfl, e2, nd, hd⟩
      rw [List.getElem?_map] at hi
      obtain ⟨t, ht, rfl⟩ := Option.map_eq_some_iff.mp hi
      have hit : i < st.length := by
        rw [← t2]
        exact (List.getElem?_eq_some_iff.mp ht).1
      have hst : st[i]? = some (sa st i, sb st i) := st_at hit
      have htt := t3 i t _ ht hst
      obtain ⟨l1, l2⟩ := labTake_ok st i
      rw [labTake_succ hst]
      generalize sa st i = p at htt
      generalize sb st i = r at htt
      generalize (st.take i).foldl labStep [] = l at hd l1 l2
      refine ⟨t, [.int p, .int r], rfl, SqT.of (e2 _ _ htt), rfl, .int p, [.int r], rfl, .int r, [], rfl, rfl, ?_⟩
      refine ⟨_, rfl, d, rfl, .inl ⟨_, .inl hd⟩, _, rfl, _, rfl, setd_read hd nd e2 (by omega) fun H2 e3 hd2 => ?_⟩
      have k1 := setd_len l p p
      refine ⟨_, rfl, d, rfl, .inl ⟨_, .inl hd2⟩, _, rfl, _, rfl, setd_read hd2 nd e3 (by omega) fun H3 e4 hd3 => ?_⟩
      have k2 := setd_len (setd l p p) r r
      have k3 := setd_keys _ r r (setd_keys l p p l2)
      have step : labStep l (p, r) = if (look (setd l p p) p).getD 0 ≠ (look (setd (setd l p p) r r) r).getD 0 then relab ((look (setd l p p) p).getD 0) ((look (setd (setd l p p) r r) r).getD 0) (setd (setd l p p) r r) else setd (setd l p p) r r := by
        rw [← look_second l p r]
        rfl
      generalize (look (setd l p p) p).getD 0 = o at step ⊢
      generalize (look (setd (setd l p p) r r) r).getD 0 = n at step ⊢
      generalize setd (setd l p p) r r = l3 at step hd3 k2 k3
      refine ⟨_, rfl, _, rfl, rfl, _, rfl, ite2 (fun hne => ?_) (fun hne => ?_)⟩
      · have hne : o ≠ n := fun e => by
          rw [e, decide_eq_true rfl] at hne
          exact absurd hne Bool.false_ne_true
        rw [if_pos hne] at step
        rw [step]
        refine ⟨d, _, hd3, trivial, fun od => ?_⟩
        refine ⟨_, rfl, d, od, _, rfl, upd_same, fun D nD => dc_it walk_items (fun j H' => Ex (upd H3 d (.frz od (.dK (encL l3)))) H' ∧ H' D = some (.dK (encL ((relab o n l3).take j)))) ⟨Ex.new nD, upd_same⟩ (fun j H' _ h => h.1 _ _ upd_same) ?_ ?_⟩
        · rintro j x H4 H5 hj ⟨e5, hD⟩ ⟨T, x1, y1, rfl, nT, rfl, hx, hy⟩
          obtain ⟨p', hp', rfl, rfl⟩ : ∃ p' : Int × Int, l3[j]? = some p' ∧ x1 = .int p'.1 ∧ y1 = .int p'.2 := by
            rw [encL_len] at hj
            refine ⟨l3[j], List.getElem?_eq_getElem hj, ?_, ?_⟩
            · unfold encL at hx
              dsimp only at hx
              rw [List.getElem?_map, List.getElem?_eq_getElem hj] at hx
              exact (Option.some.inj hx).symm
            · unfold encL at hy
              dsimp only at hy
              rw [List.getElem?_map, List.getElem?_eq_getElem hj] at hy
              exact (Option.some.inj hy).symm
          have hput : ∀ z : Int, z = (if p'.2 = o then n else p'.2) → putK (encL ((relab o n l3).take j)) (Sum.inl p'.1) (.int z) = encL ((relab o n l3).take (j + 1)) := fun z hz => by
            rw [encL_put (relab_take_look k3 hp'), List.take_add_one, relab_at hp', hz]
            rfl
          have hlt : (encL ((relab o n l3).take j)).length < sizeLine := by
            rw [encL_len, List.length_take, relab_len]
            exact small1000 (by have := Nat.min_le_right j l3.length; omega)
          have tD : D ≠ T := ne_of_none hD nT
          refine ⟨T, [.int p'.1, .int p'.2], rfl, SqT.of upd_same, rfl, .int p'.1, [.int p'.2], rfl, .int p'.2, [], rfl, rfl, rfl, ?_⟩
          unfold tYes
          dsimp only
          rw [if_pos rfl]
          refine ⟨_, rfl, _, rfl, _, rfl, rfl, _, rfl, ite2 (fun hb => ?_) (fun hb => ?_)⟩
          · have hb : p'.2 = o := V.int.inj (of_decide_eq_true hb)
            refine ⟨_, rfl, _, Sum.inl p'.1, rfl, (by rw [upd_ne tD]; exact hD), hlt, Ex.mut (e5.trans (Ex.new nT)) nD, ?_⟩
            rw [upd_same, hput n (by rw [if_pos hb])]
          · have hb : ¬ p'.2 = o := fun z => hb (decide_eq_true (by rw [z]))
            refine ⟨_, rfl, _, Sum.inl p'.1, rfl, (by rw [upd_ne tD]; exact hD), hlt, Ex.mut (e5.trans (Ex.new nT)) nD, ?_⟩
            rw [upd_same, hput p'.2 (by rw [if_neg hb])]
        · rintro H4 ⟨e5, hD⟩
          rw [encL_len, ← relab_len o n l3, List.take_length] at hD
          have dD : D ≠ d := fun e => by
            rw [e, upd_same] at nD
            cases nD
          refine ⟨e5 _ _ upd_same, D, _, _, _, _, _, _, rfl, fun b ob hb => ?_, ?_, ?_⟩
          · have bd : b ≠ d := ne_of_none hb nd
            rw [upd_ne bd]
            exact e5 _ _ (by rw [upd_ne bd]; exact e4 _ _ hb)
          · rw [upd_ne dD] at nD
            exact fresh_back e4 nD
          · rw [upd_ne dD]
            exact hD
      · have hne : o = n := by
          by_cases e : o = n
          · exact e
          · exact absurd (show (!decide (V.int o = V.int n)) = true by rw [decide_eq_false fun q => e (V.int.inj q)]; rfl) hne
        rw [if_neg (fun z => z hne)] at step
        rw [step]
        exact ⟨d, _, _, _, _, _, _, rfl, e4, nd, hd3⟩
    · rintro σ H1 ⟨d, x2, x3, x4, x5, x6, x7, rfl, e2, nd, hd⟩
      rw [List.length_map, t2, List.take_length] at hd
      exact ⟨_, rfl, q d H1 nd e2 hd⟩
end
end Sw
namespace Sw
open PySem PySem.Spec PyProof.Rows L2
open Evl (Ex Ex.refl Ex.trans Ex.new Ex.mut ex_l ex_t ex_rd fresh_back Ev EvL EvU EvT EvA RV RC RCL SpV SpL)
/-- a list, its label, its places -/
abbrev Ent := Addr × Int × List Nat
def encG (T : List Ent) : List (Key × V) := T.map fun t => ((Sum.inl t.2.1 : Key), V.ref t.1)
theorem encG_none {T : List Ent} {k : Int} (h : k ∉ T.map fun t => t.2.1) : valV (encG T) (Sum.inl k) = none := by
  induction T with
  | nil => rfl
  | cons t T ih =>
    show valV (((Sum.inl t.2.1 : Key), V.ref t.1) :: encG T) (Sum.inl k) = none
    rw [valV_neg (fun q => h (by rw [List.map_cons, Sum.inl.inj q]; exact List.mem_cons_self))]
    exact ih fun m => h (List.mem_cons.mpr (.inr m))
theorem encG_some {T : List Ent} {k : Int} (h : k ∈ T.map fun t => t.2.1) : ∃ t ∈ T, t.2.1 = k ∧ valV (encG T) (Sum.inl k) = some (.ref t.1) := by
  induction T with
  | nil => cases h
  | cons t T ih =>
    by_cases e : t.2.1 = k
    · exact ⟨t, List.mem_cons_self, e, valV_pos (p := ((Sum.inl t.2.1 : Key), V.ref t.1)) (by show (Sum.inl t.2.1 : Key) = Sum.inl k; rw [e])⟩
    · rcases List.mem_cons.mp h with z | z
      · exact absurd z.symm e
      · obtain ⟨u, hu, e1, e2⟩ := ih z
        refine ⟨u, List.mem_cons.mpr (.inr hu), e1, ?_⟩
        rw [← e2]
        exact valV_neg (p := ((Sum.inl t.2.1 : Key), V.ref t.1)) fun q => e (Sum.inl.inj q)
def addTo (k : Int) (i : Nat) (T : List Ent) : List Ent := T.map fun t => (t.1, t.2.1, if t.2.1 = k then t.2.2 ++ [i] else t.2.2)
theorem addTo_enc (k : Int) (i : Nat) (T : List Ent) : encG (addTo k i T) = encG T := by
  unfold encG addTo
  rw [List.map_map]
  rfl
theorem addTo_fst (k : Int) (i : Nat) (T : List Ent) : (addTo k i T).map (·.1) = T.map (·.1) := by
  unfold addTo
  rw [List.map_map]
  rfl
theorem addTo_snd (k : Int) (i : Nat) (T : List Ent) : (addTo k i T).map (·.2) = (T.map (·.2)).map fun e => (e.1, if e.1 = k then e.2 ++ [i] else e.2) := by
  unfold addTo
  rw [List.map_map, List.map_map]
  rfl
theorem nats_snoc (l : List Nat) (i : Nat) : nats (l ++ [i]) = nats l ++ [.int (i : Int)] := by
  unfold nats
  rw [List.map_append]
  rfl
/-- the dict of lists of places, all its own -/
structure GrpAt (H H' : Hp) (d : Addr) (T : List Ent) : Prop where
  ex : Ex H H'
  nd : H d = none
  at_ : H' d = some (.dK (encG T))
  ap : (T.map (·.1)).Nodup
  in_ : ∀ t ∈ T, H t.1 = none ∧ t.1 ≠ d ∧ H' t.1 = some (.lst (nats t.2.2))
theorem GrpAt.up {H H' H'' : Hp} {d : Addr} {T : List Ent} (g : GrpAt H H' d T) (e : Ex H' H'') : GrpAt H H'' d T :=
  ⟨g.ex.trans e, g.nd, e _ _ g.at_, g.ap, fun t ht => ⟨(g.in_ t ht).1, (g.in_ t ht).2.1, e _ _ (g.in_ t ht).2.2⟩⟩
theorem cls_look {st : List (Int × Int)} {i : Nat} (h : i < st.length) : valV (encL (labOf st)) (Sum.inl (sa st i)) = some (.int (cls st i)) := by
  rw [encL_val]
  obtain ⟨m, em⟩ := Option.isSome_iff_exists.mp (((labOf_ok st).key (sa st i)).mpr (st_ends h).1)
  unfold cls lab
  rw [em]
  rfl
theorem nd_inj {T : List Ent} (h : (T.map (·.1)).Nodup) {t u : Ent} (ht : t ∈ T) (hu : u ∈ T) (e : t.1 = u.1) : t = u := by
  obtain ⟨i, hi⟩ := List.mem_iff_getElem?.mp ht
  obtain ⟨j, hj⟩ := List.mem_iff_getElem?.mp hu
  have hi' : (T.map (·.1))[i]? = some t.1 := by rw [List.getElem?_map, hi]; rfl
  have hj' : (T.map (·.1))[j]? = some t.1 := by rw [List.getElem?_map, hj, e]; rfl
  have := nd_ix h hi' hj'
  subst this
  exact Option.some.inj (hi.symm.trans hj)
theorem GrpAt.old {H H' : Hp} {d : Addr} {T : List Ent} (g : GrpAt H H' d T) {k : Int} {i : Nat} {t : Ent} (ht : t ∈ T) (hk : t.2.1 = k) (kn : (T.map fun t => t.2.1).Nodup) {H2 : Hp} (e : Ex H' H2) : GrpAt H (upd H2 t.1 (.lst (nats t.2.2 ++ [.int (i : Int)]))) d (addTo k i T) := by
  obtain ⟨n1, n2, n3⟩ := g.in_ t ht
  refine ⟨Ex.mut (g.ex.trans e) n1, g.nd, ?_, by rw [addTo_fst]; exact g.ap, fun u hu => ?_⟩
  · rw [upd_ne (fun z => n2 z.symm), addTo_enc]
    exact e _ _ g.at_
  · obtain ⟨v, hv, rfl⟩ := List.mem_map.mp hu
    obtain ⟨m1, m2, m3⟩ := g.in_ v hv
    refine ⟨m1, m2, ?_⟩
    by_cases c : v.1 = t.1
    · have := nd_inj g.ap hv ht c
      subst this
      show upd H2 v.1 _ v.1 = some (.lst (nats (if v.2.1 = k then v.2.2 ++ [i] else v.2.2)))
      rw [upd_same, if_pos hk, nats_snoc]
    · have ck : v.2.1 ≠ k := fun z => by
        obtain ⟨a, ha⟩ := List.mem_iff_getElem?.mp hv
        obtain ⟨b, hb⟩ := List.mem_iff_getElem?.mp ht
        have ha' : (T.map fun t => t.2.1)[a]? = some k := by rw [List.getElem?_map, ha, ← z]; rfl
        have hb' : (T.map fun t => t.2.1)[b]? = some k := by rw [List.getElem?_map, hb, ← hk]; rfl
        have := nd_ix kn ha' hb'
        subst this
        have := Option.some.inj (ha.symm.trans hb)
        exact c (by rw [this])
      show upd H2 t.1 _ v.1 = some (.lst (nats (if v.2.1 = k then v.2.2 ++ [i] else v.2.2)))
      rw [upd_ne c, if_neg ck]
      exact e _ _ m3
theorem GrpAt.new {H H' : Hp} {d : Addr} {T : List Ent} (g : GrpAt H H' d T) {k : Int} {i : Nat} (hk : k ∉ T.map fun t => t.2.1) {p : Addr} (np : H' p = none) :
    GrpAt H (upd (upd (upd H' p (.lst [])) d (.dK (putK (encG T) (Sum.inl k) (.ref p)))) p (.lst (nats [i]))) d (T ++ [(p, k, [i])]) := by
  have np0 : H p = none := fresh_back g.ex np
  have pd : p ≠ d := fun z => by
    rw [z, g.at_] at np
    cases np
  refine ⟨Ex.mut (Ex.mut (g.ex.trans (Ex.new np)) g.nd) np0, g.nd, ?_, ?_, fun u hu => ?_⟩
  · rw [upd_ne (fun z => pd z.symm), upd_same, putK_new _ (encG_none hk)]
    unfold encG
    rw [List.map_append]
    rfl
  · rw [List.map_append]
    refine List.nodup_append.mpr ⟨g.ap, by simp, fun a ha b hb z => ?_⟩
    have hb : b = p := List.mem_singleton.mp hb
    obtain ⟨t, ht, et⟩ := List.mem_map.mp ha
    have q := (g.in_ t ht).2.2
    rw [et, z, hb, np] at q
    cases q
  · rcases List.mem_append.mp hu with hu | hu
    · obtain ⟨m1, m2, m3⟩ := g.in_ u hu
      have up : u.1 ≠ p := fun z => by
        rw [z, np] at m3
        cases m3
      refine ⟨m1, m2, ?_⟩
      rw [upd_ne up, upd_ne m2, upd_ne up]
      exact m3
    · have hu := List.mem_singleton.mp hu
      subst hu
      refine ⟨np0, pd, upd_same⟩
section
variable {P : Program} {w : World} {K : PySem.W.Frag} {mg : Str → Option Value} {base : Heap}
theorem scGroups : FnScope ["stones", "labels", "found", "place", "stone"] ["stones"] (defScope sGroups) := ⟨rfl, rfl, rfl, by decide +kernel, rfl, by decide +kernel, by decide +kernel⟩
def spGroups : Sp := fun vs H Q _ => ∃ (a : Addr) (st : List (Int × Int)), vs = [.ref a] ∧ StonesAt H a st ∧ Good st ∧ ∀ p T H', Ex H H' → NewLL H H' p T → T.map (·.2) = grps st → Q (.ref p) H'
theorem ok_groups {f fN fL : Addr} {fd fdN fdL : FuncData} (F : Fun K "groups" "groups" sGroups f fd) (mE : mg "enumerate" = none) (mLi : mg "list" = none)
    (GN : FnOk P w K mg base CX0 4 fN fdN ["thing"] spNeed) (gN : mg "need_stones" = some (.ref fN)) (kN : PySem.W.keepIn K (.ref fN) = true) (bN : Binds K fdN ["thing"] [])
    (GL : FnOk P w K mg base CX0 1 fL fdL ["stones"] spLabels) (gL : mg "_labels" = some (.ref fL)) (kL : PySem.W.keepIn K (.ref fL) = true) (bL : Binds K fdL ["stones"] []) : FnOk P w K mg base CX0 5 f fd ["stones"] spGroups := by
  refine F.ok scGroups (fun vs H Q E h => ?_) (fun cdv A outer s H vs Q E hr h => ?_)
  · obtain ⟨a, st, rfl, _⟩ := h
    rfl
  · obtain ⟨a, st, rfl, hS, hG, q⟩ := h
    have hr1 : Room 1 _ := hr.mono (by decide)
    refine ⟨_, pss_cons (ps_expr (pe_call GN hr (by rfl) gN kN bN .nil pass0 (pa_cons (pv 0) pa_nil)))
      (pss_cons (ps_set (i := 1) scGroups.nd rfl (.inl rfl) (pe_call GL hr1 (by rfl) gL kL bL .nil pass0 (pa_cons (pv 0) pa_nil)))
      (pss_cons (ps_set (i := 2) scGroups.nd rfl (.inl rfl) pe_dnewK)
      (pss_cons (ps_for PassesOwn.never rfl (pi_enum (by rfl) mE (pa_cons (pv 0) pa_nil)) (pg_tup rfl (pgs_cons (pg_name (i := 3) scGroups.nd rfl (.inl rfl)) (pgs_cons (pg_name (i := 4) scGroups.nd rfl (.inl rfl)) pgs_nil)))
        (pss_one (ps_expr (pe_bm PySem.F.plainAttrs_list PySem.F.slot_list_append PySem.F.type_list_append mt_append (pe_dsetd (pv 2) (pe_dget (hu_of hr) (pv 1) (pe_ix ix_tup (pv 4) pe_int (fun _ _ => rfl)) (fun _ _ => rfl)) (pe_lst pa_nil) ⟨rfl, rfl, rfl, rfl⟩) (pa_cons (pv 3) pa_nil)))))
      (pss_one (ps_ret (pe_listVals rfl (by rfl) mLi (pv 2))))))), ?_⟩
    refine ⟨_, rfl, a, st, rfl, hS, hG, fun H1 e1 => ?_⟩
    have hS1 := hS.ex e1
    refine ⟨_, rfl, a, st, rfl, hS1, hG.1, fun dl H2 ndl e2 hdl d nd => ?_⟩
    have hS2 := hS1.ex e2
    have e12 := e1.trans e2
    have nd0 : H d = none := fresh_back e12 nd
    obtain ⟨ts, t1, t2, t3⟩ := id hS
    have dd : dl ≠ d := ne_of_none hdl nd
    refine ⟨_, rfl, a, _, rfl, SqL.of ((e12.trans (Ex.new nd)) _ _ t1), for_it (walk_enum (xs := ts.map V.ref)) (fun i σ H' => ∃ (T : List Ent) (x3 x4 : Option V), σ = [some (.ref a), some (.ref dl), some (.ref d), x3, x4] ∧ GrpAt H H' d T ∧ H' dl = some (.dK (encL (labOf st))) ∧ (∀ t ∈ T, t.1 ≠ dl) ∧ T.map (·.2) = grpD (cls st) i)
      ⟨[], none, none, rfl, ⟨e12.trans (Ex.new nd), nd0, upd_same, List.nodup_nil, fun t ht => nomatch ht⟩, by rw [upd_ne dd]; exact hdl, fun t ht => (nomatch ht), rfl⟩ (fun i σ H' _ ⟨T, _, _, _, g, _⟩ => SqL.of (g.ex _ _ t1)) ?_ ?_⟩
    · rintro i x σ H3 H4 hi ⟨T, x3, x4, rfl, g, hdl3, hnl, hT⟩ ⟨Tp, p, s, rfl, nT, rfl, hp, hs⟩
      have hp : p = .int (i : Int) := (Option.some.inj hp).symm
      subst hp
      have hs : (ts.map V.ref)[i]? = some s := hs
      rw [List.getElem?_map] at hs
      obtain ⟨t, ht, rfl⟩ := Option.map_eq_some_iff.mp hs
      have hit : i < st.length := by
        rw [← t2]
        exact (List.getElem?_eq_some_iff.mp ht).1
      have htt := t3 i t _ ht (st_at hit)
      have e4 : Ex H3 (upd H3 Tp (.tup [.int (i : Int), .ref t])) := Ex.new nT
      refine ⟨Tp, [.int (i : Int), .ref t], rfl, SqT.of upd_same, rfl, .int (i : Int), [.ref t], rfl, .ref t, [], rfl, rfl, ?_⟩
      have g4 := g.up e4
      have hdl4 := e4 _ _ hdl3
      have nl4 : ∀ t ∈ T, t.1 ≠ dl := hnl
      generalize upd H3 Tp (.tup [.int (i : Int), .ref t]) = H4 at e4 g4 hdl4
      refine ⟨_, rfl, d, rfl, .inl ⟨_, .inl g4.at_⟩, _, rfl, _, rfl, t, _, 0, _, rfl, rfl, SqT.of (g4.ex _ _ htt), atI_nat (j := 0) rfl, dl, .int (cls st i), rfl, ?_, ?_⟩
      · rw [← cls_look hit]
        exact DGet.k (k := Sum.inl (sa st i)) hdl4
      refine ⟨Nat.zero_le _, fun p np => ?_⟩
      have e5 : Ex H4 (upd H4 p (.lst [])) := Ex.new np
      have kk : (grpD (cls st) i).map (·.1) = T.map fun t => t.2.1 := by
        rw [← hT, List.map_map]
        rfl
      have kn : (T.map fun t => t.2.1).Nodup := by
        rw [← kk]
        exact grpD_nodup _ _
      have tl : T.length ≤ i := by
        have h1 := congrArg List.length hT
        have h2 := grpD_len (cls st) i
        rw [List.length_map] at h1
        omega
      have hG1 := hG.1
      refine ⟨encG T, Sum.inl (cls st i), e5 _ _ g4.at_, rfl, ?_, fun v hv => ?_, fun hv => ?_⟩
      · unfold encG
        rw [List.length_map]
        exact small1000 (by omega)
      · -- the list is there
        by_cases c : cls st i ∈ T.map fun t => t.2.1
        · obtain ⟨u, hu, e1, e2⟩ := encG_some c
          have ev : v = .ref u.1 := Option.some.inj (hv.symm.trans e2)
          subst ev
          obtain ⟨m1, m2, m3⟩ := g4.in_ u hu
          have m4 := e5 _ _ m3
          have ul : u.2.2.length ≤ i := by
            have h1 : u.2 ∈ grpD (cls st) i := by
              rw [← hT]
              exact List.mem_map.mpr ⟨u, hu, rfl⟩
            unfold grpD at h1
            obtain ⟨z, _, h2⟩ := List.mem_map.mp h1
            rw [← h2]
            have h3 := List.length_filter_le (fun q => decide (cls st q = cls st z)) (List.range i)
            rw [List.length_range] at h3
            exact h3
          refine ⟨.inl ⟨rfl, _, SqL.of m4⟩, _, rfl, u.1, _, _, rfl, rfl, m4, by rw [nats_len]; exact small1000 (by omega), ?_⟩
          refine ⟨addTo (cls st i) i T, _, _, rfl, g4.old hu e1 kn e5, ?_, fun t ht => ?_, ?_⟩
          · rw [upd_ne (fun z => nl4 u hu z.symm)]
            exact e5 _ _ hdl4
          · obtain ⟨w, hw, rfl⟩ := List.mem_map.mp ht
            exact nl4 w hw
          · rw [addTo_snd, hT]
            obtain ⟨j, hj, ej⟩ := (grpD_key (cls st) i (cls st i)).mp (by rw [kk]; exact c)
            exact (grpD_old (cls st) i ⟨j, hj, ej⟩).symm
        · rw [encG_none c] at hv
          cases hv
      · -- a new list
        have c : cls st i ∉ T.map fun t => t.2.1 := fun c => by
          obtain ⟨u, hu, e1, e2⟩ := encG_some c
          rw [e2] at hv
          cases hv
        have pd : p ≠ d := fun z => by
          rw [z, g4.at_] at np
          cases np
        refine ⟨.inl ⟨rfl, _, SqL.of (by rw [upd_ne pd, upd_same])⟩, _, rfl, p, [], _, rfl, rfl, by rw [upd_ne pd, upd_same], by decide, ?_⟩
        have pdl : dl ≠ p := ne_of_none hdl4 np
        refine ⟨T ++ [(p, cls st i, [i])], _, _, rfl, g4.new c np, ?_, fun t ht => ?_, ?_⟩
        · rw [upd_ne pdl, upd_ne dd, upd_ne pdl]
          exact hdl4
        · rcases List.mem_append.mp ht with ht | ht
          · exact nl4 t ht
          · rw [List.mem_singleton.mp ht]
            exact fun z => pdl z.symm
        · rw [List.map_append, hT, grpD_new (cls st) i fun j hj ej => c (by rw [← kk]; exact (grpD_key _ _ _).mpr ⟨j, hj, ej⟩)]
          rfl
    · rintro σ H3 ⟨T, x3, x4, rfl, g, hdl3, hnl, hT⟩
      rw [List.length_map, t2] at hT
      refine ⟨_, rfl, d, _, rfl, g.at_, fun p np => ?_⟩
      have e5 : Ex H3 (upd H3 p (.lst ((encG T).map (·.2)))) := Ex.new np
      refine q p (T.map fun t => (t.1, t.2.2)) _ (g.ex.trans e5) ⟨fresh_back g.ex np, ?_, ?_, fun u hu => ?_⟩ ?_
      · rw [upd_same]
        unfold encG
        rw [List.map_map, List.map_map]
        rfl
      · rw [List.map_map]
        exact g.ap
      · obtain ⟨t, ht, rfl⟩ := List.mem_map.mp hu
        obtain ⟨m1, m2, m3⟩ := g.in_ t ht
        exact ⟨m1, ne_of_none m3 np, e5 _ _ m3⟩
      · rw [List.map_map]
        unfold grps
        rw [← grpD_snd, ← hT, List.map_map]
        rfl
end
end Sw
namespace Sw
open PySem PySem.Spec PyProof.Rows L2
open Evl (Ex Ex.refl Ex.trans Ex.new Ex.mut ex_l ex_t ex_rd fresh_back Ev EvL EvU EvT EvA RV RC RCL SpV SpL)
/-- a stone's tuple -/
theorem StonesAt.get {H : Hp} {a : Addr} {st : List (Int × Int)} (h : StonesAt H a st) {p : Nat} (hp : p < st.length) : ∃ (ts : List Addr) (t : Addr), H a = some (.lst (ts.map V.ref)) ∧ (ts.map V.ref)[p]? = some (.ref t) ∧ H t = some (.tup [.int (sa st p), .int (sb st p)]) := by
  obtain ⟨ts, h1, h2, h3⟩ := h
  have ht : p < ts.length := by omega
  refine ⟨ts, ts[p], h1, ?_, h3 p _ _ (List.getElem?_eq_getElem ht) (st_at hp)⟩
  rw [List.getElem?_map, List.getElem?_eq_getElem ht]
  rfl
end Sw
namespace Sw
open PySem PySem.Spec PyProof.Rows L2
open Evl (Ex Ex.refl Ex.trans Ex.new Ex.mut ex_l ex_t ex_rd fresh_back Ev EvL EvU EvT EvA RV RC RCL SpV SpL)
section
variable {P : Program} {w : World} {K : PySem.W.Frag} {mg : Str → Option Value} {base : Heap}
/-! ### odd_ends -/
/-- a dict of counts -/
def CntOk (E : List Int) (kvs : List (Key × V)) : Prop := ∃ ks : List Int, kvs.map (·.1) = ks.map Sum.inl ∧ ks.Nodup ∧ (∀ k, k ∈ ks ↔ k ∈ E) ∧ (∀ k : Int, valV kvs (Sum.inl k) = if k ∈ E then some (.int ((E.count k : Nat) : Int)) else none) ∧ kvs.length ≤ E.length
theorem cnt_nil : CntOk [] [] := by
  refine ⟨[], rfl, List.nodup_nil, fun k => Iff.rfl, fun k => ?_, Nat.le_refl _⟩
  rw [if_neg (by simp)]
  rfl
theorem CntOk.put {E : List Int} {kvs : List (Key × V)} (h : CntOk E kvs) (x : Int) {z : Int} (hz : z = ((E.count x : Nat) : Int) + 1) : CntOk (E ++ [x]) (putK kvs (Sum.inl x) (.int z)) := by
  obtain ⟨ks, h1, h2, h3, h4, h5⟩ := h
  have hv : ∀ k : Int, valV (putK kvs (Sum.inl x) (V.int z)) (Sum.inl k) = if k ∈ E ++ [x] then some (.int (((E ++ [x]).count k : Nat) : Int)) else none := by
    intro k
    rw [valV_put]
    by_cases e : k = x
    · rw [if_pos (by rw [e]), if_pos (List.mem_append.mpr (.inr (List.mem_singleton.mpr e))), e, hz, List.count_append]
      have : ([x] : List Int).count x = 1 := by simp
      rw [this]
      rfl
    · rw [if_neg (fun q => e (Sum.inl.inj q)), h4 k]
      have c0 : ([x] : List Int).count k = 0 := List.count_eq_zero.mpr fun m => e (List.mem_singleton.mp m)
      rw [List.count_append, c0, Nat.add_zero]
      by_cases m : k ∈ E
      · rw [if_pos m, if_pos (List.mem_append.mpr (.inl m))]
      · rw [if_neg m, if_neg fun q => (List.mem_append.mp q).elim m fun q => e (List.mem_singleton.mp q)]
  have hlen := length_putK kvs (Sum.inl x) (V.int z)
  by_cases m : x ∈ E
  · refine ⟨ks, ?_, h2, fun k => ?_, hv, ?_⟩
    · unfold putK
      rw [valV_any, h4 x, if_pos m, Option.isSome_some, if_pos (Eq.refl true), ← h1, List.map_map]
      refine List.map_congr_left fun p _ => ?_
      show (if p.1 = Sum.inl x then (p.1, V.int z) else p).1 = p.1
      split <;> rfl
    · rw [h3, List.mem_append]
      exact ⟨.inl, fun q => q.elim id fun q => by rw [List.mem_singleton.mp q]; exact m⟩
    · rw [List.length_append]
      show _ ≤ E.length + 1
      omega
  · refine ⟨ks ++ [x], ?_, ?_, fun k => ?_, hv, ?_⟩
    · rw [putK_new _ (by rw [h4 x, if_neg m]), List.map_append, List.map_append, h1]
      rfl
    · refine List.nodup_append.mpr ⟨h2, by simp, fun a ha b hb q => ?_⟩
      rw [q, List.mem_singleton.mp hb] at ha
      exact m ((h3 x).mp ha)
    · rw [List.mem_append, List.mem_append, h3]
    · rw [List.length_append]
      show _ ≤ E.length + 1
      omega
theorem CntOk.get {E : List Int} {kvs : List (Key × V)} (h : CntOk E kvs) (x : Int) : (valV kvs (Sum.inl x)).getD (.int 0) = .int ((E.count x : Nat) : Int) := by
  obtain ⟨ks, h1, h2, h3, h4, h5⟩ := h
  rw [h4 x]
  by_cases m : x ∈ E
  · rw [if_pos m]
    rfl
  · rw [if_neg m, List.count_eq_zero.mpr m]
    rfl
def srt (l : List Int) : List Int := l.mergeSort fun a b => decide (a ≤ b)
theorem srt_perm (l : List Int) : (srt l).Perm l := List.mergeSort_perm _ _
theorem srt_up (l : List Int) : (srt l).Pairwise (· ≤ ·) := by
  have h := List.pairwise_mergeSort (le := fun a b : Int => decide (a ≤ b)) (fun a b c h1 h2 => by simp at *; omega) (fun a b => by simp; omega) l
  exact h.imp fun h => of_decide_eq_true h
theorem el_sortKeys {σ : L2.St} {te : TE} {H : Hp} {d : Addr} {kvs : List (Key × V)} {ks : List Int} (h : Ev te σ H (.ref d)) (hd : H d = some (.dK kvs)) (hk : kvs.map (·.1) = ks.map Sum.inl) : EvL (tCB rSortedKeys (tCons te tNil)) σ H ((srt ks).map V.int) := fun H1 e Q q =>
  h H1 e _ fun H2 e2 => ⟨d, kvs, ks, rfl, .inl (e2 _ _ (e _ _ hd)), hk, fun ys p hp hs np => by
    have e3 : ys = srt ks := perm_sorted_eq (hp.trans (srt_perm ks).symm) hs (srt_up ks)
    subst e3
    exact q p _ (fresh_back e2 np) (e2.trans (Ex.new np)) upd_same⟩
theorem scOddE : FnScope ["stones", "group", "times", "place", "number"] ["stones", "group"] (defScope sOddE) := ⟨rfl, rfl, rfl, by decide +kernel, rfl, by decide +kernel, by decide +kernel⟩
def spOddE (K : PySem.W.Frag) : Sp := fun vs H Q _ => ∃ (a g : Addr) (st : List (Int × Int)) (ps : List Nat), vs = [.ref a, .ref g] ∧ StonesAt H a st ∧ Good st ∧ H g = some (.lst (nats ps)) ∧ (∀ p ∈ ps, p < st.length) ∧ ps.length ≤ 100 ∧ Evl.RetL ((odds st ps).map V.int) H Q
theorem ok_oddE {f fN : Addr} {fd fdN : FuncData} (F : Fun K "odd_ends" "odd_ends" sOddE f fd) (mL : mg "len" = none) (mSo : mg "sorted" = none)
    (GN : FnOk P w K mg base CX0 4 fN fdN ["thing"] spNeed) (gN : mg "need_stones" = some (.ref fN)) (kN : PySem.W.keepIn K (.ref fN) = true) (bN : Binds K fdN ["thing"] []) : FnOk P w K mg base CX0 5 f fd ["stones", "group"] (spOddE K) := by
  refine F.ok scOddE (fun vs H Q E h => ?_) (fun cdv A outer s H vs Q E hr h => ?_)
  · obtain ⟨a, g, st, ps, rfl, _⟩ := h
    rfl
  · obtain ⟨a, g, st, ps, rfl, hS, hG, hg, hp, hl, q⟩ := h
    refine ⟨_, pss_cons (ps_expr (pe_call GN hr (by rfl) gN kN bN .nil pass0 (pa_cons (pv 0) pa_nil)))
      (pss_cons (ps_set (i := 2) scOddE.nd rfl (.inr rfl) pe_dnewK)
      (pss_cons (ps_for PassesOwn.never rfl (pi_list (pv 1)) (pg_name (i := 3) scOddE.nd rfl (.inl rfl))
        (pss_one (ps_if (pt_chain op_le op_lt pe_int (pv 3) (pe_callB call_len_seq (by rfl) mL boot_len (pa_cons (pv 0) pa_nil)))
          (pss_one (ps_for PassesOwn.never rfl (pi_tup (pe_ix ix_list (pv 0) (pv 3) (fun _ _ => rfl))) (pg_name (i := 4) scOddE.nd rfl (.inl rfl))
            (pss_one (ps_dput (hu_of hr) (pv 2) (pv 4) (pe_op op_add (pe_dget2 (hu_of hr) (pv 2) (pv 4) pe_int ⟨rfl, rfl, rfl, rfl⟩) pe_int) rfl)))) pss_nil)))
      (pss_one (ps_ret (pe_lc (own := [("number", 4)]) (g := gName 4) (tt := tTest (tOp rEq (tOp rModP (tDGet (tVar 2) (tVar 4)) (tC (.int 2))) (tC (.int 1)))) rfl scOddE.nd (pi_list (pe_callB (cr_sortedKeys rfl) (by rfl) mSo PyProof.Rows.boot_sorted (pa_cons (pv 2) pa_nil))) (blkOk_by (N := ["stones", "group", "times", "place", "number"]) (sc := defScope sOddE) (by decide +kernel))
          (fun _ _ _ _ _ => pg_name (i := 4) scOddE.nd rfl (Or.inl rfl)) (fun _ _ _ _ _ => pts_one (pt_cmpR op_eq (pe_op (r := rModP) op_mod (pe_dget (hu_of hr) (pv 2) (pv 4) (fun _ _ => rfl)) pe_int) pe_int (nomark _)))
          (fun _ _ _ _ _ => pv 4)))))), ?_⟩
    refine ⟨_, rfl, a, st, rfl, hS, hG, fun H1 e1 d nd => ?_⟩
    have e2 : Ex H (upd H1 d (.dK [])) := e1.trans (Ex.new nd)
    have nd0 : H d = none := fresh_back e1 nd
    refine ⟨_, rfl, g, rfl, ⟨_, SqL.of (e2 _ _ hg)⟩, for_list (K := K) (a := g) (xs := nats ps) (fun i σ H' => ∃ (kvs : List (Key × V)) (x3 x4 : Option V), σ = [some (.ref a), some (.ref g), some (.ref d), x3, x4] ∧ Ex H H' ∧ H' d = some (.dK kvs) ∧ CntOk (endsOf st (ps.take i)) kvs)
      ⟨[], none, none, rfl, e2, upd_same, cnt_nil⟩ (fun i σ H' _ ⟨_, _, _, _, e, _⟩ => SqL.of (e _ _ hg)) ?_ ?_⟩
    · rintro i y σ H' hi ⟨kvs, x3, x4, rfl, e3, hd, hc⟩
      obtain ⟨p, hpi, rfl⟩ : ∃ p : Nat, ps[i]? = some p ∧ y = .int (p : Int) := by
        unfold nats at hi
        rw [List.getElem?_map] at hi
        obtain ⟨p, h1, h2⟩ := Option.map_eq_some_iff.mp hi
        exact ⟨p, h1, h2.symm⟩
      have hpl := hp p (List.mem_of_getElem? hpi)
      obtain ⟨ts, t, t1, t2, t3⟩ := (hS.ex e3).get hpl
      have hil : i < ps.length := (List.getElem?_eq_some_iff.mp hpi).1
      have tl : ts.length = st.length := by
        obtain ⟨us, u1, u2, _⟩ := hS.ex e3
        rw [u1] at t1
        have := HO.lst.inj (Option.some.inj t1)
        have := congrArg List.length this
        rw [List.length_map, List.length_map] at this
        omega
      refine ⟨_, rfl, _, _, rfl, rfl, _, rfl, ?_⟩
      rw [decide_eq_true (show (0 : Int) ≤ (p : Int) by omega)]
      refine iteT ?_
      refine ⟨_, rfl, a, _, rfl, .inl (SqL.of t1), _, _, rfl, rfl, _, rfl, ?_⟩
      rw [decide_eq_true (show (p : Int) < ((ts.map V.ref).length : Int) by rw [List.length_map]; omega)]
      refine iteT ?_
      refine ⟨_, rfl, _, rfl, a, _, _, _, rfl, rfl, SqL.of t1, atI_nat t2, t, rfl, ⟨_, SqT.of t3⟩, for_tup (K := K) (a := t) (xs := [.int (sa st p), .int (sb st p)]) (fun j σ H'' => ∃ (kvs : List (Key × V)) (x4 : Option V), σ = [some (.ref a), some (.ref g), some (.ref d), some (.int (p : Int)), x4] ∧ Ex H H'' ∧ H'' t = some (.tup [.int (sa st p), .int (sb st p)]) ∧ H'' d = some (.dK kvs) ∧ CntOk (endsOf st (ps.take i) ++ ([sa st p, sb st p] : List Int).take j) kvs)
        ⟨kvs, _, rfl, e3, t3, hd, by rw [List.take_zero, List.append_nil]; exact hc⟩ (fun j σ H'' _ ⟨_, _, _, _, ht, _⟩ => SqT.of ht) ?_ ?_⟩
      · rintro j y σ H2 hj ⟨kvs, x4, rfl, e4, ht, hd, hc⟩
        obtain ⟨x, hx, rfl⟩ : ∃ x : Int, ([sa st p, sb st p] : List Int)[j]? = some x ∧ y = .int x := by
          rw [show ([.int (sa st p), .int (sb st p)] : List V) = ([sa st p, sb st p] : List Int).map V.int from rfl, List.getElem?_map] at hj
          obtain ⟨x, h1, h2⟩ := Option.map_eq_some_iff.mp hj
          exact ⟨x, h1, h2.symm⟩
        refine ⟨_, rfl, d, rfl, .inl ⟨_, .inl hd⟩, _, rfl, _, DGet.k (k := Sum.inl x) hd, ?_⟩
        rw [hc.get x]
        refine ⟨_, _, rfl, rfl, _, rfl, _, rfl, d, _, rfl, DPut.k (k := Sum.inl x) hd ?_, ?_⟩
        · have h1 := hc.choose_spec.2.2.2.2
          have h2 : (300 : Nat) < sizeLine := by decide
          rw [List.length_append, endsOf_len, List.length_take, List.length_take] at h1
          have h3 := Nat.min_le_right i ps.length
          have h4 := Nat.min_le_right j ([sa st p, sb st p] : List Int).length
          have h5 : ([sa st p, sb st p] : List Int).length = 2 := rfl
          omega
        · have td : t ≠ d := fun e => by
            rw [e, hd] at ht
            cases ht
          refine ⟨_, _, rfl, Ex.mut e4 nd0, by rw [upd_ne td]; exact ht, upd_same, ?_⟩
          rw [List.take_add_one, hx, ← List.append_assoc]
          exact hc.put x rfl
      · rintro σ H2 ⟨kvs, x4, rfl, e4, ht, hd, hc⟩
        refine ⟨kvs, _, _, rfl, e4, hd, ?_⟩
        rw [endsOf_take hpi]
        exact hc
    · rintro σ H' ⟨kvs, x3, x4, rfl, e3, hd, hc⟩
      rw [nats_len, List.take_length] at hc
      obtain ⟨ks, k1, k2, k3, k4, k5⟩ := hc
      dsimp only
      refine Evl.s_retL (xs := (odds st ps).map V.int) ?_ ?_
      case refine_2 => exact fun p H1 hp e h1 => q p H1 (fresh_back e3 hp) (e3.trans e) h1
      have lt := lt_of_le_nd (srt_up ks) ((srt_perm ks).nodup_iff.mpr k2)
      have eo : odds st ps = (srt ks).filter fun k => decide ((endsOf st ps).count k % 2 = 1) := (oddL_ok _).uniq (isOdd_filter lt fun k => by rw [(srt_perm ks).mem_iff, k3])
      rw [eo, ← given_filter (srt ks) (fun i => decide ((((endsOf st ps).count ((srt ks).getD i 0) : Nat) : Int) % 2 = 1)) (fun i => V.int ((srt ks).getD i 0)) (fun k => decide ((endsOf st ps).count k % 2 = 1)) V.int fun i k hk => ?_]
      · rw [← List.length_map (f := V.int) (as := srt ks)]
        refine Evl.el_lcNL _ _ (el_sortKeys (Evl.ev_var rfl) hd k1) ?_ (fun _ => rfl) (fun i x H1 e hx => ?_) fun i x H1 e hx _ => ?_
        · have h1 := congrArg List.length k1
          rw [List.length_map, List.length_map] at h1
          rw [endsOf_len] at k5
          rw [List.length_map, (srt_perm ks).length_eq]
          omega
        · rw [List.getElem?_map] at hx
          obtain ⟨k, hk, rfl⟩ := Option.map_eq_some_iff.mp hx
          have ek : (srt ks).getD i 0 = k := by
            rw [List.getD_eq_getElem?_getD, hk]
            rfl
          have hin : k ∈ endsOf st ps := (k3 k).mp ((srt_perm ks).mem_iff.mp (List.mem_of_getElem? hk))
          have hv := k4 k
          rw [if_pos hin] at hv
          rw [ek]
          refine Evl.et_is (Evl.et_test (Evl.ev_op (x := .int ((((endsOf st ps).count k : Nat) : Int) % 2)) (y := .int 1) (Evl.ev_op (x := .int (((endsOf st ps).count k : Nat) : Int)) (y := .int 2) ?_ Evl.ev_c (Evl.rv_I (by decide))) Evl.ev_c (Evl.rv_eq rfl))) ?_
          · refine fun H2 e2 Q q => ⟨_, rfl, _, rfl, d, _, rfl, ?_, q H2 (Ex.refl H2)⟩
            rw [← hv]
            exact DGet.k (k := Sum.inl k) (e2 _ _ (e _ _ hd))
          · refine Bool.eq_iff_iff.mpr ?_
            rw [decide_eq_true_eq, decide_eq_true_eq]
            exact V.int.injEq _ _ ▸ Iff.rfl
        · rw [List.getElem?_map] at hx
          obtain ⟨k, hk, rfl⟩ := Option.map_eq_some_iff.mp hx
          have ek : (srt ks).getD i 0 = k := by
            rw [List.getD_eq_getElem?_getD, hk]
            rfl
          rw [ek]
          exact Evl.ev_var rfl
      · have ek : (srt ks).getD i 0 = k := by
          rw [List.getD_eq_getElem?_getD, hk]
          rfl
        rw [ek]
        refine ⟨?_, fun _ => rfl⟩
        refine Bool.eq_iff_iff.mpr ?_
        rw [decide_eq_true_eq, decide_eq_true_eq]
        omega
end
end Sw
namespace Sw
open PySem PySem.Spec PyProof.Rows L2
open Evl (Ex Ex.refl Ex.trans Ex.new Ex.mut ex_l ex_t ex_rd fresh_back Ev EvL EvU EvT EvA RV RC RCL SpV SpL)
section
variable {P : Program} {w : World} {K : PySem.W.Frag} {mg : Str → Option Value} {base : Heap}
theorem scWhy : FnScope ["stones", "group"] ["stones"] (defScope sWhy) := ⟨rfl, rfl, rfl, by decide +kernel, rfl, by decide +kernel, by decide +kernel⟩
def spWhy : Sp := fun vs H Q _ => ∃ (a : Addr) (st : List (Int × Int)), vs = [.ref a] ∧ StonesAt H a st ∧ Good st ∧ ∀ p T H', Ex H H' → NewWhy st H H' p T → Q (.ref p) H'
theorem ok_why {f fG fE : Addr} {fd fdG fdE : FuncData} (F : Fun K "why" "why" sWhy f fd)
    (GG : FnOk P w K mg base CX0 5 fG fdG ["stones"] spGroups) (gG : mg "groups" = some (.ref fG)) (kG : PySem.W.keepIn K (.ref fG) = true) (bG : Binds K fdG ["stones"] [])
    (GE : FnOk P w K mg base CX0 5 fE fdE ["stones", "group"] (spOddE K)) (gE : mg "odd_ends" = some (.ref fE)) (kE : PySem.W.keepIn K (.ref fE) = true) (bE : Binds K fdE ["stones", "group"] []) : FnOk P w K mg base CX0 6 f fd ["stones"] spWhy := by
  refine F.ok scWhy (fun vs H Q E h => ?_) (fun cdv A outer s H vs Q E hr h => ?_)
  · obtain ⟨a, st, rfl, _⟩ := h
    rfl
  · obtain ⟨a, st, rfl, hS, hG, q⟩ := h
    refine ⟨_, pss_one (ps_ret (pe_lc (own := [("group", 1)]) (g := gName 1) (tt := tYes) rfl scWhy.nd (pi_list (pe_call GG hr (by rfl) gG kG bG .nil pass0 (pa_cons (pv 0) pa_nil))) (blkOk_by (own := [("group", 1)]) (N := ["stones", "group"]) (sc := defScope sWhy) (by decide +kernel))
      (fun _ _ _ _ _ => pg_name (i := 1) scWhy.nd rfl (Or.inl rfl)) (fun _ _ _ _ _ => pts_nil)
      (fun _ _ _ _ _ => pe_tup (pa_cons (pv 1) (pa_cons (pe_call GE hr (by rfl) gE kE bE .nil pass0 (pa_cons (pv 0) (pa_cons (pv 1) pa_nil))) pa_nil))))), ?_⟩
    refine why_comp (a := a) (st := st) (fun _ => rfl) (fun _ => rfl) (fun _ => rfl) hS hG.1 (fun Q hQ => ?_) (fun H' g l hS' hg hlt hl H1 e1 Q1 q1 E1 => ?_) (fun p T H' e n => q p T H' e n)
    · exact ⟨_, rfl, a, st, rfl, hS, hG, hQ⟩
    · exact ⟨a, g, st, l, rfl, hS'.ex e1, hG, e1 _ _ hg, hlt, hl, fun p H2 hp e2 h2 => q1 p H2 hp e2 h2⟩
end
end Sw
namespace Sw
open PySem PySem.Spec PyProof.Rows L2
open Evl (Ex Ex.refl Ex.trans Ex.new Ex.mut ex_l ex_t ex_rd fresh_back Ev EvL EvU EvT EvA RV RC RCL SpV SpL)
section
variable {P : Program} {w : World} {K : PySem.W.Frag} {mg : Str → Option Value} {base : Heap}
theorem scChains : FnScope ["odd"] ["odd"] (defScope sChains) := ⟨rfl, rfl, rfl, by decide +kernel, rfl, by decide +kernel, by decide +kernel⟩
def spChains : Sp := fun vs H Q _ => ∃ (o : Addr) (ks : List Int), vs = [.ref o] ∧ H o = some (.lst (ks.map V.int)) ∧ Q (.int ((max 1 (ks.length / 2) : Nat) : Int)) H
theorem ok_chains {f : Addr} {fd : FuncData} (F : Fun K "_chains_for" "_chains_for" sChains f fd) (mX : mg "max" = none) (mL : mg "len" = none) : FnOk P w K mg base CX0 1 f fd ["odd"] spChains := by
  refine F.ok scChains (fun vs H Q E h => ?_) (fun cdv A outer s H vs Q E hr h => ?_)
  · obtain ⟨o, ks, rfl, _⟩ := h
    rfl
  · obtain ⟨o, ks, rfl, ho, q⟩ := h
    refine ⟨_, pss_one (ps_ret (pe_callB (call_max2 rfl) (by rfl) mX (by decide +kernel) (pa_cons pe_int (pa_cons (pe_op op_fdiv (pe_callB call_len_seq (by rfl) mL boot_len (pa_cons (pv 0) pa_nil)) pe_int) pa_nil)))), ?_⟩
    refine ⟨_, rfl, o, _, rfl, .inl (SqL.of ho), _, _, rfl, rfl, ⟨by decide, by decide⟩, _, _, rfl, ?_⟩
    have e : (if (((ks.map V.int).length : Int) / 2 > 1) then ((ks.map V.int).length : Int) / 2 else 1) = ((max 1 (ks.length / 2) : Nat) : Int) := by
      rw [List.length_map]
      split <;> omega
    show Q (.int (if (((ks.map V.int).length : Int) / 2 > 1) then ((ks.map V.int).length : Int) / 2 else 1)) H
    rw [e]
    exact q
theorem scFew : FnScope ["stones", "group", "odd"] ["stones"] (defScope sFew) := ⟨rfl, rfl, rfl, by decide +kernel, rfl, by decide +kernel, by decide +kernel⟩
def spFew : Sp := fun vs H Q _ => ∃ (a : Addr) (st : List (Int × Int)), vs = [.ref a] ∧ StonesAt H a st ∧ Good st ∧ Evl.RetV (.int (few st : Nat)) H Q
theorem sum_cast : ∀ l : List Nat, (l.map fun n : Nat => (n : Int)).sum = ((l.sum : Nat) : Int)
  | [] => rfl
  | n :: l => by
    rw [List.map_cons, List.sum_cons, List.sum_cons, sum_cast l]
    omega
theorem ok_few {f fW fC : Addr} {fd fdW fdC : FuncData} (F : Fun K "fewest" "fewest" sFew f fd) (mS : mg "sum" = none)
    (GW : FnOk P w K mg base CX0 6 fW fdW ["stones"] spWhy) (gW : mg "why" = some (.ref fW)) (kW : PySem.W.keepIn K (.ref fW) = true) (bW : Binds K fdW ["stones"] [])
    (GC : FnOk P w K mg base CX0 1 fC fdC ["odd"] spChains) (gC : mg "_chains_for" = some (.ref fC)) (kC : PySem.W.keepIn K (.ref fC) = true) (bC : Binds K fdC ["odd"] []) : FnOk P w K mg base CX0 7 f fd ["stones"] spFew := by
  refine F.ok scFew (fun vs H Q E h => ?_) (fun cdv A outer s H vs Q E hr h => ?_)
  · obtain ⟨a, st, rfl, _⟩ := h
    rfl
  · obtain ⟨a, st, rfl, hS, hG, q⟩ := h
    have hr1 : Room 1 _ := hr.mono (by decide)
    refine ⟨_, pss_one (ps_ret (pe_callB (cr_sum rfl) (by rfl) mS (by decide +kernel) (pa_cons (pe_lc (own := [("group", 1), ("odd", 2)]) (g := gTup K 2 (gCons (gName 1) (gCons (gName 2) gNil))) (tt := tYes) rfl scFew.nd (pi_list (pe_call GW hr (by rfl) gW kW bW .nil pass0 (pa_cons (pv 0) pa_nil))) (blkOk_by (own := [("group", 1), ("odd", 2)]) (N := ["stones", "group", "odd"]) (sc := defScope sFew) (by decide +kernel))
      (fun _ _ _ _ _ => pg_tup rfl (pgs_cons (pg_name (i := 1) scFew.nd rfl (Or.inl rfl)) (pgs_cons (pg_name (i := 2) scFew.nd rfl (Or.inl rfl)) pgs_nil))) (fun _ _ _ _ _ => pts_nil)
      (fun _ _ _ _ _ => pe_call GC hr1 (by rfl) gC kC bC .nil pass0 (pa_cons (pv 2) pa_nil))) pa_nil))), ?_⟩
    refine ⟨_, rfl, a, st, rfl, hS, hG, fun p T H1 e1 n1 => ⟨p, rfl, ⟨_, SqL.of n1.at_⟩, fun D nD => ?_⟩⟩
    have gsz := grps_size st
    have tl : T.length ≤ 60 := by
      have h := congrArg List.length n1.gs
      rw [List.length_map] at h
      have := hG.1
      omega
    refine lc_list (xs := T.map fun e => V.ref e.t) (fun k H' => Ex H1 H' ∧ H' D = some (.lst (((T.take k).map fun e => ((max 1 ((odds st e.l).length / 2) : Nat) : Int)).map V.int)))
      ⟨Ex.new nD, upd_same⟩ (fun k H' _ h => SqL.of (h.1 _ _ n1.at_)) ?_ ?_
    · rintro k x H2 hk ⟨e2, hD⟩
      rw [List.getElem?_map] at hk
      obtain ⟨e, he, rfl⟩ := Option.map_eq_some_iff.mp hk
      obtain ⟨_, _, q1, q2, q3⟩ := n1.in_ e (List.mem_of_getElem? he)
      refine ⟨e.t, [.ref e.g, .ref e.o], rfl, SqT.of (e2 _ _ q1), rfl, .ref e.g, [.ref e.o], rfl, .ref e.o, [], rfl, rfl, rfl, ?_⟩
      unfold tYes
      dsimp only
      rw [if_pos rfl]
      refine ⟨_, rfl, e.o, odds st e.l, rfl, e2 _ _ q3, _, hD, ?_, Ex.mut e2 nD, ?_⟩
      · rw [List.length_map, List.length_map, List.length_take]
        exact small1000 (by have := Nat.min_le_right k T.length; omega)
      · rw [upd_same, List.take_add_one, he, Option.toList_some, List.map_append, List.map_append]
        rfl
    · rintro H2 ⟨e2, hD⟩
      rw [List.length_map, List.take_length] at hD
      refine ⟨D, _, rfl, SqL.of hD, ?_⟩
      have es : (T.map fun e => ((max 1 ((odds st e.l).length / 2) : Nat) : Int)).sum = ((few st : Nat) : Int) := by
        unfold few
        rw [← sum_cast, ← n1.gs, List.map_map, List.map_map]
        rfl
      rw [es]
      exact q _ (e1.trans e2)
end
end Sw
namespace Sw
open PySem PySem.Spec PyProof.Rows L2
open Evl (Ex Ex.refl Ex.trans Ex.new Ex.mut ex_l ex_t ex_rd fresh_back Ev EvL EvU EvT EvA RV RC RCL SpV SpL)
section
variable {K : PySem.W.Frag} {σ : L2.St} {H H' : Hp} {ta tb te : TE} {st su : List (Int × Int)}
/-- fewest of such -/
theorem ev_few {E : XK} (h : EvSt te σ H st) (hG : Good st) : Ev (tCall spFew [] E (tCons te tNil)) σ H (.int ((few st : Nat) : Int)) := fun H1 e Q q =>
  h H1 e _ fun p H2 e2 hS => ⟨p, st, rfl, hS, hG, fun H3 e3 => q H3 (e2.trans e3)⟩
end
end Sw
namespace Sw
open PySem PySem.Spec PyProof.Rows L2
open Evl (Ex Ex.refl Ex.trans Ex.new Ex.mut ex_l ex_t ex_rd fresh_back Ev EvL EvU EvT EvA RV RC RCL SpV SpL)
theorem allE_take {st : List (Int × Int)} {i : Nat} (h : i < st.length) : allE (st.take (i + 1)) = allE (st.take i) ++ [sa st i, sb st i] := by
  rw [List.take_add_one, st_at h, Option.toList_some, allE_append]
  rfl
theorem allE_len (st : List (Int × Int)) : (allE st).length = 2 * st.length := by
  rw [← allE_range, endsOf_len, List.length_range]
theorem flat_ints (l : List Int) : (l.map V.int).all flatV = true := by
  rw [List.all_eq_true]
  intro v hv
  obtain ⟨k, _, e⟩ := List.mem_map.mp hv
  rw [← e]
  rfl
theorem inI_ints (x : Int) (l : List Int) : inV (.int x) (l.map V.int) = decide (x ∈ l) := by
  unfold inV
  rw [List.any_map]
  refine Bool.eq_iff_iff.mpr ?_
  rw [List.any_eq_true, decide_eq_true_eq]
  constructor
  · rintro ⟨y, hy, e⟩
    have e : (y == x) = true := e
    rw [← eq_of_beq e]
    exact hy
  · intro h
    exact ⟨x, h, beq_self_eq_true x⟩
section
variable {P : Program} {w : World} {K : PySem.W.Frag} {mg : Str → Option Value} {base : Heap}
/-! ### _law_apart -/
theorem scAp : FnScope ["_law_stones_here", "_law_many", "_law_used", "_law_stone", "_law_free", "_law_number", "_law_k"] ["_law_stones_here", "_law_many"] (defScope sLApart) := ⟨rfl, rfl, rfl, by decide +kernel, rfl, by decide +kernel, by decide +kernel⟩
def spLApart : Sp := fun vs H Q _ => ∃ (a : Addr) (st : List (Int × Int)) (m : Nat), vs = [.ref a, .int (m : Int)] ∧ StonesAt H a st ∧ st.length ≤ 60 ∧ m ≤ 9 ∧ ∀ p H', Ex H H' → StonesAt H' p (apartL (allE st) m) → Q (.ref p) H'
theorem ok_lapart {f : Addr} {fd : FuncData} (F : Fun K "_law_apart" "_law_apart" sLApart f fd) (mR : mg "range" = none) (mLi : mg "list" = none) : FnOk P w K mg base CX0 1 f fd ["_law_stones_here", "_law_many"] spLApart := by
  refine F.ok scAp (fun vs H Q E h => ?_) (fun cdv A outer s H vs Q E hr h => ?_)
  · obtain ⟨a, st, m, rfl, _⟩ := h
    rfl
  · obtain ⟨a, st, m, rfl, hS, hl, hm, q⟩ := h
    refine ⟨_, pss_cons (ps_set (i := 2) scAp.nd rfl (.inr rfl) (pe_lst pa_nil))
      (pss_cons (ps_for PassesOwn.never rfl (pi_list (pv 0)) (pg_name (i := 3) scAp.nd rfl (.inl rfl))
        (pss_one (ps_set (i := 2) scAp.nd rfl (.inr rfl) (pe_op op_cat (pv 2) (pe_callTy call_list_of (by rfl) mLi PyProof.Rows.boot_list (pa_cons (pv 3) pa_nil))))))
      (pss_cons (ps_set (i := 4) scAp.nd rfl (.inr rfl) (pe_lc (own := [("_law_number", 5)]) (g := gName 5) (tt := tTest (tOp (rIn K true) (tVar 5) (tVar 2))) rfl scAp.nd (pi_range1 (by rfl) mR (pa_cons pe_int pa_nil))
          (blkOk_by (own := [("_law_number", 5)]) (N := ["_law_stones_here", "_law_many", "_law_used", "_law_stone", "_law_free", "_law_number", "_law_k"]) (sc := defScope sLApart) (by decide +kernel))
          (fun _ _ _ _ _ => pg_name (i := 5) scAp.nd rfl (Or.inl rfl)) (fun _ _ _ _ _ => pts_one (pt_cmpR (r := rIn K true) op_notIn_seq (pv 5) (pv 2) (by rfl))) (fun _ _ _ _ _ => pv 5)))
      (pss_one (ps_ret (pe_lc (own := [("_law_k", 6)]) (g := gName 6) (tt := tYes) rfl scAp.nd (pi_range1 (by rfl) mR (pa_cons (pv 1) pa_nil))
          (blkOk_by (own := [("_law_k", 6)]) (N := ["_law_stones_here", "_law_many", "_law_used", "_law_stone", "_law_free", "_law_number", "_law_k"]) (sc := defScope sLApart) (by decide +kernel))
          (fun _ _ _ _ _ => pg_name (i := 6) scAp.nd rfl (Or.inl rfl)) (fun _ _ _ _ _ => pts_nil)
          (fun _ _ _ _ _ => pe_tup (pa_cons (pe_ix (r := rIxL K) ix_list (pv 4) (pe_op op_mul pe_int (pv 6)) (fun _ _ => rfl)) (pa_cons (pe_ix (r := rIxL K) ix_list (pv 4) (pe_op op_add (pe_op op_mul pe_int (pv 6)) pe_int) (fun _ _ => rfl)) pa_nil)))))))), ?_⟩
    obtain ⟨ts, t1, t2, t3⟩ := id hS
    refine ⟨Nat.zero_le _, fun u0 nu0 => ?_⟩
    have e0 : Ex H (upd H u0 (.lst [])) := Ex.new nu0
    refine Evl.q_forL (K := K) (a := a) (xs := ts.map V.ref) (Evl.ev_var rfl) (SqL.of (e0 _ _ t1)) (fun i σ H' => Ex H H' ∧ ∃ u x3, σ = [some (.ref a), some (.int (m : Int)), some (.ref u), x3, none, none, none] ∧ H' u = some (.lst ((allE (st.take i)).map V.int)))
      (fun H1 e1 => ⟨e0.trans e1, u0, none, rfl, e1 _ _ upd_same⟩) (fun i σ' H' _ h => SqL.of (h.1 _ _ t1)) ?_ ?_
    · rintro i y σ' H1 hi ⟨e1, u, x3, rfl, hu⟩
      rw [List.getElem?_map] at hi
      obtain ⟨t, ht, rfl⟩ := Option.map_eq_some_iff.mp hi
      have il : i < st.length := by
        have := (List.getElem?_eq_some_iff.mp ht).1
        omega
      have htt := e1 _ _ (t3 i t _ ht (st_at il))
      refine ⟨_, rfl, _, rfl, t, _, rfl, .inr (SqT.of htt), fun l nl => ?_⟩
      have e2 : Ex H1 (upd H1 l (.lst [.int (sa st i), .int (sb st i)])) := Ex.new nl
      refine ⟨u, l, _, _, rfl, rfl, e2 _ _ hu, upd_same, ?_, fun p np => ?_⟩
      · rw [List.length_map, allE_len, List.length_take]
        exact Evl.sz_of (by have := Nat.min_le_right i st.length; show 2 * min i st.length + 2 ≤ _; omega)
      · refine ⟨(e1.trans e2).trans (Ex.new np), p, _, rfl, ?_⟩
        rw [upd_same, allE_take il, List.map_append]
        rfl
    · rintro σ' H1 ⟨e1, u, x3, rfl, hu⟩
      rw [List.length_map, t2, List.take_length] at hu
      have fl := free_len (allE st)
      rw [allE_len] at fl
      refine Evl.q_asgL (xs := (freeN (allE st)).map fun n : Nat => V.int (n : Int)) ?_ fun fp H2 nfp e2 hfp => ?_
      · have h := Evl.el_lcR1 (σ := [some (.ref a), some (.int (m : Int)), some (.ref u), x3, none, none, none]) (H := H1) (j := 5) (vs := [5]) (n := 200) (te := tVar 5) (t := tTest (tOp (rIn K true) (tVar 5) (tVar 2))) (fun i => decide ((i : Int) ∉ allE st)) (fun i => .int (i : Int)) (Evl.ea_cons Evl.ev_c Evl.ea_nil) (by decide) (fun _ => rfl)
          (fun i H3 e3 _ => Evl.et_is (Evl.et_test (Evl.ev_op (Evl.ev_var rfl) (Evl.ev_var rfl) (Evl.rv_niL (SqL.of (e3 _ _ hu)) rfl (flat_ints _)))) (by rw [inI_ints, decide_not]))
          (fun i H3 e3 _ _ => Evl.ev_var rfl)
        exact h
      have e12 := e1.trans e2
      refine ⟨_, rfl, (m : Int), rfl, by omega, by omega, fun D nD => ?_⟩
      refine lc_range (lo := 0) (n := m) (fun k H' => ∃ rs : List Addr, Ex H2 H' ∧ H' D = some (.lst (rs.map V.ref)) ∧ rs.length = k ∧ ∀ (i : Nat) (t : Addr) (s : Int × Int), rs[i]? = some t → (apartL (allE st) k)[i]? = some s → t ≠ D ∧ H' t = some (.tup [.int s.1, .int s.2]))
        ⟨[], Ex.new nD, upd_same, rfl, fun i t s e => by simp at e⟩ ?_ ?_
      · rintro k H3 hk ⟨rs, e3, hD, hrs, hin⟩
        rw [Int.zero_add]
        refine ⟨rfl, ?_⟩
        unfold tYes
        dsimp only
        rw [if_pos rfl]
        have at_ : ∀ j, j < (freeN (allE st)).length → atI ((freeN (allE st)).map fun n : Nat => V.int (n : Int)) (j : Int) = some (.int (((freeN (allE st)).getD j 0 : Nat) : Int)) := fun j hj => by
          refine atI_nat ?_
          rw [List.getElem?_map, List.getElem?_eq_getElem hj, List.getD_eq_getElem?_getD, List.getElem?_eq_getElem hj]
          rfl
        have c1 : (2 : Int) * (k : Int) = ((2 * k : Nat) : Int) := by omega
        have c2 : (2 : Int) * (k : Int) + 1 = ((2 * k + 1 : Nat) : Int) := by omega
        refine ⟨_, rfl, _, rfl, _, _, rfl, rfl, .inl ⟨by decide, by decide⟩, fp, _, _, _, rfl, rfl, SqL.of (e3 _ _ hfp), by rw [c1]; exact at_ (2 * k) (by omega), ?_⟩
        refine ⟨_, rfl, _, rfl, _, _, rfl, rfl, .inl ⟨by decide, by decide⟩, _, _, rfl, rfl, fp, _, _, _, rfl, rfl, SqL.of (e3 _ _ hfp), by rw [c2]; exact at_ (2 * k + 1) (by omega), ?_⟩
        refine ⟨by show 2 ≤ sizeLine; decide, fun t nt => ?_⟩
        have Dt : D ≠ t := ne_of_none hD nt
        refine ⟨rs.map V.ref, by rw [upd_ne Dt]; exact hD, by rw [List.length_map, hrs]; exact small1000 (by omega), rs ++ [t], Ex.mut (e3.trans (Ex.new nt)) nD, ?_, ?_, fun i t' s g1 g2 => ?_⟩
        · rw [upd_same, List.map_append]
          rfl
        · rw [List.length_append, hrs]
          rfl
        · rw [apart_succ] at g2
          by_cases c : i < k
          · rw [List.getElem?_append_left (by omega)] at g1
            rw [List.getElem?_append_left (by rw [apart_len]; exact c)] at g2
            obtain ⟨n1, n2⟩ := hin i t' s g1 g2
            have n3 : t' ≠ t := fun z => by
              rw [z, nt] at n2
              cases n2
            exact ⟨n1, by rw [upd_ne n1, upd_ne n3]; exact n2⟩
          · rw [List.getElem?_append_right (by omega)] at g1
            rw [List.getElem?_append_right (by rw [apart_len]; omega)] at g2
            have z : i - rs.length = 0 := by
              have := (List.getElem?_eq_some_iff.mp g1).1
              simp at this
              omega
            rw [z] at g1
            rw [apart_len, ← hrs, z] at g2
            have g1 : t = t' := Option.some.inj g1
            have g2 := Option.some.inj g2
            subst g1 g2
            exact ⟨fun z => Dt z.symm, by rw [upd_ne (fun z => Dt z.symm), upd_same, hrs]⟩
      · rintro H3 ⟨rs, e3, hD, hrs, hin⟩
        exact q D H3 (e12.trans e3) ⟨rs, hD, by rw [apart_len, hrs], fun i t s g1 g2 => (hin i t s g1 g2).2⟩
end
end Sw
namespace Sw
open PySem PySem.Spec PyProof.Rows L2
open Evl (Ex Ex.refl Ex.trans Ex.new Ex.mut ex_l ex_t ex_rd fresh_back Ev EvL EvU EvT EvA RV RC RCL SpV SpL)
theorem good_nil : Good [] := ⟨Nat.zero_le _, fun s h => nomatch h⟩
theorem few_nil : few [] = 0 := rfl
theorem good_sub {st su : List (Int × Int)} (h : Good st) (hl : su.length ≤ 60) (hs : ∀ s ∈ su, s ∈ st) : Good su := ⟨hl, fun s m => h.2 s (hs s m)⟩
theorem goodS_small {x y : Int} (h1 : 0 ≤ x) (h2 : x < 1000) (h3 : 0 ≤ y) (h4 : y < 1000) : GoodS (x, y) := ⟨⟨h1, by show x ≤ 999999; omega⟩, h3, by show y ≤ 999999; omega⟩
theorem good_apart {st : List (Int × Int)} {m : Nat} (hl : st.length ≤ 60) (hm : m ≤ 9) : ∀ s ∈ apartL (allE st) m, GoodS s := fun s hs => by
  have fl := free_len (allE st)
  rw [allE_len] at fl
  obtain ⟨k, hk, rfl⟩ := List.mem_map.mp hs
  have hk := List.mem_range.mp hk
  have a1 := (free_get (u := allE st) (i := 2 * k) (by omega)).2
  have a2 := (free_get (u := allE st) (i := 2 * k + 1) (by omega)).2
  exact goodS_small (by omega) (by omega) (by omega) (by omega)
theorem app_good {st su : List (Int × Int)} (h : ∀ s ∈ st, GoodS s) (k : ∀ s ∈ su, GoodS s) (hl : st.length + su.length ≤ 60) : Good (st ++ su) := ⟨by rw [List.length_append]; exact hl, fun s m => (List.mem_append.mp m).elim (h s) (k s)⟩
theorem near_abs {x y : Nat} (h : x ≤ y + 1 ∧ y ≤ x + 1) : decide (1 < (if ((x : Int) - (y : Int)) < 0 then -((x : Int) - (y : Int)) else (x : Int) - (y : Int))) = false := by
  refine decide_eq_false ?_
  split <;> omega
section
variable {P : Program} {w : World} {K : PySem.W.Frag} {mg : Str → Option Value} {base : Heap}
variable {σ : L2.St} {H : Hp} {ta tb te : TE} {st su : List (Int × Int)}
def rAbs : List V → Hp → VK → Prop := fun xs H Q => ∃ i, xs = [.int i] ∧ Q (.int (if i < 0 then -i else i)) H
theorem ev_abs {i : Int} (h : Ev te σ H (.int i)) : Ev (tCB rAbs (tCons te tNil)) σ H (.int (if i < 0 then -i else i)) := Evl.ev_cb (Evl.ea_cons h Evl.ea_nil) fun H1 _ Q q => ⟨i, rfl, q H1 (Ex.refl H1)⟩
def rMin2 : List V → Hp → VK → Prop := fun xs H Q => ∃ i j, xs = [.int i, .int j] ∧ Q (.int (if j < i then j else i)) H
theorem ev_min2 {i j : Int} (h : Ev ta σ H (.int i)) (k : Ev tb σ H (.int j)) : Ev (tCB rMin2 (tCons ta (tCons tb tNil))) σ H (.int (if j < i then j else i)) := Evl.ev_cb (Evl.ea_cons h (Evl.ea_cons k Evl.ea_nil)) fun H1 _ Q q => ⟨i, j, rfl, q H1 (Ex.refl H1)⟩
theorem rv_mod {i j : Int} (h : 0 < j) : RV rModP (.int i) (.int j) H (.int (i % j)) := Evl.rv_I (C := fun _ j => 0 < j) (g := fun i j => .int (i % j)) h
theorem rv_div {i j : Int} (h : CDiv i j) : RV (rI CDiv fun i j => .int (i / j)) (.int i) (.int j) H (.int (i / j)) := Evl.rv_I (g := fun i j => .int (i / j)) h
theorem et_some {i : Nat} {a : Addr} (h : σ[i]? = some (some (.ref a))) (hS : StonesAt H a st) (hl : st.length ≤ 1000) : EvT (tTest (tOp (rNeD K) (tVar i) (tLst tNil))) σ H (!decide (st = [])) := fun H1 e Q q => by
  refine ⟨_, h, Nat.zero_le _, fun p np => ⟨dStones st, dStones [], Dt.dp _ _ ((hS.ex e).ex (Ex.new np)).dt, Dt.dp _ _ (stones_nil upd_same).dt, (lay_stones st hl).shaped (by decide), (lay_stones [] (by decide)).shaped (by decide), _, rfl, ?_⟩⟩
  rw [eqv_stones]
  exact q _ (Ex.new np)
theorem es_apart {E : XK} {a : Addr} {m : Nat} {i : Nat} (h : σ[i]? = some (some (.ref a))) (hS : StonesAt H a st) (hl : st.length ≤ 60) (hm : m ≤ 9) (k : Ev te σ H (.int (m : Int))) : EvSt (tCall spLApart [] E (tCons (tVar i) (tCons te tNil))) σ H (apartL (allE st) m) := fun H1 e Q q =>
  ⟨_, h, k H1 e _ fun H2 e2 => ⟨a, st, m, rfl, hS.ex (e.trans e2), hl, hm, fun p H3 e3 h3 => q p H3 (e2.trans e3) h3⟩⟩
/-- stones[:n] of a call's -/
theorem sl_take {a : Addr} {n : Nat} {Q : VK} (hS : StonesAt H a st) (q : ∀ p H1, Ex H H1 → StonesAt H1 p (st.take n) → Q (.ref p) H1) : rSlL K (.ref a) none (some (n : Int)) H Q := by
  obtain ⟨v, hv, i, hi, h⟩ := es_take (K := K) (σ := [some (.ref a)]) (es_var (i := 0) rfl hS) Evl.eo_none (Evl.eo_some (i := (n : Int)) Evl.ev_c) H (Ex.refl H) Q fun p H1 e h => q p H1 e h
  cases hv
  cases hi
  exact h
theorem et_same {x : Int} (h : Ev ta σ H (.int x)) (k : Ev tb σ H (.int x)) : EvT (tTest (tOp rNe ta tb)) σ H false := Evl.et_is (Evl.et_test (Evl.ev_op h k (Evl.rv_ne rfl))) (by rw [decide_eq_true rfl]; rfl)
theorem et_near {x y : Nat} (h : Ev ta σ H (.int (x : Int))) (k : Ev tb σ H (.int (y : Int))) (hn : x ≤ y + 1 ∧ y ≤ x + 1) : EvT (tTest (tOp (rI0 fun i j => .bl (decide (j < i))) (tCB rAbs (tCons (tOp (rI0 fun i j => .int (i - j)) ta tb) tNil)) (tC (.int 1)))) σ H false :=
  Evl.et_is (Evl.et_test (Evl.ev_op (ev_abs (Evl.ev_op h k Evl.rv_I0)) Evl.ev_c Evl.rv_I0)) (near_abs hn)
/-- each as it is, or turned -/
def Trn (st su : List (Int × Int)) : Prop := ∀ (i : Nat) (s t : Int × Int), st[i]? = some s → su[i]? = some t → t = s ∨ t = (s.2, s.1)
theorem scLaw : FnScope ["_law_script", "_law_stones_here", "_law_many", "_law_more", "_law_few", "_law_at", "_law_k", "_law_cell_here", "_law_new", "_law_one", "_law_turned", "_law_stone"] ["_law_script"] (defScope sLaw) := ⟨rfl, rfl, rfl, by decide +kernel, rfl, by decide +kernel, by decide +kernel⟩
def spLaw (K : PySem.W.Frag) : Sp := fun vs H Q _ => ∃ (a : Addr) (ns : List Int), vs = [.ref a] ∧ SqL K H a (ns.map V.int) ∧ ns.length ≤ 63 ∧ ∀ H', Q (.bl true) H'
theorem ok_law {f fS fC fP fF : Addr} {fd fdS fdC fdP fdF : FuncData} (F : Fun K "law" "law" sLaw f fd) (mL : mg "len" = none) (mR : mg "range" = none) (mN : mg "min" = none) (mAb : mg "abs" = none) (mE : mg "enumerate" = none)
    (GS : FnOk P w K mg base CX0 2 fS fdS ["_law_script"] (spStones K)) (gS : mg "_law_stones" = some (.ref fS)) (kS : PySem.W.keepIn K (.ref fS) = true) (bS : Binds K fdS ["_law_script"] [])
    (GC : FnOk P w K mg base CX0 1 fC fdC ["_law_script", "_law_k"] (spCellS K)) (gC : mg "_law_cell" = some (.ref fC)) (kC : PySem.W.keepIn K (.ref fC) = true) (bC : Binds K fdC ["_law_script", "_law_k"] [])
    (GP : FnOk P w K mg base CX0 1 fP fdP ["_law_stones_here", "_law_many"] spLApart) (gP : mg "_law_apart" = some (.ref fP)) (kP : PySem.W.keepIn K (.ref fP) = true) (bP : Binds K fdP ["_law_stones_here", "_law_many"] [])
    (GF : FnOk P w K mg base CX0 7 fF fdF ["stones"] spFew) (gF : mg "fewest" = some (.ref fF)) (kF : PySem.W.keepIn K (.ref fF) = true) (bF : Binds K fdF ["stones"] []) : FnOk P w K mg base CX0 8 f fd ["_law_script"] (spLaw K) := by
  refine F.ok scLaw (fun vs H Q E h => ?_) (fun cdv A outer s H vs Q E hr h => ?_)
  · obtain ⟨a, ns, rfl, _⟩ := h
    rfl
  · obtain ⟨a, ns, rfl, hS, hl, q⟩ := h
    have hr1 : Room 1 _ := hr.mono (by decide)
    have hr2 : Room 2 _ := hr.mono (by decide)
    refine ⟨_, pss_cons (ps_set (i := 1) scLaw.nd rfl (.inl rfl) (pe_slice sl_list (pe_call GS hr2 (by rfl) gS kS bS .nil pass0 (pa_cons (pv 0) pa_nil)) po_none (po_some pe_int)))
      (pss_cons (ps_set (i := 2) scLaw.nd rfl (.inl rfl) (pe_call GF hr (by rfl) gF kF bF .nil pass0 (pa_cons (pv 1) pa_nil)))
      (pss_cons (ps_set (i := 3) scLaw.nd rfl (.inl rfl) (pe_call GP hr1 (by rfl) gP kP bP .nil pass0 (pa_cons (pv 1) (pa_cons (pe_op (r := rModP) op_mod (pe_call GC hr1 (by rfl) gC kC bC .nil pass0 (pa_cons (pv 0) (pa_cons pe_int pa_nil))) pe_int) pa_nil))))
      (pss_cons (ps_set (i := 4) scLaw.nd rfl (.inl rfl) (pe_slice sl_list (pv 1) po_none (po_some pe_int)))
      (pss_cons (ps_if (PW.pt (pw_or (pt_cmpR op_ne (pe_call GF hr (by rfl) gF kF bF .nil pass0 (pa_cons (pe_lst pa_nil) pa_nil)) pe_int (nomark _))
          (pw_or (pt_cmpR op_ne (pe_call GF hr (by rfl) gF kF bF .nil pass0 (pa_cons (pv 3) pa_nil)) (pe_callB (r := Evl.rLenS K) call_len_seq (by rfl) mL boot_len (pa_cons (pv 3) pa_nil)) (nomark _))
          (pw_or1 (pt_cmpR op_ne (pe_call GF hr (by rfl) gF kF bF .nil pass0 (pa_cons (pe_op op_cat (pv 4) (pv 3)) pa_nil)) (pe_op op_add (pe_call GF hr (by rfl) gF kF bF .nil pass0 (pa_cons (pv 4) pa_nil)) (pe_callB (r := Evl.rLenS K) call_len_seq (by rfl) mL boot_len (pa_cons (pv 3) pa_nil))) (nomark _)))))) (pss_one ps_never) pss_nil)
      (pss_cons (ps_for PassesOwn.never rfl (pi_range1 (by rfl) mR (pa_cons (pe_callB (r := rMin2) (call_min2 rfl) (by rfl) mN (by decide +kernel) (pa_cons (pe_callB (r := Evl.rLenS K) call_len_seq (by rfl) mL boot_len (pa_cons (pv 1) pa_nil)) (pa_cons pe_int pa_nil))) pa_nil)) (pg_name (i := 5) scLaw.nd rfl (.inl rfl))
        (pss_one (ps_if (pt_cmpR op_gt (pe_callB (r := rAbs) call_abs (by rfl) mAb (by decide +kernel) (pa_cons (pe_op op_sub (pe_call GF hr (by rfl) gF kF bF .nil pass0 (pa_cons (pe_op op_cat (pe_slice sl_list (pv 1) po_none (po_some (pv 5))) (pe_slice sl_list (pv 1) (po_some (pe_op op_add (pv 5) pe_int)) po_none)) pa_nil)) (pv 2)) pa_nil)) pe_int (nomark _)) (pss_one ps_never) pss_nil)))
      (pss_cons (ps_for PassesOwn.never rfl (pi_range1 (by rfl) mR (pa_cons pe_int pa_nil)) (pg_name (i := 6) scLaw.nd rfl (.inl rfl))
        (pss_cons (ps_set (i := 7) scLaw.nd rfl (.inl rfl) (pe_call GC hr1 (by rfl) gC kC bC .nil pass0 (pa_cons (pv 0) (pa_cons (pe_op op_add pe_int (pv 6)) pa_nil))))
        (pss_cons (ps_set (i := 5) scLaw.nd rfl (.inl rfl) (pe_op (r := rModP) op_mod (pv 7) (pe_op op_add (pe_callB (r := Evl.rLenS K) call_len_seq (by rfl) mL boot_len (pa_cons (pv 1) pa_nil)) pe_int)))
        (pss_cons (ps_set (i := 8) scLaw.nd rfl (.inl rfl) (pe_tup (pa_cons (pe_op (r := rModP) op_mod (pe_op op_fdiv (pv 7) pe_int) pe_int) (pa_cons (pe_op (r := rModP) op_mod (pe_op op_fdiv (pv 7) pe_int) pe_int) pa_nil))))
        (pss_cons (ps_if (pt_cmpR op_gt (pe_callB (r := rAbs) call_abs (by rfl) mAb (by decide +kernel) (pa_cons (pe_op op_sub (pe_call GF hr (by rfl) gF kF bF .nil pass0 (pa_cons (pe_op op_cat (pe_op op_cat (pe_slice sl_list (pv 1) po_none (po_some (pv 5))) (pe_lst (pa_cons (pv 8) pa_nil))) (pe_slice sl_list (pv 1) (po_some (pv 5)) po_none)) pa_nil)) (pv 2)) pa_nil)) pe_int (nomark _)) (pss_one ps_never) pss_nil)
        (pss_one (ps_if (pt_cmpR (op_neD hr.units) (pv 1) (pe_lst pa_nil) (nomark _))
          (pss_cons (ps_set (i := 9) scLaw.nd rfl (.inl rfl) (pe_ix (r := rIxT K) ix_tup (pe_ix (r := rIxL K) ix_list (pv 1) (pe_op (r := rModP) op_mod (pe_op op_fdiv (pv 7) pe_int) (pe_callB (r := Evl.rLenS K) call_len_seq (by rfl) mL boot_len (pa_cons (pv 1) pa_nil))) (fun _ _ => rfl)) (pe_op (r := rModP) op_mod (pv 7) pe_int) (fun _ _ => rfl)))
          (pss_one (ps_if (pt_cmpR op_ne (pe_call GF hr (by rfl) gF kF bF .nil pass0 (pa_cons (pe_op op_cat (pv 1) (pe_lst (pa_cons (pe_tup (pa_cons (pv 9) (pa_cons (pv 9) pa_nil))) pa_nil))) pa_nil)) (pv 2) (nomark _)) (pss_one ps_never) pss_nil))) pss_nil)))))))
      (pss_cons (ps_setLc (i := 10) (own := [("_law_k", 6), ("_law_stone", 11)]) (g := gTup K 2 (gCons (gName 6) (gCons (gName 11) gNil))) (tt := tYes) rfl scLaw.nd rfl rfl (sw_true rfl rfl rfl (by decide +kernel)) (pi_enum (by rfl) mE (pa_cons (pv 1) pa_nil))
          (blkOk_by (own := [("_law_k", 6), ("_law_stone", 11)]) (N := ["_law_script", "_law_stones_here", "_law_many", "_law_more", "_law_few", "_law_at", "_law_k", "_law_cell_here", "_law_new", "_law_one", "_law_turned", "_law_stone"]) (sc := defScope sLaw) (by decide +kernel))
          (fun _ _ _ _ _ => pg_tup rfl (pgs_cons (pg_name (i := 6) scLaw.nd rfl (Or.inl rfl)) (pgs_cons (pg_name (i := 11) scLaw.nd rfl (Or.inl rfl)) pgs_nil))) (fun _ _ _ _ _ => pts_nil)
          (fun _ _ _ _ _ => pe_ix (r := rIxL K) ix_list (pe_lst (pa_cons (pv 11) (pa_cons (te := tRevT K (tVar 11)) (pe_revT (pv 11)) pa_nil))) (pe_op (r := rModP) op_mod (pe_call GC hr1 (by rfl) gC kC bC .nil pass0 (pa_cons (pv 0) (pa_cons (pe_op op_add pe_int (pv 6)) pa_nil))) pe_int) (fun _ _ => rfl)))
      (pss_cons (ps_set (i := 5) scLaw.nd rfl (.inl rfl) (pe_op (r := rModP) op_mod (pe_call GC hr1 (by rfl) gC kC bC .nil pass0 (pa_cons (pv 0) (pa_cons pe_int pa_nil))) (pe_op op_add (pe_callB (r := Evl.rLenS K) call_len_seq (by rfl) mL boot_len (pa_cons (pv 1) pa_nil)) pe_int)))
      (pss_one (ps_ret (pe_and (pe_cmpR op_eq (pe_call GF hr (by rfl) gF kF bF .nil pass0 (pa_cons (pv 10) pa_nil)) (pv 2) (nomark _))
        (pe_one (pe_cmpR op_eq (pe_call GF hr (by rfl) gF kF bF .nil pass0 (pa_cons (pe_op op_cat (pe_slice sl_list (pv 1) (po_some (pv 5)) po_none) (pe_revL (pe_slice sl_list (pv 1) po_none (po_some (pv 5))))) pa_nil)) (pv 2) (nomark _)))))))))))))), ?_⟩
    refine ⟨_, rfl, a, ns, rfl, hS, hl, fun sp st0 H1 e1 np hG0 hS0 => ⟨59, rfl, sl_take (n := 59) hS0 fun sa1 H2 e2 hSt => ?_⟩⟩
    have hG : Good (st0.take 59) := good_sub hG0 (by rw [List.length_take]; omega) fun s m => List.mem_of_mem_take m
    have hL : (st0.take 59).length ≤ 59 := by
      rw [List.length_take]
      omega
    have hN : SqL K H2 a (ns.map V.int) := ex_l (e1.trans e2) hS
    generalize st0.take 59 = st at hSt hG hL
    clear hS0 hG0 e1 e2 np
    refine Evl.q_asg (v := .int ((few st : Nat) : Int)) (ev_few (es_var rfl hSt) hG) fun H3 e3 => ?_
    have hN3 := ex_l (K := K) e3 hN
    have hS3 := hSt.ex e3
    have c0 := cellF_0 ns 8
    have hm : cellF ns 8 % 10 = (((cellF ns 8 % 10).toNat : Nat) : Int) := by omega
    have hm9 : (cellF ns 8 % 10).toNat ≤ 9 := by omega
    generalize (cellF ns 8 % 10).toNat = m at hm hm9
    refine q_st (st := apartL (allE st) m) (es_apart (m := m) rfl hS3 (by omega) hm9 (Evl.ev_is (Evl.ev_op (Evl.ev_call (Evl.ea_cons (Evl.ev_var rfl) (Evl.ea_cons Evl.ev_c Evl.ea_nil)) (pv_cell hN3 hl)) Evl.ev_c (rv_mod (by decide))) (by rw [hm]))) fun mp H4 e4 hM => ?_
    have hS4 := hS3.ex e4
    refine q_st (st := st.take 50) (es_take (n := 50) (es_var rfl hS4) Evl.eo_none (Evl.eo_some Evl.ev_c)) fun fp H5 e5 hF => ?_
    have hS5 := hS4.ex e5
    have hM5 := hM.ex e5
    have fl := free_len (allE st)
    rw [allE_len] at fl
    have gA := good_apart (st := st) (m := m) (by omega) hm9
    have hG1 : Good (apartL (allE st) m) := ⟨by rw [apart_len]; omega, gA⟩
    have hG2 : Good (st.take 50) := good_sub hG (by rw [List.length_take]; omega) fun s m => List.mem_of_mem_take m
    have hG3 : Good (st.take 50 ++ apartL (allE st) m) := app_good hG2.2 gA (by rw [List.length_take, apart_len]; omega)
    have w1 : few (apartL (allE st) m) = m := by
      have := few_apart (st := []) (u := allE st) (fun x hx => by obtain ⟨s, hs, _⟩ := hx; cases hs) m (by omega)
      rw [List.nil_append, few_nil, Nat.zero_add] at this
      exact this
    have w2 : few (st.take 50 ++ apartL (allE st) m) = few (st.take 50) + m := few_apart (fun x hx => by
      obtain ⟨s, hs, e⟩ := hx
      exact mem_allE.mpr ⟨s, List.mem_of_mem_take hs, e⟩) m (by omega)
    refine Evl.q_when (b := false) (Evl.et_or (a := false) (b := false) (et_same (x := 0) (Evl.ev_is (ev_few es_nil good_nil) rfl) Evl.ev_c) fun _ => Evl.et_or (a := false) (b := false)
      (et_same (x := (m : Int)) (Evl.ev_is (ev_few (es_var rfl hM5) hG1) (by rw [w1])) (Evl.ev_is (ev_lenSt rfl hM5) (by rw [apart_len])))
      fun _ => et_same (x := (((few (st.take 50) + m : Nat)) : Int)) (Evl.ev_is (ev_few (es_cat (es_var rfl hF) (es_var rfl hM5) (by rw [List.length_take, apart_len]; omega)) hG3) (by rw [w2]))
        (Evl.ev_is (Evl.ev_op (ev_few (es_var rfl hF) hG2) (ev_lenSt rfl hM5) Evl.rv_I0) (by rw [apart_len]; rfl))) (fun h => nomatch h) fun _ H6 e6 => ?_
    have hS6 := hS5.ex e6
    have hN6 := ex_l (K := K) ((e4.trans e5).trans e6) hN3
    -- one left out
    have n0 : 0 ≤ (if (20 : Int) < (st.length : Int) then (20 : Int) else (st.length : Int)) ∧ (if (20 : Int) < (st.length : Int) then (20 : Int) else (st.length : Int)) ≤ 100000 := by split <;> omega
    refine Evl.q_forR1 (n := if (20 : Int) < (st.length : Int) then (20 : Int) else (st.length : Int)) (Evl.ea_cons (ev_min2 (ev_lenSt rfl hS6) Evl.ev_c) Evl.ea_nil) n0
      (fun i σ H' => Ex H6 H' ∧ ∃ x5, σ = [some (.ref a), some (.ref sa1), some (.int ((few st : Nat) : Int)), some (.ref mp), some (.ref fp), x5, none, none, none, none, none, none])
      (fun H7 e7 => ⟨e7, _, rfl⟩) ?_ ?_
    · rintro i σ' H7 hi ⟨e7, x5, rfl⟩
      have hil : i < st.length := by
        split at hi <;> omega
      have hS7 := hS6.ex e7
      have hGw : Good (st.take i ++ st.drop (i + 1)) := app_good (fun s m => hG.2 s (List.mem_of_mem_take m)) (fun s m => hG.2 s (List.mem_of_mem_drop m)) (by rw [List.length_take, List.length_drop]; omega)
      refine Evl.s_when (b := false) (et_near (ev_few (es_cat (es_take (n := i) (es_var rfl hS7) Evl.eo_none (Evl.eo_some (Evl.ev_var rfl))) (es_drop (n := i + 1) (es_var rfl hS7) (Evl.eo_some (Evl.ev_op (Evl.ev_var rfl) Evl.ev_c Evl.rv_I0)) Evl.eo_none) (by rw [List.length_take, List.length_drop]; omega)) hGw) (Evl.ev_var rfl) (few_without hil)) (fun h => nomatch h) fun _ H8 e8 => ⟨e7.trans e8, _, rfl⟩
    rintro σ' H7 ⟨e7, x5, rfl⟩
    have hS7 := hS6.ex e7
    have hN7 := ex_l (K := K) e7 hN6
    -- one more
    refine Evl.q_forR1 (n := 6) (Evl.ea_cons Evl.ev_c Evl.ea_nil) (by decide)
      (fun i σ H' => Ex H7 H' ∧ ∃ x5 x6 x7 x8 x9, σ = [some (.ref a), some (.ref sa1), some (.int ((few st : Nat) : Int)), some (.ref mp), some (.ref fp), x5, x6, x7, x8, x9, none, none])
      (fun H8 e8 => ⟨e8, _, _, _, _, _, rfl⟩) ?_ ?_
    · rintro i σ' H8 hi ⟨e8, x5, x6, x7, x8, x9, rfl⟩
      have hS8 := hS7.ex e8
      refine Evl.q_asg (v := .int (cellF ns (300 + (i : Int)))) (Evl.ev_call (Evl.ea_cons (Evl.ev_var rfl) (Evl.ea_cons (Evl.ev_op Evl.ev_c (Evl.ev_var rfl) Evl.rv_I0) Evl.ea_nil)) (pv_cell (ex_l e8 hN7) hl)) fun H9 e9 => ?_
      have d0 := cellF_0 ns (300 + (i : Int))
      generalize cellF ns (300 + (i : Int)) = c at d0
      have hS9 := hS8.ex e9
      have k1 := Int.emod_nonneg c (show ((st.length : Int) + 1) ≠ 0 by omega)
      have k2 := Int.emod_lt_of_pos c (show 0 < (st.length : Int) + 1 by omega)
      have hk : c % ((st.length : Int) + 1) = (((c % ((st.length : Int) + 1)).toNat : Nat) : Int) := by omega
      refine Evl.q_asg (v := .int (((c % ((st.length : Int) + 1)).toNat : Nat) : Int)) (Evl.ev_is (Evl.ev_op (Evl.ev_var rfl) (Evl.ev_op (ev_lenSt rfl hS9) Evl.ev_c Evl.rv_I0) (rv_mod (by omega))) (by rw [← hk])) fun H10 e10 => ?_
      generalize (c % ((st.length : Int) + 1)).toNat = k at hk
      have hS10 := hS9.ex e10
      refine Evl.q_asgU (xs := [.int (c / 61 % 15), .int (c / 1000 % 15)]) (Evl.eu_tup (Evl.ea_cons (Evl.ev_op (Evl.ev_op (Evl.ev_var rfl) Evl.ev_c (rv_div ⟨by decide, by decide⟩)) Evl.ev_c (rv_mod (by decide))) (Evl.ea_cons (Evl.ev_op (Evl.ev_op (Evl.ev_var rfl) Evl.ev_c (rv_div ⟨by decide, by decide⟩)) Evl.ev_c (rv_mod (by decide))) Evl.ea_nil)) (by show 2 ≤ _; decide)) fun np H11 _ e11 hnp => ?_
      have hS11 := hS10.ex e11
      have gn : GoodS (c / 61 % 15, c / 1000 % 15) := goodS_small (by omega) (by omega) (by omega) (by omega)
      have hGi : Good (st.take k ++ [(c / 61 % 15, c / 1000 % 15)] ++ st.drop k) := app_good (fun s m => (List.mem_append.mp m).elim (fun m => hG.2 s (List.mem_of_mem_take m)) fun m => by rw [List.mem_singleton.mp m]; exact gn) (fun s m => hG.2 s (List.mem_of_mem_drop m)) (by rw [List.length_append, List.length_take, List.length_drop]; show min k st.length + 1 + (st.length - k) ≤ 60; omega)
      have ni := few_insert (st.take k) (st.drop k) (c / 61 % 15, c / 1000 % 15)
      rw [List.take_append_drop] at ni
      refine Evl.q_when (b := false) (et_near (ev_few (es_cat (es_cat (es_take (n := k) (es_var rfl hS11) Evl.eo_none (Evl.eo_some (Evl.ev_var rfl))) (es_one rfl hnp) (by rw [List.length_take]; show _ + 1 ≤ _; omega)) (es_drop (n := k) (es_var rfl hS11) (Evl.eo_some (Evl.ev_var rfl)) Evl.eo_none) (by rw [List.length_append, List.length_take, List.length_drop]; show min k st.length + 1 + (st.length - k) ≤ _; omega)) hGi) (Evl.ev_var rfl) ni) (fun h => nomatch h) fun _ H12 e12 => ?_
      have hS12 := hS11.ex e12
      have e7_12 : Ex H7 H12 := (((e8.trans e9).trans e10).trans e11).trans e12
      refine Evl.s_when (et_some (K := K) rfl hS12 (by omega)) (fun hb H13 e13 => ?_) fun _ H13 e13 => ⟨e7_12.trans e13, _, _, _, _, _, rfl⟩
      have ne : st ≠ [] := fun z => by
        rw [decide_eq_true z] at hb
        cases hb
      have lp : 0 < st.length := List.length_pos_iff.mpr ne
      have hS13 := hS12.ex e13
      have j1 := Int.emod_nonneg (c / 61) (show (st.length : Int) ≠ 0 by omega)
      have j2 := Int.emod_lt_of_pos (c / 61) (show 0 < (st.length : Int) by omega)
      have hj : c / 61 % (st.length : Int) = (((c / 61 % (st.length : Int)).toNat : Nat) : Int) := by omega
      have hjl : (c / 61 % (st.length : Int)).toNat < st.length := by omega
      generalize (c / 61 % (st.length : Int)).toNat = j at hj hjl
      obtain ⟨ts, t, t1, t2, t3⟩ := hS13.get hjl
      obtain ⟨x, hx, ex⟩ : ∃ x : Int, atI [V.int (sa st j), V.int (sb st j)] (c % 2) = some (.int x) ∧ (x = sa st j ∨ x = sb st j) := by
        rcases (show c % 2 = 0 ∨ c % 2 = 1 by omega) with e | e
        · exact ⟨_, by rw [e]; rfl, .inl rfl⟩
        · exact ⟨_, by rw [e]; rfl, .inr rfl⟩
      have xe : IsEnd st x := by
        have := st_ends hjl
        rcases ex with e | e
        · rw [e]; exact this.1
        · rw [e]; exact this.2
      have xg : 0 ≤ x ∧ x ≤ 999999 := by
        obtain ⟨s, hs, e⟩ := xe
        have := hG.2 s hs
        rcases e with e | e
        · rw [e]; exact this.1
        · rw [e]; exact this.2
      refine Evl.q_asg (v := .int x) (Evl.ev_op (Evl.ev_op (Evl.ev_var rfl) (Evl.ev_is (Evl.ev_op (Evl.ev_op (Evl.ev_var rfl) Evl.ev_c (rv_div ⟨by decide, by decide⟩)) (ev_lenSt rfl hS13) (rv_mod (by omega))) (by rw [hj])) (Evl.rv_ixL (SqL.of t1) (atI_nat t2))) (Evl.ev_op (Evl.ev_var rfl) Evl.ev_c (rv_mod (by decide))) (Evl.rv_ixT (SqT.of t3) hx)) fun H14 e14 => ?_
      have hS14 := hS13.ex e14
      refine Evl.s_when (b := false) (et_same (x := ((few st : Nat) : Int)) (Evl.ev_is (ev_few (es_cat (es_var rfl hS14) (es_pair (Evl.ev_var rfl) (Evl.ev_var rfl)) (by show _ + 1 ≤ _; omega)) (app_good hG.2 (fun s m => by rw [List.mem_singleton.mp m]; exact ⟨xg, xg⟩) (by show _ + 1 ≤ _; omega))) (by rw [few_double' xe])) (Evl.ev_var rfl)) (fun h => nomatch h) fun _ H15 e15 => ⟨((e7_12.trans e13).trans e14).trans e15, _, _, _, _, _, rfl⟩
    rintro σ' H8 ⟨e8, x5, x6, x7, x8, x9, rfl⟩
    have hS8 := hS7.ex e8
    have hN8 := ex_l (K := K) e8 hN7
    obtain ⟨ts, t1, t2, t3⟩ := id hS8
    refine ⟨_, rfl, sa1, _, rfl, SqL.of t1, fun D nD => ?_⟩
    refine lc_it (walk_enum (xs := ts.map V.ref)) (fun k H' => ∃ (rs : List Addr) (su : List (Int × Int)), Ex H8 H' ∧ H' D = some (.lst (rs.map V.ref)) ∧ rs.length = k ∧ su.length = k ∧ (∀ (i : Nat) (s t : Int × Int), st[i]? = some s → su[i]? = some t → t = s ∨ t = (s.2, s.1)) ∧ ∀ (i : Nat) (t : Addr) (s : Int × Int), rs[i]? = some t → su[i]? = some s → t ≠ D ∧ H' t = some (.tup [.int s.1, .int s.2]))
      ⟨[], [], Ex.new nD, upd_same, rfl, rfl, fun i s t _ e => by simp at e, fun i t s e => by simp at e⟩ (fun i H' _ ⟨_, _, e, _⟩ => SqL.of (e _ _ t1)) ?_ ?_
    · rintro k x H9 H10 hk ⟨rs, su, e9, hD, hrs, hsu, htr, hin⟩ ⟨Tp, p, y, rfl, nT, rfl, hp, hy⟩
      have hp : p = .int (k : Int) := (Option.some.inj hp).symm
      subst hp
      have hy : (ts.map V.ref)[k]? = some y := hy
      rw [List.getElem?_map] at hy
      obtain ⟨t, ht, rfl⟩ := Option.map_eq_some_iff.mp hy
      have kl : k < st.length := by
        have := (List.getElem?_eq_some_iff.mp ht).1
        omega
      have htt := t3 k t _ ht (st_at kl)
      have tD : t ≠ D := fun z => by
        rw [z, nD] at htt
        cases htt
      have e10 : Ex H9 (upd H9 Tp (.tup [.int (k : Int), .ref t])) := Ex.new nT
      have hTp : (upd H9 Tp (.tup [.int (k : Int), .ref t])) Tp = some (.tup [.int (k : Int), .ref t]) := upd_same
      generalize upd H9 Tp (.tup [.int (k : Int), .ref t]) = H10 at e10 hTp ⊢
      have fin : ∀ (H11 : Hp) (r : Addr) (u : Int × Int), Ex H9 H11 → r ≠ D → H11 r = some (.tup [.int u.1, .int u.2]) → (u = (sa st k, sb st k) ∨ u = (sb st k, sa st k)) →
          ∃ acc, H11 D = some (.lst acc) ∧ acc.length < sizeLine ∧ ∃ (rs : List Addr) (su : List (Int × Int)), Ex H8 (upd H11 D (.lst (acc ++ [.ref r]))) ∧ (upd H11 D (.lst (acc ++ [.ref r]))) D = some (.lst (rs.map V.ref)) ∧ rs.length = k + 1 ∧ su.length = k + 1 ∧ (∀ (i : Nat) (s t : Int × Int), st[i]? = some s → su[i]? = some t → t = s ∨ t = (s.2, s.1)) ∧ ∀ (i : Nat) (t : Addr) (s : Int × Int), rs[i]? = some t → su[i]? = some s → t ≠ D ∧ (upd H11 D (.lst (acc ++ [.ref r]))) t = some (.tup [.int s.1, .int s.2]) := by
        intro H11 r u e11 rD hr hu
        refine ⟨_, e11 _ _ hD, by rw [List.length_map, hrs]; exact small1000 (by omega), rs ++ [r], su ++ [u], Ex.mut (e9.trans e11) nD, by rw [upd_same, List.map_append]; rfl, by rw [List.length_append, hrs]; rfl, by rw [List.length_append, hsu]; rfl, fun i s t g1 g2 => ?_, fun i t' s g1 g2 => ?_⟩
        · by_cases c : i < k
          · rw [List.getElem?_append_left (by omega)] at g2
            exact htr i s t g1 g2
          · rw [List.getElem?_append_right (by omega)] at g2
            have z : i - su.length = 0 := by
              have := (List.getElem?_eq_some_iff.mp g2).1
              simp at this
              omega
            rw [z] at g2
            have g2 : u = t := Option.some.inj g2
            have ik : i = k := by omega
            rw [ik, st_at kl] at g1
            have g1 := Option.some.inj g1
            rw [← g1, ← g2]
            exact hu
        · by_cases c : i < k
          · rw [List.getElem?_append_left (by omega)] at g1
            rw [List.getElem?_append_left (by omega)] at g2
            obtain ⟨n1, n2⟩ := hin i t' s g1 g2
            exact ⟨n1, by rw [upd_ne n1]; exact e11 _ _ n2⟩
          · rw [List.getElem?_append_right (by omega)] at g1
            rw [List.getElem?_append_right (by omega)] at g2
            have z : i - rs.length = 0 := by
              have := (List.getElem?_eq_some_iff.mp g1).1
              simp at this
              omega
            have z2 : i - su.length = 0 := by omega
            rw [z] at g1
            rw [z2] at g2
            have g1 : r = t' := Option.some.inj g1
            have g2 : u = s := Option.some.inj g2
            subst g1 g2
            exact ⟨rD, by rw [upd_ne rD]; exact hr⟩
      refine ⟨Tp, [.int (k : Int), .ref t], rfl, SqT.of hTp, rfl, .int (k : Int), [.ref t], rfl, .ref t, [], rfl, rfl, rfl, ?_⟩
      unfold tYes
      dsimp only
      rw [if_pos rfl]
      have ht10 := e10 _ _ (e9 _ _ htt)
      refine ⟨_, rfl, _, rfl, t, _, _, rfl, SqT.of ht10, fun p np => ⟨by show 2 ≤ sizeLine; decide, fun l nl => ?_⟩⟩
      have e11 : Ex H10 (upd H10 p (.tup [.int (sb st k), .int (sa st k)])) := Ex.new np
      have hpp : (upd H10 p (.tup [.int (sb st k), .int (sa st k)])) p = some (.tup [.int (sb st k), .int (sa st k)]) := upd_same
      generalize upd H10 p (.tup [.int (sb st k), .int (sa st k)]) = H11 at e11 hpp nl ⊢
      have e12 : Ex H11 (upd H11 l (.lst [.ref t, .ref p])) := Ex.new nl
      have hll : (upd H11 l (.lst [.ref t, .ref p])) l = some (.lst [.ref t, .ref p]) := upd_same
      generalize upd H11 l (.lst [.ref t, .ref p]) = H12 at e12 hll ⊢
      have e8_12 : Ex H8 H12 := ((e9.trans e10).trans e11).trans e12
      refine (Evl.ev_op (H := H12) (Evl.ev_call (Evl.ea_cons (Evl.ev_var rfl) (Evl.ea_cons (Evl.ev_op Evl.ev_c (Evl.ev_var rfl) Evl.rv_I0) Evl.ea_nil)) (pv_cell (ex_l e8_12 hN8) hl)) Evl.ev_c (rv_mod (by decide))) H12 (Ex.refl H12) _ fun H13 e13 => ?_
      have c0 := cellF_0 ns (400 + (k : Int))
      generalize cellF ns (400 + (k : Int)) = c at c0
      have hl13 := e13 _ _ hll
      have ee : Ex H9 H13 := ((e10.trans e11).trans e12).trans e13
      have pD : p ≠ D := fun z => by
        have := e10 _ _ hD
        rw [← z, np] at this
        cases this
      rcases (show c % 2 = 0 ∨ c % 2 = 1 by omega) with ec | ec
      · exact ⟨l, _, _, .ref t, rfl, rfl, SqL.of hl13, by rw [ec]; rfl, fin H13 t (sa st k, sb st k) ee tD ((e11.trans (e12.trans e13)) _ _ ht10) (.inl rfl)⟩
      · exact ⟨l, _, _, .ref p, rfl, rfl, SqL.of hl13, by rw [ec]; rfl, fin H13 p (sb st k, sa st k) ee pD ((e12.trans e13) _ _ hpp) (.inr rfl)⟩
    · rintro H9 ⟨rs, su, e9, hD, hrs, hsu, htr, hin⟩
      have hT9 : StonesAt H9 D su := ⟨rs, hD, by omega, fun i t s g1 g2 => (hin i t s g1 g2).2⟩
      rw [List.length_map] at hsu
      have hS9 := hS8.ex e9
      have hGt : Good su := ⟨by omega, fun s m => by
        obtain ⟨i, hi⟩ := List.mem_iff_getElem?.mp m
        have il : i < st.length := by
          have := (List.getElem?_eq_some_iff.mp hi).1
          omega
        have g := hG.2 _ (List.getElem_mem il)
        rcases htr i _ s (List.getElem?_eq_getElem il) hi with e | e
        · rw [e]; exact g
        · rw [e]; exact ⟨g.2, g.1⟩⟩
      have ft : few su = few st := few_turned (by omega) htr
      have d0 := cellF_0 ns 7
      have k1 := Int.emod_nonneg (cellF ns 7) (show ((st.length : Int) + 1) ≠ 0 by omega)
      have hk : cellF ns 7 % ((st.length : Int) + 1) = (((cellF ns 7 % ((st.length : Int) + 1)).toNat : Nat) : Int) := by omega
      refine Evl.q_asg (v := .int (((cellF ns 7 % ((st.length : Int) + 1)).toNat : Nat) : Int)) (Evl.ev_is (Evl.ev_op (Evl.ev_call (Evl.ea_cons (Evl.ev_var rfl) (Evl.ea_cons Evl.ev_c Evl.ea_nil)) (pv_cell (ex_l e9 hN8) hl)) (Evl.ev_op (ev_lenSt rfl hS9) Evl.ev_c Evl.rv_I0) (rv_mod (by omega))) (by rw [← hk])) fun H10 e10 => ?_
      generalize (cellF ns 7 % ((st.length : Int) + 1)).toNat = k at hk
      have hS10 := hS9.ex e10
      have hT10 := hT9.ex e10
      have hp : (st.drop k ++ (st.take k).reverse).Perm st := by
        have h1 : (st.drop k ++ (st.take k).reverse).Perm (st.drop k ++ st.take k) := List.Perm.append_left _ (List.reverse_perm _)
        have h2 : (st.drop k ++ st.take k).Perm (st.take k ++ st.drop k) := List.perm_append_comm
        have h3 := h1.trans h2
        rw [List.take_append_drop] at h3
        exact h3
      have hGp : Good (st.drop k ++ (st.take k).reverse) := ⟨by rw [hp.length_eq]; exact hG.1, fun s m => hG.2 s (hp.mem_iff.mp m)⟩
      refine Evl.s_ret (v := .bl (true && true)) (Evl.ev_andV (a := true) (b := true) ?_ fun _ => ?_) fun H11 e11 => q H11
      · exact Evl.ev_is (Evl.ev_op (Evl.ev_is (ev_few (es_var rfl hT10) hGt) (by rw [ft])) (Evl.ev_var rfl) (Evl.rv_eq rfl)) (by rw [decide_eq_true rfl])
      · exact Evl.ev_is (Evl.ev_op (Evl.ev_is (ev_few (es_cat (es_drop (n := k) (es_var rfl hS10) (Evl.eo_some (Evl.ev_var rfl)) Evl.eo_none) (es_rev (es_take (n := k) (es_var rfl hS10) Evl.eo_none (Evl.eo_some (Evl.ev_var rfl)))) (by rw [List.length_reverse, List.length_take, List.length_drop]; omega)) hGp) (by rw [few_perm hp])) (Evl.ev_var rfl) (Evl.rv_eq rfl)) (by rw [decide_eq_true rfl])
end
end Sw
namespace Sw
open PySem PySem.Spec PyProof.Rows L2
/-! ### what the top has written -/
theorem all_mk {l : PySem.W.OpenLaw} {w : World} {K : PySem.W.Frag} {h : Heap} {mg : Str → Option Value} {fa f1 f2 f3 f4 f5 f6 f7 f8 f9 f10 f11 f12 f13 f14 : Addr} (X : K.In h) (G : h.Ns mainGlobals mg) (hfa : mg "law" = some (.ref fa))
    {od1 an1 od2 an2 od3 an3 od4 an4 od5 an5 od6 an6 od7 an7 od8 an8 od9 an9 od10 an10 od11 an11 od12 an12 od13 an13 od14 an14 : Option Addr} {sl1 sl2 sl3 sl4 sl5 sl6 sl7 sl8 sl9 sl10 sl11 sl12 sl13 sl14 : Array (Option Value)} {oc1 kV1 dc1 pm1 cd1 ct1 oc2 kV2 dc2 pm2 cd2 ct2 oc3 kV3 dc3 pm3 cd3 ct3 oc4 kV4 dc4 pm4 cd4 ct4 oc5 kV5 dc5 pm5 cd5 ct5 oc6 kV6 dc6 pm6 cd6 ct6 oc7 kV7 dc7 pm7 cd7 ct7 oc8 kV8 dc8 pm8 cd8 ct8 oc9 kV9 dc9 pm9 cd9 ct9 oc10 kV10 dc10 pm10 cd10 ct10 oc11 kV11 dc11 pm11 cd11 ct11 oc12 kV12 dc12 pm12 cd12 ct12 oc13 kV13 dc13 pm13 cd13 ct13 oc14 kV14 dc14 pm14 cd14 ct14 : Value} {tk0 tk1 : Tok}
    (a1 : PySem.W.nsIn K mainGlobals "is_number" = some (some (.ref f1))) (l1 : K.lookup f1 = some ⟨oc1, od1, .func (PySem.W.fnOf "is_number" "is_number" (defArgs sNum) (defBody sNum) (defScope sNum) .none kV1 dc1 pm1 an1 cd1 ct1), sl1⟩) (c1 : PySem.W.codeIn K cd1 "is_number" = true) (k1 : PySem.W.keepIn K (.ref f1) = true)
    (a2 : PySem.W.nsIn K mainGlobals "is_stone" = some (some (.ref f2))) (l2 : K.lookup f2 = some ⟨oc2, od2, .func (PySem.W.fnOf "is_stone" "is_stone" (defArgs sStone) (defBody sStone) (defScope sStone) .none kV2 dc2 pm2 an2 cd2 ct2), sl2⟩) (c2 : PySem.W.codeIn K cd2 "is_stone" = true) (k2 : PySem.W.keepIn K (.ref f2) = true)
    (a3 : PySem.W.nsIn K mainGlobals "are_stones" = some (some (.ref f3))) (l3 : K.lookup f3 = some ⟨oc3, od3, .func (PySem.W.fnOf "are_stones" "are_stones" (defArgs sAre) (defBody sAre) (defScope sAre) .none kV3 dc3 pm3 an3 cd3 ct3), sl3⟩) (c3 : PySem.W.codeIn K cd3 "are_stones" = true) (k3 : PySem.W.keepIn K (.ref f3) = true)
    (a4 : PySem.W.nsIn K mainGlobals "need_stones" = some (some (.ref f4))) (l4 : K.lookup f4 = some ⟨oc4, od4, .func (PySem.W.fnOf "need_stones" "need_stones" (defArgs sNeed) (defBody sNeed) (defScope sNeed) .none kV4 dc4 pm4 an4 cd4 ct4), sl4⟩) (c4 : PySem.W.codeIn K cd4 "need_stones" = true) (k4 : PySem.W.keepIn K (.ref f4) = true)
    (a5 : PySem.W.nsIn K mainGlobals "_labels" = some (some (.ref f5))) (l5 : K.lookup f5 = some ⟨oc5, od5, .func (PySem.W.fnOf "_labels" "_labels" (defArgs sLabels) (defBody sLabels) (defScope sLabels) .none kV5 dc5 pm5 an5 cd5 ct5), sl5⟩) (c5 : PySem.W.codeIn K cd5 "_labels" = true) (k5 : PySem.W.keepIn K (.ref f5) = true)
    (a6 : PySem.W.nsIn K mainGlobals "groups" = some (some (.ref f6))) (l6 : K.lookup f6 = some ⟨oc6, od6, .func (PySem.W.fnOf "groups" "groups" (defArgs sGroups) (defBody sGroups) (defScope sGroups) .none kV6 dc6 pm6 an6 cd6 ct6), sl6⟩) (c6 : PySem.W.codeIn K cd6 "groups" = true) (k6 : PySem.W.keepIn K (.ref f6) = true)
    (a7 : PySem.W.nsIn K mainGlobals "odd_ends" = some (some (.ref f7))) (l7 : K.lookup f7 = some ⟨oc7, od7, .func (PySem.W.fnOf "odd_ends" "odd_ends" (defArgs sOddE) (defBody sOddE) (defScope sOddE) .none kV7 dc7 pm7 an7 cd7 ct7), sl7⟩) (c7 : PySem.W.codeIn K cd7 "odd_ends" = true) (k7 : PySem.W.keepIn K (.ref f7) = true)
    (a8 : PySem.W.nsIn K mainGlobals "why" = some (some (.ref f8))) (l8 : K.lookup f8 = some ⟨oc8, od8, .func (PySem.W.fnOf "why" "why" (defArgs sWhy) (defBody sWhy) (defScope sWhy) .none kV8 dc8 pm8 an8 cd8 ct8), sl8⟩) (c8 : PySem.W.codeIn K cd8 "why" = true) (k8 : PySem.W.keepIn K (.ref f8) = true)
    (a9 : PySem.W.nsIn K mainGlobals "_chains_for" = some (some (.ref f9))) (l9 : K.lookup f9 = some ⟨oc9, od9, .func (PySem.W.fnOf "_chains_for" "_chains_for" (defArgs sChains) (defBody sChains) (defScope sChains) .none kV9 dc9 pm9 an9 cd9 ct9), sl9⟩) (c9 : PySem.W.codeIn K cd9 "_chains_for" = true) (k9 : PySem.W.keepIn K (.ref f9) = true)
    (a10 : PySem.W.nsIn K mainGlobals "fewest" = some (some (.ref f10))) (l10 : K.lookup f10 = some ⟨oc10, od10, .func (PySem.W.fnOf "fewest" "fewest" (defArgs sFew) (defBody sFew) (defScope sFew) .none kV10 dc10 pm10 an10 cd10 ct10), sl10⟩) (c10 : PySem.W.codeIn K cd10 "fewest" = true) (k10 : PySem.W.keepIn K (.ref f10) = true)
    (a11 : PySem.W.nsIn K mainGlobals "_law_cell" = some (some (.ref f11))) (l11 : K.lookup f11 = some ⟨oc11, od11, .func (PySem.W.fnOf "_law_cell" "_law_cell" (defArgs sCell) (defBody sCell) (defScope sCell) .none kV11 dc11 pm11 an11 cd11 ct11), sl11⟩) (c11 : PySem.W.codeIn K cd11 "_law_cell" = true) (k11 : PySem.W.keepIn K (.ref f11) = true)
    (a12 : PySem.W.nsIn K mainGlobals "_law_stones" = some (some (.ref f12))) (l12 : K.lookup f12 = some ⟨oc12, od12, .func (PySem.W.fnOf "_law_stones" "_law_stones" (defArgs sStones) (defBody sStones) (defScope sStones) .none kV12 dc12 pm12 an12 cd12 ct12), sl12⟩) (c12 : PySem.W.codeIn K cd12 "_law_stones" = true) (k12 : PySem.W.keepIn K (.ref f12) = true)
    (a13 : PySem.W.nsIn K mainGlobals "_law_apart" = some (some (.ref f13))) (l13 : K.lookup f13 = some ⟨oc13, od13, .func (PySem.W.fnOf "_law_apart" "_law_apart" (defArgs sLApart) (defBody sLApart) (defScope sLApart) .none kV13 dc13 pm13 an13 cd13 ct13), sl13⟩) (c13 : PySem.W.codeIn K cd13 "_law_apart" = true) (k13 : PySem.W.keepIn K (.ref f13) = true)
    (a14 : PySem.W.nsIn K mainGlobals "law" = some (some (.ref f14))) (l14 : K.lookup f14 = some ⟨oc14, od14, .func (PySem.W.fnOf "law" "law" (defArgs sLaw) (defBody sLaw) (defScope sLaw) .none kV14 dc14 pm14 an14 cd14 ct14), sl14⟩) (c14 : PySem.W.codeIn K cd14 "law" = true) (k14 : PySem.W.keepIn K (.ref f14) = true)
    (z0 : PySem.W.nsIn K mainGlobals "isinstance" = some none)
    (z1 : PySem.W.nsIn K mainGlobals "bool" = some none)
    (z2 : PySem.W.nsIn K mainGlobals "int" = some none)
    (z3 : PySem.W.nsIn K mainGlobals "tuple" = some none)
    (z4 : PySem.W.nsIn K mainGlobals "list" = some none)
    (z5 : PySem.W.nsIn K mainGlobals "len" = some none)
    (z6 : PySem.W.nsIn K mainGlobals "all" = some none)
    (z7 : PySem.W.nsIn K mainGlobals "range" = some none)
    (z8 : PySem.W.nsIn K mainGlobals "max" = some none)
    (z9 : PySem.W.nsIn K mainGlobals "min" = some none)
    (z10 : PySem.W.nsIn K mainGlobals "sorted" = some none)
    (z11 : PySem.W.nsIn K mainGlobals "sum" = some none)
    (z12 : PySem.W.nsIn K mainGlobals "enumerate" = some none)
    (z13 : PySem.W.nsIn K mainGlobals "abs" = some none)
    (q0 : PySem.W.nsIn K mainGlobals "HIGHEST_END" = some (some (.int 999999 tk0)))
    (q1 : PySem.W.nsIn K mainGlobals "MOST_STONES" = some (some (.int 60 tk1)))
    : ∃ fd : FuncData, (∀ (s : Shared) (v : Value), BindsTo s fd ⟨[v], []⟩ [("_law_script", v)]) ∧ ∀ base : Heap, K.In base → base.Ns mainGlobals mg → FnOk l.prog w K mg base CX0 8 fa fd ["_law_script"] (spLaw K) := by
  have e := hfa.symm.trans (PySem.W.mg_of X G a14)
  cases e
  have F1 := fun_mk (st := sNum) l1 c1 k1
  have g1 := PySem.W.mg_of X G a1
  have b1 := F1.binds (ps := ["thing", "highest"]) fun _ _ _ _ _ _ us hl => match us, hl with | [_, _], _ => rfl
  have F2 := fun_mk (st := sStone) l2 c2 k2
  have g2 := PySem.W.mg_of X G a2
  have b2 := F2.binds (ps := ["thing"]) fun _ _ _ _ _ _ us hl => match us, hl with | [_], _ => rfl
  have F3 := fun_mk (st := sAre) l3 c3 k3
  have g3 := PySem.W.mg_of X G a3
  have b3 := F3.binds (ps := ["thing"]) fun _ _ _ _ _ _ us hl => match us, hl with | [_], _ => rfl
  have F4 := fun_mk (st := sNeed) l4 c4 k4
  have g4 := PySem.W.mg_of X G a4
  have b4 := F4.binds (ps := ["thing"]) fun _ _ _ _ _ _ us hl => match us, hl with | [_], _ => rfl
  have F5 := fun_mk (st := sLabels) l5 c5 k5
  have g5 := PySem.W.mg_of X G a5
  have b5 := F5.binds (ps := ["stones"]) fun _ _ _ _ _ _ us hl => match us, hl with | [_], _ => rfl
  have F6 := fun_mk (st := sGroups) l6 c6 k6
  have g6 := PySem.W.mg_of X G a6
  have b6 := F6.binds (ps := ["stones"]) fun _ _ _ _ _ _ us hl => match us, hl with | [_], _ => rfl
  have F7 := fun_mk (st := sOddE) l7 c7 k7
  have g7 := PySem.W.mg_of X G a7
  have b7 := F7.binds (ps := ["stones", "group"]) fun _ _ _ _ _ _ us hl => match us, hl with | [_, _], _ => rfl
  have F8 := fun_mk (st := sWhy) l8 c8 k8
  have g8 := PySem.W.mg_of X G a8
  have b8 := F8.binds (ps := ["stones"]) fun _ _ _ _ _ _ us hl => match us, hl with | [_], _ => rfl
  have F9 := fun_mk (st := sChains) l9 c9 k9
  have g9 := PySem.W.mg_of X G a9
  have b9 := F9.binds (ps := ["odd"]) fun _ _ _ _ _ _ us hl => match us, hl with | [_], _ => rfl
  have F10 := fun_mk (st := sFew) l10 c10 k10
  have g10 := PySem.W.mg_of X G a10
  have b10 := F10.binds (ps := ["stones"]) fun _ _ _ _ _ _ us hl => match us, hl with | [_], _ => rfl
  have F11 := fun_mk (st := sCell) l11 c11 k11
  have g11 := PySem.W.mg_of X G a11
  have b11 := F11.binds (ps := ["_law_script", "_law_k"]) fun _ _ _ _ _ _ us hl => match us, hl with | [_, _], _ => rfl
  have F12 := fun_mk (st := sStones) l12 c12 k12
  have g12 := PySem.W.mg_of X G a12
  have b12 := F12.binds (ps := ["_law_script"]) fun _ _ _ _ _ _ us hl => match us, hl with | [_], _ => rfl
  have F13 := fun_mk (st := sLApart) l13 c13 k13
  have g13 := PySem.W.mg_of X G a13
  have b13 := F13.binds (ps := ["_law_stones_here", "_law_many"]) fun _ _ _ _ _ _ us hl => match us, hl with | [_, _], _ => rfl
  have F14 := fun_mk (st := sLaw) l14 c14 k14
  have g14 := PySem.W.mg_of X G a14
  have m_isinstance := PySem.W.mg_none_of X G z0
  have m_bool := PySem.W.mg_none_of X G z1
  have m_int := PySem.W.mg_none_of X G z2
  have m_tuple := PySem.W.mg_none_of X G z3
  have m_list := PySem.W.mg_none_of X G z4
  have m_len := PySem.W.mg_none_of X G z5
  have m_all := PySem.W.mg_none_of X G z6
  have m_range := PySem.W.mg_none_of X G z7
  have m_max := PySem.W.mg_none_of X G z8
  have m_min := PySem.W.mg_none_of X G z9
  have m_sorted := PySem.W.mg_none_of X G z10
  have m_sum := PySem.W.mg_none_of X G z11
  have m_enumerate := PySem.W.mg_none_of X G z12
  have m_abs := PySem.W.mg_none_of X G z13
  have m_HIGHEST_END : ∃ t, mg "HIGHEST_END" = some (.int 999999 t) := ⟨_, PySem.W.mg_of X G q0⟩
  have m_MOST_STONES : ∃ t, mg "MOST_STONES" = some (.int 60 t) := ⟨_, PySem.W.mg_of X G q1⟩
  refine ⟨PySem.W.fnOf "law" "law" (defArgs sLaw) (defBody sLaw) (defScope sLaw) .none kV14 dc14 pm14 an14 cd14 ct14, fun s v => .of_eq rfl, fun base _ _ => ?_⟩
  have H1 := ok_num (P := l.prog) (w := w) (mg := mg) (base := base) F1 m_isinstance m_bool m_int
  have H2 := ok_stone (P := l.prog) (w := w) (mg := mg) (base := base) F2 m_isinstance m_tuple m_len m_HIGHEST_END H1 g1 k1 b1
  have H3 := ok_are (P := l.prog) (w := w) (mg := mg) (base := base) F3 m_isinstance m_list m_len m_all m_MOST_STONES H2 g2 k2 b2
  have H4 := ok_need (P := l.prog) (w := w) (mg := mg) (base := base) F4 H3 g3 k3 b3
  have H5 := ok_labels (P := l.prog) (w := w) (mg := mg) (base := base) F5
  have H6 := ok_groups (P := l.prog) (w := w) (mg := mg) (base := base) F6 m_enumerate m_list H4 g4 k4 b4 H5 g5 k5 b5
  have H7 := ok_oddE (P := l.prog) (w := w) (mg := mg) (base := base) F7 m_len m_sorted H4 g4 k4 b4
  have H8 := ok_why (P := l.prog) (w := w) (mg := mg) (base := base) F8 H6 g6 k6 b6 H7 g7 k7 b7
  have H9 := ok_chains (P := l.prog) (w := w) (mg := mg) (base := base) F9 m_max m_len
  have H10 := ok_few (P := l.prog) (w := w) (mg := mg) (base := base) F10 m_sum H8 g8 k8 b8 H9 g9 k9 b9
  have H11 := ok_cell (P := l.prog) (w := w) (mg := mg) (base := base) F11 m_len
  have H12 := ok_stones (P := l.prog) (w := w) (mg := mg) (base := base) F12 m_len m_range m_max m_min H11 g11 k11 b11
  have H13 := ok_lapart (P := l.prog) (w := w) (mg := mg) (base := base) F13 m_range m_list
  exact ok_law F14 m_len m_range m_min m_abs m_enumerate H12 g12 k12 b12 H11 g11 k11 b11 H13 g13 k13 b13 H10 g10 k10 b10
end Sw
open PySem PySem.W PyProof.Rows
set_option maxHeartbeats 0 in
theorem PySem.Challenge.cw_stonerow_k07_whole_one_more_or_less_holds : PySem.Challenge.rw_stonerow_k07_whole_one_more_or_less.Holds := by
  w_on; o_law; k_head; (case hw => w_witness2)
  k_fill
  refine L2.walk_of (l := PySem.Challenge.rw_stonerow_k07_whole_one_more_or_less) (n := 63) (k := 8) (x := "_law_script") (CX := fun _ => L2.CX0) (sp := fun w => Sw.spLaw _) rfl (by decide) rfl ⟨rfl, by decide, by decide⟩ (fun w h Y => PySem.W.kIn_of Y) ?F (fun _ _ a ns hl _ hS => ⟨a, ns, rfl, hS, hl, fun _ => rfl⟩) (fun _ _ _ _ _ h => h)
  case F =>
    intro w mg fa h KX G hmg
    refine' Sw.all_mk KX G hmg ?a1 ?l1 ?c1 ?k1 ?a2 ?l2 ?c2 ?k2 ?a3 ?l3 ?c3 ?k3 ?a4 ?l4 ?c4 ?k4 ?a5 ?l5 ?c5 ?k5 ?a6 ?l6 ?c6 ?k6 ?a7 ?l7 ?c7 ?k7 ?a8 ?l8 ?c8 ?k8 ?a9 ?l9 ?c9 ?k9 ?a10 ?l10 ?c10 ?k10 ?a11 ?l11 ?c11 ?k11 ?a12 ?l12 ?c12 ?k12 ?a13 ?l13 ?c13 ?k13 ?a14 ?l14 ?c14 ?k14 ?z0 ?z1 ?z2 ?z3 ?z4 ?z5 ?z6 ?z7 ?z8 ?z9 ?z10 ?z11 ?z12 ?z13 ?q0 ?q1
    (case a1 => k_is)
    (case l1 => k_is)
    (case c1 => k_is)
    (case k1 => k_is)
    (case a2 => k_is)
    (case l2 => k_is)
    (case c2 => k_is)
    (case k2 => k_is)
    (case a3 => k_is)
    (case l3 => k_is)
    (case c3 => k_is)
    (case k3 => k_is)
    (case a4 => k_is)
    (case l4 => k_is)
    (case c4 => k_is)
    (case k4 => k_is)
    (case a5 => k_is)
    (case l5 => k_is)
    (case c5 => k_is)
    (case k5 => k_is)
    (case a6 => k_is)
    (case l6 => k_is)
    (case c6 => k_is)
    (case k6 => k_is)
    (case a7 => k_is)
    (case l7 => k_is)
    (case c7 => k_is)
    (case k7 => k_is)
    (case a8 => k_is)
    (case l8 => k_is)
    (case c8 => k_is)
    (case k8 => k_is)
    (case a9 => k_is)
    (case l9 => k_is)
    (case c9 => k_is)
    (case k9 => k_is)
    (case a10 => k_is)
    (case l10 => k_is)
    (case c10 => k_is)
    (case k10 => k_is)
    (case a11 => k_is)
    (case l11 => k_is)
    (case c11 => k_is)
    (case k11 => k_is)
    (case a12 => k_is)
    (case l12 => k_is)
    (case c12 => k_is)
    (case k12 => k_is)
    (case a13 => k_is)
    (case l13 => k_is)
    (case c13 => k_is)
    (case k13 => k_is)
    (case a14 => k_is)
    (case l14 => k_is)
    (case c14 => k_is)
    (case k14 => k_is)
    (case z0 => k_is)
    (case z1 => k_is)
    (case z2 => k_is)
    (case z3 => k_is)
    (case z4 => k_is)
    (case z5 => k_is)
    (case z6 => k_is)
    (case z7 => k_is)
    (case z8 => k_is)
    (case z9 => k_is)
    (case z10 => k_is)
    (case z11 => k_is)
    (case z12 => k_is)
    (case z13 => k_is)
    (case q0 => k_is)
    (case q1 => k_is)
