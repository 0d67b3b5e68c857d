import PyProof.Rows.All
import Wide.All
import OpenK.AllK
import Wide.FinOn
import HandS.ForMost
import HandS.Strs
import HandS.SetFor
import PyProof.FactsAll.bool_1
import HandS.Sort
import HandS.More
import HandS.Conv
import HandS.DictComp
import HandS.SortInts
import HandS.Style
import HandS.Evl
import HandS.IsInst
import HandS.Steps
import HandS.SetKeys
import HandS.Flow
import HandS.Walk
import HandS.LawCells
import PySem.Challenge.RW_stonerow_k05_whole_laid
set_option Elab.async false
set_option linter.all false
set_option maxRecDepth 100000
namespace Sw
/-! ## numbers that hang together -/
inductive Conn (st : List (Int × Int)) : Int → Int → Prop
  | refl (x : Int) : Conn st x x
  | edge {a b : Int} : (a, b) ∈ st → Conn st a b
  | symm {x y : Int} : Conn st x y → Conn st y x
  | trans {x y z : Int} : Conn st x y → Conn st y z → Conn st x z

def IsEnd (st : List (Int × Int)) (x : Int) : Prop := ∃ s ∈ st, x = s.1 ∨ x = s.2

theorem Conn.mono {st st' : List (Int × Int)} (h : ∀ s ∈ st, s ∈ st') {x y : Int} (c : Conn st x y) : Conn st' x y := by
  induction c with
  | refl x => exact .refl x
  | edge e => exact .edge (h _ e)
  | symm _ ih => exact .symm ih
  | trans _ _ i1 i2 => exact .trans i1 i2

theorem Conn.isEnd {st : List (Int × Int)} {x y : Int} (c : Conn st x y) : x = y ∨ (IsEnd st x ∧ IsEnd st y) := by
  induction c with
  | refl x => exact .inl rfl
  | edge e => exact .inr ⟨⟨_, e, .inl rfl⟩, ⟨_, e, .inr rfl⟩⟩
  | symm _ ih =>
    rcases ih with h | ⟨h, h'⟩
    · exact .inl h.symm
    · exact .inr ⟨h', h⟩
  | trans _ _ i1 i2 =>
    rcases i1 with h | ⟨h, h'⟩
    · subst h
      exact i2
    · rcases i2 with k | ⟨_, k'⟩
      · subst k
        exact .inr ⟨h, h'⟩
      · exact .inr ⟨h, k'⟩

/-- how one stone more joins -/
theorem conn_snoc {st : List (Int × Int)} {a b x y : Int} : Conn (st ++ [(a, b)]) x y ↔ Conn st x y ∨ (Conn st x a ∧ Conn st b y) ∨ (Conn st x b ∧ Conn st a y) := by
  constructor
  · intro c
    induction c with
    | refl x => exact .inl (.refl x)
    | edge e =>
      rcases List.mem_append.mp e with h | h
      · exact .inl (.edge h)
      · have h := List.mem_singleton.mp h
        cases h
        exact .inr (.inl ⟨.refl _, .refl _⟩)
    | symm _ ih =>
      rcases ih with h | ⟨h, h'⟩ | ⟨h, h'⟩
      · exact .inl h.symm
      · exact .inr (.inr ⟨h'.symm, h.symm⟩)
      · exact .inr (.inl ⟨h'.symm, h.symm⟩)
    | trans _ _ i1 i2 =>
      rcases i1 with h | ⟨h, h'⟩ | ⟨h, h'⟩
      · rcases i2 with k | ⟨k, k'⟩ | ⟨k, k'⟩
        · exact .inl (h.trans k)
        · exact .inr (.inl ⟨h.trans k, k'⟩)
        · exact .inr (.inr ⟨h.trans k, k'⟩)
      · rcases i2 with k | ⟨k, k'⟩ | ⟨k, k'⟩
        · exact .inr (.inl ⟨h, h'.trans k⟩)
        · exact .inr (.inl ⟨h, k'⟩)
        · exact .inl (h.trans k')
      · rcases i2 with k | ⟨k, k'⟩ | ⟨k, k'⟩
        · exact .inr (.inr ⟨h, h'.trans k⟩)
        · exact .inl (h.trans k')
        · exact .inr (.inr ⟨h, k'⟩)
  · have up : ∀ {u v : Int}, Conn st u v → Conn (st ++ [(a, b)]) u v := fun c => c.mono fun s h => List.mem_append.mpr (.inl h)
    have e : Conn (st ++ [(a, b)]) a b := .edge (List.mem_append.mpr (.inr (List.mem_singleton.mpr rfl)))
    rintro (h | ⟨h, h'⟩ | ⟨h, h'⟩)
    · exact up h
    · exact (up h).trans (e.trans (up h'))
    · exact (up h).trans (e.symm.trans (up h'))

/-! ## the labels, as the program gives them -/
def look (l : List (Int × Int)) (x : Int) : Option Int := (l.find? fun p => decide (p.1 = x)).map (·.2)
def setd (l : List (Int × Int)) (x v : Int) : List (Int × Int) := if (look l x).isSome then l else l ++ [(x, v)]
def relab (o n : Int) (l : List (Int × Int)) : List (Int × Int) := l.map fun p => (p.1, if p.2 = o then n else p.2)
def labStep (l : List (Int × Int)) (s : Int × Int) : List (Int × Int) :=
  let l2 := setd (setd l s.1 s.1) s.2 s.2
  let o := (look l2 s.1).getD 0
  let n := (look l2 s.2).getD 0
  if o ≠ n then relab o n l2 else l2
def labOf (st : List (Int × Int)) : List (Int × Int) := st.foldl labStep []

theorem look_append (l r : List (Int × Int)) (x : Int) : look (l ++ r) x = (look l x).or (look r x) := by
  unfold look
  rw [List.find?_append]
  cases List.find? (fun p => decide (p.1 = x)) l <;> rfl
theorem look_cons (p : Int × Int) (l : List (Int × Int)) (x : Int) : look (p :: l) x = if p.1 = x then some p.2 else look l x := by
  unfold look
  rw [List.find?_cons]
  by_cases h : p.1 = x
  · rw [if_pos h, decide_eq_true h]
    rfl
  · rw [if_neg h, decide_eq_false h]
theorem look_nil (x : Int) : look [] x = none := rfl
theorem look_setd (l : List (Int × Int)) (x v y : Int) : look (setd l x v) y = if y = x then some ((look l x).getD v) else look l y := by
  unfold setd
  cases h : look l x with
  | some w =>
    show look l y = _
    by_cases e : y = x
    · rw [if_pos e, e, h]
      rfl
    · rw [if_neg e]
  | none =>
    show look (l ++ [(x, v)]) y = _
    rw [look_append, look_cons, look_nil]
    by_cases e : y = x
    · rw [if_pos e, e, h, if_pos rfl]
      rfl
    · rw [if_neg e, if_neg (fun z => e z.symm)]
      cases look l y <;> rfl
theorem look_relab (o n : Int) (l : List (Int × Int)) (x : Int) : look (relab o n l) x = (look l x).map fun m => if m = o then n else m := by
  induction l with
  | nil => rfl
  | cons p l ih =>
    show look ((p.1, if p.2 = o then n else p.2) :: relab o n l) x = _
    rw [look_cons, look_cons, ih]
    by_cases e : p.1 = x
    · rw [if_pos e, if_pos e]
      rfl
    · rw [if_neg e, if_neg e]

structure LabOk (pre l : List (Int × Int)) : Prop where
  key : ∀ x, (look l x).isSome = true ↔ IsEnd pre x
  to : ∀ x m, look l x = some m → Conn pre x m
  same : ∀ x y m k, look l x = some m → look l y = some k → Conn pre x y → m = k

theorem isEnd_snoc {pre : List (Int × Int)} {s : Int × Int} {x : Int} : IsEnd (pre ++ [s]) x ↔ IsEnd pre x ∨ x = s.1 ∨ x = s.2 := by
  constructor
  · rintro ⟨t, ht, e⟩
    rcases List.mem_append.mp ht with h | h
    · exact .inl ⟨t, h, e⟩
    · rw [List.mem_singleton.mp h] at e
      exact .inr e
  · rintro (⟨t, ht, e⟩ | e)
    · exact ⟨t, List.mem_append.mpr (.inl ht), e⟩
    · exact ⟨s, List.mem_append.mpr (.inr (List.mem_singleton.mpr rfl)), e⟩

theorem look_of_not {l : List (Int × Int)} {x : Int} (h : ¬ (look l x).isSome = true) : look l x = none := by
  cases e : look l x with
  | none => rfl
  | some m => rw [e] at h; exact absurd rfl h

/-- keys may lie beyond the ends: the extra set -/
structure LabX (pre : List (Int × Int)) (ex : Int → Prop) (l : List (Int × Int)) : Prop where
  key : ∀ x, (look l x).isSome = true ↔ IsEnd pre x ∨ ex x
  to : ∀ x m, look l x = some m → Conn pre x m
  same : ∀ x y m k, look l x = some m → look l y = some k → Conn pre x y → m = k
theorem LabX.setd {pre : List (Int × Int)} {ex : Int → Prop} {l : List (Int × Int)} (h : LabX pre ex l) (a : Int) : LabX pre (fun x => ex x ∨ x = a) (setd l a a) := by
  have hd : ∀ x m, look (Sw.setd l a a) x = some m → (look l x = some m) ∨ (x = a ∧ m = a ∧ look l a = none) := by
    intro x m e
    rw [look_setd] at e
    by_cases q : x = a
    · rw [if_pos q] at e
      cases ha : look l a with
      | none =>
        rw [ha] at e
        exact .inr ⟨q, (Option.some.inj e).symm, rfl⟩
      | some w =>
        rw [ha] at e
        left
        rw [q, ha]
        exact e
    · rw [if_neg q] at e
      exact .inl e
  have fresh : look l a = none → ∀ y, Conn pre a y → y = a := by
    intro hn y c
    have na : ¬ (IsEnd pre a ∨ ex a) := fun z => by
      have := (h.key a).mpr z
      rw [hn] at this
      cases this
    rcases c.isEnd with e | ⟨e, _⟩
    · exact e.symm
    · exact absurd (.inl e) na
  refine ⟨fun x => ?_, fun x m e => ?_, fun x y m k e1 e2 c => ?_⟩
  · rw [look_setd]
    by_cases q : x = a
    · rw [if_pos q]
      exact ⟨fun _ => .inr (.inr q), fun _ => rfl⟩
    · rw [if_neg q, h.key]
      constructor
      · rintro (z | z)
        · exact .inl z
        · exact .inr (.inl z)
      · rintro (z | z | z)
        · exact .inl z
        · exact .inr z
        · exact absurd z q
  · rcases hd x m e with z | ⟨rfl, rfl, _⟩
    · exact h.to x m z
    · exact .refl _
  · rcases hd x m e1 with z1 | ⟨rfl, rfl, n1⟩
    · rcases hd y k e2 with z2 | ⟨rfl, rfl, n2⟩
      · exact h.same x y m k z1 z2 c
      · have := fresh n2 x c.symm
        rw [this, n2] at z1
        cases z1
    · rcases hd y k e2 with z2 | ⟨rfl, rfl, n2⟩
      · have := fresh n1 y c
        rw [this, n1] at z2
        cases z2
      · rfl

theorem labStep_ok {pre l : List (Int × Int)} (h : LabOk pre l) (s : Int × Int) : LabOk (pre ++ [s]) (labStep l s) := by
  obtain ⟨a, b⟩ := s
  have h0 : LabX pre (fun _ => False) l := ⟨fun x => (h.key x).trans ⟨.inl, fun z => z.resolve_right id⟩, h.to, h.same⟩
  have h2 := (h0.setd a).setd b
  generalize el : setd (setd l a a) b b = l2 at h2
  have ka : (look l2 a).isSome = true := (h2.key a).mpr (.inr (.inl (.inr rfl)))
  have kb : (look l2 b).isSome = true := (h2.key b).mpr (.inr (.inr rfl))
  obtain ⟨o, eo⟩ := Option.isSome_iff_exists.mp ka
  obtain ⟨n, en⟩ := Option.isSome_iff_exists.mp kb
  have es : labStep l (a, b) = if o ≠ n then relab o n l2 else l2 := by
    show (if (look (setd (setd l a a) b b) a).getD 0 ≠ (look (setd (setd l a a) b b) b).getD 0 then relab ((look (setd (setd l a a) b b) a).getD 0) ((look (setd (setd l a a) b b) b).getD 0) (setd (setd l a a) b b) else setd (setd l a a) b b) = _
    rw [el, eo, en]
    rfl
  have up : ∀ {u v : Int}, Conn pre u v → Conn (pre ++ [(a, b)]) u v := fun c => c.mono fun s h => List.mem_append.mpr (.inl h)
  have eab : Conn (pre ++ [(a, b)]) a b := .edge (List.mem_append.mpr (.inr (List.mem_singleton.mpr rfl)))
  have lk : ∀ x, look (labStep l (a, b)) x = (look l2 x).map fun m => if m = o then n else m := by
    intro x
    rw [es]
    by_cases q : o = n
    · rw [if_neg (fun z => z q)]
      cases look l2 x with
      | none => rfl
      | some m =>
        show some m = some (if m = o then n else m)
        by_cases z : m = o
        · rw [if_pos z, z, q]
        · rw [if_neg z]
    · rw [if_pos q, look_relab]
  have ao : Conn pre a o := h2.to a o eo
  have bn : Conn pre b n := h2.to b n en
  refine ⟨fun x => ?_, fun x m e => ?_, fun x y m k e1 e2 c => ?_⟩
  · rw [lk, Option.isSome_map, h2.key, isEnd_snoc]
    constructor
    · rintro (z | (z | z) | z)
      · exact .inl z
      · exact z.elim
      · exact .inr (.inl z)
      · exact .inr (.inr z)
    · rintro (z | z | z)
      · exact .inl z
      · exact .inr (.inl (.inr z))
      · exact .inr (.inr z)
  · rw [lk] at e
    cases e1 : look l2 x with
    | none =>
      rw [e1] at e
      cases e
    | some m0 =>
      rw [e1] at e
      have e : (if m0 = o then n else m0) = m := Option.some.inj e
      have c0 := h2.to x m0 e1
      by_cases q : m0 = o
      · rw [if_pos q] at e
        rw [← e]
        rw [q] at c0
        exact (up c0).trans ((up ao).symm.trans (eab.trans (up bn)))
      · rw [if_neg q] at e
        rw [← e]
        exact up c0
  · rw [lk] at e1 e2
    cases f1 : look l2 x with
    | none =>
      rw [f1] at e1
      cases e1
    | some m0 =>
      cases f2 : look l2 y with
      | none =>
        rw [f2] at e2
        cases e2
      | some k0 =>
        rw [f1] at e1
        rw [f2] at e2
        have e1 : (if m0 = o then n else m0) = m := Option.some.inj e1
        have e2 : (if k0 = o then n else k0) = k := Option.some.inj e2
        rcases conn_snoc.mp c with c | ⟨c, c'⟩ | ⟨c, c'⟩
        · have q := h2.same x y m0 k0 f1 f2 c
          rw [← e1, ← e2, q]
        · have q1 := h2.same x a m0 o f1 eo c
          have q2 := h2.same b y n k0 en f2 c'
          rw [← e1, ← e2, q1, ← q2, if_pos rfl]
          by_cases z : n = o
          · rw [if_pos z]
          · rw [if_neg z]
        · have q1 := h2.same x b m0 n f1 en c
          have q2 := h2.same a y o k0 eo f2 c'
          rw [← e1, ← e2, q1, ← q2, if_pos rfl]
          by_cases z : n = o
          · rw [if_pos z]
          · rw [if_neg z]

theorem labFold_ok : ∀ (r pre l : List (Int × Int)), LabOk pre l → LabOk (pre ++ r) (r.foldl labStep l)
  | [], pre, l, h => by
    rw [List.append_nil]
    exact h
  | s :: r, pre, l, h => by
    have := labFold_ok r (pre ++ [s]) (labStep l s) (labStep_ok h s)
    rw [List.append_assoc] at this
    exact this
theorem labOk_nil : LabOk [] [] := by
  refine ⟨fun x => ⟨fun z => ?_, fun z => ?_⟩, fun x m e => ?_, fun x y m k e => ?_⟩
  · cases z
  · obtain ⟨s, hs, _⟩ := z
    cases hs
  · cases e
  · cases e
theorem labOf_ok (st : List (Int × Int)) : LabOk st (labOf st) := labFold_ok st [] [] labOk_nil

/-- the label of a number -/
def lab (st : List (Int × Int)) (x : Int) : Int := (look (labOf st) x).getD 0
theorem lab_iff {st : List (Int × Int)} {x y : Int} (hx : IsEnd st x) (hy : IsEnd st y) : lab st x = lab st y ↔ Conn st x y := by
  have L := labOf_ok st
  obtain ⟨m, em⟩ := Option.isSome_iff_exists.mp ((L.key x).mpr hx)
  obtain ⟨k, ek⟩ := Option.isSome_iff_exists.mp ((L.key y).mpr hy)
  unfold lab
  rw [em, ek]
  show m = k ↔ _
  constructor
  · intro e
    have c1 := L.to x m em
    have c2 := L.to y k ek
    rw [e] at c1
    exact c1.trans c2.symm
  · exact L.same x y m k em ek

/-- the length and the keys, for the dict -/
theorem setd_keys (l : List (Int × Int)) (x v : Int) (h : (l.map (·.1)).Nodup) : ((setd l x v).map (·.1)).Nodup := by
  unfold setd
  cases e : look l x with
  | some w => exact h
  | none =>
    show ((l ++ [(x, v)]).map (·.1)).Nodup
    rw [List.map_append]
    refine List.nodup_append.mpr ⟨h, by simp, fun a ha b hb => ?_⟩
    have hb : b = x := List.mem_singleton.mp hb
    intro q
    obtain ⟨p, hp, ep⟩ := List.mem_map.mp ha
    have := List.find?_eq_none.mp (Option.map_eq_none_iff.mp e) p hp
    exact this (decide_eq_true (ep.trans (q.trans hb)))
theorem setd_len (l : List (Int × Int)) (x v : Int) : (setd l x v).length ≤ l.length + 1 := by
  unfold setd
  split
  · omega
  · rw [List.length_append]
    exact Nat.le_refl _
theorem relab_keys (o n : Int) (l : List (Int × Int)) : (relab o n l).map (·.1) = l.map (·.1) := by
  unfold relab
  rw [List.map_map]
  rfl
end Sw
namespace Sw
theorem relab_len (o n : Int) (l : List (Int × Int)) : (relab o n l).length = l.length := List.length_map _
theorem labStep_len (l : List (Int × Int)) (s : Int × Int) : (labStep l s).length ≤ l.length + 2 := by
  have h1 := setd_len l s.1 s.1
  have h2 := setd_len (setd l s.1 s.1) s.2 s.2
  unfold labStep
  dsimp only
  split
  · rw [relab_len]
    omega
  · omega
theorem labStep_keys (l : List (Int × Int)) (s : Int × Int) (h : (l.map (·.1)).Nodup) : ((labStep l s).map (·.1)).Nodup := by
  have h2 := setd_keys _ s.2 s.2 (setd_keys l s.1 s.1 h)
  unfold labStep
  dsimp only
  split
  · rw [relab_keys]
    exact h2
  · exact h2
theorem labTake_ok (st : List (Int × Int)) : ∀ i, ((st.take i).foldl labStep []).length ≤ 2 * i ∧ (((st.take i).foldl labStep []).map (·.1)).Nodup
  | 0 => ⟨Nat.le_refl _, List.nodup_nil⟩
  | i + 1 => by
    obtain ⟨h1, h2⟩ := labTake_ok st i
    rw [List.take_add_one]
    cases e : st[i]? with
    | none =>
      rw [Option.toList_none, List.append_nil]
      exact ⟨by omega, h2⟩
    | some s =>
      show ((st.take i ++ [s]).foldl labStep []).length ≤ _ ∧ (((st.take i ++ [s]).foldl labStep []).map (·.1)).Nodup
      rw [List.foldl_append]
      exact ⟨Nat.le_trans (labStep_len _ s) (by omega), labStep_keys _ s h2⟩
theorem labTake_succ {st : List (Int × Int)} {i : Nat} {s : Int × Int} (h : st[i]? = some s) : (st.take (i + 1)).foldl labStep [] = labStep ((st.take i).foldl labStep []) s := by
  rw [List.take_add_one, h, Option.toList_some, List.foldl_append]
  rfl
/-- the label of the first number is as it was when the second is put in -/
theorem look_second (l : List (Int × Int)) (a b : Int) : (look (setd (setd l a a) b b) a).getD 0 = (look (setd l a a) a).getD 0 := by
  rw [look_setd]
  by_cases e : a = b
  · rw [if_pos e]
    subst e
    rw [look_setd, if_pos rfl]
    rfl
  · rw [if_neg e]
/-- a list grown by what it had not -/
theorem look_none {l : List (Int × Int)} {x : Int} (h : x ∉ l.map (·.1)) : look l x = none := by
  refine look_of_not fun z => ?_
  obtain ⟨m, hm⟩ := Option.isSome_iff_exists.mp z
  unfold look at hm
  obtain ⟨p, hp, _⟩ := Option.map_eq_some_iff.mp hm
  have h1 := List.mem_of_find?_eq_some hp
  have h2 := List.find?_some hp
  exact h (List.mem_map.mpr ⟨p, h1, of_decide_eq_true h2⟩)
end Sw
namespace Sw
theorem nodup_take {α : Type} {l : List α} {j : Nat} {x : α} (h : l.Nodup) (hx : l[j]? = some x) : x ∉ l.take j := by
  intro m
  obtain ⟨i, hi⟩ := List.mem_iff_getElem?.mp m
  rw [List.getElem?_take] at hi
  by_cases c : i < j
  · rw [if_pos c] at hi
    obtain ⟨h1, e1⟩ := List.getElem?_eq_some_iff.mp hi
    obtain ⟨h2, e2⟩ := List.getElem?_eq_some_iff.mp hx
    have := (List.getElem_inj h).mp (e1.trans e2.symm)
    omega
  · rw [if_neg c] at hi
    cases hi
theorem relab_at {o n : Int} {l : List (Int × Int)} {j : Nat} {p : Int × Int} (h : l[j]? = some p) : (relab o n l)[j]? = some (p.1, if p.2 = o then n else p.2) := by
  unfold relab
  rw [List.getElem?_map, h]
  rfl
theorem relab_take_look {o n : Int} {l : List (Int × Int)} {j : Nat} {p : Int × Int} (hn : (l.map (·.1)).Nodup) (h : l[j]? = some p) : look ((relab o n l).take j) p.1 = none := by
  refine look_none ?_
  rw [List.map_take, relab_keys]
  exact nodup_take hn (by rw [List.getElem?_map, h]; rfl)
end Sw
namespace Sw
/-! ## groups by a class function on places -/
/-- the groups of a rising list of places: the first of each class, then all of its class -/
def grpsL (c : Nat → Int) (l : List Nat) : List (List Nat) := (l.filter fun p => l.all fun q => decide (q < p → c q ≠ c p)).map fun p => l.filter fun q => decide (c q = c p)

/-- what the program's dict holds after the places ahead of i -/
def grpD (c : Nat → Int) (i : Nat) : List (Int × List Nat) :=
  ((List.range i).filter fun p => (List.range i).all fun q => decide (q < p → c q ≠ c p)).map fun p => (c p, (List.range i).filter fun q => decide (c q = c p))
theorem grpD_snd (c : Nat → Int) (i : Nat) : (grpD c i).map (·.2) = grpsL c (List.range i) := by
  unfold grpD grpsL
  rw [List.map_map]
  rfl
theorem grpD_zero (c : Nat → Int) : grpD c 0 = [] := rfl
theorem grpD_fst (c : Nat → Int) (i : Nat) : (grpD c i).map (·.1) = ((List.range i).filter fun p => (List.range i).all fun q => decide (q < p → c q ≠ c p)).map c := by
  unfold grpD
  rw [List.map_map]
  rfl
theorem first_range (c : Nat → Int) (i p : Nat) (hp : p < i) : ((List.range (i + 1)).all fun q => decide (q < p → c q ≠ c p)) = (List.range i).all fun q => decide (q < p → c q ≠ c p) := by
  rw [List.range_succ, List.all_append]
  have : ([i].all fun q => decide (q < p → c q ≠ c p)) = true := by
    rw [List.all_cons, List.all_nil, Bool.and_true]
    exact decide_eq_true fun h => absurd h (by omega)
  rw [this, Bool.and_true]
theorem firsts_succ (c : Nat → Int) (i : Nat) : ((List.range (i + 1)).filter fun p => (List.range (i + 1)).all fun q => decide (q < p → c q ≠ c p)) =
    ((List.range i).filter fun p => (List.range i).all fun q => decide (q < p → c q ≠ c p)) ++ if ((List.range i).all fun q => decide (c q ≠ c i)) = true then [i] else [] := by
  have e1 : ((List.range (i + 1)).filter fun p => (List.range (i + 1)).all fun q => decide (q < p → c q ≠ c p)) =
      ((List.range i).filter fun p => (List.range (i + 1)).all fun q => decide (q < p → c q ≠ c p)) ++ ([i].filter fun p => (List.range (i + 1)).all fun q => decide (q < p → c q ≠ c p)) := by
    rw [← List.filter_append, ← List.range_succ]
  rw [e1]
  congr 1
  · exact List.filter_congr fun p hp => first_range c i p (List.mem_range.mp hp)
  · have e2 : ((List.range (i + 1)).all fun q => decide (q < i → c q ≠ c i)) = (List.range i).all fun q => decide (c q ≠ c i) := by
      rw [List.range_succ, List.all_append]
      have : ([i].all fun q => decide (q < i → c q ≠ c i)) = true := by
        rw [List.all_cons, List.all_nil, Bool.and_true]
        exact decide_eq_true fun h => absurd h (by omega)
      rw [this, Bool.and_true]
      refine Bool.eq_iff_iff.mpr ?_
      rw [List.all_eq_true, List.all_eq_true]
      constructor
      · intro h q hq
        have := of_decide_eq_true (h q hq) (List.mem_range.mp hq)
        exact decide_eq_true this
      · intro h q hq
        exact decide_eq_true fun _ => of_decide_eq_true (h q hq)
    rw [List.filter_cons, e2]
    rfl
theorem class_succ (c : Nat → Int) (i : Nat) (k : Int) : ((List.range (i + 1)).filter fun q => decide (c q = k)) = ((List.range i).filter fun q => decide (c q = k)) ++ if c i = k then [i] else [] := by
  rw [List.range_succ, List.filter_append, List.filter_cons]
  by_cases h : c i = k
  · rw [if_pos h, if_pos (decide_eq_true h)]
    rfl
  · rw [if_neg h, if_neg (by rw [decide_eq_false h]; exact Bool.false_ne_true)]
    rfl
/-- a class that is met for the first time -/
theorem grpD_new (c : Nat → Int) (i : Nat) (h : ∀ q, q < i → c q ≠ c i) : grpD c (i + 1) = grpD c i ++ [(c i, [i])] := by
  unfold grpD
  rw [firsts_succ, if_pos (List.all_eq_true.mpr fun q hq => decide_eq_true (h q (List.mem_range.mp hq))), List.map_append]
  congr 1
  · refine List.map_congr_left fun p hp => ?_
    have hp := List.mem_range.mp (List.mem_filter.mp hp).1
    rw [class_succ, if_neg (fun z => h p hp z.symm), List.append_nil]
  · show [(c i, _)] = [(c i, [i])]
    rw [class_succ, if_pos rfl]
    have : ((List.range i).filter fun q => decide (c q = c i)) = [] := List.filter_eq_nil_iff.mpr fun q hq z => h q (List.mem_range.mp hq) (of_decide_eq_true z)
    rw [this]
    rfl
/-- a class that was met -/
theorem grpD_old (c : Nat → Int) (i : Nat) (h : ∃ q, q < i ∧ c q = c i) : grpD c (i + 1) = (grpD c i).map fun e => (e.1, if e.1 = c i then e.2 ++ [i] else e.2) := by
  unfold grpD
  obtain ⟨q, hq, e⟩ := h
  have hno : ¬ ((List.range i).all fun q => decide (c q ≠ c i)) = true := fun z => by
    have z2 : c q ≠ c i := of_decide_eq_true (List.all_eq_true.mp z q (List.mem_range.mpr hq))
    exact z2 e
  rw [firsts_succ, if_neg hno, List.append_nil, List.map_map]
  refine List.map_congr_left fun p hp => ?_
  show (c p, _) = (c p, if c p = c i then _ else _)
  rw [class_succ]
  by_cases z : c i = c p
  · rw [if_pos z, if_pos z.symm]
  · rw [if_neg z, if_neg (fun y => z y.symm), List.append_nil]
/-- which keys it holds -/
theorem exists_first (c : Nat → Int) (k : Int) : ∀ (n q : Nat), q ≤ n → c q = k → ∃ p, p ≤ q ∧ c p = k ∧ ∀ r, r < p → c r ≠ k
  | 0, q, hq, e => ⟨q, Nat.le_refl _, e, fun r hr => absurd hr (by omega)⟩
  | n + 1, q, hq, e => by
    by_cases h : ∃ r, r < q ∧ c r = k
    · obtain ⟨r, hr, er⟩ := h
      obtain ⟨p, hp, ep, fp⟩ := exists_first c k n r (by omega) er
      exact ⟨p, by omega, ep, fp⟩
    · exact ⟨q, Nat.le_refl _, e, fun r hr z => h ⟨r, hr, z⟩⟩
theorem grpD_key (c : Nat → Int) (i : Nat) (k : Int) : k ∈ (grpD c i).map (·.1) ↔ ∃ q, q < i ∧ c q = k := by
  rw [grpD_fst]
  constructor
  · intro h
    obtain ⟨p, hp, e⟩ := List.mem_map.mp h
    exact ⟨p, List.mem_range.mp (List.mem_filter.mp hp).1, e⟩
  · rintro ⟨q, hq, e⟩
    obtain ⟨p, hp, ep, fp⟩ := exists_first c k q q (Nat.le_refl _) e
    refine List.mem_map.mpr ⟨p, List.mem_filter.mpr ⟨List.mem_range.mpr (by omega), List.all_eq_true.mpr fun r _ => decide_eq_true fun hr => ?_⟩, ep⟩
    rw [ep]
    exact fp r hr
theorem grpD_len (c : Nat → Int) (i : Nat) : (grpD c i).length ≤ i := by
  unfold grpD
  rw [List.length_map]
  have h := List.length_filter_le (fun p => (List.range i).all fun q => decide (q < p → c q ≠ c p)) (List.range i)
  rw [List.length_range] at h
  exact h
theorem grpD_nodup (c : Nat → Int) : ∀ i, ((grpD c i).map (·.1)).Nodup
  | 0 => List.nodup_nil
  | i + 1 => by
    by_cases h : ∃ q, q < i ∧ c q = c i
    · rw [grpD_old c i h, List.map_map]
      exact grpD_nodup c i
    · have h' : ∀ q, q < i → c q ≠ c i := fun q hq e => h ⟨q, hq, e⟩
      rw [grpD_new c i h', List.map_append]
      refine List.nodup_append.mpr ⟨grpD_nodup c i, by simp, fun a ha b hb e => ?_⟩
      have hb : b = c i := List.mem_singleton.mp hb
      rw [e, hb] at ha
      obtain ⟨q, hq, z⟩ := (grpD_key c i (c i)).mp ha
      exact h' q hq z

/-! ## the same by walks: one class out of the list at a time -/
theorem grpsL_nil (c : Nat → Int) : grpsL c [] = [] := rfl
theorem grpsL_cons (c : Nat → Int) (p : Nat) (r : List Nat) (hs : (p :: r).Pairwise (· < ·)) :
    grpsL c (p :: r) = ((p :: r).filter fun q => decide (c q = c p)) :: grpsL c (r.filter fun q => decide (c q ≠ c p)) := by
  obtain ⟨h1, h2⟩ := List.pairwise_cons.mp hs
  unfold grpsL
  have f1 : ((p :: r).all fun q => decide (q < p → c q ≠ c p)) = true := by
    refine List.all_eq_true.mpr fun q hq => decide_eq_true fun hlt => ?_
    rcases List.mem_cons.mp hq with e | e
    · omega
    · have := h1 q e
      omega
  rw [List.filter_cons, if_pos f1, List.map_cons]
  congr 1
  have f2 : (r.filter fun q => (p :: r).all fun q' => decide (q' < q → c q' ≠ c q)) = ((r.filter fun q => decide (c q ≠ c p)).filter fun q => (r.filter fun q => decide (c q ≠ c p)).all fun q' => decide (q' < q → c q' ≠ c q)) := by
    rw [List.filter_filter]
    refine List.filter_congr fun q hq => ?_
    refine Bool.eq_iff_iff.mpr ?_
    rw [Bool.and_eq_true, List.all_eq_true, List.all_eq_true]
    constructor
    · intro h
      refine ⟨fun q' hq' => ?_, ?_⟩
      · exact h q' (List.mem_cons.mpr (.inr (List.mem_filter.mp hq').1))
      · have := of_decide_eq_true (h p List.mem_cons_self) (h1 q hq)
        exact decide_eq_true fun z => this z.symm
    · rintro ⟨h, h'⟩ q' hq'
      have h' := of_decide_eq_true h'
      refine decide_eq_true fun hlt => ?_
      rcases List.mem_cons.mp hq' with e | e
      · rw [e]
        exact fun z => h' z.symm
      · by_cases z : c q' = c p
        · rw [z]
          exact fun y => h' y.symm
        · exact of_decide_eq_true (h q' (List.mem_filter.mpr ⟨e, decide_eq_true z⟩)) hlt
  rw [f2]
  refine List.map_congr_left fun q hq => ?_
  have hq' := of_decide_eq_true (List.mem_filter.mp (List.mem_filter.mp hq).1).2
  rw [List.filter_cons, if_neg (by rw [decide_eq_false (fun z => hq' z.symm)]; exact Bool.false_ne_true), List.filter_filter]
  refine List.filter_congr fun x _ => ?_
  refine Bool.eq_iff_iff.mpr ?_
  rw [Bool.and_eq_true, decide_eq_true_eq, decide_eq_true_eq]
  exact ⟨fun z => ⟨z, by rw [z]; exact hq'⟩, fun z => z.1⟩

/-- each place of the list stands in just one of the groups -/
theorem grpsL_perm (c : Nat → Int) : ∀ (n : Nat) (l : List Nat), l.length ≤ n → l.Pairwise (· < ·) → (grpsL c l).flatten.Perm l
  | 0, [], _, _ => List.Perm.refl _
  | n + 1, [], _, _ => List.Perm.refl _
  | n + 1, p :: r, hn, hs => by
    rw [grpsL_cons c p r hs, List.flatten_cons]
    have h2 := (List.pairwise_cons.mp hs).2
    have ih := grpsL_perm c n (r.filter fun q => decide (c q ≠ c p)) (Nat.le_trans (List.length_filter_le _ _) (Nat.le_of_succ_le_succ hn)) (h2.filter _)
    refine (List.Perm.append_left _ ih).trans ?_
    have e : (r.filter fun q => decide (c q ≠ c p)) = (p :: r).filter fun q => !decide (c q = c p) := by
      rw [List.filter_cons, if_neg (by rw [decide_eq_true rfl]; exact Bool.false_ne_true)]
      refine List.filter_congr fun x _ => ?_
      by_cases z : c x = c p
      · rw [decide_eq_true z, decide_eq_false (fun y => y z)]
        rfl
      · rw [decide_eq_false z, decide_eq_true z]
        rfl
    rw [e]
    exact List.filter_append_perm _ _
end Sw
namespace Sw
/-! ## two rising lists of the same items -/
theorem perm_sorted_eq : ∀ {l m : List Int}, l.Perm m → l.Pairwise (· ≤ ·) → m.Pairwise (· ≤ ·) → l = m
  | [], m, h, _, _ => (List.nil_perm.mp h).symm
  | a :: l, [], h, _, _ => by
    have := h.length_eq
    simp at this
  | a :: l, b :: m, h, hl, hm => by
    obtain ⟨l1, l2⟩ := List.pairwise_cons.mp hl
    obtain ⟨m1, m2⟩ := List.pairwise_cons.mp hm
    have e : a = b := by
      have ha : a ∈ b :: m := h.mem_iff.mp List.mem_cons_self
      have hb : b ∈ a :: l := h.mem_iff.mpr List.mem_cons_self
      rcases List.mem_cons.mp ha with e | ha
      · exact e
      rcases List.mem_cons.mp hb with e | hb
      · exact e.symm
      have := m1 a ha
      have := l1 b hb
      omega
    subst e
    rw [perm_sorted_eq h.cons_inv l2 m2]
theorem sorted_ext {l m : List Int} (hl : l.Pairwise (· < ·)) (hm : m.Pairwise (· < ·)) (h : ∀ k, k ∈ l ↔ k ∈ m) : l = m := by
  have nd : ∀ {l : List Int}, l.Pairwise (· < ·) → l.Nodup := fun h => h.imp fun h => by omega
  have le : ∀ {l : List Int}, l.Pairwise (· < ·) → l.Pairwise (· ≤ ·) := fun h => h.imp fun h => by omega
  exact perm_sorted_eq ((List.perm_ext_iff_of_nodup (nd hl) (nd hm)).mpr h) (le hl) (le hm)
theorem nat_sorted_ext {l m : List Nat} (hl : l.Pairwise (· < ·)) (hm : m.Pairwise (· < ·)) (h : ∀ k, k ∈ l ↔ k ∈ m) : l = m := by
  have up : ∀ {l : List Nat}, l.Pairwise (· < ·) → (l.map fun n : Nat => (n : Int)).Pairwise (· < ·) := fun h => List.pairwise_map.mpr (h.imp fun h => by omega)
  have e := sorted_ext (up hl) (up hm) fun k => by
    rw [List.mem_map, List.mem_map]
    exact ⟨fun ⟨a, ha, e⟩ => ⟨a, (h a).mp ha, e⟩, fun ⟨a, ha, e⟩ => ⟨a, (h a).mpr ha, e⟩⟩
  exact (List.map_inj_right (f := fun n : Nat => (n : Int)) (fun a b (e : (a : Int) = b) => by omega)).mp e

/-! ## places and their stones -/
def sa (st : List (Int × Int)) (p : Nat) : Int := (st.getD p (0, 0)).1
def sb (st : List (Int × Int)) (p : Nat) : Int := (st.getD p (0, 0)).2
def cls (st : List (Int × Int)) (p : Nat) : Int := lab st (sa st p)
theorem st_at {st : List (Int × Int)} {p : Nat} (h : p < st.length) : st[p]? = some (sa st p, sb st p) := by
  unfold sa sb
  rw [List.getD_eq_getElem?_getD, List.getElem?_eq_getElem h]
  rfl
theorem st_mem {st : List (Int × Int)} {p : Nat} (h : p < st.length) : (sa st p, sb st p) ∈ st := List.mem_of_getElem? (st_at h)
theorem st_ends {st : List (Int × Int)} {p : Nat} (h : p < st.length) : IsEnd st (sa st p) ∧ IsEnd st (sb st p) := ⟨⟨_, st_mem h, .inl rfl⟩, ⟨_, st_mem h, .inr rfl⟩⟩
theorem conn_of_cls {st : List (Int × Int)} {p q : Nat} (hp : p < st.length) (hq : q < st.length) : cls st p = cls st q ↔ Conn st (sa st p) (sa st q) := lab_iff (st_ends hp).1 (st_ends hq).1
/-- the groups of the stones -/
def grps (st : List (Int × Int)) : List (List Nat) := grpsL (cls st) (List.range st.length)

/-! ## the law's walk: one group -/
def touch (st : List (Int × Int)) (ns : List Int) (q : Nat) : Bool := decide (sa st q ∈ ns) || decide (sb st q ∈ ns)
def endsOf (st : List (Int × Int)) (l : List Nat) : List Int := l.flatMap fun q => [sa st q, sb st q]
theorem mem_endsOf {st : List (Int × Int)} {l : List Nat} {x : Int} : x ∈ endsOf st l ↔ ∃ q ∈ l, x = sa st q ∨ x = sb st q := by
  unfold endsOf
  rw [List.mem_flatMap]
  constructor
  · rintro ⟨q, hq, h⟩
    refine ⟨q, hq, ?_⟩
    rcases List.mem_cons.mp h with h | h
    · exact .inl h
    · exact .inr (List.mem_singleton.mp h)
  · rintro ⟨q, hq, h⟩
    refine ⟨q, hq, ?_⟩
    rcases h with h | h
    · exact List.mem_cons.mpr (.inl h)
    · exact List.mem_cons.mpr (.inr (List.mem_singleton.mpr h))
theorem endsOf_append (st : List (Int × Int)) (l m : List Nat) : endsOf st (l ++ m) = endsOf st l ++ endsOf st m := List.flatMap_append

/-- a rising list of places that holds whole groups -/
structure Whole (st : List (Int × Int)) (l : List Nat) : Prop where
  up : l.Pairwise (· < ·)
  lt : ∀ q ∈ l, q < st.length
  all : ∀ q ∈ l, ∀ k, k < st.length → cls st k = cls st q → k ∈ l
theorem whole_range (st : List (Int × Int)) : Whole st (List.range st.length) :=
  ⟨List.pairwise_lt_range, fun _ h => List.mem_range.mp h, fun _ _ _ h _ => List.mem_range.mpr h⟩
theorem Whole.rest {st : List (Int × Int)} {p : Nat} {r : List Nat} (h : Whole st (p :: r)) : Whole st (r.filter fun q => decide (cls st q ≠ cls st p)) := by
  refine ⟨(List.pairwise_cons.mp h.up).2.filter _, fun q hq => h.lt q (List.mem_cons.mpr (.inr (List.mem_filter.mp hq).1)), fun q hq k hk e => ?_⟩
  obtain ⟨h1, h2⟩ := List.mem_filter.mp hq
  have h2 : cls st q ≠ cls st p := of_decide_eq_true h2
  have hm := h.all q (List.mem_cons.mpr (.inr h1)) k hk e
  rcases List.mem_cons.mp hm with z | z
  · rw [z] at e
    exact absurd e.symm h2
  · exact List.mem_filter.mpr ⟨z, decide_eq_true (by rw [e]; exact h2)⟩

/-- what the walk knows: the places of the group so far, those that are left -/
structure Walk1 (st : List (Int × Int)) (p : Nat) (r left group : List Nat) (ns : List Int) : Prop where
  left : left = r.filter fun q => decide (q ∉ group)
  nd : group.Nodup
  has : p ∈ group
  sub : ∀ q ∈ group, q ∈ p :: r ∧ cls st q = cls st p
  num : ∀ x, x ∈ ns ↔ x ∈ endsOf st group
theorem walk1_start {st : List (Int × Int)} {p : Nat} {r : List Nat} (h : Whole st (p :: r)) : Walk1 st p r r [p] [sa st p, sb st p] := by
  refine ⟨?_, by simp, List.mem_singleton.mpr rfl, fun q hq => ?_, fun x => Iff.rfl⟩
  · symm
    refine List.filter_eq_self.mpr fun q hq => decide_eq_true fun z => ?_
    have := (List.pairwise_cons.mp h.up).1 q hq
    have := List.mem_singleton.mp z
    omega
  · have e := List.mem_singleton.mp hq
    rw [e]
    exact ⟨List.mem_cons_self, rfl⟩
theorem cls_touch {st : List (Int × Int)} {q k : Nat} (hq : q < st.length) (hk : k < st.length) {x : Int} (e1 : x = sa st q ∨ x = sb st q) (e2 : x = sa st k ∨ x = sb st k) : cls st q = cls st k := by
  refine (conn_of_cls hq hk).mpr ?_
  have c1 : Conn st (sa st q) x := by
    rcases e1 with e | e
    · rw [e]
      exact .refl _
    · rw [e]
      exact .edge (st_mem hq)
  have c2 : Conn st (sa st k) x := by
    rcases e2 with e | e
    · rw [e]
      exact .refl _
    · rw [e]
      exact .edge (st_mem hk)
  exact c1.trans c2.symm
theorem touch_iff {st : List (Int × Int)} {ns : List Int} {q : Nat} : touch st ns q = true ↔ ∃ x, x ∈ ns ∧ (x = sa st q ∨ x = sb st q) := by
  unfold touch
  rw [Bool.or_eq_true, decide_eq_true_eq, decide_eq_true_eq]
  constructor
  · rintro (h | h)
    · exact ⟨_, h, .inl rfl⟩
    · exact ⟨_, h, .inr rfl⟩
  · rintro ⟨x, h, e | e⟩
    · rw [← e]
      exact .inl h
    · rw [← e]
      exact .inr h
theorem Walk1.turn {st : List (Int × Int)} {p : Nat} {r left group : List Nat} {ns ns' : List Int} (h : Whole st (p :: r)) (w : Walk1 st p r left group ns) (e : ns' = ns ++ endsOf st (left.filter (touch st ns))) :
    Walk1 st p r (left.filter fun q => decide (q ∉ left.filter (touch st ns))) (group ++ left.filter (touch st ns)) ns' := by
  have hleft : ∀ q, q ∈ left ↔ q ∈ r ∧ q ∉ group := fun q => by
    rw [w.left, List.mem_filter, decide_eq_true_eq]
  have ndr : r.Nodup := (List.pairwise_cons.mp h.up).2.imp fun h => by omega
  have ndl : left.Nodup := by
    rw [w.left]
    exact ndr.filter _
  refine ⟨?_, ?_, List.mem_append.mpr (.inl w.has), fun q hq => ?_, fun x => ?_⟩
  · rw [w.left, List.filter_filter]
    refine List.filter_congr fun q hq => ?_
    refine Bool.eq_iff_iff.mpr ?_
    rw [Bool.and_eq_true, decide_eq_true_eq, decide_eq_true_eq, decide_eq_true_eq, List.mem_append, not_or]
    exact And.comm
  · refine List.nodup_append.mpr ⟨w.nd, ndl.filter _, fun a ha b hb z => ?_⟩
    rw [z] at ha
    exact ((hleft b).mp (List.mem_filter.mp hb).1).2 ha
  · rcases List.mem_append.mp hq with hq | hq
    · exact w.sub q hq
    · obtain ⟨h1, h2⟩ := List.mem_filter.mp hq
      have hr := ((hleft q).mp h1).1
      refine ⟨List.mem_cons.mpr (.inr hr), ?_⟩
      obtain ⟨x, hx, ex⟩ := touch_iff.mp h2
      obtain ⟨k, hk, ek⟩ := mem_endsOf.mp ((w.num x).mp hx)
      obtain ⟨k1, k2⟩ := w.sub k hk
      rw [← k2]
      exact cls_touch (h.lt q (List.mem_cons.mpr (.inr hr))) (h.lt k k1) ex ek
  · rw [e, endsOf_append, List.mem_append, List.mem_append, w.num]
theorem Walk1.fin {st : List (Int × Int)} {p : Nat} {r left group : List Nat} {ns : List Int} (h : Whole st (p :: r)) (w : Walk1 st p r left group ns) (e : left.filter (touch st ns) = []) :
    (∀ q, q ∈ group ↔ q ∈ (p :: r).filter fun q => decide (cls st q = cls st p)) ∧ left = r.filter fun q => decide (cls st q ≠ cls st p) := by
  have hleft : ∀ q, q ∈ left ↔ q ∈ r ∧ q ∉ group := fun q => by
    rw [w.left, List.mem_filter, decide_eq_true_eq]
  have no : ∀ q ∈ left, touch st ns q = false := fun q hq => by
    cases z : touch st ns q with
    | false => rfl
    | true =>
      have : q ∈ left.filter (touch st ns) := List.mem_filter.mpr ⟨hq, z⟩
      rw [e] at this
      cases this
  -- a stone that touches the numbers lies in the group
  have key : ∀ k, k < st.length → touch st ns k = true → k ∈ group := by
    intro k hk t
    obtain ⟨x, hx, ex⟩ := touch_iff.mp t
    obtain ⟨q, hq, eq⟩ := mem_endsOf.mp ((w.num x).mp hx)
    obtain ⟨q1, q2⟩ := w.sub q hq
    have ck := cls_touch hk (h.lt q q1) ex eq
    have km := h.all q q1 k hk ck
    by_cases kg : k ∈ group
    · exact kg
    · rcases List.mem_cons.mp km with z | z
      · rw [z] at kg
        exact absurd w.has kg
      · have := no k ((hleft k).mpr ⟨z, kg⟩)
        rw [this] at t
        cases t
  have conn : ∀ {x y : Int}, Conn st x y → (x ∈ ns ↔ y ∈ ns) := by
    intro x y c
    induction c with
    | refl x => exact Iff.rfl
    | @edge a b he =>
      obtain ⟨k, hk⟩ := List.mem_iff_getElem?.mp he
      have kl : k < st.length := (List.getElem?_eq_some_iff.mp hk).1
      rw [st_at kl] at hk
      have hk := Option.some.inj hk
      have e1 : sa st k = a := congrArg Prod.fst hk
      have e2 : sb st k = b := congrArg Prod.snd hk
      constructor
      · intro ha
        have kg := key k kl (touch_iff.mpr ⟨a, ha, .inl e1.symm⟩)
        exact (w.num b).mpr (mem_endsOf.mpr ⟨k, kg, .inr e2.symm⟩)
      · intro hb
        have kg := key k kl (touch_iff.mpr ⟨b, hb, .inr e2.symm⟩)
        exact (w.num a).mpr (mem_endsOf.mpr ⟨k, kg, .inl e1.symm⟩)
    | symm _ ih => exact ih.symm
    | trans _ _ i1 i2 => exact i1.trans i2
  have grp : ∀ q, q ∈ group ↔ q ∈ (p :: r).filter fun q => decide (cls st q = cls st p) := by
    intro q
    rw [List.mem_filter, decide_eq_true_eq]
    constructor
    · exact w.sub q
    · rintro ⟨hq, ec⟩
      have hp := h.lt p List.mem_cons_self
      have hql := h.lt q hq
      have c := (conn_of_cls hql hp).mp ec
      have pin : sa st p ∈ ns := (w.num _).mpr (mem_endsOf.mpr ⟨p, w.has, .inl rfl⟩)
      exact key q hql (touch_iff.mpr ⟨_, (conn c).mpr pin, .inl rfl⟩)
  refine ⟨grp, ?_⟩
  rw [w.left]
  refine List.filter_congr fun q hq => ?_
  refine Bool.eq_iff_iff.mpr ?_
  rw [decide_eq_true_eq, decide_eq_true_eq, grp q, List.mem_filter, decide_eq_true_eq]
  constructor
  · intro z y
    exact z ⟨List.mem_cons.mpr (.inr hq), y⟩
  · intro z y
    exact z y.2
/-- the sorted group is the group -/
theorem Walk1.sorted {st : List (Int × Int)} {p : Nat} {r left group : List Nat} {ns : List Int} (h : Whole st (p :: r)) (w : Walk1 st p r left group ns) (e : left.filter (touch st ns) = []) {gs : List Int}
    (hp : gs.Perm (group.map fun n : Nat => (n : Int))) (hs : gs.Pairwise (· ≤ ·)) : gs = ((p :: r).filter fun q => decide (cls st q = cls st p)).map fun n : Nat => (n : Int) := by
  have g := (w.fin h e).1
  have u := h.up.filter fun q => decide (cls st q = cls st p)
  have pm : group.Perm ((p :: r).filter fun q => decide (cls st q = cls st p)) := (List.perm_ext_iff_of_nodup w.nd (u.imp fun h => by omega)).mpr g
  exact perm_sorted_eq (hp.trans (pm.map _)) hs (List.pairwise_map.mpr (u.imp fun h => by omega))
end Sw
namespace Sw
/-! ## numbers that stand an odd number of times -/
def IsOdd (E l : List Int) : Prop := l.Pairwise (· < ·) ∧ ∀ k, k ∈ l ↔ E.count k % 2 = 1
theorem IsOdd.uniq {E l m : List Int} (a : IsOdd E l) (b : IsOdd E m) : l = m := sorted_ext a.1 b.1 fun k => (a.2 k).trans (b.2 k).symm
def tog (x : Int) : List Int → List Int
  | [] => [x]
  | y :: l => if x < y then x :: y :: l else if x = y then l else y :: tog x l
def oddL (E : List Int) : List Int := E.foldr tog []
theorem tog_mem {x k : Int} : ∀ {l : List Int}, l.Pairwise (· < ·) → (k ∈ tog x l ↔ if k = x then x ∉ l else k ∈ l)
  | [], _ => by
    show k ∈ [x] ↔ _
    rw [List.mem_singleton]
    by_cases h : k = x
    · rw [if_pos h]
      exact ⟨fun _ z => (by cases z), fun _ => h⟩
    · rw [if_neg h]
      exact ⟨fun z => absurd z h, fun z => (by cases z)⟩
  | y :: l, hp => by
    obtain ⟨h1, h2⟩ := List.pairwise_cons.mp hp
    have ih := tog_mem (x := x) (k := k) h2
    unfold tog
    by_cases c1 : x < y
    · rw [if_pos c1]
      have nx : x ∉ y :: l := fun z => by
        rcases List.mem_cons.mp z with e | e
        · omega
        · have := h1 x e
          omega
      by_cases h : k = x
      · rw [if_pos h]
        exact ⟨fun _ => nx, fun _ => by rw [h]; exact List.mem_cons_self⟩
      · rw [if_neg h]
        exact ⟨fun z => (List.mem_cons.mp z).resolve_left h, fun z => List.mem_cons.mpr (.inr z)⟩
    · rw [if_neg c1]
      by_cases c2 : x = y
      · rw [if_pos c2]
        have nx : x ∉ l := fun z => by
          have := h1 x z
          omega
        by_cases h : k = x
        · rw [if_pos h]
          rw [h]
          exact ⟨fun z => absurd z nx, fun z => absurd (by rw [c2]; exact List.mem_cons_self) z⟩
        · rw [if_neg h]
          exact ⟨fun z => List.mem_cons.mpr (.inr z), fun z => (List.mem_cons.mp z).resolve_left (by omega)⟩
      · rw [if_neg c2, List.mem_cons, ih]
        by_cases h : k = x
        · rw [if_pos h, if_pos h, List.mem_cons]
          constructor
          · rintro (z | z)
            · omega
            · rintro (y' | y')
              · exact c2 y'
              · exact z y'
          · intro z
            exact .inr fun y' => z (.inr y')
        · rw [if_neg h, if_neg h, List.mem_cons]
theorem tog_up {x : Int} : ∀ {l : List Int}, l.Pairwise (· < ·) → (tog x l).Pairwise (· < ·)
  | [], _ => by
    show ([x] : List Int).Pairwise (· < ·)
    exact List.pairwise_singleton _ _
  | y :: l, hp => by
    obtain ⟨h1, h2⟩ := List.pairwise_cons.mp hp
    have ih := tog_up (x := x) h2
    unfold tog
    by_cases c1 : x < y
    · rw [if_pos c1]
      refine List.pairwise_cons.mpr ⟨fun z hz => ?_, hp⟩
      rcases List.mem_cons.mp hz with e | e
      · omega
      · have := h1 z e
        omega
    · rw [if_neg c1]
      by_cases c2 : x = y
      · rw [if_pos c2]
        exact h2
      · rw [if_neg c2]
        refine List.pairwise_cons.mpr ⟨fun z hz => ?_, ih⟩
        have := (tog_mem h2).mp hz
        by_cases e : z = x
        · omega
        · rw [if_neg e] at this
          exact h1 z this
theorem tog_len (x : Int) : ∀ (l : List Int), (tog x l).length % 2 = (l.length + 1) % 2
  | [] => rfl
  | y :: l => by
    have ih := tog_len x l
    unfold tog
    by_cases c1 : x < y
    · rw [if_pos c1]
      rfl
    · rw [if_neg c1]
      by_cases c2 : x = y
      · rw [if_pos c2, List.length_cons]
        omega
      · rw [if_neg c2, List.length_cons, List.length_cons]
        omega
theorem tog_size (x : Int) : ∀ (l : List Int), (tog x l).length ≤ l.length + 1 ∧ l.length ≤ (tog x l).length + 1
  | [] => ⟨Nat.le_refl _, Nat.zero_le _⟩
  | y :: l => by
    have ih := tog_size x l
    unfold tog
    by_cases c1 : x < y
    · rw [if_pos c1]
      simp only [List.length_cons]
      omega
    · rw [if_neg c1]
      by_cases c2 : x = y
      · rw [if_pos c2]
        simp only [List.length_cons]
        omega
      · rw [if_neg c2]
        simp only [List.length_cons]
        omega
theorem oddL_cons (x : Int) (E : List Int) : oddL (x :: E) = tog x (oddL E) := rfl
theorem oddL_ok : ∀ E : List Int, IsOdd E (oddL E)
  | [] => ⟨List.Pairwise.nil, fun k => ⟨fun z => (by cases z), fun z => by rw [List.count_nil] at z; omega⟩⟩
  | x :: E => by
    have ih := oddL_ok E
    refine ⟨tog_up ih.1, fun k => ?_⟩
    rw [oddL_cons, tog_mem ih.1, List.count_cons]
    by_cases h : k = x
    · rw [if_pos h, ih.2, if_pos (by rw [h]; exact beq_self_eq_true _), h]
      omega
    · rw [if_neg h, ih.2, if_neg (fun z => h (eq_of_beq z).symm)]
      exact Iff.rfl
theorem oddL_len : ∀ E : List Int, (oddL E).length % 2 = E.length % 2
  | [] => rfl
  | x :: E => by
    have := oddL_len E
    rw [oddL_cons, tog_len, List.length_cons]
    omega
theorem oddL_le : ∀ E : List Int, (oddL E).length ≤ E.length
  | [] => Nat.le_refl _
  | x :: E => by
    have := oddL_le E
    have := (tog_size x (oddL E)).1
    rw [oddL_cons, List.length_cons]
    omega
/-- from the sorted keys of the counts -/
theorem isOdd_filter {E ks : List Int} (hp : ks.Pairwise (· < ·)) (hk : ∀ k, k ∈ ks ↔ k ∈ E) : IsOdd E (ks.filter fun k => decide (E.count k % 2 = 1)) := by
  refine ⟨hp.filter _, fun k => ?_⟩
  rw [List.mem_filter, decide_eq_true_eq, hk]
  constructor
  · exact fun z => z.2
  · intro z
    refine ⟨?_, z⟩
    have : 0 < E.count k := by omega
    exact List.count_pos_iff.mp this
theorem isOdd_mem {E l : List Int} (hp : l.Pairwise (· < ·)) (hk : ∀ k, k ∈ l ↔ k ∈ E.filter fun k => decide (E.count k % 2 = 1)) : IsOdd E l := by
  refine ⟨hp, fun k => ?_⟩
  rw [hk, List.mem_filter, decide_eq_true_eq]
  constructor
  · exact fun z => z.2
  · intro z
    exact ⟨List.count_pos_iff.mp (by omega), z⟩
theorem endsOf_len (st : List (Int × Int)) : ∀ l : List Nat, (endsOf st l).length = 2 * l.length
  | [] => rfl
  | q :: l => by
    have := endsOf_len st l
    show (sa st q :: sb st q :: endsOf st l).length = _
    simp only [List.length_cons]
    omega
/-- the odd ends of the stones at these places -/
def odds (st : List (Int × Int)) (l : List Nat) : List Int := oddL (endsOf st l)
theorem odds_even (st : List (Int × Int)) (l : List Nat) : (odds st l).length % 2 = 0 := by
  unfold odds
  rw [oddL_len, endsOf_len]
  omega
theorem lt_of_le_nd : ∀ {l : List Int}, l.Pairwise (· ≤ ·) → l.Nodup → l.Pairwise (· < ·)
  | [], _, _ => List.Pairwise.nil
  | a :: l, h, n => by
    obtain ⟨h1, h2⟩ := List.pairwise_cons.mp h
    obtain ⟨n1, n2⟩ := List.nodup_cons.mp n
    refine List.pairwise_cons.mpr ⟨fun b hb => ?_, lt_of_le_nd h2 n2⟩
    have := h1 b hb
    have : a ≠ b := fun e => n1 (by rw [e]; exact hb)
    omega
/-- how many chains it takes -/
def few (st : List (Int × Int)) : Nat := ((grps st).map fun g => max 1 ((odds st g).length / 2)).sum
end Sw
namespace Sw
/-! ## steps, trails -/
abbrev Step := Nat × Nat
def lie (st : List (Int × Int)) (s : Step) : Int × Int := if s.2 = 0 then (sa st s.1, sb st s.1) else (sb st s.1, sa st s.1)
def hasE (st : List (Int × Int)) (x : Int) (p : Nat) : Bool := decide (sa st p = x ∨ sb st p = x)
def stepOf (st : List (Int × Int)) (x : Int) (p : Nat) : Step := (p, if sa st p = x then 0 else 1)
theorem hasE_iff {st : List (Int × Int)} {x : Int} {p : Nat} : hasE st x p = true ↔ sa st p = x ∨ sb st p = x := decide_eq_true_iff
theorem lie_step {st : List (Int × Int)} {x : Int} {p : Nat} (h : hasE st x p = true) : (lie st (stepOf st x p)).1 = x := by
  unfold lie stepOf
  by_cases c : sa st p = x
  · rw [if_pos c]
    exact c
  · rw [if_neg c]
    exact (hasE_iff.mp h).resolve_left c
/-- a trail from a number to a number -/
def Tr (st : List (Int × Int)) : Int → List Step → Int → Prop
  | x, [], y => x = y
  | x, s :: c, y => (lie st s).1 = x ∧ Tr st (lie st s).2 c y
theorem Tr.app {st : List (Int × Int)} : ∀ {x y z : Int} {c d : List Step}, Tr st x c y → Tr st y d z → Tr st x (c ++ d) z
  | _, _, _, [], _, h, k => by
    have h : _ = _ := h
    rw [h]
    exact k
  | _, _, _, _ :: _, _, h, k => ⟨h.1, Tr.app h.2 k⟩
def plc (c : List Step) : List Nat := c.map (·.1)
theorem lie_mem {st : List (Int × Int)} (s : Step) (z : Int) : [sa st s.1, sb st s.1].count z = (if z = (lie st s).1 then 1 else 0) + (if z = (lie st s).2 then 1 else 0) := by
  have key : ∀ a b : Int, [a, b].count z = (if z = a then 1 else 0) + (if z = b then 1 else 0) := fun a b => by
    rw [List.count_cons, List.count_cons, List.count_nil]
    by_cases c1 : a = z
    · by_cases c2 : b = z
      · simp [c1, c2]
      · simp [c1, c2, Ne.symm c2]
    · by_cases c2 : b = z
      · simp [c1, c2, Ne.symm c1]
      · simp [c1, c2, Ne.symm c1, Ne.symm c2]
  unfold lie
  rw [key]
  by_cases c : s.2 = 0
  · rw [if_pos c]
  · rw [if_neg c]
    exact Nat.add_comm _ _
/-- at each number but the first and the last a trail comes by as often as it goes -/
theorem Tr.even {st : List (Int × Int)} (z : Int) : ∀ {x y : Int} {c : List Step}, Tr st x c y → ((endsOf st (plc c)).count z + (if z = x then 1 else 0) + (if z = y then 1 else 0)) % 2 = 0
  | x, y, [], h => by
    have h : x = y := h
    subst h
    show (0 + _ + _) % 2 = 0
    split <;> rfl
  | x, y, s :: c, h => by
    have ih := Tr.even z h.2
    have e : endsOf st (plc (s :: c)) = [sa st s.1, sb st s.1] ++ endsOf st (plc c) := rfl
    rw [e, List.count_append, lie_mem, h.1]
    omega
/-! ## a walk -/
def walkN (st : List (Int × Int)) : Nat → List Nat → Int → List Step × List Nat × Int
  | 0, F, x => ([], F, x)
  | n + 1, F, x => match F.find? (hasE st x) with
    | none => ([], F, x)
    | some p => ((stepOf st x p) :: (walkN st n (F.erase p) (lie st (stepOf st x p)).2).1, (walkN st n (F.erase p) (lie st (stepOf st x p)).2).2)
def walkF (st : List (Int × Int)) (F : List Nat) (x : Int) : List Step × List Nat × Int := walkN st F.length F x
theorem walk_none {st : List (Int × Int)} {F : List Nat} {x : Int} (h : F.find? (hasE st x) = none) : walkF st F x = ([], F, x) := by
  unfold walkF
  cases F with
  | nil => rfl
  | cons p F =>
    show walkN st (F.length + 1) (p :: F) x = _
    unfold walkN
    rw [h]
theorem walk_some {st : List (Int × Int)} {F : List Nat} {x : Int} {p : Nat} (h : F.find? (hasE st x) = some p) :
    walkF st F x = ((stepOf st x p) :: (walkF st (F.erase p) (lie st (stepOf st x p)).2).1, (walkF st (F.erase p) (lie st (stepOf st x p)).2).2) := by
  have m : p ∈ F := List.mem_of_find?_eq_some h
  have hl : F.length = (F.erase p).length + 1 := by
    rw [List.length_erase_of_mem m]
    have := List.length_pos_of_mem m
    omega
  unfold walkF
  rw [hl]
  conv => lhs; unfold walkN
  rw [h]
structure WalkOk (st : List (Int × Int)) (F : List Nat) (x : Int) (w : List Step) (F' : List Nat) (y : Int) : Prop where
  tr : Tr st x w y
  perm : (plc w ++ F').Perm F
  sub : F'.Sublist F
  stuck : ∀ p ∈ F', hasE st y p = false
  bit : ∀ s ∈ w, s.2 ≤ 1
  has : w = [] → ∀ p ∈ F, hasE st x p = false
theorem walk_ok (st : List (Int × Int)) : ∀ (n : Nat) (F : List Nat) (x : Int), F.length = n → WalkOk st F x (walkF st F x).1 (walkF st F x).2.1 (walkF st F x).2.2
  | n, F, x, hn => by
    cases h : F.find? (hasE st x) with
    | none =>
      rw [walk_none h]
      have no : ∀ p ∈ F, hasE st x p = false := fun p hp => by
        have := List.find?_eq_none.mp h p hp
        exact Bool.eq_false_iff.mpr this
      exact ⟨rfl, List.Perm.refl _, List.Sublist.refl _, no, fun s hs => (nomatch hs), fun _ => no⟩
    | some p =>
      have m : p ∈ F := List.mem_of_find?_eq_some h
      have hp : hasE st x p = true := List.find?_some h
      have hl : (F.erase p).length < n := by
        rw [List.length_erase_of_mem m]
        have := List.length_pos_of_mem m
        omega
      have ih := walk_ok st (F.erase p).length (F.erase p) (lie st (stepOf st x p)).2 rfl
      rw [walk_some h]
      refine ⟨⟨lie_step hp, ih.tr⟩, ?_, ih.sub.trans List.erase_sublist, ih.stuck, fun s hs => ?_, fun e => (nomatch e)⟩
      · exact (ih.perm.cons p).trans (List.perm_cons_erase m).symm
      · rcases List.mem_cons.mp hs with e | hs
        · rw [e]
          unfold stepOf
          dsimp only
          split <;> omega
        · exact ih.bit s hs
  termination_by n => n
theorem walk_len (st : List (Int × Int)) (F : List Nat) (x : Int) : (walkF st F x).1.length + (walkF st F x).2.1.length = F.length := by
  have := (walk_ok st _ F x rfl).perm.length_eq
  rw [List.length_append] at this
  unfold plc at this
  rw [List.length_map] at this
  exact this
/-- the last step tells where it ends -/
theorem Tr.last {st : List (Int × Int)} : ∀ {x y : Int} {c : List Step} (h : c ≠ []), Tr st x c y → (lie st (c.getLast h)).2 = y
  | _, _, [s], _, t => t.2
  | _, _, s :: u :: c, _, t => by
    rw [List.getLast_cons (by simp)]
    exact Tr.last (c := u :: c) (by simp) t.2
theorem count_perm {st : List (Int × Int)} {l m : List Nat} (h : l.Perm m) (z : Int) : (endsOf st l).count z = (endsOf st m).count z := by
  unfold endsOf
  exact (h.flatMap_right _).count_eq z
theorem count_none {st : List (Int × Int)} {l : List Nat} {z : Int} (h : ∀ p ∈ l, hasE st z p = false) : (endsOf st l).count z = 0 := by
  refine List.count_eq_zero.mpr fun m => ?_
  obtain ⟨p, hp, e⟩ := mem_endsOf.mp m
  have := h p hp
  rw [hasE_iff.mpr (e.elim (fun e => .inl e.symm) fun e => .inr e.symm)] at this
  cases this
/-- how often a number stands at the free ones -/
def cnt (st : List (Int × Int)) (F : List Nat) (z : Int) : Nat := (endsOf st F).count z
theorem WalkOk.par {st : List (Int × Int)} {F F' : List Nat} {x y : Int} {w : List Step} (h : WalkOk st F x w F' y) (z : Int) : (cnt st F z + cnt st F' z + (if z = x then 1 else 0) + (if z = y then 1 else 0)) % 2 = 0 := by
  have e := h.tr.even z
  have c : cnt st F z = (endsOf st (plc w)).count z + cnt st F' z := by
    unfold cnt
    rw [← count_perm h.perm, endsOf_append, List.count_append]
  omega
theorem WalkOk.end0 {st : List (Int × Int)} {F F' : List Nat} {x y : Int} {w : List Step} (h : WalkOk st F x w F' y) : cnt st F' y = 0 := count_none h.stuck
theorem WalkOk.back {st : List (Int × Int)} {F F' : List Nat} {x y : Int} {w : List Step} (h : WalkOk st F x w F' y) (e : cnt st F y % 2 = 0) : y = x := by
  have p := h.par y
  rw [h.end0, if_pos rfl] at p
  by_cases c : y = x
  · exact c
  · rw [if_neg c] at p
    omega
theorem WalkOk.away {st : List (Int × Int)} {F F' : List Nat} {x y : Int} {w : List Step} (h : WalkOk st F x w F' y) (o : cnt st F x % 2 = 1) : y ≠ x ∧ cnt st F y % 2 = 1 := by
  have p := h.par y
  rw [h.end0, if_pos rfl] at p
  have ne : y ≠ x := fun e => by
    subst e
    rw [if_pos rfl] at p
    omega
  rw [if_neg ne] at p
  exact ⟨ne, by omega⟩
theorem Tr.conn {st : List (Int × Int)} : ∀ {x y : Int} {c : List Step}, (∀ s ∈ c, s.1 < st.length) → Tr st x c y → Conn st x y ∧ ∀ s ∈ c, Conn st x (lie st s).1 ∧ Conn st x (lie st s).2
  | x, y, [], _, h => by
    have h : x = y := h
    subst h
    exact ⟨.refl _, fun s hs => nomatch hs⟩
  | x, y, s :: c, hl, h => by
    obtain ⟨h1, h2⟩ := h
    have ih := Tr.conn (fun s hs => hl s (List.mem_cons.mpr (.inr hs))) h2
    have e : Conn st (lie st s).1 (lie st s).2 := by
      have m := st_mem (hl s List.mem_cons_self)
      unfold lie
      split
      · exact .edge m
      · exact .symm (.edge m)
    rw [h1] at e
    refine ⟨e.trans ih.1, fun t ht => ?_⟩
    rcases List.mem_cons.mp ht with q | ht
    · rw [q, h1]
      exact ⟨.refl _, e⟩
    · exact ⟨e.trans (ih.2 t ht).1, e.trans (ih.2 t ht).2⟩
/-! ## letting in -/
def fillF (st : List (Int × Int)) (F : List Nat) (c : List Step) : List Step × List Nat := match c with
  | [] => ([], F)
  | s :: c => match h : (walkF st F (lie st s).1).1 with
    | [] => (s :: (fillF st (walkF st F (lie st s).1).2.1 c).1, (fillF st (walkF st F (lie st s).1).2.1 c).2)
    | u :: w => (u :: (fillF st (walkF st F (lie st s).1).2.1 (w ++ s :: c)).1, (fillF st (walkF st F (lie st s).1).2.1 (w ++ s :: c)).2)
  termination_by c.length + 2 * F.length
  decreasing_by
    · have := walk_len st F (lie st s).1
      simp only [List.length_cons]
      omega
    · have := walk_len st F (lie st s).1
      rw [h] at this
      simp only [List.length_cons, List.length_append] at this ⊢
      omega
theorem fill_nil (st : List (Int × Int)) (F : List Nat) : fillF st F [] = ([], F) := by rw [fillF]
/-- one turn of it -/
theorem fill_cons {st : List (Int × Int)} {F : List Nat} {s u : Step} {c d : List Step} (h : (walkF st F (lie st s).1).1 ++ s :: c = u :: d) : fillF st F (s :: c) = (u :: (fillF st (walkF st F (lie st s).1).2.1 d).1, (fillF st (walkF st F (lie st s).1).2.1 d).2) := by
  rw [fillF]
  split
  · rename_i e
    rw [e] at h
    have h : s :: c = u :: d := h
    cases h
    rfl
  · rename_i v w e
    rw [e] at h
    have h : v :: (w ++ s :: c) = u :: d := h
    cases h
    rfl
structure FillOk (st : List (Int × Int)) (F : List Nat) (x : Int) (c : List Step) (y : Int) (c' : List Step) (F' : List Nat) : Prop where
  tr : Tr st x c' y
  perm : (plc c' ++ F').Perm (plc c ++ F)
  sub : F'.Sublist F
  even : ∀ z, Conn st x z → cnt st F' z % 2 = 0
  out : ∀ s ∈ c', ∀ p ∈ F', hasE st (lie st s).1 p = false
  bit : ∀ s ∈ c', s.2 ≤ 1
  nil : c' = [] → c = []
theorem fill_ok {st : List (Int × Int)} : ∀ (n : Nat) (F : List Nat) (x : Int) (c : List Step) (y : Int), c.length + 2 * F.length = n → (∀ p ∈ F, p < st.length) → (∀ s ∈ c, s.1 < st.length) → (∀ s ∈ c, s.2 ≤ 1) → (∀ z, Conn st x z → cnt st F z % 2 = 0) → Tr st x c y →
    FillOk st F x c y (fillF st F c).1 (fillF st F c).2
  | n, F, x, [], y, _, _, _, _, he, ht => by
    rw [fill_nil]
    exact ⟨ht, List.Perm.refl _, List.Sublist.refl _, he, fun s hs => (nomatch hs), fun s hs => (nomatch hs), fun _ => rfl⟩
  | n, F, x, s :: c, y, hn, hF, hc, hb, he, ht => by
    have hx : (lie st s).1 = x := ht.1
    have w := walk_ok st _ F (lie st s).1 rfl
    have wl := walk_len st F (lie st s).1
    rw [hx] at w wl
    have hw : ∀ t ∈ (walkF st F x).1, t.1 < st.length := fun t m => hF _ (w.perm.mem_iff.mp (List.mem_append.mpr (.inl (List.mem_map.mpr ⟨t, m, rfl⟩))))
    have wc := w.tr.conn hw
    have back := w.back (he _ wc.1)
    have wt := w.tr
    rw [back] at wt
    have stuck := w.stuck
    rw [back] at stuck
    have evs : ∀ z, Conn st x z → cnt st (walkF st F x).2.1 z % 2 = 0 := fun z hz => by
      have p := w.par z
      have e := he z hz
      rw [back] at p
      omega
    obtain ⟨u, d, hd⟩ : ∃ u d, (walkF st F (lie st s).1).1 ++ s :: c = u :: d := by
      cases h : (walkF st F (lie st s).1).1 with
      | nil => exact ⟨s, c, rfl⟩
      | cons v w => exact ⟨v, w ++ s :: c, rfl⟩
    have ta : Tr st x (u :: d) y := by
      rw [← hd, hx]
      exact wt.app ht
    rw [fill_cons hd]
    rw [hx] at hd ⊢
    have pl : ∀ t ∈ u :: d, t.1 < st.length ∧ t.2 ≤ 1 := fun t m => by
      rw [← hd] at m
      rcases List.mem_append.mp m with m | m
      · exact ⟨hw t m, w.bit t m⟩
      · exact ⟨hc t m, hb t m⟩
    have dl : d.length = (walkF st F x).1.length + c.length := by
      have := congrArg List.length hd
      simp only [List.length_append, List.length_cons] at this
      omega
    have hlt : d.length + 2 * (walkF st F x).2.1.length < n := by
      rw [← hn, List.length_cons]
      omega
    have cu : Conn st x (lie st u).2 := by
      have := (ta.conn fun t m => (pl t m).1).2 u List.mem_cons_self
      exact this.2
    have ih := fill_ok (st := st) _ (walkF st F x).2.1 (lie st u).2 d y rfl (fun p hp => hF p (w.sub.subset hp)) (fun t m => (pl t (List.mem_cons.mpr (.inr m))).1) (fun t m => (pl t (List.mem_cons.mpr (.inr m))).2) (fun z hz => evs z (cu.trans hz)) ta.2
    refine ⟨⟨ta.1, ih.tr⟩, ?_, ih.sub.trans w.sub, fun z hz => ih.even z (cu.symm.trans hz), fun t m p hp => ?_, fun t m => ?_, fun e => (nomatch e)⟩
    · have p1 : (plc (u :: (fillF st (walkF st F x).2.1 d).1) ++ (fillF st (walkF st F x).2.1 d).2).Perm (plc (u :: d) ++ (walkF st F x).2.1) := ih.perm.cons u.1
      refine p1.trans ?_
      rw [← hd]
      unfold plc at *
      rw [List.map_append, List.append_assoc]
      have p2 : (List.map (·.1) (s :: c) ++ (walkF st F x).2.1).Perm ((walkF st F x).2.1 ++ List.map (·.1) (s :: c)) := List.perm_append_comm
      refine (List.Perm.append_left _ p2).trans ?_
      rw [← List.append_assoc]
      exact (w.perm.append_right _).trans List.perm_append_comm
    · rcases List.mem_cons.mp m with e | m
      · rw [e, ta.1]
        exact stuck p (ih.sub.subset hp)
      · exact ih.out t m p hp
    · rcases List.mem_cons.mp m with e | m
      · rw [e]
        exact (pl u List.mem_cons_self).2
      · exact ih.bit t m
  termination_by n => n
end Sw
namespace Sw
/-! ## all the walks of a group, all filled -/
def walksF (st : List (Int × Int)) : List Int → List Int → List Nat → List (List Step) × List Nat
  | [], _, F => ([], F)
  | x :: xs, en, F => if x ∈ en then walksF st xs en F else
    ((walkF st F x).1 :: (walksF st xs (en ++ [(walkF st F x).2.2]) (walkF st F x).2.1).1, (walksF st xs (en ++ [(walkF st F x).2.2]) (walkF st F x).2.1).2)
def fillsF (st : List (Int × Int)) : List (List Step) → List Nat → List (List Step) × List Nat
  | [], F => ([], F)
  | c :: cs, F => ((fillF st F c).1 :: (fillsF st cs (fillF st F c).2).1, (fillsF st cs (fillF st F c).2).2)
def groupF (st : List (Int × Int)) (F : List Nat) (xs : List Int) : List (List Step) × List Nat := fillsF st (walksF st xs [] F).1 (walksF st xs [] F).2
def startsF (st : List (Int × Int)) (g : List Nat) : List Int := if odds st g = [] then [sa st (g.headD 0)] else odds st g
def laidG (st : List (Int × Int)) : List (List Nat) → List Nat → List (List Step) × List Nat
  | [], F => ([], F)
  | g :: gs, F => ((groupF st F (startsF st g)).1 ++ (laidG st gs (groupF st F (startsF st g)).2).1, (laidG st gs (groupF st F (startsF st g)).2).2)
def laidF (st : List (Int × Int)) : List (List Step) := (laidG st (grps st) (List.range st.length)).1
def plcs (cs : List (List Step)) : List Nat := cs.flatMap plc
/-- a chain of a class: from where to where, and nothing free where it ends -/
def TrP (st : List (Int × Int)) (x0 : Int) (b : Prop) (F : List Nat) (w : List Step) : Prop :=
  ∃ x y, Tr st x w y ∧ w ≠ [] ∧ (∀ s ∈ w, s.2 ≤ 1 ∧ s.1 < st.length) ∧ Conn st x0 x ∧ (x = y ↔ b) ∧ ∀ p ∈ F, hasE st y p = false
theorem TrP.sub {st : List (Int × Int)} {x0 : Int} {b : Prop} {F F' : List Nat} {w : List Step} (h : TrP st x0 b F w) (s : F'.Sublist F) : TrP st x0 b F' w := by
  obtain ⟨x, y, h1, h2, h3, h4, h5, h6⟩ := h
  exact ⟨x, y, h1, h2, h3, h4, h5, fun p hp => h6 p (s.subset hp)⟩
theorem filter_out {l : List Int} {en : List Int} {y : Int} (hn : l.Nodup) (hy : y ∈ l) (he : y ∉ en) :
    (l.filter fun z => decide (z ∉ en)).length = (l.filter fun z => decide (z ∉ en ++ [y])).length + 1 := by
  induction l with
  | nil => cases hy
  | cons a l ih =>
    obtain ⟨h1, h2⟩ := List.nodup_cons.mp hn
    rw [List.filter_cons, List.filter_cons]
    rcases List.mem_cons.mp hy with e | hy
    · subst e
      rw [if_pos (decide_eq_true he), if_neg (by rw [decide_eq_false (fun z => z (List.mem_append.mpr (.inr (List.mem_singleton.mpr rfl))))]; exact Bool.false_ne_true), List.length_cons]
      have : (l.filter fun z => decide (z ∉ en)) = l.filter fun z => decide (z ∉ en ++ [y]) := by
        refine List.filter_congr fun z hz => ?_
        refine Bool.eq_iff_iff.mpr ?_
        rw [decide_eq_true_eq, decide_eq_true_eq, List.mem_append, List.mem_singleton, not_or]
        exact ⟨fun q => ⟨q, fun e => h1 (by rw [← e]; exact hz)⟩, fun q => q.1⟩
      rw [this]
    · have ih := ih h2 hy
      have ne : a ≠ y := fun e => h1 (by rw [e]; exact hy)
      by_cases c : a ∈ en
      · rw [if_neg (by rw [decide_eq_false (fun z => z c)]; exact Bool.false_ne_true), if_neg (by rw [decide_eq_false (fun z => z (List.mem_append.mpr (.inl c)))]; exact Bool.false_ne_true)]
        exact ih
      · rw [if_pos (decide_eq_true c), if_pos (decide_eq_true (show ¬ a ∈ en ++ [y] from fun z => (List.mem_append.mp z).elim c fun z => ne (List.mem_singleton.mp z))), List.length_cons, List.length_cons, ih]
structure WsOk (st : List (Int × Int)) (x0 : Int) (b : Prop) (F : List Nat) (ws : List (List Step)) (F' : List Nat) : Prop where
  tr : ∀ w ∈ ws, TrP st x0 b F' w
  perm : (plcs ws ++ F').Perm F
  sub : F'.Sublist F
  even : ∀ z, Conn st x0 z → cnt st F' z % 2 = 0
theorem walks_ok {st : List (Int × Int)} {x0 : Int} : ∀ (xs en : List Int) (F : List Nat), (∀ p ∈ F, p < st.length) → xs.Nodup → (∀ x ∈ xs, Conn st x0 x) → (∀ z, Conn st x0 z → (cnt st F z % 2 = 1 ↔ z ∈ xs ∧ z ∉ en)) →
    WsOk st x0 False F (walksF st xs en F).1 (walksF st xs en F).2 ∧ 2 * (walksF st xs en F).1.length = (xs.filter fun z => decide (z ∉ en)).length
  | [], en, F, hF, _, _, hz => by
    refine ⟨⟨fun w hw => (nomatch hw), List.Perm.refl _, List.Sublist.refl _, fun z c => ?_⟩, rfl⟩
    have := hz z c
    have n : ¬ cnt st F z % 2 = 1 := fun o => by
      have := (this.mp o).1
      cases this
    show cnt st F z % 2 = 0
    omega
  | x :: xs, en, F, hF, hn, hc, hz => by
    obtain ⟨h1, h2⟩ := List.nodup_cons.mp hn
    have hc2 : ∀ x ∈ xs, Conn st x0 x := fun z hz => hc z (List.mem_cons.mpr (.inr hz))
    have hcx := hc x List.mem_cons_self
    unfold walksF
    by_cases c : x ∈ en
    · rw [if_pos c, List.filter_cons, if_neg (by rw [decide_eq_false (fun z => z c)]; exact Bool.false_ne_true)]
      refine walks_ok xs en F hF h2 hc2 fun z hz2 => ?_
      rw [hz z hz2, List.mem_cons]
      constructor
      · rintro ⟨e | e, q⟩
        · rw [e] at q
          exact absurd c q
        · exact ⟨e, q⟩
      · rintro ⟨e, q⟩
        exact ⟨.inr e, q⟩
    · rw [if_neg c, List.filter_cons, if_pos (decide_eq_true c)]
      have ox : cnt st F x % 2 = 1 := (hz x hcx).mpr ⟨List.mem_cons_self, c⟩
      have w := walk_ok st _ F x rfl
      obtain ⟨yx, oy⟩ := w.away ox
      have hw : ∀ t ∈ (walkF st F x).1, t.1 < st.length := fun t m => hF _ (w.perm.mem_iff.mp (List.mem_append.mpr (.inl (List.mem_map.mpr ⟨t, m, rfl⟩))))
      have wc := w.tr.conn hw
      have hcy : Conn st x0 (walkF st F x).2.2 := hcx.trans wc.1
      obtain ⟨my, ny⟩ := (hz _ hcy).mp oy
      have my : (walkF st F x).2.2 ∈ xs := (List.mem_cons.mp my).resolve_left yx
      have hz' : ∀ z, Conn st x0 z → (cnt st (walkF st F x).2.1 z % 2 = 1 ↔ z ∈ xs ∧ z ∉ en ++ [(walkF st F x).2.2]) := fun z c0 => by
        have p := w.par z
        have o := hz z c0
        rw [List.mem_append, List.mem_singleton, not_or]
        by_cases e1 : z = x
        · subst e1
          rw [if_pos rfl, if_neg (fun e => yx e.symm)] at p
          constructor
          · intro q
            omega
          · rintro ⟨q, _⟩
            exact absurd q h1
        · by_cases e2 : z = (walkF st F x).2.2
          · rw [if_neg e1, if_pos e2] at p
            rw [← e2] at oy
            constructor
            · intro q
              omega
            · rintro ⟨_, _, q⟩
              exact absurd e2 q
          · rw [if_neg e1, if_neg e2] at p
            rw [List.mem_cons] at o
            constructor
            · intro q
              obtain ⟨a, b⟩ := o.mp (by omega)
              exact ⟨a.resolve_left e1, b, e2⟩
            · rintro ⟨a, b, _⟩
              have := o.mpr ⟨.inr a, b⟩
              omega
      obtain ⟨ih, il⟩ := walks_ok xs (en ++ [(walkF st F x).2.2]) (walkF st F x).2.1 (fun p hp => hF p (w.sub.subset hp)) h2 hc2 hz'
      refine ⟨⟨fun v hv => ?_, ?_, ih.sub.trans w.sub, ih.even⟩, ?_⟩
      · rcases List.mem_cons.mp hv with e | hv
        · subst e
          refine ⟨x, _, w.tr, fun e => ?_, fun s hs => ⟨w.bit s hs, hw s hs⟩, hcx, ⟨fun e => yx e.symm, False.elim⟩, fun p hp => w.stuck p (ih.sub.subset hp)⟩
          have := count_none (w.has e)
          unfold cnt at ox
          omega
        · exact ih.tr v hv
      · show ((plc (walkF st F x).1 ++ plcs _) ++ _).Perm F
        rw [List.append_assoc]
        exact (ih.perm.append_left _).trans w.perm
      · rw [List.length_cons, List.length_cons, filter_out h2 my ny]
        omega
theorem walks_one {st : List (Int × Int)} {x0 : Int} {F : List Nat} (hF : ∀ p ∈ F, p < st.length) (hz : ∀ z, Conn st x0 z → cnt st F z % 2 = 0) {p : Nat} (hp : p ∈ F) (h : hasE st x0 p = true) :
    WsOk st x0 True F (walksF st [x0] [] F).1 (walksF st [x0] [] F).2 ∧ (walksF st [x0] [] F).1.length = 1 := by
  have w := walk_ok st _ F x0 rfl
  have hw : ∀ t ∈ (walkF st F x0).1, t.1 < st.length := fun t m => hF _ (w.perm.mem_iff.mp (List.mem_append.mpr (.inl (List.mem_map.mpr ⟨t, m, rfl⟩))))
  have wc := w.tr.conn hw
  have back := w.back (hz _ wc.1)
  have e : walksF st [x0] [] F = ([(walkF st F x0).1], (walkF st F x0).2.1) := by
    unfold walksF
    rw [if_neg (by simp)]
    rfl
  rw [e]
  refine ⟨⟨fun v hv => ?_, ?_, w.sub, fun z c => ?_⟩, rfl⟩
  · rw [List.mem_singleton.mp hv]
    refine ⟨x0, _, w.tr, fun e => ?_, fun s hs => ⟨w.bit s hs, hw s hs⟩, .refl _, ⟨fun _ => trivial, fun _ => back.symm⟩, w.stuck⟩
    have := w.has e p hp
    rw [h] at this
    cases this
  · show (plc (walkF st F x0).1 ++ [] ++ _).Perm F
    rw [List.append_nil]
    exact w.perm
  · have p := w.par z
    have e := hz z c
    rw [back] at p
    show cnt st (walkF st F x0).2.1 z % 2 = 0
    omega
structure FsOk (st : List (Int × Int)) (x0 : Int) (b : Prop) (ws : List (List Step)) (F : List Nat) (cs : List (List Step)) (F' : List Nat) : Prop where
  tr : ∀ c ∈ cs, TrP st x0 b F' c ∧ ∀ s ∈ c, ∀ p ∈ F', hasE st (lie st s).1 p = false
  perm : (plcs cs ++ F').Perm (plcs ws ++ F)
  sub : F'.Sublist F
  len : cs.length = ws.length
theorem fills_ok {st : List (Int × Int)} {x0 : Int} {b : Prop} : ∀ (ws : List (List Step)) (F : List Nat), (∀ p ∈ F, p < st.length) → (∀ z, Conn st x0 z → cnt st F z % 2 = 0) → (∀ w ∈ ws, TrP st x0 b F w) →
    FsOk st x0 b ws F (fillsF st ws F).1 (fillsF st ws F).2
  | [], F, _, _, _ => ⟨fun c hc => (nomatch hc), List.Perm.refl _, List.Sublist.refl _, rfl⟩
  | w :: ws, F, hF, hz, ht => by
    obtain ⟨x, y, t1, t2, t3, t4, t5, t6⟩ := ht w List.mem_cons_self
    have f := fill_ok (st := st) _ F x w y rfl hF (fun s hs => (t3 s hs).2) (fun s hs => (t3 s hs).1) (fun z c => hz z (t4.trans c)) t1
    have ih := fills_ok ws (fillF st F w).2 (fun p hp => hF p (f.sub.subset hp)) (fun z c => f.even z (t4.symm.trans c)) fun v hv => (ht v (List.mem_cons.mpr (.inr hv))).sub f.sub
    unfold fillsF
    refine ⟨fun c hc => ?_, ?_, ih.sub.trans f.sub, ?_⟩
    · rcases List.mem_cons.mp hc with e | hc
      · subst e
        refine ⟨⟨x, y, f.tr, fun e => t2 (f.nil e), fun s hs => ⟨f.bit s hs, ?_⟩, t4, t5, fun p hp => t6 p (f.sub.subset (ih.sub.subset hp))⟩, fun s hs p hp => f.out s hs p (ih.sub.subset hp)⟩
        have m : s.1 ∈ plc w ++ F := f.perm.mem_iff.mp (List.mem_append.mpr (.inl (List.mem_map.mpr ⟨s, hs, rfl⟩)))
        rcases List.mem_append.mp m with m | m
        · obtain ⟨u, hu, e⟩ := List.mem_map.mp m
          rw [← e]
          exact (t3 u hu).2
        · exact hF _ m
      · exact ih.tr c hc
    · show ((plc (fillF st F w).1 ++ plcs _) ++ _).Perm (plc w ++ plcs ws ++ F)
      rw [List.append_assoc]
      refine (ih.perm.append_left _).trans ?_
      have p1 : (plc (fillF st F w).1 ++ (plcs ws ++ (fillF st F w).2)).Perm (plcs ws ++ (plc (fillF st F w).1 ++ (fillF st F w).2)) := by
        rw [← List.append_assoc, ← List.append_assoc]
        exact List.Perm.append_right _ List.perm_append_comm
      refine p1.trans ((f.perm.append_left _).trans ?_)
      rw [← List.append_assoc]
      exact List.Perm.append_right _ List.perm_append_comm
    · rw [List.length_cons, List.length_cons, ih.len]
/-! ## a group -/
theorem Tr.far {st : List (Int × Int)} {F : List Nat} : ∀ {x y : Int} {c : List Step}, Tr st x c y → (∀ p ∈ F, hasE st y p = false) → (∀ s ∈ c, ∀ p ∈ F, hasE st (lie st s).1 p = false) → ∀ s ∈ c, ∀ p ∈ F, hasE st (lie st s).2 p = false
  | _, _, [], _, _, _, s, hs => nomatch hs
  | x, y, s :: c, t, hy, h, u, hu => by
    intro p hp
    rcases List.mem_cons.mp hu with e | hu
    · rw [e]
      cases c with
      | nil =>
        have : (lie st s).2 = y := t.2
        rw [this]
        exact hy p hp
      | cons v c =>
        rw [← t.2.1]
        exact h v (List.mem_cons.mpr (.inr List.mem_cons_self)) p hp
    · exact Tr.far t.2 hy (fun s hs => h s (List.mem_cons.mpr (.inr hs))) u hu p hp
theorem lie_both {st : List (Int × Int)} (s : Step) {P : Int → Prop} (h1 : P (lie st s).1) (h2 : P (lie st s).2) : P (sa st s.1) ∧ P (sb st s.1) := by
  unfold lie at h1 h2
  by_cases c : s.2 = 0
  · rw [if_pos c] at h1 h2
    exact ⟨h1, h2⟩
  · rw [if_neg c] at h1 h2
    exact ⟨h2, h1⟩
theorem cnt_filter {st : List (Int × Int)} {z : Int} {g : List Nat} : ∀ F : List Nat, (∀ p ∈ F, hasE st z p = true → p ∈ g) → cnt st F z = cnt st (F.filter fun p => decide (p ∈ g)) z
  | [], _ => rfl
  | p :: F, h => by
    have ih := cnt_filter F fun q hq => h q (List.mem_cons.mpr (.inr hq))
    have e : ∀ l : List Nat, cnt st (p :: l) z = [sa st p, sb st p].count z + cnt st l z := fun l => by
      unfold cnt
      exact List.count_append
    rw [List.filter_cons, e, ih]
    by_cases c : p ∈ g
    · rw [if_pos (decide_eq_true c), e]
    · rw [if_neg (by rw [decide_eq_false c]; exact Bool.false_ne_true)]
      have : hasE st z p = false := Bool.eq_false_iff.mpr fun t => c (h p List.mem_cons_self t)
      have := count_none (st := st) (l := [p]) (z := z) fun q hq => by rw [List.mem_singleton.mp hq]; exact this
      have e2 : endsOf st [p] = [sa st p, sb st p] := rfl
      rw [e2] at this
      omega
theorem grp_is {st : List (Int × Int)} {g : List Nat} (h : g ∈ grps st) : ∃ p, p < st.length ∧ p ∈ g ∧ g = (List.range st.length).filter fun q => decide (cls st q = cls st p) := by
  unfold grps grpsL at h
  obtain ⟨p, hp, e⟩ := List.mem_map.mp h
  have hp := List.mem_range.mp (List.mem_filter.mp hp).1
  refine ⟨p, hp, ?_, e.symm⟩
  rw [← e]
  exact List.mem_filter.mpr ⟨List.mem_range.mpr hp, decide_eq_true rfl⟩
structure GrpOk (st : List (Int × Int)) (F g : List Nat) (cs : List (List Step)) (F' : List Nat) : Prop where
  tr : ∀ c ∈ cs, c ≠ [] ∧ (∀ s ∈ c, s.2 ≤ 1 ∧ s.1 ∈ g) ∧ ∃ x y, Tr st x c y ∧ (x = y ↔ odds st g = [])
  perm : (plcs cs ++ F').Perm F
  sub : F'.Sublist F
  out : ∀ p ∈ F, p ∈ F' ↔ p ∉ g
  len : cs.length = max 1 ((odds st g).length / 2)
theorem group_ok {st : List (Int × Int)} {F g : List Nat} (hg : g ∈ grps st) (hF : ∀ p ∈ F, p < st.length) (hn : F.Nodup) (hs : ∀ p ∈ g, p ∈ F) : GrpOk st F g (groupF st F (startsF st g)).1 (groupF st F (startsF st g)).2 := by
  obtain ⟨p0, hp0, m0, eg⟩ := grp_is hg
  have mg : ∀ q, q ∈ g ↔ q < st.length ∧ cls st q = cls st p0 := fun q => by
    rw [eg, List.mem_filter, List.mem_range, decide_eq_true_eq]
  obtain ⟨h0, gt, eh⟩ : ∃ h t, g = h :: t := by
    cases g with
    | nil => cases m0
    | cons h t => exact ⟨h, t, rfl⟩
  have mh : h0 ∈ g := by rw [eh]; exact List.mem_cons_self
  have lh := ((mg h0).mp mh).1
  -- a number of the class
  have inC : ∀ q, q < st.length → ∀ z, (z = sa st q ∨ z = sb st q) → (q ∈ g ↔ Conn st (sa st h0) z) := fun q hq z hz => by
    have e1 : Conn st (sa st q) z := by
      rcases hz with e | e
      · rw [e]; exact .refl _
      · rw [e]; exact .edge (st_mem hq)
    have e2 : cls st h0 = cls st q ↔ Conn st (sa st h0) (sa st q) := conn_of_cls lh hq
    rw [mg]
    constructor
    · rintro ⟨_, e⟩
      exact (e2.mp (((mg h0).mp mh).2.trans e.symm)).trans e1
    · intro c
      exact ⟨hq, (e2.mpr (c.trans e1.symm)).symm.trans ((mg h0).mp mh).2⟩
  have gn : g.Nodup := by
    rw [eg]
    exact List.nodup_range.filter _
  have fp : (F.filter fun p => decide (p ∈ g)).Perm g := (List.perm_ext_iff_of_nodup (hn.filter _) gn).mpr fun q => by
    rw [List.mem_filter, decide_eq_true_eq]
    exact ⟨fun h => h.2, fun h => ⟨hs q h, h⟩⟩
  have cg : ∀ z, Conn st (sa st h0) z → cnt st F z = (endsOf st g).count z := fun z c => by
    rw [cnt_filter (g := g) F fun p hp he => (inC p (hF p hp) z ((hasE_iff.mp he).elim (fun e => .inl e.symm) fun e => .inr e.symm)).mpr c]
    exact count_perm fp z
  have od : ∀ z, z ∈ odds st g ↔ (endsOf st g).count z % 2 = 1 := (oddL_ok (endsOf st g)).2
  obtain ⟨b, hb, ws, wl⟩ : ∃ b : Prop, (b ↔ odds st g = []) ∧ WsOk st (sa st h0) b F (walksF st (startsF st g) [] F).1 (walksF st (startsF st g) [] F).2 ∧ (walksF st (startsF st g) [] F).1.length = max 1 ((odds st g).length / 2) := by
    unfold startsF
    by_cases c : odds st g = []
    · rw [if_pos c, eh]
      show ∃ b : Prop, _ ∧ WsOk st (sa st h0) b F (walksF st [sa st h0] [] F).1 (walksF st [sa st h0] [] F).2 ∧ _
      obtain ⟨w1, w2⟩ := walks_one (x0 := sa st h0) hF (fun z hz => by
        have := od z
        rw [c] at this
        rw [cg z hz]
        have n : ¬ (endsOf st g).count z % 2 = 1 := fun o => by cases this.mpr o
        omega) (hs h0 mh) (hasE_iff.mpr (.inl rfl))
      rw [← eh, c]
      exact ⟨True, ⟨fun _ => rfl, fun _ => trivial⟩, w1, w2⟩
    · rw [if_neg c]
      have hup : (odds st g).Nodup := (oddL_ok (endsOf st g)).1.imp fun h e => by omega
      obtain ⟨w1, w2⟩ := walks_ok (x0 := sa st h0) (odds st g) [] F hF hup (fun x hx => by
        have := (od x).mp hx
        have m : x ∈ endsOf st g := List.count_pos_iff.mp (by omega)
        obtain ⟨q, hq, e⟩ := mem_endsOf.mp m
        exact (inC q ((mg q).mp hq).1 x e).mp hq) fun z hz => by
          rw [cg z hz, od]
          exact ⟨fun h => ⟨h, by simp⟩, fun h => h.1⟩
      refine ⟨False, ⟨False.elim, fun e => c e⟩, w1, ?_⟩
      have : ((odds st g).filter fun z => decide (z ∉ ([] : List Int))) = odds st g := List.filter_eq_self.mpr fun z _ => decide_eq_true (by simp)
      rw [this] at w2
      have ev := odds_even st g
      have pos := List.length_pos_iff.mpr c
      omega
  have fs := fills_ok (walksF st (startsF st g) [] F).1 (walksF st (startsF st g) [] F).2 (fun p hp => hF p (ws.sub.subset hp)) ws.even ws.tr
  have pm : (plcs (groupF st F (startsF st g)).1 ++ (groupF st F (startsF st g)).2).Perm F := fs.perm.trans ws.perm
  have sb' : (groupF st F (startsF st g)).2.Sublist F := fs.sub.trans ws.sub
  have ln : (groupF st F (startsF st g)).1.length = max 1 ((odds st g).length / 2) := fs.len.trans wl
  have tr : ∀ c ∈ (groupF st F (startsF st g)).1, TrP st (sa st h0) b (groupF st F (startsF st g)).2 c ∧ ∀ s ∈ c, ∀ p ∈ (groupF st F (startsF st g)).2, hasE st (lie st s).1 p = false := fs.tr
  generalize (groupF st F (startsF st g)).1 = cs at pm ln tr ⊢
  generalize (groupF st F (startsF st g)).2 = F' at pm sb' tr ⊢
  -- where a chain comes by nothing is free
  have ex : ∀ c ∈ cs, ∀ s ∈ c, (∀ p ∈ F', hasE st (lie st s).1 p = false) ∧ (∀ p ∈ F', hasE st (lie st s).2 p = false) ∧ Conn st (sa st h0) (lie st s).1 ∧ s.1 < st.length ∧ s.2 ≤ 1 := fun c hc s hs => by
    obtain ⟨⟨x, y, t1, t2, t3, t4, t5, t6⟩, o⟩ := tr c hc
    exact ⟨o s hs, t1.far t6 o s hs, t4.trans ((t1.conn fun s hs => (t3 s hs).2).2 s hs).1, (t3 s hs).2, (t3 s hs).1⟩
  have used : ∀ p ∈ F, p ∉ F' → (∀ q ∈ F', hasE st (sa st p) q = false) ∧ ∀ q ∈ F', hasE st (sb st p) q = false := fun p hp np => by
    have m : p ∈ plcs cs := (List.mem_append.mp (pm.mem_iff.mpr hp)).resolve_right np
    obtain ⟨c, hc, m⟩ := List.mem_flatMap.mp m
    obtain ⟨s, hs, e⟩ := List.mem_map.mp m
    have h := ex c hc s hs
    rw [← e]
    exact lie_both s (P := fun z => ∀ q ∈ F', hasE st z q = false) h.1 h.2.1
  have step : ∀ q, q < st.length → Conn st (sa st h0) (sa st q) → ((∀ r ∈ F', hasE st (sa st q) r = false) ↔ ∀ r ∈ F', hasE st (sb st q) r = false) := fun q hq c => by
    have qF : q ∈ F := hs q ((inC q hq _ (.inl rfl)).mpr c)
    constructor
    · intro h
      exact (used q qF fun m => by have := h q m; rw [hasE_iff.mpr (.inl rfl)] at this; cases this).2
    · intro h
      exact (used q qF fun m => by have := h q m; rw [hasE_iff.mpr (.inr rfl)] at this; cases this).1
  have all : ∀ x y, Conn st x y → Conn st (sa st h0) x → ((∀ r ∈ F', hasE st x r = false) ↔ ∀ r ∈ F', hasE st y r = false) := fun x y c => by
    induction c with
    | refl x => exact fun _ => Iff.rfl
    | @edge a b m =>
      intro c
      obtain ⟨i, hi⟩ := List.mem_iff_getElem?.mp m
      have il : i < st.length := (List.getElem?_eq_some_iff.mp hi).1
      have e := Option.some.inj ((st_at il).symm.trans hi)
      have e1 : sa st i = a := congrArg Prod.fst e
      have e2 : sb st i = b := congrArg Prod.snd e
      rw [← e1, ← e2]
      exact step i il (by rw [e1]; exact c)
    | symm h ih => exact fun c => (ih (c.trans (.symm h))).symm
    | trans h k ih1 ih2 => exact fun c => (ih1 c).trans (ih2 (c.trans h))
  have gone : ∀ p ∈ g, p ∉ F' := fun p hp m => by
    obtain ⟨c, hc⟩ : ∃ c, c ∈ cs := by
      cases cs with
      | nil =>
        have : 0 = max 1 ((odds st g).length / 2) := ln
        omega
      | cons c cs => exact ⟨c, List.mem_cons_self⟩
    obtain ⟨s, hs⟩ : ∃ s, s ∈ c := by
      obtain ⟨⟨x, y, _, t2, _⟩, _⟩ := tr c hc
      cases c with
      | nil => exact absurd rfl t2
      | cons s c => exact ⟨s, List.mem_cons_self⟩
    have h := ex c hc s hs
    have cp := (inC p ((mg p).mp hp).1 _ (.inl rfl)).mp hp
    have := (all _ _ (h.2.2.1.symm.trans cp) h.2.2.1).mp h.1 p m
    rw [hasE_iff.mpr (.inl rfl)] at this
    cases this
  have inG : ∀ c ∈ cs, ∀ s ∈ c, s.1 ∈ g := fun c hc s hs => by
    have h := ex c hc s hs
    refine (inC s.1 h.2.2.2.1 (lie st s).1 ?_).mpr h.2.2.1
    unfold lie
    split
    · exact .inl rfl
    · exact .inr rfl
  refine ⟨fun c hc => ?_, pm, sb', fun p hp => ⟨fun m h => gone p h m, fun h => ?_⟩, ln⟩
  · obtain ⟨⟨x, y, t1, t2, t3, t4, t5, t6⟩, o⟩ := tr c hc
    exact ⟨t2, fun s hs => ⟨(t3 s hs).1, inG c hc s hs⟩, x, y, t1, t5.trans hb⟩
  · refine (List.mem_append.mp (pm.mem_iff.mpr hp)).resolve_left fun m => h ?_
    obtain ⟨c, hc, m⟩ := List.mem_flatMap.mp m
    obtain ⟨s, hs, e⟩ := List.mem_map.mp m
    rw [← e]
    exact inG c hc s hs
theorem group_ws {st : List (Int × Int)} {F g : List Nat} (hg : g ∈ grps st) (hF : ∀ p ∈ F, p < st.length) (hn : F.Nodup) (hs : ∀ p ∈ g, p ∈ F) : ∀ v ∈ (walksF st (startsF st g) [] F).1, v ≠ [] := by
  obtain ⟨p0, hp0, m0, eg⟩ := grp_is hg
  have mg : ∀ q, q ∈ g ↔ q < st.length ∧ cls st q = cls st p0 := fun q => by
    rw [eg, List.mem_filter, List.mem_range, decide_eq_true_eq]
  obtain ⟨h0, gt, eh⟩ : ∃ h t, g = h :: t := by
    cases g with
    | nil => cases m0
    | cons h t => exact ⟨h, t, rfl⟩
  have mh : h0 ∈ g := by rw [eh]; exact List.mem_cons_self
  have lh := ((mg h0).mp mh).1
  -- a number of the class
  have inC : ∀ q, q < st.length → ∀ z, (z = sa st q ∨ z = sb st q) → (q ∈ g ↔ Conn st (sa st h0) z) := fun q hq z hz => by
    have e1 : Conn st (sa st q) z := by
      rcases hz with e | e
      · rw [e]; exact .refl _
      · rw [e]; exact .edge (st_mem hq)
    have e2 : cls st h0 = cls st q ↔ Conn st (sa st h0) (sa st q) := conn_of_cls lh hq
    rw [mg]
    constructor
    · rintro ⟨_, e⟩
      exact (e2.mp (((mg h0).mp mh).2.trans e.symm)).trans e1
    · intro c
      exact ⟨hq, (e2.mpr (c.trans e1.symm)).symm.trans ((mg h0).mp mh).2⟩
  have gn : g.Nodup := by
    rw [eg]
    exact List.nodup_range.filter _
  have fp : (F.filter fun p => decide (p ∈ g)).Perm g := (List.perm_ext_iff_of_nodup (hn.filter _) gn).mpr fun q => by
    rw [List.mem_filter, decide_eq_true_eq]
    exact ⟨fun h => h.2, fun h => ⟨hs q h, h⟩⟩
  have cg : ∀ z, Conn st (sa st h0) z → cnt st F z = (endsOf st g).count z := fun z c => by
    rw [cnt_filter (g := g) F fun p hp he => (inC p (hF p hp) z ((hasE_iff.mp he).elim (fun e => .inl e.symm) fun e => .inr e.symm)).mpr c]
    exact count_perm fp z
  have od : ∀ z, z ∈ odds st g ↔ (endsOf st g).count z % 2 = 1 := (oddL_ok (endsOf st g)).2
  obtain ⟨b, hb, ws, wl⟩ : ∃ b : Prop, (b ↔ odds st g = []) ∧ WsOk st (sa st h0) b F (walksF st (startsF st g) [] F).1 (walksF st (startsF st g) [] F).2 ∧ (walksF st (startsF st g) [] F).1.length = max 1 ((odds st g).length / 2) := by
    unfold startsF
    by_cases c : odds st g = []
    · rw [if_pos c, eh]
      show ∃ b : Prop, _ ∧ WsOk st (sa st h0) b F (walksF st [sa st h0] [] F).1 (walksF st [sa st h0] [] F).2 ∧ _
      obtain ⟨w1, w2⟩ := walks_one (x0 := sa st h0) hF (fun z hz => by
        have := od z
        rw [c] at this
        rw [cg z hz]
        have n : ¬ (endsOf st g).count z % 2 = 1 := fun o => by cases this.mpr o
        omega) (hs h0 mh) (hasE_iff.mpr (.inl rfl))
      rw [← eh, c]
      exact ⟨True, ⟨fun _ => rfl, fun _ => trivial⟩, w1, w2⟩
    · rw [if_neg c]
      have hup : (odds st g).Nodup := (oddL_ok (endsOf st g)).1.imp fun h e => by omega
      obtain ⟨w1, w2⟩ := walks_ok (x0 := sa st h0) (odds st g) [] F hF hup (fun x hx => by
        have := (od x).mp hx
        have m : x ∈ endsOf st g := List.count_pos_iff.mp (by omega)
        obtain ⟨q, hq, e⟩ := mem_endsOf.mp m
        exact (inC q ((mg q).mp hq).1 x e).mp hq) fun z hz => by
          rw [cg z hz, od]
          exact ⟨fun h => ⟨h, by simp⟩, fun h => h.1⟩
      refine ⟨False, ⟨False.elim, fun e => c e⟩, w1, ?_⟩
      have : ((odds st g).filter fun z => decide (z ∉ ([] : List Int))) = odds st g := List.filter_eq_self.mpr fun z _ => decide_eq_true (by simp)
      rw [this] at w2
      have ev := odds_even st g
      have pos := List.length_pos_iff.mpr c
      omega
  exact fun v hv => by
    obtain ⟨_, _, _, t2, _⟩ := ws.tr v hv
    exact t2
theorem starts_end {st : List (Int × Int)} {g : List Nat} (hg : g ∈ grps st) : (∀ x ∈ startsF st g, IsEnd st x) ∧ (startsF st g).length ≤ 2 * g.length + 1 ∧ ∃ h t, g = h :: t ∧ h < st.length := by
  obtain ⟨p0, hp0, m0, eg⟩ := grp_is hg
  have lt : ∀ q ∈ g, q < st.length := fun q hq => by
    rw [eg] at hq
    exact List.mem_range.mp (List.mem_filter.mp hq).1
  obtain ⟨h, t, eh⟩ : ∃ h t, g = h :: t := by
    cases g with
    | nil => cases m0
    | cons h t => exact ⟨h, t, rfl⟩
  have lh : h < st.length := lt h (by rw [eh]; exact List.mem_cons_self)
  refine ⟨fun x hx => ?_, ?_, h, t, eh, lh⟩
  · unfold startsF at hx
    split at hx
    · rw [List.mem_singleton.mp hx, eh]
      exact (st_ends lh).1
    · have := ((oddL_ok (endsOf st g)).2 x).mp hx
      have m : x ∈ endsOf st g := List.count_pos_iff.mp (by omega)
      obtain ⟨q, hq, e⟩ := mem_endsOf.mp m
      rcases e with e | e
      · rw [e]; exact (st_ends (lt q hq)).1
      · rw [e]; exact (st_ends (lt q hq)).2
  · unfold startsF
    split
    · show 1 ≤ _
      omega
    · have := oddL_le (endsOf st g)
      rw [endsOf_len] at this
      unfold odds
      omega
/-! ## all -/
structure AllOk (st : List (Int × Int)) (F : List Nat) (gs : List (List Nat)) (cs : List (List Step)) (F' : List Nat) : Prop where
  tr : ∀ c ∈ cs, c ≠ [] ∧ ∃ g ∈ gs, (∀ s ∈ c, s.2 ≤ 1 ∧ s.1 ∈ g) ∧ ∃ x y, Tr st x c y ∧ (x = y ↔ odds st g = [])
  perm : (plcs cs ++ F').Perm F
  out : ∀ p ∈ F', ∀ g ∈ gs, p ∉ g
  len : cs.length = (gs.map fun g => max 1 ((odds st g).length / 2)).sum
theorem laidG_ok {st : List (Int × Int)} : ∀ (gs : List (List Nat)) (F : List Nat), (∀ g ∈ gs, g ∈ grps st) → (∀ p ∈ F, p < st.length) → F.Nodup → (∀ g ∈ gs, ∀ p ∈ g, p ∈ F) → gs.Pairwise (fun g h => ∀ p ∈ g, p ∉ h) → AllOk st F gs (laidG st gs F).1 (laidG st gs F).2
  | [], F, _, _, _, _, _ => ⟨fun c hc => (nomatch hc), List.Perm.refl _, fun p _ g hg => (nomatch hg), rfl⟩
  | g :: gs, F, hg, hF, hn, hs, hd => by
    obtain ⟨d1, d2⟩ := List.pairwise_cons.mp hd
    have k := group_ok (hg g List.mem_cons_self) hF hn (hs g List.mem_cons_self)
    have ih := laidG_ok gs (groupF st F (startsF st g)).2 (fun h hh => hg h (List.mem_cons.mpr (.inr hh))) (fun p hp => hF p (k.sub.subset hp)) (hn.sublist k.sub)
      (fun h hh p hp => (k.out p (hs h (List.mem_cons.mpr (.inr hh)) p hp)).mpr fun m => d1 h hh p m hp) d2
    have sub2 : ∀ p ∈ (laidG st gs (groupF st F (startsF st g)).2).2, p ∈ (groupF st F (startsF st g)).2 := fun p hp => ih.perm.mem_iff.mp (List.mem_append.mpr (.inr hp))
    unfold laidG
    refine ⟨fun c hc => ?_, ?_, fun p hp h hh => ?_, ?_⟩
    · rcases List.mem_append.mp hc with hc | hc
      · obtain ⟨a, b, x, y, t, e⟩ := k.tr c hc
        exact ⟨a, g, List.mem_cons_self, b, x, y, t, e⟩
      · obtain ⟨a, h, hh, b⟩ := ih.tr c hc
        exact ⟨a, h, List.mem_cons.mpr (.inr hh), b⟩
    · show (plcs (_ ++ _) ++ _).Perm F
      unfold plcs
      rw [List.flatMap_append, List.append_assoc]
      exact (ih.perm.append_left _).trans k.perm
    · rcases List.mem_cons.mp hh with e | hh
      · rw [e]
        exact (k.out p (k.sub.subset (sub2 p hp))).mp (sub2 p hp)
      · exact ih.out p hp h hh
    · show (_ ++ _ : List (List Step)).length = _
      rw [List.length_append, k.len, ih.len, List.map_cons, List.sum_cons]
structure LaidOk (st : List (Int × Int)) (cs : List (List Step)) : Prop where
  tr : ∀ c ∈ cs, c ≠ [] ∧ ∃ g ∈ grps st, (∀ s ∈ c, s.2 ≤ 1 ∧ s.1 ∈ g) ∧ ∃ x y, Tr st x c y ∧ (x = y ↔ odds st g = [])
  perm : (plcs cs).Perm (List.range st.length)
  len : cs.length = few st
theorem grps_apart (st : List (Int × Int)) : (grps st).Pairwise fun g h => ∀ p ∈ g, p ∉ h := by
  unfold grps grpsL
  refine List.pairwise_map.mpr ?_
  have h : ((List.range st.length).filter fun p => (List.range st.length).all fun q => decide (q < p → cls st q ≠ cls st p)).Pairwise (· < ·) := List.pairwise_lt_range.filter _
  refine List.Pairwise.imp_of_mem (fun {p q} hp hq hlt r m n => ?_) h
  have h1 := of_decide_eq_true (List.mem_filter.mp m).2
  have h2 := of_decide_eq_true (List.mem_filter.mp n).2
  have hq2 := of_decide_eq_true (List.all_eq_true.mp (List.mem_filter.mp hq).2 p (List.mem_filter.mp hp).1) hlt
  exact hq2 (h1.symm.trans h2)
theorem laid_ok (st : List (Int × Int)) : LaidOk st (laidF st) := by
  have gp : (grps st).flatten.Perm (List.range st.length) := grpsL_perm (cls st) _ _ (Nat.le_refl _) List.pairwise_lt_range
  have k := laidG_ok (grps st) (List.range st.length) (fun g h => h) (fun p hp => List.mem_range.mp hp) List.nodup_range (fun g hg p hp => gp.mem_iff.mp (List.mem_flatten.mpr ⟨g, hg, hp⟩)) (grps_apart st)
  have e : (laidG st (grps st) (List.range st.length)).2 = [] := List.eq_nil_iff_forall_not_mem.mpr fun p hp => by
    have m : p ∈ (grps st).flatten := gp.mem_iff.mpr (k.perm.mem_iff.mp (List.mem_append.mpr (.inr hp)))
    obtain ⟨g, hg, m⟩ := List.mem_flatten.mp m
    exact k.out p hp g hg m
  have pm := k.perm
  rw [e, List.append_nil] at pm
  exact ⟨k.tr, pm, k.len⟩
end Sw
namespace Sw
/-! ## the places that are free, number by number -/
def occ (st : List (Int × Int)) (x : Int) (q : Nat) : List Nat := (if sa st q = x then [q] else []) ++ (if sb st q = x then [q] else [])
def freeL (st : List (Int × Int)) (F : List Nat) (x : Int) : List Nat := F.flatMap (occ st x)
/-- one end taken -/
def occ1 (st : List (Int × Int)) (p : Nat) (x : Int) (q : Nat) : List Nat := (if sa st q = x ∧ q ≠ p then [q] else []) ++ (if sb st q = x then [q] else [])
def freeM (st : List (Int × Int)) (F : List Nat) (p : Nat) (x : Int) : List Nat := F.flatMap (occ1 st p x)
theorem occ_mem {st : List (Int × Int)} {x : Int} {q r : Nat} (h : r ∈ occ st x q) : r = q := by
  unfold occ at h
  rcases List.mem_append.mp h with h | h
  · split at h
    · exact List.mem_singleton.mp h
    · cases h
  · split at h
    · exact List.mem_singleton.mp h
    · cases h
theorem occ1_mem {st : List (Int × Int)} {x : Int} {p q r : Nat} (h : r ∈ occ1 st p x q) : r = q := by
  unfold occ1 at h
  rcases List.mem_append.mp h with h | h
  · split at h
    · exact List.mem_singleton.mp h
    · cases h
  · split at h
    · exact List.mem_singleton.mp h
    · cases h
theorem occ_none {st : List (Int × Int)} {x : Int} {q : Nat} (h : hasE st x q = false) : occ st x q = [] := by
  have n : ¬ (sa st q = x ∨ sb st q = x) := fun z => by
    rw [hasE_iff.mpr z] at h
    cases h
  unfold occ
  rw [if_neg fun z => n (.inl z), if_neg fun z => n (.inr z)]
  rfl
theorem occ_some {st : List (Int × Int)} {x : Int} {q : Nat} (h : hasE st x q = true) : ∃ l, occ st x q = q :: l := by
  unfold occ
  by_cases c : sa st q = x
  · rw [if_pos c]
    exact ⟨_, rfl⟩
  · rw [if_neg c, if_pos ((hasE_iff.mp h).resolve_left c)]
    exact ⟨_, rfl⟩
theorem freeL_find (st : List (Int × Int)) (x : Int) : ∀ F : List Nat, (freeL st F x)[0]? = F.find? (hasE st x)
  | [] => rfl
  | q :: F => by
    have e : freeL st (q :: F) x = occ st x q ++ freeL st F x := List.flatMap_cons
    rw [e, List.find?_cons]
    cases h : hasE st x q with
    | true =>
      obtain ⟨l, e⟩ := occ_some h
      rw [e]
      rfl
    | false =>
      rw [occ_none h]
      exact freeL_find st x F
theorem freeL_nil {st : List (Int × Int)} {x : Int} {F : List Nat} (h : F.find? (hasE st x) = none) : freeL st F x = [] := by
  have e := freeL_find st x F
  rw [h] at e
  cases hl : freeL st F x with
  | nil => rfl
  | cons a l =>
    rw [hl] at e
    cases e
theorem freeL_len (st : List (Int × Int)) (x : Int) : ∀ F : List Nat, (freeL st F x).length ≤ 2 * F.length
  | [] => Nat.le_refl _
  | q :: F => by
    have ih := freeL_len st x F
    have e : freeL st (q :: F) x = occ st x q ++ freeL st F x := List.flatMap_cons
    have o : (occ st x q).length ≤ 2 := by
      unfold occ
      split <;> split <;> simp
    rw [e, List.length_append, List.length_cons]
    omega
theorem freeM_same {st : List (Int × Int)} {F : List Nat} {p : Nat} {x : Int} (h : x ≠ sa st p) : freeM st F p x = freeL st F x := by
  unfold freeM freeL
  rw [List.flatMap_def, List.flatMap_def]
  congr 1
  refine List.map_congr_left fun q _ => ?_
  unfold occ1 occ
  by_cases c : sa st q = x
  · have : q ≠ p := fun e => h (by rw [← e]; exact c.symm)
    rw [if_pos ⟨c, this⟩, if_pos c]
  · rw [if_neg fun z => c z.1, if_neg c]
theorem freeM_out {st : List (Int × Int)} {p : Nat} {x : Int} {F : List Nat} (h : p ∉ F) : freeM st F p x = freeL st F x := by
  unfold freeM freeL
  rw [List.flatMap_def, List.flatMap_def]
  congr 1
  refine List.map_congr_left fun q hq => ?_
  unfold occ1 occ
  have : q ≠ p := fun e => h (by rw [← e]; exact hq)
  by_cases c : sa st q = x
  · rw [if_pos ⟨c, this⟩, if_pos c]
  · rw [if_neg fun z => c z.1, if_neg c]
/-- the first end is taken out -/
theorem erase_first {st : List (Int × Int)} {p : Nat} : ∀ {F : List Nat}, F.Nodup → p ∈ F → p ∈ freeL st F (sa st p) ∧ (freeL st F (sa st p)).erase p = freeM st F p (sa st p)
  | q :: F, hn, hp => by
    obtain ⟨h1, h2⟩ := List.nodup_cons.mp hn
    have e : freeL st (q :: F) (sa st p) = occ st (sa st p) q ++ freeL st F (sa st p) := List.flatMap_cons
    have e2 : freeM st (q :: F) p (sa st p) = occ1 st p (sa st p) q ++ freeM st F p (sa st p) := List.flatMap_cons
    by_cases c : q = p
    · subst c
      have o : occ st (sa st q) q = q :: (if sb st q = sa st q then [q] else []) := by
        unfold occ
        rw [if_pos rfl]
        rfl
      have o1 : occ1 st q (sa st q) q = (if sb st q = sa st q then [q] else []) := by
        unfold occ1
        rw [if_neg fun z => z.2 rfl]
        rfl
      rw [e, e2, o, o1, freeM_out h1]
      exact ⟨List.mem_cons_self, List.erase_cons_head ..⟩
    · have hp : p ∈ F := (List.mem_cons.mp hp).resolve_left fun z => c z.symm
      obtain ⟨i1, i2⟩ := erase_first (st := st) h2 hp
      have o : occ1 st p (sa st p) q = occ st (sa st p) q := by
        unfold occ1 occ
        by_cases d : sa st q = sa st p
        · rw [if_pos ⟨d, c⟩, if_pos d]
        · rw [if_neg fun z => d z.1, if_neg d]
      rw [e, e2, o, List.erase_append_right _ fun m => c (occ_mem m).symm, i2]
      exact ⟨List.mem_append.mpr (.inr i1), rfl⟩
/-- then the second -/
theorem erase_second {st : List (Int × Int)} {p : Nat} : ∀ {F : List Nat}, F.Nodup → p ∈ F → p ∈ freeM st F p (sb st p) ∧ (freeM st F p (sb st p)).erase p = freeL st (F.erase p) (sb st p) ∧ ∀ x, x ≠ sb st p → freeM st F p x = freeL st (F.erase p) x
  | q :: F, hn, hp => by
    obtain ⟨h1, h2⟩ := List.nodup_cons.mp hn
    have e : ∀ x, freeM st (q :: F) p x = occ1 st p x q ++ freeM st F p x := fun x => List.flatMap_cons
    by_cases c : q = p
    · subst c
      have o : occ1 st q (sb st q) q = [q] := by
        unfold occ1
        rw [if_neg fun z => z.2 rfl, if_pos rfl]
        rfl
      rw [e, o, List.erase_cons_head, freeM_out h1]
      refine ⟨List.mem_cons_self, List.erase_cons_head .., fun x hx => ?_⟩
      rw [e, freeM_out h1]
      have o : occ1 st q x q = [] := by
        unfold occ1
        rw [if_neg fun z => z.2 rfl, if_neg fun z => hx z.symm]
        rfl
      rw [o]
      rfl
    · have hp : p ∈ F := (List.mem_cons.mp hp).resolve_left fun z => c z.symm
      obtain ⟨i1, i2, i3⟩ := erase_second (st := st) h2 hp
      have o : ∀ x, occ1 st p x q = occ st x q := fun x => by
        unfold occ1 occ
        by_cases d : sa st q = x
        · rw [if_pos ⟨d, c⟩, if_pos d]
        · rw [if_neg fun z => d z.1, if_neg d]
      have er : (q :: F).erase p = q :: F.erase p := List.erase_cons_tail (by simpa using c)
      have e3 : ∀ x, freeL st (q :: F.erase p) x = occ st x q ++ freeL st (F.erase p) x := fun x => List.flatMap_cons
      rw [er]
      refine ⟨?_, ?_, fun x hx => ?_⟩
      · rw [e]
        exact List.mem_append.mpr (.inr i1)
      · rw [e, o, e3, List.erase_append_right _ fun m => c (occ_mem m).symm, i2]
      · rw [e, o, e3, i3 x hx]
theorem erase_ix : ∀ {l : List Int} {k : Int}, k ∈ l → ∃ j, l[j]? = some k ∧ (∀ m : Nat, m < j → l[m]? ≠ some k) ∧ l.eraseIdx j = l.erase k
  | a :: l, k, h => by
    by_cases c : a = k
    · subst c
      exact ⟨0, rfl, fun m hm => absurd hm (Nat.not_lt_zero m), (List.erase_cons_head ..).symm⟩
    · have h : k ∈ l := (List.mem_cons.mp h).resolve_left fun z => c z.symm
      obtain ⟨j, h1, h2, h3⟩ := erase_ix h
      refine ⟨j + 1, h1, fun m hm => ?_, ?_⟩
      · cases m with
        | zero => exact fun z => c (Option.some.inj z)
        | succ m => exact h2 m (Nat.lt_of_succ_lt_succ hm)
      · rw [List.erase_cons_tail (by simpa using c)]
        show a :: l.eraseIdx j = _
        rw [h3]
theorem erase_nats (l : List Nat) (p : Nat) : (l.map fun n : Nat => (n : Int)).erase (p : Int) = (l.erase p).map fun n : Nat => (n : Int) := by
  induction l with
  | nil => rfl
  | cons a l ih =>
    by_cases c : a = p
    · subst c
      rw [List.map_cons, List.erase_cons_head, List.erase_cons_head]
    · rw [List.map_cons, List.erase_cons_tail (by rw [beq_iff_eq]; omega), List.erase_cons_tail (by rw [beq_iff_eq]; omega), ih, List.map_cons]
/-- how the dict comes to be -/
theorem freeL_snoc (st : List (Int × Int)) (F : List Nat) (i : Nat) (x : Int) : freeL st (F ++ [i]) x = freeL st F x ++ occ st x i := by
  unfold freeL
  rw [List.flatMap_append]
  show _ ++ (occ st x i ++ []) = _
  rw [List.append_nil]
end Sw
namespace Sw
/-! ### no laying has fewer chains -/
theorem nodup_sub_len {α : Type} [DecidableEq α] : ∀ {l m : List α}, l.Nodup → (∀ x ∈ l, x ∈ m) → l.length ≤ m.length
  | [], _, _, _ => Nat.zero_le _
  | a :: l, m, hn, h => by
    obtain ⟨n1, n2⟩ := List.nodup_cons.mp hn
    have am := h a List.mem_cons_self
    have ih := nodup_sub_len (l := l) (m := m.erase a) n2 fun x hx => (List.mem_erase_of_ne fun e => n1 (by rw [← e]; exact hx)).mpr (h x (List.mem_cons.mpr (.inr hx)))
    have := List.length_erase_of_mem am
    have := List.length_pos_of_mem am
    rw [List.length_cons]
    omega
def endsC (st : List (Int × Int)) (c : List Step) : List Int := [(lie st (c.headD (0, 0))).1, (lie st (c.getLastD (0, 0))).2]
def opens (st : List (Int × Int)) (cs : List (List Step)) : List Int := cs.flatMap (endsC st)
/-- a laying -/
structure IsLay (st : List (Int × Int)) (cs : List (List Step)) : Prop where
  tr : ∀ c ∈ cs, c ≠ [] ∧ (∀ s ∈ c, s.1 < st.length ∧ s.2 ≤ 1) ∧ ∃ x y, Tr st x c y
  perm : (plcs cs).Perm (List.range st.length)
theorem endsC_tr {st : List (Int × Int)} {c : List Step} {x y : Int} (hn : c ≠ []) (h : Tr st x c y) : endsC st c = [x, y] := by
  have l := Tr.last hn h
  cases c with
  | nil => exact absurd rfl hn
  | cons s r =>
    have h1 : (lie st s).1 = x := h.1
    unfold endsC
    rw [show (s :: r).headD (0, 0) = s from rfl, h1, ← l]
    rfl
theorem count_two (z x y : Int) : [x, y].count z = (if z = x then 1 else 0) + (if z = y then 1 else 0) := by
  simp only [List.count_cons, List.count_nil, beq_iff_eq, eq_comm (a := z)]
  omega
theorem opens_par {st : List (Int × Int)} (z : Int) : ∀ {cs : List (List Step)}, (∀ c ∈ cs, c ≠ [] ∧ ∃ x y, Tr st x c y) → ((endsOf st (plcs cs)).count z + (opens st cs).count z) % 2 = 0
  | [], _ => rfl
  | c :: cs, h => by
    have ih := opens_par (st := st) z (cs := cs) fun d hd => h d (List.mem_cons.mpr (.inr hd))
    obtain ⟨hn, x, y, ht⟩ := h c List.mem_cons_self
    have e := Tr.even z ht
    have e1 : endsOf st (plcs (c :: cs)) = endsOf st (plc c) ++ endsOf st (plcs cs) := by
      unfold plcs
      rw [List.flatMap_cons, endsOf_append]
    have e2 : opens st (c :: cs) = [x, y] ++ opens st cs := by
      unfold opens
      rw [List.flatMap_cons, endsC_tr hn ht]
    rw [e1, e2, List.count_append, List.count_append, count_two]
    omega
theorem cnt_group {st : List (Int × Int)} {g : List Nat} (hg : g ∈ grps st) {z : Int} (h : ∃ q ∈ g, z = sa st q ∨ z = sb st q) : (endsOf st g).count z = (endsOf st (List.range st.length)).count z := by
  obtain ⟨p, hp, pg, e⟩ := grp_is hg
  obtain ⟨q, hq, hz⟩ := h
  have gm : ∀ r, r ∈ g ↔ r < st.length ∧ cls st r = cls st p := fun r => by
    rw [e, List.mem_filter, List.mem_range, decide_eq_true_eq]
  have k := cnt_filter (st := st) (z := z) (g := g) (List.range st.length) fun r hr hz' => by
    have hr := List.mem_range.mp hr
    obtain ⟨q1, q2⟩ := (gm q).mp hq
    refine (gm r).mpr ⟨hr, ?_⟩
    rw [← q2]
    refine cls_touch hr q1 (x := z) ?_ hz
    rcases hasE_iff.mp hz' with c | c
    · exact .inl c.symm
    · exact .inr c.symm
  unfold cnt at k
  rw [k]
  congr 2
  rw [e]
  refine List.filter_congr fun r hr => ?_
  have hr := List.mem_range.mp hr
  refine Bool.eq_iff_iff.mpr ?_
  rw [decide_eq_true_eq, decide_eq_true_eq, ← e]
  exact ⟨fun h => (gm r).mpr ⟨hr, h⟩, fun h => ((gm r).mp h).2⟩
/-- each odd end is an end that lies open -/
theorem odds_open {st : List (Int × Int)} {cs : List (List Step)} (h : IsLay st cs) {g : List Nat} (hg : g ∈ grps st) {z : Int} (hz : z ∈ odds st g) : z ∈ opens st cs := by
  have ok := (oddL_ok (endsOf st g)).2 z
  have o := ok.mp hz
  have m : z ∈ endsOf st g := List.count_pos_iff.mp (by omega)
  have e := cnt_group hg (mem_endsOf.mp m)
  have p := opens_par (st := st) z (cs := cs) fun c hc => ⟨(h.tr c hc).1, (h.tr c hc).2.2⟩
  have e2 := count_perm (st := st) h.perm z
  refine List.count_pos_iff.mp ?_
  omega
/-- the chains that begin in a group -/
def inG (cs : List (List Step)) (g : List Nat) : List (List Step) := cs.filter fun c => decide ((c.headD (0, 0)).1 ∈ g)
theorem filter_two {α : Type} (f : α → Bool) : ∀ l : List α, (l.filter f).length + (l.filter fun c => !f c).length = l.length
  | [] => rfl
  | a :: l => by
    have ih := filter_two f l
    rw [List.filter_cons, List.filter_cons, List.length_cons]
    cases e : f a with
    | true =>
      rw [if_pos rfl, if_neg (by decide), List.length_cons]
      omega
    | false =>
      rw [if_neg (by decide), if_pos (by decide), List.length_cons]
      omega
theorem inG_sum (cs : List (List Step)) : ∀ {gs : List (List Nat)}, gs.Pairwise (fun g h => ∀ p ∈ g, p ∉ h) → ∀ cs : List (List Step), (gs.map fun g => (inG cs g).length).sum ≤ cs.length
  | [], _, cs => Nat.zero_le _
  | g :: gs, hd, cs => by
    obtain ⟨d1, d2⟩ := List.pairwise_cons.mp hd
    have ih := inG_sum cs d2 (cs.filter fun c => !decide ((c.headD (0, 0)).1 ∈ g))
    have e : (gs.map fun g' => (inG cs g').length) = gs.map fun g' => (inG (cs.filter fun c => !decide ((c.headD (0, 0)).1 ∈ g)) g').length := by
      refine List.map_congr_left fun g' hg' => ?_
      unfold inG
      rw [List.filter_filter]
      congr 1
      refine List.filter_congr fun c _ => ?_
      refine Bool.eq_iff_iff.mpr ?_
      rw [Bool.and_eq_true, decide_eq_true_eq, Bool.not_eq_true', decide_eq_false_iff_not]
      exact ⟨fun h => ⟨h, fun m => d1 g' hg' _ m h⟩, fun h => h.1⟩
    rw [List.map_cons, List.sum_cons, e]
    have l : (inG cs g).length + (cs.filter fun c => !decide ((c.headD (0, 0)).1 ∈ g)).length = cs.length := by
      unfold inG
      exact filter_two (fun c => decide ((c.headD (0, 0)).1 ∈ g)) cs
    omega
theorem flat_two {st : List (Int × Int)} : ∀ cs : List (List Step), (opens st cs).length = 2 * cs.length
  | [] => rfl
  | c :: cs => by
    have ih := flat_two (st := st) cs
    unfold opens at *
    rw [List.flatMap_cons, List.length_append, ih, List.length_cons]
    show 2 + _ = _
    omega
theorem head_in {st : List (Int × Int)} {cs : List (List Step)} (h : IsLay st cs) {g : List Nat} (hg : g ∈ grps st) {c : List Step} (hc : c ∈ cs) {s : Step} (hs : s ∈ c) {z : Int} (hz : z = (lie st s).1 ∨ z = (lie st s).2) (q : Nat) (hq : q ∈ g) (hqz : z = sa st q ∨ z = sb st q) : c ∈ inG cs g := by
  obtain ⟨p, hp, pg, e⟩ := grp_is hg
  have gm : ∀ r, r ∈ g ↔ r < st.length ∧ cls st r = cls st p := fun r => by
    rw [e, List.mem_filter, List.mem_range, decide_eq_true_eq]
  obtain ⟨hn, hl, x, y, ht⟩ := h.tr c hc
  obtain ⟨s0, r0, ec⟩ : ∃ s r, c = s :: r := by
    cases c with
    | nil => exact absurd rfl hn
    | cons s r => exact ⟨s, r, rfl⟩
  refine List.mem_filter.mpr ⟨hc, decide_eq_true ?_⟩
  rw [ec]
  show s0.1 ∈ g
  have m0 : s0 ∈ c := by rw [ec]; exact List.mem_cons_self
  obtain ⟨c1, c2⟩ := Tr.conn (fun s hs => (hl s hs).1) ht
  have l0 := (hl s0 m0).1
  obtain ⟨q1, q2⟩ := (gm q).mp hq
  refine (gm _).mpr ⟨l0, ?_⟩
  rw [← q2]
  have cz : Conn st x z := by
    rcases hz with hz | hz
    · rw [hz]; exact (c2 s hs).1
    · rw [hz]; exact (c2 s hs).2
  have cx : Conn st x (sa st s0.1) ∧ Conn st x (sb st s0.1) := lie_both s0 (P := fun v => Conn st x v) (c2 s0 m0).1 (c2 s0 m0).2
  have cq : Conn st z (sa st q) := by
    rcases hqz with c | c
    · rw [c]; exact .refl _
    · rw [c]; exact (Conn.edge (st_mem q1)).symm
  exact (conn_of_cls l0 q1).mpr ((cx.1.symm.trans cz).trans cq)
theorem lay_few {st : List (Int × Int)} {cs : List (List Step)} (h : IsLay st cs) : few st ≤ cs.length := by
  refine Nat.le_trans ?_ (inG_sum cs (grps_apart st) cs)
  unfold few
  have gp : (grps st).flatten.Perm (List.range st.length) := grpsL_perm (cls st) _ _ (Nat.le_refl _) List.pairwise_lt_range
  have key : ∀ g ∈ grps st, max 1 ((odds st g).length / 2) ≤ (inG cs g).length := fun g hg => by
    have h1 : 1 ≤ (inG cs g).length := by
      obtain ⟨p, hp, pg, e⟩ := grp_is hg
      have pm : p ∈ plcs cs := h.perm.mem_iff.mpr (List.mem_range.mpr hp)
      obtain ⟨c, hc, pc⟩ := List.mem_flatMap.mp pm
      obtain ⟨s, hs, es⟩ := List.mem_map.mp pc
      have m := head_in h hg hc hs (z := (lie st s).1) (.inl rfl) p pg (by
        rw [← es]
        unfold lie
        by_cases c : s.2 = 0
        · rw [if_pos c]; exact .inl rfl
        · rw [if_neg c]; exact .inr rfl)
      exact List.length_pos_of_mem m
    have h2 : (odds st g).length ≤ 2 * (inG cs g).length := by
      rw [← flat_two (st := st)]
      refine nodup_sub_len ((oddL_ok (endsOf st g)).1.imp fun h => Int.ne_of_lt h) fun z hz => ?_
      have o := odds_open h hg hz
      obtain ⟨c, hc, m⟩ := List.mem_flatMap.mp o
      have ok := ((oddL_ok (endsOf st g)).2 z).mp hz
      have mz : z ∈ endsOf st g := List.count_pos_iff.mp (by omega)
      obtain ⟨q, hq, hqz⟩ := mem_endsOf.mp mz
      refine List.mem_flatMap.mpr ⟨c, ?_, m⟩
      obtain ⟨hn, hl, x, y, ht⟩ := h.tr c hc
      rcases List.mem_cons.mp m with e | m
      · refine head_in h hg hc (s := c.headD (0, 0)) ?_ (.inl e) q hq hqz
        cases c with
        | nil => exact absurd rfl hn
        | cons s r => exact List.mem_cons_self
      · refine head_in h hg hc (s := c.getLast hn) (List.getLast_mem hn) (.inr ?_) q hq hqz
        rw [List.mem_singleton.mp m, List.getLastD_eq_getLast?, List.getLast?_eq_some_getLast hn]
        rfl
    omega
  have sum_le : ∀ gs : List (List Nat), (∀ g ∈ gs, max 1 ((odds st g).length / 2) ≤ (inG cs g).length) → (gs.map fun g => max 1 ((odds st g).length / 2)).sum ≤ (gs.map fun g => (inG cs g).length).sum := by
    intro gs
    induction gs with
    | nil => intro _; exact Nat.le_refl _
    | cons g gs ih =>
      intro h
      have a := ih fun g hg => h g (List.mem_cons.mpr (.inr hg))
      have b := h g List.mem_cons_self
      rw [List.map_cons, List.map_cons, List.sum_cons, List.sum_cons]
      omega
  exact sum_le _ key
theorem few_groups (st : List (Int × Int)) : (grps st).length ≤ few st := by
  unfold few
  generalize grps st = gs
  induction gs with
  | nil => exact Nat.le_refl _
  | cons g gs ih =>
    rw [List.map_cons, List.sum_cons, List.length_cons]
    omega
/-! ### chains grow -/
theorem tr_one {st : List (Int × Int)} (s : Step) : Tr st (lie st s).1 [s] (lie st s).2 := ⟨rfl, rfl⟩
theorem lay_new {st : List (Int × Int)} {cs : List (List Step)} {s : Step} : plcs (cs ++ [[s]]) = plcs cs ++ [s.1] := by
  unfold plcs
  rw [List.flatMap_append]
  rfl
theorem plcs_grow {cs : List (List Step)} {j : Nat} {c : List Step} {s : Step} (h : cs[j]? = some c) : (plcs (cs.set j (c ++ [s]))).Perm (plcs cs ++ [s.1]) := by
  induction cs generalizing j with
  | nil => simp at h
  | cons d cs ih =>
    cases j with
    | zero =>
      have e : d = c := Option.some.inj h
      subst e
      show (plcs ((d ++ [s]) :: cs)).Perm _
      unfold plcs
      rw [List.flatMap_cons, List.flatMap_cons]
      have : plc (d ++ [s]) = plc d ++ [s.1] := by unfold plc; rw [List.map_append]; rfl
      rw [this, List.append_assoc, List.append_assoc]
      exact List.Perm.append_left _ List.perm_append_comm
    | succ j =>
      have k := ih (j := j) h
      show (plcs (d :: cs.set j (c ++ [s]))).Perm _
      unfold plcs at *
      rw [List.flatMap_cons, List.flatMap_cons, List.append_assoc]
      exact k.append_left _
end Sw
set_option maxHeartbeats 3200000
namespace Sw
open PySem PySem.Spec PyProof.Rows L2
abbrev emptyS (w : World) : Obj := { cls := .type "set", dict := none, data := .set #[] 0 (.fresh 0 0 (!w.params.followText "set-order")) }
abbrev withS (w : World) (h : Heap) : Heap := h.push (emptyS w)
section
variable {P : Program} {w : World} {A : Around} {E : Value → Shared → Prop} {s : Shared}
/-- set(xs) of a list of ints -/
theorem set_of_ints {at_ : Addr} {us : Array Value} (zs : List Int) {Q : Value → Shared → Prop} (calm : A.handled = none) (hl : s.heap.IsList at_ us) (hi : IntsAre us.toList zs) (few : zs.length + 1 < scanBound)
    (q : ∀ (h' : Heap) (tk n : Nat), SetR w h' s.heap.objs.size (fun j => decide (j ∈ zs)) n → n ≤ zs.length → (∀ b o, s.heap.get? b = some o → h'.get? b = some o) → Q (.ref s.heap.objs.size) { s with heap := h', toks := tk }) :
    wpAny (model P w) A (call (.type "set") [.ref at_]) Q E s := by
  have usz : us.size = zs.length := by
    have z := IntsAre.length hi
    rw [Array.length_toList] at z
    exact z
  obtain ⟨c, tl, mro_⟩ := F.called_set.mro
  have made_ := F.called_set.made
  have sub_ := F.called_set.sub
  refine wpAny_call (codeAny_of_tree ?_)
  show wpAny _ _ (callAny (.type "set") _) _ _ _
  refine wpAny_pure ⟨Code.quiet_builtin _ (by decide +kernel), codeAny_builtin F.entry_type_call ?_⟩
  rw [Around.under_plain (weight_type_call_type "set" [.ref at_] []) rfl]
  have t1 := F.called_set.notType
  have t2 := F.called_set.canCreate
  have t3 := F.typeCall_set_1 (.ref at_)
  repeat (any_goals (first | assumption | wp_step))
  refine codeAny_mono (code_set_led1 (.ref at_) (E := E) (Q₁ := fun ob s1 => ob = .ref s.heap.objs.size ∧ s1 = { s with heap := withS w s.heap }) ⟨rfl, rfl⟩) fun r s1 hr => ?_
  cases r with
  | error e => exact hr
  | ok fl =>
    cases fl with
    | ret ob =>
      obtain ⟨rfl, rfl⟩ := hr
      have new : (withS w s.heap).get? s.heap.objs.size = some (emptyS w) := Heap.get?_push_size _ rfl
      have typ : Shared.TypeIs { s with heap := withS w s.heap } (.ref s.heap.objs.size) "set" := ⟨_, new, rfl⟩
      have i1 := F.called_set.init.lookup
      have i2 := F.called_set.init.bind (.ref s.heap.objs.size)
      repeat (any_goals (first | assumption | wp_step))
      refine codeAny_mono (codeAny_call_builtin (R := wants (fun r s2 => r = .none ∧ ∃ h' tk n, s2 = { s with heap := h', toks := tk } ∧ SetR w h' s.heap.objs.size (fun j => decide (j ∈ zs)) n ∧ n ≤ zs.length ∧
          (∀ b o, s.heap.get? b = some o → h'.get? b = some o)) E) F.called_set.init.plain F.entry_set_init (check_set_init_1 typ ?_)) fun r2 s2 hr2 => ?_
      · obtain ⟨ol, hol, hcl, nl, hdl⟩ := hl
        obtain ⟨ocls, odict, odata, oslots⟩ := ol
        simp only at hcl hdl
        subst hcl
        subst hdl
        have there : (withS w s.heap).get? at_ = some { cls := .type "list", dict := odict, data := .seq us nl, slots := oslots } := Heap.get?_push_of_some _ hol
        have n1 := F.sub_list_set
        have n2 := F.sub_list_frozenset
        have n3 : (Value.type "list" == Value.type "dict") = false := by decide
        have ls1 : (withS w s.heap).IsList at_ us := ⟨_, there, rfl, nl, rfl⟩
        unfold Builtin.«set.__init__» noKeywords Builtin.Frozenset.updateFrom
        generalize ePI : pyIter = PI
        wp_walk
        subst ePI
        refine wpAny_pyIter_list ls1 ?_
        refine wpAny_bind (wpAny_runValue ?_)
        have lt0 : at_ < s.heap.objs.size := Heap.lt_size hol
        have calm3 : A.in1.in1.in1.handled = none := by simp [calm]
        have apart : at_ ≠ (withS w s.heap).objs.size := by
          rw [Heap.size_push]
          exact Nat.ne_of_lt (Nat.lt_succ_of_lt lt0)
        have notIn : s.heap.objs.size ∉ [(withS w s.heap).objs.size, at_] := by
          rw [Heap.size_push]
          simp only [List.mem_cons, List.mem_singleton, List.not_mem_nil, or_false, not_or]
          exact ⟨Nat.ne_of_lt (Nat.lt_succ_self _), Nat.ne_of_gt lt0⟩
        have vals : ∀ (i : Nat) (v : Value), us[i]? = some v → ∃ k t, zs[i]? = some k ∧ v = .int k t := fun i v hv => by
          have lt1 : i < zs.length := by
            rw [← usz]
            exact (Array.getElem?_eq_some_iff.mp hv).1
          obtain ⟨t, e⟩ := PyProof.Rows.IntsAre.int_at hi i v (by rw [Array.getElem?_toList]; exact hv)
          refine ⟨zs[i], t, List.getElem?_eq_getElem lt1, ?_⟩
          rw [e, List.getD_eq_getElem?_getD, List.getElem?_eq_getElem lt1]
          all_goals rfl
        refine set_update_ints ((Walks.list calm3 _ at_ apart us).toS) s.heap.objs.size notIn zs usz few vals (us.size - 0) 0 _ (by omega) (Nat.zero_le _) ⟨⟨_, Heap.get?_push_size _ rfl, rfl, rfl⟩, (ls1.push _)⟩ ?a0 ?a1
        case a0 =>
          have g0 : ((withS w s.heap).push { cls := .type "list_iterator", data := .fields #[.ref at_, .int 0 0] }).get? s.heap.objs.size = some (emptyS w) := Heap.get?_push_of_some _ new
          exact ⟨0, Nat.le_refl 0, setR_new_at g0⟩
        case a1 =>
          intro s' n hm hn hS'
          obtain ⟨h', g2, d', tk', os'⟩ := s'
          have e1 : g2 = s.gens := hm.gens
          have e2 : d' = s.drawn := hm.drawn
          have e3 : os' = s.os := hm.os
          subst e1
          subst e2
          subst e3
          show wpAny _ _ _ _ _ _
          refine wpAny_pure ?_
          show wpAny _ _ (ret Value.none) _ _ _
          rw [usz] at hn
          refine wpAny_pure ⟨rfl, h', tk', n, rfl, hS', hn, fun b o e => ?_⟩
          have b0 : b < s.heap.objs.size := Heap.lt_size e
          have b1 : b ≠ s.heap.objs.size := Nat.ne_of_lt b0
          have b2 : b ≠ (withS w s.heap).objs.size := by
            rw [Heap.size_push]
            exact Nat.ne_of_lt (Nat.lt_succ_of_lt b0)
          exact hm.heap b o (by simp only [List.mem_cons, List.mem_singleton, List.not_mem_nil, or_false, not_or]; exact ⟨b1, b2⟩) (Heap.get?_push_of_some _ (Heap.get?_push_of_some _ e))
      · cases r2 with
        | error e => exact hr2
        | ok fl2 =>
          cases fl2 with
          | ret r =>
            obtain ⟨rfl, h', tk, n, rfl, hS', hn, k'⟩ := hr2
            repeat (any_goals (first | assumption | wp_step))
            exact q _ _ _ hS' hn k'
          | _ => exact hr2.elim
    | _ => exact hr.elim
end
section
variable {X : Cx}
/-- set(xs): at most 62 ints or so -/
def rSetI (K : PySem.W.Frag) (w : World) : List V → Hp → VK → Prop := fun xs H Q => ∃ (l : Addr) (zs : List Int), xs = [.ref l] ∧ SqL K H l (zs.map V.int) ∧ zs.length ≤ 1000 ∧
  ∀ (n : Nat) (p : Addr), n ≤ zs.length → H p = none → Q (.ref p) (upd H p (SetO w p (fun j => decide (j ∈ zs)) n))
theorem cr_setI (hc : X.calm = true) : CallR X (.type "set") (rSetI X.K X.w) := by
  intro pins s σ H xs us Q I r h
  obtain ⟨l, zs, rfl, hl, few, q⟩ := h
  rw [Vals.ref1 r]
  obtain ⟨its, rv, pl, hz⟩ := I.list hl
  have hi : IntsAre its.toArray.toList zs := by
    have := ints_of_vals rv
    simpa using this
  refine set_of_ints zs (I.ok.hd hc) pl.isList hi (by unfold scanBound; omega) fun h' tk n R hn k => ?_
  exact ⟨.ref _, upd H s.heap.objs.size (SetO X.w s.heap.objs.size (fun j => decide (j ∈ zs)) n), I.laid (t' := tk) k (Nat.le_refl _) (setO_new R), rfl, q n _ hn (I.hok.fresh (Nat.le_refl _))⟩
end
end Sw
set_option maxHeartbeats 3200000
namespace Sw
open PySem PySem.Spec PyProof.Rows L2
section
variable {X : Cx}
/-- list(o.values()) of a dict -/
def tListVals (td : TE) : TE := fun σ H Q => td σ H fun x H1 => ∃ a kvs, x = V.ref a ∧ H1 a = some (.dK kvs) ∧ ∀ p, H1 p = none → Q (.ref p) (upd H1 p (.lst (kvs.map (·.2))))
variable {o : Expr} {p pos apos mpos : Pos} {td : TE}
theorem pe_listVals (hc : X.calm = true) (hg : Gl X "list") (hm : X.mg "list" = none) (hd : PE X o td)
    (hb : attributeBase o "values" X.env (eval o X.env) = eval o X.env := by rfl) (hl : (apos.endLine == mpos.line) = true := by rfl)
    (na : starEach [Expr.Call (.Attribute o "values" apos) [] [] mpos] X.env = (false, eval (Expr.Call (.Attribute o "values" apos) [] [] mpos) X.env) :: starEach [] X.env := by rfl) :
    PE X (.Call (.Name "list" p) [.Call (.Attribute o "values" apos) [] [] mpos] [] pos) (tListVals td) := by
  refine ⟨fun pins s σ H Q I h => ?_⟩
  refine Call_ (ld_blt I hg hm PyProof.Rows.boot_list ?_)
  refine PyProof.Rows.callWith_type1 (PyProof.Rows.args_cons (wpAny_Call_method0_late hb hl (thn (hd.run pins s σ H _ I h) fun v s1 ⟨x, H1, I1, r1, a, kvs, ex, ha, q⟩ => ?_)) na) na rfl
  subst ex
  obtain rfl : v = Value.ref a := r1
  obtain ⟨z, lo, vs, rel, dof⟩ := dk_of I1.hok ha
  obtain ⟨ep, dat⟩ := dof.dictAt
  have dat' := dat
  obtain ⟨ob, es, ho, ex, hdat, hko, hpr, hnd⟩ := dat'
  refine ⟨"dict", "dict.values", F.plainAttrs_dict, F.slot_dict_values, F.type_dict_values, ⟨ob, ho, ex.1⟩, fun b e => ?_, Calls.callWith_builtin rfl (PySem.evalArgs_none ?_)⟩
  · cases e
    exact ⟨ob, ho, ex.2.1⟩
  refine call_meetsIn F.slot_dict_values ⟨ob, ho, ex.1⟩ F.entry_dict_values (F.args_dict_values_1 _) (meets_dict_values (mixKind X.prog X.w) a lo) ⟨⟨vs, dof⟩, ?_⟩
  refine PyProof.Rows.args_nil ?_
  have up : ∀ b u, s1.heap.get? b = some u → (s1.heap.push { cls := .type "dict_values", data := .fields #[.ref a] }).get? b = some u := fun b u e => Heap.get?_push_of_some _ e
  have dat1 : (s1.heap.push { cls := .type "dict_values", data := .fields #[.ref a] }).DictAt (mixKind X.prog X.w) a vs ep := dat.keep up
  refine PySem.W.kdl_call (s := { s1 with heap := s1.heap.push { cls := .type "dict_values", data := .fields #[.ref a] } }) (PySem.W.kdl_values (knd := mixKind X.prog X.w) (kvs := vs) (ep := ep) (r := s1.heap.objs.size) (d := a)) (I1.ok.hd hc) ⟨⟨_, Heap.get?_push_size _ rfl, rfl, rfl⟩, dat1⟩ (by rw [← rel.length]; exact z) fun h' tk acc c' hk hD hacc => ?_
  have hv : Vals (kvs.map (·.2)) acc.toList := by
    have el : (kvs.map (·.2)).length = acc.toList.length := by
      rw [List.length_map, rel.length]
      exact hacc.1.symm
    refine vals_of_at el fun j x u e1 e2 => ?_
    obtain ⟨k, hk2⟩ := hacc.2 j u (by rw [← Array.getElem?_toList]; exact e2)
    obtain ⟨x', h1, h2⟩ := KV.at' rel hk2
    rw [List.getElem?_map, h1] at e1
    have e1 := Option.some.inj e1
    rw [← e1]
    exact h2
  have hsz : (s1.heap.push { cls := .type "dict_values", data := .fields #[.ref a] }).objs.size = s1.heap.objs.size + 1 := Heap.size_push _ _
  refine ⟨.ref (s1.heap.push { cls := .type "dict_values", data := .fields #[.ref a] }).objs.size, upd H1 (s1.heap.push { cls := .type "dict_values", data := .fields #[.ref a] }).objs.size (.lst (kvs.map (·.2))), I1.laid (t' := tk) (fun b u e => hk b u (up b u e)) (by rw [hsz]; exact Nat.le_succ _) ?_, rfl, q _ (I1.hok.fresh (by rw [hsz]; exact Nat.le_succ _))⟩
  exact (show ObjOk X.prog X.w _ _ _ (.lst (kvs.map (·.2))) from ⟨by rw [List.length_map]; exact z, acc.toList, c', hv, by rw [Array.toArray_toList]; exact hD⟩)
end
end Sw
set_option maxHeartbeats 3200000
namespace Sw
open PySem PySem.Spec PyProof.Rows L2
section
variable {X : Cx}
/-- name = {..} on one line, the name a local -/
theorem ps_setDc {n : Nat} {nm : Str} {np : Pos} {kx vx tgt iter : Expr} {ifs : List Expr} {sc : Scope} {own : List (Str × Nat)} {p1 p2 : Pos} {wi : TI} {g : TG} {tt : TT} {tk tv : TE} (hc : X.calm = true) (hN : X.N.Nodup) (hn : X.N[n]? = some nm) (hl : X.env.scope.names.lookup nm = some .local)
    (sw : swapsWith (.DictComp kx vx [⟨tgt, iter, ifs, 0⟩] sc p1) (some (.Name nm np)) p2.line X.env = pure true) (hi : PI X tgt iter wi) (ok : BlkOk X.N X.env.scope sc own)
    (h1 : ∀ (s : Shared) (H : Hp) (C : Addr) (cl : List (Str × Addr)) (fp : List Addr), PG (X.blk s H sc (compEnvC sc cl C X.env) fp) tgt g) (h2 : ∀ (s : Shared) (H : Hp) (C : Addr) (cl : List (Str × Addr)) (fp : List Addr), PTs (X.blk s H sc (compEnvC sc cl C X.env) fp) ifs tt)
    (h3 : ∀ (s : Shared) (H : Hp) (C : Addr) (cl : List (Str × Addr)) (fp : List Addr), PE (X.blk s H sc (compEnvC sc cl C X.env) fp) kx tk) (h4 : ∀ (s : Shared) (H : Hp) (C : Addr) (cl : List (Str × Addr)) (fp : List Addr), PE (X.blk s H sc (compEnvC sc cl C X.env) fp) vx tv)
    (fo : ∀ x, foldedSetIterable iter X.env x = pure x := by intro _; rfl) : PS X (.Assign [.Name nm np] (.DictComp kx vx [⟨tgt, iter, ifs, 0⟩] sc p1) p2) (tAsg (tDc wi g tt tk tv (own.map (·.2))) (gName n)) := by
  refine ⟨fun pins s σ H D I h => ?_⟩
  rw [exec_Assign_Name_used _ _ _ _ sw]
  refine wpAny_bind (wpAny_standAt (wpAny_bind ?_))
  show wpAny _ X.A (do let _ ← comprehension (.DictComp kx vx [⟨tgt, iter, ifs, 0⟩] sc p1) sc X.env (firstIterPos [⟨tgt, iter, ifs, 0⟩] p1) newDict false (eval iter X.env) (some (assign (.Name nm np) X.env))) _ _ s
  have h : tDc wi g tt tk tv (own.map (·.2)) σ H (fun x H1 => gName n x σ H1 D.nx) := h
  refine wpAny_bind (thn (dc_core (Qf := fun _ s' => SP X pins D .next s') hc hN I hi ok h1 h2 h3 h4 fo h fun L C s1 m H1 I1 q hm f => ?_) fun _ s1 hq => wpAny_pure (wpAny_pure hq))
  show wpAny _ _ (assign (.Name nm np) X.env (.ref L)) _ _ _
  refine wpAny_assign_Name (store_ok2 (v := V.ref L) I1 hN hn (.inl hl) rfl (fun s2 I2 ⟨a, sb, ha⟩ => ?_) (.inr hl))
  obtain ⟨f0, f1, f2, f3, f4, f5⟩ := f
  have apart : C ≠ a := by
    rcases ha with z | z
    · rw [z]
      exact f1
    · exact fun e => f4 nm a z e.symm
  refine ⟨m, hm.sameBut sb apart, fun h5 sb5 => ?_⟩
  exact ⟨_, H1, I2.turned (t' := s2.toks) (fun b o hb e => (sb5.2 b hb).trans e) f0 f1 f3 f4 f5, q⟩
theorem sw_dict {kx vx : Expr} {gs : List Comprehension} {sc : Scope} {p1 np : Pos} {nm : Str} {l : Nat} {env : Env} (hk : env.scope.kind = .function) (hy : env.scope.names.lookup nm = some .local) (hl : (np.line == p1.line) = true)
    (ha : (sc.names.any fun (n, k) => n == nm && (k == .local || k == .cell)) = false) : swapsWith (.DictComp kx vx gs sc p1) (some (.Name nm np)) l env = pure true := by
  have k1 : env.kindOf nm = some .local := hy
  have k2 : env.blockKind = .function := by
    unfold Env.blockKind
    rw [hk]
    rfl
  unfold swapsWith
  simp only [k2, k1, ha, Expr.pos, hl]
  rfl
end
end Sw
set_option maxHeartbeats 3200000
namespace Sw
open PySem PySem.Spec PyProof.Rows L2
section
variable {prog : Program} {w : World} {A : Around} {E : Value → Shared → Prop} {s : Shared}
/-- the end of sorted: the gathered ints laid in a new list, and that one sorted -/
theorem sort_gathered {vs : List Value} {ns : List Int} {R : PySem.Fin → Shared → Prop} (hi : IntsAre vs ns) (hz : vs.length ≤ sizeLine)
    (h : ∀ (h' : Heap) (out : List Value) (zs : List Int) (c : Nat), (∀ b o, s.heap.get? b = some o → h'.get? b = some o) → h'.get? s.heap.objs.size = some (seqObj "list" out.toArray c) → IntsAre out zs → zs.Perm ns → zs.Pairwise (· ≤ ·) → R (.done (.ret (.ref s.heap.objs.size))) { s with heap := h' }) :
    wpAny (model prog w) A (newList vs >>= fun l => do let _ ← holding [l] (call (.builtin "list.sort") [l] []); ret l) R E s := by
  refine wpAny_bind (wpAny_newList ?_ hz)
  have hoL : (s.heap.push (seqObj "list" vs.toArray 0)).get? s.heap.objs.size = some (seqObj "list" vs.toArray 0) := Heap.get?_push_size _ rfl
  show wpAny _ _ _ _ _ { s with heap := s.heap.push (seqObj "list" vs.toArray 0) }
  refine wpAny_bind (wpAny_holding (wpAny_call_entry PyProof.Rows.slot_list_sort ⟨_, hoL, rfl⟩ PyProof.Rows.entry_list_sort
    (SrtO.list_sort_ord (s := { s with heap := s.heap.push (seqObj "list" vs.toArray 0) }) SrtO.swo_int hoL hz (fun h2 => SrtO.ints_sortable hi h2) fun out h1 h2 => ⟨_, rfl, ?_⟩) (PyProof.Rows.args_list_sort _)))
  obtain ⟨k1, k2, k3⟩ := SrtO.ints_out hi h1 h2
  obtain ⟨ep, he'⟩ := PyProof.Rows.sortedHeap_at (vs := vs) (out := out.toArray) hoL
  refine wpAny_pure (h _ out (out.map SrtO.iv) ep (fun b u e => ?_) he' k1 k2 k3)
  have hb : b < s.heap.objs.size := Heap.lt_size e
  rw [PyProof.Rows.sortedHeap_old (Nat.ne_of_lt hb) (by rw [size_push']; exact Nat.lt_succ_of_lt hb)]
  exact Heap.get?_push_of_some _ e
end
section
variable {X : Cx}
/-- sorted(d), a dict whose keys are ints, any number of them -/
def rSortedKeys : List V → Hp → VK → Prop := fun xs H Q => ∃ (a : Addr) (kvs : List (Key × V)) (ks : List Int), xs = [.ref a] ∧ Rd H a (.dK kvs) ∧ kvs.map (·.1) = ks.map Sum.inl ∧
  ∀ (ys : List Int) (p : Addr), ys.Perm ks → ys.Pairwise (· ≤ ·) → H p = none → Q (.ref p) (upd H p (.lst (ys.map V.int)))
theorem cr_sortedKeys (hc : X.calm = true) : CallR X (.builtin "sorted") rSortedKeys := by
  intro pins s σ H xs us Q I r q
  obtain ⟨a, kvs, ks, ex, hd, hks, q⟩ := q
  subst ex
  rw [Vals.ref1 r]
  obtain ⟨z, lo, vs, rel, dd⟩ := dk_rd I.hok hd
  obtain ⟨ep, hat⟩ := dd.dictAt
  have hkeys : vs.map (·.1) = ks.map Sum.inl := rel.keys.symm.trans hks
  have hl : vs.length = ks.length := by
    have e := congrArg List.length hkeys
    rw [List.length_map, List.length_map] at e
    exact e
  have hz : vs.length ≤ sizeLine := by
    rw [← rel.length]
    exact z
  refine Calls.call_function_entry PyProof.Rows.kind_sorted PyProof.Rows.plain_sorted PyProof.Rows.entry_sorted (PyProof.Rows.args_sorted1 _) ?_
  unfold Builtin.«sorted»
  refine wpAny_bind (m := checkCount "sorted" 1 1 _) (wpAny_pure ?_)
  refine wpAny_bind (PySem.W.kdu_collect (A := X.A.in1) (PySem.W.kdl_dict (knd := mixKind X.prog X.w) (kvs := vs) (ep := ep) lo) (I.ok.hd hc) hat hz fun h' tk acc hk hacc => ?_)
  have hal : acc.toList.length = ks.length := by
    rw [← hl]
    exact hacc.1
  have hS : IntsAre acc.toList ks := ints_each hal fun j v e => by
    obtain ⟨k, x, e1, e2⟩ := hacc.2 j v (by rw [← Array.getElem?_toList]; exact e)
    have e3 : (vs.map (·.1))[j]? = some k := by
      rw [List.getElem?_map, e1]
      rfl
    rw [hkeys, List.getElem?_map] at e3
    obtain ⟨y, e4, e5⟩ := Option.map_eq_some_iff.mp e3
    subst e5
    rcases keyIs_shape (show keyIs (Sum.inl y) v = true from e2) with ⟨i, t, ek, ev⟩ | ⟨z, t, ek, ev⟩
    · cases ek
      exact ⟨y, t, e4, ev⟩
    · cases ek
  have I1 : Inv X pins σ H { s with heap := h', toks := tk } := I.kept hk
  refine sort_gathered (s := { s with heap := h', toks := tk }) hS (by rw [hal, ← hl]; exact hz) fun h2 out zs c k2 hg hi hp hs => ?_
  have hlen : (zs.map V.int).length ≤ sizeLine := by
    rw [List.length_map, hp.length_eq, ← hl]
    exact hz
  exact ⟨_, rfl, .ref h'.objs.size, upd H h'.objs.size (.lst (zs.map V.int)), I1.laid (t' := tk) k2 (Nat.le_refl _) (show ObjOk X.prog X.w _ _ _ (.lst (zs.map V.int)) from ⟨hlen, out, c, vals_of_ints hi, hg⟩), rfl, q zs _ hp hs (I1.hok.fresh (Nat.le_refl _))⟩
/-- sorted(s), a set of ints, any number of them -/
def rSortedSetN (w : World) : List V → Hp → VK → Prop := fun vs H Q => ∃ (a : Addr) (S : Int → Bool) (n : Nat), vs = [V.ref a] ∧ H a = some (SetO w a S n) ∧
  ∀ (ns : List Int) (p : Addr), ns.Pairwise (· < ·) → (∀ k : Int, k ∈ ns ↔ S k = true) → H p = none → Q (.ref p) (upd H p (.lst (ns.map V.int)))
theorem cr_sortedSetN (hc : X.calm = true) : CallR X (.builtin "sorted") (rSortedSetN X.w) := by
  intro pins s σ H vs us Q I r h
  obtain ⟨a, S, n, rfl, ha, q⟩ := h
  obtain ⟨o, es, ep, t, ho, hex, hd, g, nd, hm, hb, hf, hn, hr, hl⟩ := setO_get I ha
  rw [Vals.ref1 r]
  refine Calls.call_function_entry kind_sorted plain_sorted entry_sorted (args_sorted1 _) ?_
  unfold Builtin.«sorted»
  refine wpAny_bind (m := checkCount "sorted" 1 1 _) (wpAny_pure ?_)
  refine wpAny_bind (collect_set (A := X.A.in1) (I.ok.hd hc) ⟨o, ho, hex.1, hd⟩ hf hb hr hl fun s1 vs k1 hz g1 o1 pm => ?_)
  have hvl : vs.length ≤ sizeLine := by
    rw [pm.length_eq, List.length_map, Array.length_toList]
    exact fits_of_scanBound hb
  have hI : IntsAre vs (vs.map Builtin.Re.reRawOf) := ints_of vs fun v hv => by
    obtain ⟨e, he, q⟩ := List.mem_map.mp (pm.mem_iff.mp hv)
    obtain ⟨k, tk, h1, _⟩ := g e he
    exact ⟨k, tk, by rw [← q]; exact h1⟩
  have pk : (vs.map Builtin.Re.reRawOf).Perm (es.toList.map keyOf) := by
    have q := pm.map Builtin.Re.reRawOf
    rw [List.map_map] at q
    exact q
  refine sort_gathered (s := s1) hI hvl fun h2 out zs c k2 hg hi hp hs => ?_
  have pn : zs.Perm (es.toList.map keyOf) := hp.trans pk
  have hlen : (zs.map V.int).length ≤ sizeLine := by
    rw [List.length_map, hp.length_eq, List.length_map]
    exact hvl
  have kk : ∀ b u, s.heap.get? b = some u → h2.get? b = some u := fun b u e => k2 b u (k1 b u e)
  have hfr : H s1.heap.objs.size = none := I.hok.fresh hz
  have J : Inv X pins σ (upd H s1.heap.objs.size (.lst (zs.map V.int))) { s with heap := h2, gens := s1.gens, drawn := s1.drawn, toks := s1.toks } :=
    I.call (ch := []) (Un.laid kk hz hfr) (I.hok.laid kk hz ⟨hlen, out, c, vals_of_ints hi, hg⟩) (by rw [g1]; exact I.bare) (fun _ z => nomatch z)
  have e : { s1 with heap := h2 } = { s with heap := h2, gens := s1.gens, drawn := s1.drawn, toks := s1.toks } := by
    cases s1
    cases s
    cases o1
    rfl
  refine ⟨_, rfl, ?_⟩
  rw [e]
  exact ⟨.ref s1.heap.objs.size, _, J, rfl, q zs _ (L2.lt_of_le_nodup zs hs (pn.nodup_iff.mpr nd)) (fun k => by rw [pn.mem_iff, ← hm k]) hfr⟩
end
end Sw
set_option maxHeartbeats 3200000
namespace Sw
open PySem PySem.Spec PyProof.Rows L2 HT
section
variable {prog : Program} {w : World} {A : Around} {E : Value → Shared → Prop} {s : Shared}
theorem applied_back {sl : Addr} {vs : Value} {Q : Int × Int × Nat → Shared → Prop} (hs : s.heap.IsSliceOf sl .none .none vs) (p : IsPart vs (some (-1))) (h : Q ((1 : Int), -1, 2) s) : wpAny (model prog w) A (Builtin.Slice.sliceApplied (.ref sl) (pure ((2 : Nat) : Int))) Q E s := by
  obtain ⟨os, hos, hcs, hds⟩ := id hs
  unfold Builtin.Slice.sliceApplied Builtin.Slice.sliceFields
  refine wpAny_bind (wpAny_bind (wpAny_field hos hds (x := .none) rfl (wpAny_bind (wpAny_field hos hds (x := .none) rfl (wpAny_bind (wpAny_field hos hds (x := vs) rfl (wpAny_pure ?_)))))))
  refine wpAny_bind (HT.slicePart_ p ?_)
  show wpAny _ _ (if ((-1 : Int) == 0) = true then _ else _) _ _ s
  rw [if_neg (by decide)]
  refine wpAny_bind (slicePart_none (wpAny_bind (slicePart_none (wpAny_bind (wpAny_pure ?_)))))
  show wpAny _ _ (match Builtin.Slice.sliceAdjust none none (-1) ((2 : Nat) : Int) with | (lo, hi) => pure (lo, (-1 : Int), Builtin.Slice.slicePlaces lo hi (-1))) _ _ s
  exact wpAny_pure h
theorem item_back {t sl : Addr} {x y vs : Value} {Q : Value → Shared → Prop} (ht : IsTup s.heap t #[x, y]) (hs : s.heap.IsSliceOf sl .none .none vs) (p : IsPart vs (some (-1)))
    (h : Q (.ref s.heap.objs.size) { s with heap := s.heap.push { cls := .type "tuple", data := .seq #[y, x] } }) : wpAny (model prog w) A (getItem (.ref t) (.ref sl)) Q E s := by
  have fits : sizeOk (.seq #[y, x]) := by
    show 2 ≤ sizeLine
    decide
  obtain ⟨os, hos, hcs, hds⟩ := id hs
  have typ : s.TypeIs (.ref sl) "slice" := ⟨os, hos, hcs⟩
  unfold getItem
  try with_reducible refine wpAny_holding ?_
  first | refine wpAny_bind (wpAny_pure ?_) | skip
  refine wpAny_bind (wpAny_sequenceKey ht.typeIs (by decide) ?_)
  refine wpAny_bind (wpAny_callSpecial?_slot (name := Str.ofString "__getitem__") ht.typeIs PyProof.Rows.slot_tuple_getitem
    (wpAny_call_entry PyProof.Rows.slot_tuple_getitem ht.typeIs entry_tuple_getitem ?_ (args_tuple_getitem _ _)))
  show wpAny _ _ (Builtin.Tuple.tupleItemsOf (.ref t) >>= _) _ _ s
  refine wpAny_bind (tupleItemsOf_ ht ?_)
  refine wpAny_bind (wpAny_typeOf typ ?_)
  rw [if_pos (by decide)]
  refine wpAny_bind (applied_back hs p ?_)
  show wpAny _ _ (if (((1 : Int) == 0 && (-1 : Int) == 1 && (2 : Nat) == 2) = true) then _ else _) _ _ s
  rw [if_neg (by decide)]
  first
    | exact wpAny_bind (m := Builtin.Tuple.tupleExact _) (wpAny_newObj_type (wpAny_pure ⟨_, rfl, wpAny_pure h⟩) fits)
    | exact wpAny_bind (m := Builtin.Tuple.tupleExact _) (wpAny_newObj_type (wpAny_bind (wpAny_pure (wpAny_pure ⟨_, rfl, wpAny_pure h⟩))) fits)
    | exact wpAny_bind (wpAny_bind (m := Builtin.Tuple.tupleExact _) (wpAny_newObj_type (wpAny_pure (wpAny_pure ⟨_, rfl, wpAny_pure h⟩)) fits))
    | exact wpAny_bind (wpAny_bind (m := Builtin.Tuple.tupleExact _) (wpAny_newObj_type (wpAny_pure ⟨_, rfl, wpAny_pure h⟩) fits))
end
section
variable {X : Cx}
/-- t[::-1] of a pair -/
def tRevT (K : PySem.W.Frag) (te : TE) : TE := fun σ H Q => te σ H fun v H1 => ∃ a x y, v = .ref a ∧ SqT K H1 a [x, y] ∧ ∀ p, H1 p = none → Q (.ref p) (upd H1 p (.tup [y, x]))
theorem pe_revT {e : Expr} {te : TE} {k : Nat} {p1 p2 p3 pos : Pos} (he : PE X e te) : PE X (.Subscript e (.Slice none none (some (.UnaryOp .USub (.Constant (.int 1) k p1) p2)) p3) pos) (tRevT X.K te) := by
  refine ⟨fun pins s σ H Q I h => ?_⟩
  refine Subscript_ (thn (he.run pins s σ H _ I h) fun v s1 ⟨z, H1, I1, r1, a, x, y, ex, hx, q⟩ => ?_)
  subst ex
  cases r1
  have part : PO X (some (.UnaryOp .USub (.Constant (.int 1) k p1) p2)) (tPart (tUn (rU fun i => .int (-i)) (tC (.int 1)))) := po_some (pe_un un_neg pe_int)
  refine wpAny_Slice (thn (po_none.run pins s1 σ H1 (fun o H2 => o = none ∧ H2 = H1) I1 ⟨rfl, rfl⟩) fun vl s2 ⟨l, H2, I2, pl, e1, e2⟩ => ?_)
  subst e1 e2
  refine thn (po_none.run pins s2 σ H2 (fun o H3 => o = none ∧ H3 = H2) I2 ⟨rfl, rfl⟩) fun vu s3 ⟨u, H3, I3, pu, e1, e2⟩ => ?_
  subst e1 e2
  refine thn (part.run pins s3 σ H3 (fun o H4 => o = some (-1) ∧ H4 = H3) I3 ⟨1, rfl, -1, rfl, rfl, rfl⟩) fun vs s4 ⟨o, H4, I4, ps, e1, e2⟩ => ?_
  subst e1 e2
  have I5 : Inv X pins σ H4 { s4 with heap := s4.heap.push { cls := .type "slice", data := .fields #[vl, vu, vs] } } := I4.kept (t' := s4.toks) fun b ob q => Heap.get?_push_of_some _ q
  obtain ⟨its, r, ht, hz⟩ := I5.tuple hx
  cases pl
  cases pu
  obtain ⟨u1, u2, rfl, ra, rb⟩ := Vals.two r
  show wpAny (model X.prog X.w) X.A (subscriptTail e (.Slice none none (some (.UnaryOp .USub (.Constant (.int 1) k p1) p2)) p3) (.ref a) (.ref s4.heap.objs.size)) (EP X pins σ Q) X.xe { s4 with heap := s4.heap.push { cls := .type "slice", data := .fields #[.none, .none, vs] } }
  refine tail_any (ops := [.ref a, .ref s4.heap.objs.size]) ht.typeIs (PyProof.Rows.slot_tuple_getitem.lookup) ?_ (by with_unfolding_all rfl)
  refine item_back ht (Heap.IsSliceOf.new _ .none .none vs) ps ?_
  refine ⟨.ref _, _, I5.laid (t' := s4.toks) (o := .tup [y, x]) (fun b ob q => Heap.get?_push_of_some _ q) (Nat.le_refl _) ?_, rfl, q _ (I5.hok.fresh (Nat.le_refl _))⟩
  exact ⟨by show 2 ≤ sizeLine; decide, _, .cons rb (.cons ra .nil), IsTup.new _ _⟩
end
end Sw
set_option maxHeartbeats 3200000
namespace Sw
open PySem PySem.Spec PyProof.Rows L2 HT
section
variable {X : Cx}
/-- xs[a:c] = ys -/
def gSlc (to : TE) (tl th : TO) : TG := fun v σ H Q => to σ H fun o H1 => tl σ H1 fun x H2 => th σ H2 fun y H3 => ∃ (l b : Addr) (xs ys : List V) (a c : Int), o = .ref l ∧ v = .ref b ∧ x = some a ∧ y = some c ∧ H3 l = some (.lst xs) ∧ H3 b = some (.lst ys) ∧ l ≠ b ∧ 0 ≤ a ∧ a ≤ c ∧ c ≤ xs.length ∧
  xs.length + ys.length ≤ sizeLine ∧ Q σ (upd H3 l (.lst (xs.take a.toNat ++ ys ++ xs.drop c.toNat)))
theorem pg_slc {o lo hi : Expr} {to : TE} {tl th : TO} {p2 pos : Pos} (ho : PE X o to) (hl : PO X (some lo) tl) (hu : PO X (some hi) th)
    (ha : ∀ v, assign (.Subscript o (.Slice (some lo) (some hi) none p2) pos) X.env v = (do
      let ov ← holding [v] (eval o X.env)
      let iv ← holding [v, ov] (eval (.Slice (some lo) (some hi) none p2) X.env)
      standAt pos
      holding [v, ov, iv] (setItem ov iv v)
      release [iv, v, ov] []) := by intro _; rfl) : PG X (.Subscript o (.Slice (some lo) (some hi) none p2) pos) (gSlc to tl th) := by
  refine ⟨fun pins s σ H v u Q I r h => ?_⟩
  rw [ha]
  refine wpAny_bind (wpAny_holding (thn (ho.run pins s σ H _ I h) fun ov s1 ⟨x, H1, I1, r1, q1⟩ => ?_))
  refine wpAny_bind (wpAny_holding ?_)
  refine wpAny_Slice (thn (hl.run pins s1 σ H1 _ I1 q1) fun vl s2 ⟨l, H2, I2, pl, q2⟩ => thn (hu.run pins s2 σ H2 _ I2 q2) fun vu s3 ⟨y, H3, I3, pu, q3⟩ => ?_)
  rw [evalPart_none]
  refine wpAny_pure ?_
  have I4 : Inv X pins σ H3 { s3 with heap := s3.heap.push { cls := .type "slice", data := .fields #[vl, vu, .none] } } := I3.kept (t' := s3.toks) fun b ob q => Heap.get?_push_of_some _ q
  obtain ⟨la, b, xs, ys, a, c, e1, e2, e3, e4, h1, h2, h3, h4, h5, h6, h7, q⟩ := q3
  subst e1 e2 e3 e4
  cases r
  cases r1
  refine wpAny_bind (wpAny_standAt (wpAny_bind (wpAny_holding ?_)))
  refine set_slice (sl := s3.heap.objs.size) I4 h1 h2 h3 (Heap.IsSliceOf.new ..) ?_ ?_ h4 h5 h6 h7 fun s' I' => ?_
  · cases pl
    exact ⟨_, rfl⟩
  · cases pu
    exact ⟨_, rfl⟩
  · exact wpAny_release ⟨σ, _, I', q⟩
end
end Sw
namespace Sw
open PySem PySem.Spec PyProof.Rows L2
open Evl (Ex Ex.refl Ex.trans Ex.new Ex.mut ex_l ex_t ex_rd fresh_back Ev EvL EvU EvT EvA RV RC RCL SpV SpL)
section
variable {K : PySem.W.Frag} {σ : L2.St} {H H' : Hp} {ta tb te : TE} {t u : TT} {x y z v : V} {r : R2}
/-- a built-in's call over a new list -/
theorem ev_cbN {r : List V → Hp → VK → Prop} {xs : List V} (h : EvL te σ H xs) (hr : ∀ p H1, H1 p = some (.lst xs) → Ex H H1 → RC r [.ref p] H1 z) : Ev (tCB r (tCons te tNil)) σ H z := fun H1 e Q q =>
  h H1 e _ fun p H2 _ e2 hp => hr p H2 hp (e.trans e2) H2 (Ex.refl H2) Q fun H3 e3 => q H3 (e2.trans e3)
theorem el_cbN {r : List V → Hp → VK → Prop} {xs ys : List V} (h : EvL te σ H xs) (hr : ∀ p H1, H1 p = some (.lst xs) → Ex H H1 → RCL r [.ref p] H1 ys) : EvL (tCB r (tCons te tNil)) σ H ys := fun H1 e Q q =>
  h H1 e _ fun p H2 _ e2 hp => hr p H2 hp (e.trans e2) H2 (Ex.refl H2) Q fun l H3 h3 e3 hl => q l H3 (fresh_back e2 h3) (e2.trans e3) hl
theorem rc_all {p : Addr} {bs : List Bool} (h : H p = some (.lst (bs.map V.bl))) : RC (rAll K) [.ref p] H (.bl (bs.all id)) := fun H1 e Q q => ⟨p, bs, rfl, SqL.of (e _ _ h), q H1 (Ex.refl H1)⟩
theorem rc_isi {x c : V} {t u : Value} {b : Bool} (k : ClsV c u) (ty : ∀ H1, Ex H H1 → TyX K H1 x t) (e : PySem.W.kitOne K t u = some b) : RC (rIsi K) [x, c] H (.bl b) := fun H1 e1 Q q => ⟨x, c, t, u, b, rfl, k, ty H1 e1, e, q H1 (Ex.refl H1)⟩
theorem given_all (n : Nat) (v : Nat → V) : Evl.given n (fun _ => true) v = (List.range n).map v := by
  unfold Evl.given
  rw [List.filter_eq_self.mpr fun _ _ => rfl]
theorem given_list {α : Type} (l : List α) (v : Nat → V) (f : α → V) (h : ∀ i a, l[i]? = some a → v i = f a) : Evl.given l.length (fun _ => true) v = l.map f := by
  rw [given_all]
  refine List.ext_getElem (by rw [List.length_map, List.length_map, List.length_range]) fun i h1 h2 => ?_
  rw [List.length_map] at h2
  rw [List.getElem_map, List.getElem_map, List.getElem_range]
  exact h i _ (List.getElem?_eq_getElem h2)
theorem given_take {α : Type} (l : List α) (f : Nat → Bool) (v : Nat → V) (p : α → Bool) (g : α → V) (h : ∀ i a, l[i]? = some a → f i = p a ∧ (p a = true → v i = g a)) : ∀ n, n ≤ l.length → Evl.given n f v = ((l.take n).filter p).map g
  | 0, _ => rfl
  | n + 1, hn => by
    have ih := given_take l f v p g h n (by omega)
    have hlt : n < l.length := hn
    obtain ⟨h1, h2⟩ := h n _ (List.getElem?_eq_getElem hlt)
    rw [List.take_add_one, List.getElem?_eq_getElem hlt, List.filter_append, List.map_append, ← ih]
    cases hp : p l[n] with
    | true =>
      rw [Evl.given_yes (h1.trans hp), h2 hp]
      show _ = _ ++ ([l[n]].filter p).map g
      rw [List.filter_cons, if_pos hp]
      rfl
    | false =>
      rw [Evl.given_no (h1.trans hp)]
      show _ = _ ++ ([l[n]].filter p).map g
      rw [List.filter_cons, if_neg (by rw [hp]; exact Bool.false_ne_true)]
      show _ = _ ++ []
      rw [List.append_nil]
theorem given_filter {α : Type} (l : List α) (f : Nat → Bool) (v : Nat → V) (p : α → Bool) (g : α → V) (h : ∀ i a, l[i]? = some a → f i = p a ∧ (p a = true → v i = g a)) : Evl.given l.length f v = (l.filter p).map g := by
  rw [given_take l f v p g h l.length (Nat.le_refl _), List.take_length]
/-- a call whose first argument is a new list -/
theorem ev_callN {sp : Sp} {dvs vs : List V} {E : XK} {tr : TA} {xs : List V} (h : EvL te σ H xs) (ht : EvA tr σ H vs) (hs : ∀ p H1, H1 p = some (.lst xs) → Ex H H1 → SpV sp ((.ref p :: vs) ++ dvs) H1 z) : Ev (tCall sp dvs E (tCons te tr)) σ H z := fun H1 e Q q =>
  h H1 e _ fun p H2 _ e2 hp => ht H2 (e.trans e2) _ fun H3 e3 => hs p H3 (e3 _ _ hp) ((e.trans e2).trans e3) H3 (Ex.refl H3) Q (fun H4 e4 => q H4 ((e2.trans e3).trans e4)) E
theorem el_rev {a : Addr} {xs : List V} (h : Ev te σ H (.ref a)) (hx : SqL K H a xs) : EvL (tRevL K te) σ H xs.reverse := fun H1 e Q q =>
  h H1 e _ fun H2 e2 => ⟨a, xs, rfl, ex_l (e.trans e2) hx, fun p np => q p _ (fresh_back e2 np) (e2.trans (Ex.new np)) upd_same⟩
theorem q_call {sp : Sp} {dvs : List V} {E : XK} {ta : TA} {i : Nat} {tz : TS} {D : Ends} (h : ta σ H fun vs H1 => sp (vs ++ dvs) H1 (fun v H2 => tz D (σ.set i (some v)) H2) E) : tSeq (tAsg (tCall sp dvs E ta) (gName i)) tz D σ H := h
end
end Sw
namespace Sw
open PySem PySem.Spec PyProof.Rows L2
open Evl (Ex Ex.refl Ex.trans Ex.new Ex.mut ex_l ex_t ex_rd fresh_back Ev EvL EvU EvT EvA RV RC RCL SpV SpL)
/-! ### data in memory, all tracked -/
mutual
inductive Dt (H : Hp) : V → PyData → Prop
  | non : Dt H .non .none
  | bl (b : Bool) : Dt H (.bl b) (.bool b)
  | int (i : Int) : Dt H (.int i) (.int i)
  | str (x : Str) : Dt H (.str x) (.str x)
  | lst {a : Addr} {xs : List V} {ds : List PyData} : H a = some (.lst xs) → DtAll H xs ds → Dt H (.ref a) (.list ds)
  | tup {a : Addr} {xs : List V} {ds : List PyData} : H a = some (.tup xs) → DtAll H xs ds → Dt H (.ref a) (.tuple ds)
inductive DtAll (H : Hp) : List V → List PyData → Prop
  | nil : DtAll H [] []
  | cons {v : V} {vs : List V} {d : PyData} {ds : List PyData} : Dt H v d → DtAll H vs ds → DtAll H (v :: vs) (d :: ds)
end
mutual
theorem Dt.dp {K : PySem.W.Frag} {H : Hp} : ∀ (d : PyData) (v : V), Dt H v d → Dp K H v d
  | .none, _, .non => .non
  | .bool _, _, .bl b => .bl b
  | .int _, _, .int i => .int i
  | .str _, _, .str x => .str x
  | .list ds, _, .lst h t => .lst (SqL.of h) (DtAll.dp ds _ t)
  | .tuple ds, _, .tup h t => .tup (SqT.of h) (DtAll.dp ds _ t)
theorem DtAll.dp {K : PySem.W.Frag} {H : Hp} : ∀ (ds : List PyData) (vs : List V), DtAll H vs ds → DpAll K H vs ds
  | [], _, .nil => .nil
  | d :: ds, _, .cons h t => .cons (Dt.dp d _ h) (DtAll.dp ds _ t)
end
mutual
theorem Dt.ex {H H' : Hp} (e : Ex H H') : ∀ (d : PyData) (v : V), Dt H v d → Dt H' v d
  | .none, _, .non => .non
  | .bool _, _, .bl b => .bl b
  | .int _, _, .int i => .int i
  | .str _, _, .str x => .str x
  | .list ds, _, .lst h t => .lst (e _ _ h) (DtAll.ex e ds _ t)
  | .tuple ds, _, .tup h t => .tup (e _ _ h) (DtAll.ex e ds _ t)
theorem DtAll.ex {H H' : Hp} (e : Ex H H') : ∀ (ds : List PyData) (vs : List V), DtAll H vs ds → DtAll H' vs ds
  | [], _, .nil => .nil
  | d :: ds, _, .cons h t => .cons (Dt.ex e d _ h) (DtAll.ex e ds _ t)
end
theorem DtAll.len {H : Hp} : ∀ {vs : List V} {ds : List PyData}, DtAll H vs ds → vs.length = ds.length
  | [], [], .nil => rfl
  | _ :: _, _ :: _, .cons _ t => congrArg Nat.succ (DtAll.len t)
theorem DtAll.at {H : Hp} : ∀ {vs : List V} {ds : List PyData}, DtAll H vs ds → ∀ (i : Nat) (v : V), vs[i]? = some v → ∃ d, ds[i]? = some d ∧ Dt H v d
  | [], [], .nil, i, v, e => by simp at e
  | v0 :: vs, d0 :: ds, .cons h t, 0, v, e => by
    have e := Option.some.inj e
    subst e
    exact ⟨d0, rfl, h⟩
  | v0 :: vs, d0 :: ds, .cons h t, i + 1, v, e => DtAll.at t i v e
theorem DtAll.of {H : Hp} : ∀ {vs : List V} {ds : List PyData}, vs.length = ds.length → (∀ (i : Nat) (v : V) (d : PyData), vs[i]? = some v → ds[i]? = some d → Dt H v d) → DtAll H vs ds
  | [], [], _, _ => .nil
  | v0 :: vs, d0 :: ds, hl, h => .cons (h 0 v0 d0 rfl rfl) (DtAll.of (Nat.succ.inj hl) fun i v d e1 e2 => h (i + 1) v d e1 e2)
  | [], _ :: _, hl, _ => by simp at hl
  | _ :: _, [], hl, _ => by simp at hl
/-- of some depth, all can lie, nothing too long -/
def Lay : Nat → PyData → Prop
  | _, .none => True
  | _, .bool _ => True
  | _, .int _ => True
  | _, .str x => PyData.strOk x = true
  | n + 1, .list ds => ds.length ≤ 1000 ∧ ∀ d ∈ ds, Lay n d
  | n + 1, .tuple ds => ds.length ≤ 1000 ∧ ∀ d ∈ ds, Lay n d
  | _, _ => False
theorem layAll {n : Nat} : ∀ {ds : List PyData}, (∀ d ∈ ds, d.canLay0 = true ∧ d.depth ≤ n) → PyData.canLayAll0 ds = true ∧ PyData.depthAll ds ≤ n
  | [], _ => by
    simp only [PyData.canLayAll0, PyData.depthAll]
    exact ⟨trivial, Nat.zero_le _⟩
  | d :: ds, h => by
    obtain ⟨a, b⟩ := layAll fun d hd => h d (List.mem_cons.mpr (.inr hd))
    obtain ⟨c, e⟩ := h d List.mem_cons_self
    simp only [PyData.canLayAll0, PyData.depthAll]
    exact ⟨by rw [a, c]; rfl, by omega⟩
theorem Lay.can : ∀ {n : Nat} {d : PyData}, Lay n d → d.canLay0 = true ∧ d.depth ≤ n
  | n, .none, _ => ⟨by simp only [PyData.canLay0], by simp only [PyData.depth]; exact Nat.zero_le _⟩
  | n, .bool _, _ => ⟨by simp only [PyData.canLay0], by simp only [PyData.depth]; exact Nat.zero_le _⟩
  | n, .int _, _ => ⟨by simp only [PyData.canLay0], by simp only [PyData.depth]; exact Nat.zero_le _⟩
  | n, .str _, h => by
    simp only [Lay] at h
    exact ⟨by simp only [PyData.canLay0]; exact h, by simp only [PyData.depth]; exact Nat.zero_le _⟩
  | 0, .list _, h => by simp only [Lay] at h
  | 0, .tuple _, h => by simp only [Lay] at h
  | 0, .dict _, h => by simp only [Lay] at h
  | n + 1, .dict _, h => by simp only [Lay] at h
  | n + 1, .list ds, h => by
    simp only [Lay] at h
    obtain ⟨a, b⟩ := layAll fun d hd => Lay.can (h.2 d hd)
    exact ⟨by simp only [PyData.canLay0]; exact a, by simp only [PyData.depth]; omega⟩
  | n + 1, .tuple ds, h => by
    simp only [Lay] at h
    obtain ⟨a, b⟩ := layAll fun d hd => Lay.can (h.2 d hd)
    exact ⟨by simp only [PyData.canLay0]; exact a, by simp only [PyData.depth]; omega⟩
theorem Lay.shaped {n : Nat} {d : PyData} (h : Lay n d) (hn : n ≤ 64) : SeqAt.shaped d = true := by
  obtain ⟨a, b⟩ := h.can
  show (d.canLay0 && decide (d.depth ≤ 64)) = true
  rw [Bool.and_eq_true]
  exact ⟨a, decide_eq_true (Nat.le_trans b hn)⟩
theorem Lay.lst {n : Nat} {ds : List PyData} (hz : ds.length ≤ 1000) (h : ∀ d ∈ ds, Lay n d) : Lay (n + 1) (.list ds) := by
  simp only [Lay]
  exact ⟨hz, h⟩
theorem Lay.tup {n : Nat} {ds : List PyData} (hz : ds.length ≤ 1000) (h : ∀ d ∈ ds, Lay n d) : Lay (n + 1) (.tuple ds) := by
  simp only [Lay]
  exact ⟨hz, h⟩
theorem Lay.lst_inv {n : Nat} {ds : List PyData} (h : Lay (n + 1) (.list ds)) : ds.length ≤ 1000 ∧ ∀ d ∈ ds, Lay n d := by
  simp only [Lay] at h
  exact h
theorem Lay.tup_inv {n : Nat} {ds : List PyData} (h : Lay (n + 1) (.tuple ds)) : ds.length ≤ 1000 ∧ ∀ d ∈ ds, Lay n d := by
  simp only [Lay] at h
  exact h
theorem Lay.lst_pos {ds : List PyData} (h : Lay 0 (.list ds)) : False := by simp only [Lay] at h
theorem Lay.tup_pos {ds : List PyData} (h : Lay 0 (.tuple ds)) : False := by simp only [Lay] at h
theorem Lay.int (n : Nat) (i : Int) : Lay n (.int i) := by simp only [Lay]
theorem Lay.bool (n : Nat) (b : Bool) : Lay n (.bool b) := by simp only [Lay]
theorem Lay.mono : ∀ {n m : Nat} {d : PyData}, Lay n d → n ≤ m → Lay m d
  | _, _, .none, _, _ => by simp only [Lay]
  | _, _, .bool _, _, _ => by simp only [Lay]
  | _, _, .int _, _, _ => by simp only [Lay]
  | _, _, .str _, h, _ => by
    simp only [Lay] at h ⊢
    exact h
  | 0, _, .list _, h, _ => by simp only [Lay] at h
  | 0, _, .tuple _, h, _ => by simp only [Lay] at h
  | 0, _, .dict _, h, _ => by simp only [Lay] at h
  | n + 1, _, .dict _, h, _ => by simp only [Lay] at h
  | n + 1, 0, _, _, k => absurd k (by omega)
  | n + 1, m + 1, .list ds, h, k => by
    simp only [Lay] at h ⊢
    exact ⟨h.1, fun d hd => Lay.mono (h.2 d hd) (by omega)⟩
  | n + 1, m + 1, .tuple ds, h, k => by
    simp only [Lay] at h ⊢
    exact ⟨h.1, fun d hd => Lay.mono (h.2 d hd) (by omega)⟩
/-! ### plain data -/
def dInts (ns : List Int) : PyData := .list (ns.map PyData.int)
def dIntss (l : List (List Int)) : PyData := .list (l.map dInts)
def dPair (s : Int × Int) : PyData := .tuple [.int s.1, .int s.2]
def dStones (st : List (Int × Int)) : PyData := .list (st.map dPair)
theorem lay_ints (ns : List Int) (hz : ns.length ≤ 1000) : Lay 1 (dInts ns) := Lay.lst (by rw [List.length_map]; exact hz) fun d hd => by
  obtain ⟨i, _, e⟩ := List.mem_map.mp hd
  rw [← e]
  exact Lay.int _ _
theorem lay_intss (l : List (List Int)) (hz : l.length ≤ 1000) (hy : ∀ g ∈ l, g.length ≤ 1000) : Lay 2 (dIntss l) := Lay.lst (by rw [List.length_map]; exact hz) fun d hd => by
  obtain ⟨i, hi, e⟩ := List.mem_map.mp hd
  rw [← e]
  exact lay_ints _ (hy i hi)
theorem lay_pair (s : Int × Int) : Lay 1 (dPair s) := Lay.tup (by show 2 ≤ 1000; decide) fun d hd => by
  rcases List.mem_cons.mp hd with e | hd
  · rw [e]
    exact Lay.int _ _
  · rw [List.mem_singleton.mp hd]
    exact Lay.int _ _
theorem lay_stones (st : List (Int × Int)) (hz : st.length ≤ 1000) : Lay 2 (dStones st) := Lay.lst (by rw [List.length_map]; exact hz) fun d hd => by
  obtain ⟨i, _, e⟩ := List.mem_map.mp hd
  rw [← e]
  exact lay_pair _
theorem dt_intsAll {H : Hp} : ∀ ns : List Int, DtAll H (ns.map V.int) (ns.map PyData.int)
  | [] => .nil
  | n :: ns => .cons (.int n) (dt_intsAll ns)
theorem dt_ints {H : Hp} {a : Addr} {ns : List Int} (h : H a = some (.lst (ns.map V.int))) : Dt H (.ref a) (dInts ns) := .lst h (dt_intsAll ns)
theorem dp_ints {K : PySem.W.Frag} {H : Hp} {a : Addr} {ns : List Int} (h : SqL K H a (ns.map V.int)) : Dp K H (.ref a) (dInts ns) := .lst h (DtAll.dp _ _ (dt_intsAll ns))
theorem eqv_ints : ∀ ns ms : List Int, PyData.eqvAll (ns.map PyData.int) (ms.map PyData.int) = decide (ns = ms)
  | [], [] => by
    simp [PyData.eqvAll]
  | [], _ :: _ => by simp [PyData.eqvAll]
  | _ :: _, [] => by simp [PyData.eqvAll]
  | n :: ns, m :: ms => by
    rw [List.map_cons, List.map_cons, PyData.eqvAll, eqv_ints ns ms]
    simp only [PyData.eqv]
    refine Bool.eq_iff_iff.mpr ?_
    simp
theorem eqv_dInts (ns ms : List Int) : PyData.eqv (dInts ns) (dInts ms) = decide (ns = ms) := by
  unfold dInts
  rw [PyData.eqv]
  exact eqv_ints ns ms
theorem eqv_pair (s t : Int × Int) : PyData.eqv (dPair s) (dPair t) = decide (s = t) := by
  unfold dPair
  rw [PyData.eqv]
  refine Bool.eq_iff_iff.mpr ?_
  simp only [PyData.eqvAll, PyData.eqv]
  obtain ⟨a, b⟩ := s
  obtain ⟨c, d⟩ := t
  simp
theorem eqv_pairs : ∀ ns ms : List (Int × Int), PyData.eqvAll (ns.map dPair) (ms.map dPair) = decide (ns = ms)
  | [], [] => by
    simp [PyData.eqvAll]
  | [], _ :: _ => by simp [PyData.eqvAll]
  | _ :: _, [] => by simp [PyData.eqvAll]
  | n :: ns, m :: ms => by
    rw [List.map_cons, List.map_cons, PyData.eqvAll, eqv_pairs ns ms, eqv_pair]
    refine Bool.eq_iff_iff.mpr ?_
    simp
theorem eqv_stones (ns ms : List (Int × Int)) : PyData.eqv (dStones ns) (dStones ms) = decide (ns = ms) := by
  unfold dStones
  rw [PyData.eqv]
  exact eqv_pairs ns ms
theorem eqv_intss (ns ms : List (List Int)) : PyData.eqv (dIntss ns) (dIntss ms) = decide (ns = ms) := by
  unfold dIntss
  rw [PyData.eqv]
  induction ns generalizing ms with
  | nil => cases ms <;> simp [PyData.eqvAll]
  | cons n ns ih =>
    cases ms with
    | nil => simp [PyData.eqvAll]
    | cons m ms =>
      rw [List.map_cons, List.map_cons, PyData.eqvAll, ih ms, eqv_dInts]
      refine Bool.eq_iff_iff.mpr ?_
      simp
/-- the kind of a value that is data -/
def kindOf : PyData → String
  | .none => "NoneType"
  | .bool _ => "bool"
  | .int _ => "int"
  | .str _ => "str"
  | .list _ => "list"
  | .tuple _ => "tuple"
  | .dict _ => "dict"
theorem Dt.ty {K : PySem.W.Frag} {H : Hp} {v : V} {d : PyData} (h : Dt H v d) : TyX K H v (.type (kindOf d)) := by
  cases h with
  | non => exact .base .non
  | bl b => exact .base (.bl b)
  | int i => exact .base (.int i)
  | str x => exact .base (.str x)
  | lst h _ => exact .base (.lst h)
  | tup h _ => exact .base (.tup h)
def kinds : List String := ["NoneType", "bool", "int", "str", "list", "tuple", "dict"]
theorem kind_in (d : PyData) : kindOf d ∈ kinds := by cases d <;> simp [kindOf, kinds]
theorem kits : ∀ k ∈ kinds, kitB k "bool" = some (decide (k = "bool")) ∧ kitB k "tuple" = some (decide (k = "tuple")) ∧ kitB k "list" = some (decide (k = "list")) := by decide +kernel
theorem kit_bool {K : PySem.W.Frag} (d : PyData) : PySem.W.kitOne K (.type (kindOf d)) (.type "bool") = some (decide (kindOf d = "bool")) := kit_ty (kits _ (kind_in d)).1
theorem kit_tuple {K : PySem.W.Frag} (d : PyData) : PySem.W.kitOne K (.type (kindOf d)) (.type "tuple") = some (decide (kindOf d = "tuple")) := kit_ty (kits _ (kind_in d)).2.1
theorem kit_list {K : PySem.W.Frag} (d : PyData) : PySem.W.kitOne K (.type (kindOf d)) (.type "list") = some (decide (kindOf d = "list")) := kit_ty (kits _ (kind_in d)).2.2
end Sw
namespace Sw
open PySem PySem.Spec PyProof.Rows L2
open Evl (Ex Ex.refl Ex.trans Ex.new Ex.mut ex_l ex_t ex_rd fresh_back Ev EvL EvU EvT EvA RV RC RCL SpV SpL)
/-! ### stones in memory -/
def GoodS (s : Int × Int) : Prop := (0 ≤ s.1 ∧ s.1 ≤ 999999) ∧ 0 ≤ s.2 ∧ s.2 ≤ 999999
def Good (st : List (Int × Int)) : Prop := st.length ≤ 60 ∧ ∀ s ∈ st, GoodS s
def StonesAt (H : Hp) (a : Addr) (st : List (Int × Int)) : Prop := ∃ ts : List Addr, H a = some (.lst (ts.map V.ref)) ∧ ts.length = st.length ∧ ∀ (i : Nat) (t : Addr) (s : Int × Int), ts[i]? = some t → st[i]? = some s → H t = some (.tup [.int s.1, .int s.2])
theorem StonesAt.ex {H H' : Hp} {a : Addr} {st : List (Int × Int)} (h : StonesAt H a st) (e : Ex H H') : StonesAt H' a st := by
  obtain ⟨ts, h1, h2, h3⟩ := h
  exact ⟨ts, e _ _ h1, h2, fun i t s e1 e2 => e _ _ (h3 i t s e1 e2)⟩
theorem StonesAt.dt {H : Hp} {a : Addr} {st : List (Int × Int)} (h : StonesAt H a st) : Dt H (.ref a) (dStones st) := by
  obtain ⟨ts, h1, h2, h3⟩ := h
  refine .lst h1 (DtAll.of (by rw [List.length_map, List.length_map, h2]) fun i v d e1 e2 => ?_)
  rw [List.getElem?_map] at e1 e2
  obtain ⟨t, ht, rfl⟩ := Option.map_eq_some_iff.mp e1
  obtain ⟨s, hs, rfl⟩ := Option.map_eq_some_iff.mp e2
  exact .tup (h3 i t s ht hs) (.cons (.int _) (.cons (.int _) .nil))
theorem stones_nil {H : Hp} {a : Addr} (h : H a = some (.lst [])) : StonesAt H a [] := ⟨[], h, rfl, fun i t s e => by simp at e⟩
/-- a new tuple, put behind the others -/
theorem StonesAt.app {H : Hp} {a t : Addr} {st : List (Int × Int)} {s : Int × Int} {ts : List Addr} (h1 : H a = some (.lst (ts.map V.ref))) (h2 : ts.length = st.length)
    (h3 : ∀ (i : Nat) (t : Addr) (s : Int × Int), ts[i]? = some t → st[i]? = some s → H t = some (.tup [.int s.1, .int s.2])) (nt : H t = none) :
    StonesAt (upd (upd H t (.tup [.int s.1, .int s.2])) a (.lst (ts.map V.ref ++ [.ref t]))) a (st ++ [s]) := by
  have ta : t ≠ a := fun e => by
    rw [e, h1] at nt
    cases nt
  refine ⟨ts ++ [t], by rw [upd_same, List.map_append]; rfl, by rw [List.length_append, List.length_append, h2]; rfl, fun i t' s' e1 e2 => ?_⟩
  by_cases hi : i < ts.length
  · rw [List.getElem?_append_left hi] at e1
    rw [List.getElem?_append_left (by omega)] at e2
    have q := h3 i t' s' e1 e2
    have n1 : t' ≠ a := fun e => by
      rw [e, h1] at q
      cases q
    have n2 : t' ≠ t := fun e => by
      rw [e, nt] at q
      cases q
    rw [upd_ne n1, upd_ne n2]
    exact q
  · rw [List.getElem?_append_right (by omega)] at e1
    rw [List.getElem?_append_right (by omega)] at e2
    have z : i - ts.length = 0 := by
      have := (List.getElem?_eq_some_iff.mp e1).1
      simp at this
      omega
    have z2 : i - st.length = 0 := by omega
    rw [z] at e1
    rw [z2] at e2
    have e1 : t = t' := Option.some.inj e1
    have e2 : s = s' := Option.some.inj e2
    rw [← e1, ← e2, upd_ne ta, upd_same]
/-- a new tuple, put in the place of one -/
theorem StonesAt.put {H : Hp} {a t : Addr} {st : List (Int × Int)} {s : Int × Int} {ts : List Addr} {j : Nat} (h1 : H a = some (.lst (ts.map V.ref))) (h2 : ts.length = st.length)
    (h3 : ∀ (i : Nat) (t : Addr) (s : Int × Int), ts[i]? = some t → st[i]? = some s → H t = some (.tup [.int s.1, .int s.2])) (nt : H t = none) :
    StonesAt (upd (upd H t (.tup [.int s.1, .int s.2])) a (.lst ((ts.map V.ref).set j (.ref t)))) a (st.set j s) := by
  have ta : t ≠ a := fun e => by
    rw [e, h1] at nt
    cases nt
  refine ⟨ts.set j t, by rw [upd_same, List.map_set], by rw [List.length_set, List.length_set, h2], fun i t' s' e1 e2 => ?_⟩
  rw [List.getElem?_set] at e1 e2
  by_cases hi : j = i
  · subst hi
    rw [if_pos rfl] at e1 e2
    by_cases hl : j < ts.length
    · rw [if_pos hl] at e1
      rw [if_pos (by omega)] at e2
      have e1 : t = t' := Option.some.inj e1
      have e2 : s = s' := Option.some.inj e2
      rw [← e1, ← e2, upd_ne ta, upd_same]
    · rw [if_neg hl] at e1
      cases e1
  · rw [if_neg hi] at e1 e2
    have q := h3 i t' s' e1 e2
    have n1 : t' ≠ a := fun e => by
      rw [e, h1] at q
      cases q
    have n2 : t' ≠ t := fun e => by
      rw [e, nt] at q
      cases q
    rw [upd_ne n1, upd_ne n2]
    exact q
theorem goods_snoc {st : List (Int × Int)} {s : Int × Int} (h : ∀ s ∈ st, GoodS s) (g : GoodS s) : ∀ x ∈ st ++ [s], GoodS x := fun x hx => by
  rcases List.mem_append.mp hx with e | e
  · exact h x e
  · rw [List.mem_singleton.mp e]
    exact g
theorem goods_set {st : List (Int × Int)} {s : Int × Int} {j : Nat} (h : ∀ s ∈ st, GoodS s) (g : GoodS s) : ∀ x ∈ st.set j s, GoodS x := fun x hx => by
  rcases List.mem_or_eq_of_mem_set hx with e | e
  · exact h x e
  · rw [e]
    exact g
end Sw
namespace Sw
open PySem PySem.Spec PyProof.Rows L2
open Evl (Ex Ex.refl Ex.trans Ex.new Ex.mut ex_l ex_t ex_rd fresh_back Ev EvL EvU EvT EvA RV RC RCL SpV SpL)
/-! ### places, lists of places -/
def nats (l : List Nat) : List V := l.map fun p : Nat => V.int (p : Int)
theorem nats_len (l : List Nat) : (nats l).length = l.length := by
  unfold nats
  rw [List.length_map]
theorem nats_at {l : List Nat} {i p : Nat} (h : l[i]? = some p) : (nats l)[i]? = some (.int (p : Int)) := by
  unfold nats
  rw [List.getElem?_map, h]
  rfl
theorem nats_inv {l : List Nat} {i : Nat} {y : V} (h : (nats l)[i]? = some y) : ∃ p : Nat, l[i]? = some p ∧ y = .int (p : Int) := by
  unfold nats at h
  rw [List.getElem?_map] at h
  obtain ⟨p, h1, h2⟩ := Option.map_eq_some_iff.mp h
  exact ⟨p, h1, h2.symm⟩
def ofNats (l : List Nat) : List Int := l.map fun p : Nat => (p : Int)
theorem nats_eq (l : List Nat) : nats l = (ofNats l).map V.int := by
  unfold nats ofNats
  rw [List.map_map]
  rfl
/-- a new list of new lists of places -/
structure NewLL (H H' : Hp) (p : Addr) (T : List (Addr × List Nat)) : Prop where
  np : H p = none
  at_ : H' p = some (.lst (T.map fun t => V.ref t.1))
  nd : (T.map (·.1)).Nodup
  in_ : ∀ t ∈ T, H t.1 = none ∧ t.1 ≠ p ∧ H' t.1 = some (.lst (nats t.2))
def dGroups (gs : List (List Nat)) : PyData := dIntss (gs.map ofNats)
theorem NewLL.dt {H H' : Hp} {p : Addr} {T : List (Addr × List Nat)} (h : NewLL H H' p T) : Dt H' (.ref p) (dGroups (T.map (·.2))) := by
  refine .lst h.at_ (DtAll.of (by rw [List.length_map, List.length_map, List.length_map, List.length_map]) fun i v d e1 e2 => ?_)
  rw [List.getElem?_map] at e1
  rw [List.getElem?_map, List.getElem?_map, List.getElem?_map] at e2
  obtain ⟨t, ht, rfl⟩ := Option.map_eq_some_iff.mp e1
  rw [ht] at e2
  have e2 := Option.some.inj e2
  rw [← e2]
  have q := (h.in_ t (List.mem_of_getElem? ht)).2.2
  rw [nats_eq] at q
  exact dt_ints q
theorem lay_groups {gs : List (List Nat)} (h1 : gs.length ≤ 1000) (h2 : ∀ g ∈ gs, g.length ≤ 1000) : Lay 2 (dGroups gs) := lay_intss _ (by rw [List.length_map]; exact h1) fun g hg => by
  obtain ⟨l, hl, e⟩ := List.mem_map.mp hg
  rw [← e]
  unfold ofNats
  rw [List.length_map]
  exact h2 l hl
/-- the sizes of groups -/
theorem grpsL_size (c : Nat → Int) (l : List Nat) : (grpsL c l).length ≤ l.length ∧ ∀ g ∈ grpsL c l, g.length ≤ l.length := by
  unfold grpsL
  refine ⟨by rw [List.length_map]; exact List.length_filter_le _ _, fun g hg => ?_⟩
  obtain ⟨p, _, e⟩ := List.mem_map.mp hg
  rw [← e]
  exact List.length_filter_le _ _
theorem grps_size (st : List (Int × Int)) : (grps st).length ≤ st.length ∧ ∀ g ∈ grps st, g.length ≤ st.length := by
  have h := grpsL_size (cls st) (List.range st.length)
  rw [List.length_range] at h
  exact h
theorem endsOf_take {st : List (Int × Int)} {ps : List Nat} {i p : Nat} (h : ps[i]? = some p) : endsOf st (ps.take (i + 1)) = endsOf st (ps.take i) ++ [sa st p, sb st p] := by
  rw [List.take_add_one, h, endsOf_append]
  rfl
end Sw
namespace Sw
open PySem PySem.Spec PyProof.Rows L2
open Evl (Ex Ex.refl Ex.trans Ex.new Ex.mut ex_l ex_t ex_rd fresh_back Ev EvL EvU EvT EvA RV RC RCL SpV SpL)
/-- a pair's tuple, its group's list, its odd ends' list, the group -/
structure WE where
  t : Addr
  g : Addr
  o : Addr
  l : List Nat
/-- a new list of new pairs of a new group and its new odd ends -/
structure NewWhy (st : List (Int × Int)) (H H' : Hp) (p : Addr) (T : List WE) : Prop where
  np : H p = none
  at_ : H' p = some (.lst (T.map fun e => V.ref e.t))
  in_ : ∀ e ∈ T, (H e.t = none ∧ H e.g = none ∧ H e.o = none) ∧ (p ≠ e.t ∧ p ≠ e.g ∧ p ≠ e.o) ∧ H' e.t = some (.tup [.ref e.g, .ref e.o]) ∧ H' e.g = some (.lst (nats e.l)) ∧ H' e.o = some (.lst ((odds st e.l).map V.int))
  ng : (T.map WE.g).Nodup
  no : (T.map WE.o).Nodup
  go : ∀ e ∈ T, ∀ f ∈ T, e.g ≠ f.o
  gs : T.map WE.l = grps st
def dWhy (st : List (Int × Int)) (gs : List (List Nat)) : PyData := .list (gs.map fun l => .tuple [dInts (ofNats l), dInts (odds st l)])
theorem NewWhy.dt {st : List (Int × Int)} {H H' : Hp} {p : Addr} {T : List WE} (h : NewWhy st H H' p T) : Dt H' (.ref p) (dWhy st (grps st)) := by
  rw [← h.gs]
  refine .lst h.at_ (DtAll.of (by rw [List.length_map, List.length_map, List.length_map]) fun i v d e1 e2 => ?_)
  rw [List.getElem?_map] at e1
  rw [List.getElem?_map, List.getElem?_map] at e2
  obtain ⟨t, ht, rfl⟩ := Option.map_eq_some_iff.mp e1
  rw [ht] at e2
  have e2 := Option.some.inj e2
  rw [← e2]
  obtain ⟨_, _, q1, q2, q3⟩ := h.in_ t (List.mem_of_getElem? ht)
  rw [nats_eq] at q2
  exact .tup q1 (.cons (dt_ints q2) (.cons (dt_ints q3) .nil))
theorem odds_size (st : List (Int × Int)) (l : List Nat) : (odds st l).length ≤ 2 * l.length := by
  have h := oddL_le (endsOf st l)
  rw [endsOf_len] at h
  exact h
theorem lay_why (st : List (Int × Int)) {gs : List (List Nat)} (h1 : gs.length ≤ 1000) (h2 : ∀ g ∈ gs, g.length ≤ 500) : Lay 3 (dWhy st gs) := Lay.lst (by rw [List.length_map]; exact h1) fun d hd => by
  obtain ⟨l, hl, e⟩ := List.mem_map.mp hd
  rw [← e]
  have a := h2 l hl
  have b := odds_size st l
  refine Lay.tup (by show 2 ≤ 1000; decide) fun d hd => ?_
  rcases List.mem_cons.mp hd with e | hd
  · rw [e]
    exact lay_ints _ (by unfold ofNats; rw [List.length_map]; omega)
  · rw [List.mem_singleton.mp hd]
    exact lay_ints _ (by omega)
theorem grps_lt (st : List (Int × Int)) : ∀ g ∈ grps st, ∀ p ∈ g, p < st.length := by
  intro g hg p hp
  unfold grps grpsL at hg
  obtain ⟨q, _, e⟩ := List.mem_map.mp hg
  rw [← e] at hp
  exact List.mem_range.mp (List.mem_filter.mp hp).1
/-- [(group, f(stones, group)) for group in g(stones)] -/
theorem why_comp {K : PySem.W.Frag} {σ : L2.St} {H : Hp} {tg : TE} {a : Addr} {i j : Nat} {vs : List Nat} {sp : Sp} {E : XK} {st : List (Int × Int)} {Q : VK}
    (h1 : ∀ x, ((wipe σ vs).set j (some x))[i]? = some (some (.ref a))) (h2 : ∀ x, ((wipe σ vs).set j (some x))[j]? = some (some x)) (h3 : ∀ x, wipe ((wipe σ vs).set j (some x)) vs = wipe σ vs)
    (hS : StonesAt H a st) (hl : st.length ≤ 60) (hg : ∀ Q : VK, (∀ p T H1, Ex H H1 → NewLL H H1 p T → T.map (·.2) = grps st → Q (.ref p) H1) → tg σ H Q)
    (hsp : ∀ H' g l, StonesAt H' a st → H' g = some (.lst (nats l)) → (∀ p ∈ l, p < st.length) → l.length ≤ 100 → SpL sp [.ref a, .ref g] H' ((odds st l).map V.int))
    (q : ∀ p T H', Ex H H' → NewWhy st H H' p T → Q (.ref p) H') :
    tLc (iList K tg) (gName j) tYes (tTup (tCons (tVar j) (tCons (tCall sp [] E (tCons (tVar i) (tCons (tVar j) tNil))) tNil))) vs σ H Q := by
  refine hg _ fun p T H1 e1 n1 hT => ⟨p, rfl, ⟨_, SqL.of n1.at_⟩, fun D nD => ?_⟩
  have hsz := (grps_size st)
  refine lc_list (xs := T.map fun t => V.ref t.1) (fun k H' => ∃ W : List WE, (W.map fun e => (e.g, e.l)) = T.take k ∧ Ex H1 H' ∧ H' D = some (.lst (W.map fun e => V.ref e.t)) ∧
      (∀ e ∈ W, H1 e.t = none ∧ H1 e.o = none ∧ D ≠ e.t ∧ D ≠ e.o ∧ H' e.t = some (.tup [.ref e.g, .ref e.o]) ∧ H' e.o = some (.lst ((odds st e.l).map V.int))) ∧ (W.map WE.o).Nodup)
    ⟨[], rfl, Ex.new nD, upd_same, fun e he => (nomatch he), List.nodup_nil⟩ (fun k H' _ ⟨_, _, e, _⟩ => SqL.of (e _ _ n1.at_)) ?_ ?_
  · rintro k x H2 hk ⟨W, hW, e2, hD, hin, hno⟩
    rw [List.getElem?_map] at hk
    obtain ⟨t, ht, rfl⟩ := Option.map_eq_some_iff.mp hk
    have htm := n1.in_ t (List.mem_of_getElem? ht)
    have hgm : t.2 ∈ grps st := by
      rw [← hT]
      exact List.mem_map.mpr ⟨t, List.mem_of_getElem? ht, rfl⟩
    have hg2 := e2 _ _ htm.2.2
    refine ⟨h3 _, ?_⟩
    unfold tYes
    dsimp only
    rw [if_pos rfl]
    refine ⟨_, h2 _, ?_⟩
    refine ⟨_, h1 _, _, h2 _, hsp H2 t.1 t.2 (hS.ex (e1.trans e2)) hg2 (grps_lt st _ hgm) (by have := hsz.2 _ hgm; omega) H2 (Ex.refl H2) _ (fun o H3 no e3 ho => ?_) _⟩
    refine ⟨by show 2 ≤ sizeLine; decide, fun u nu => ?_⟩
    have Do : D ≠ o := ne_of_none hD no
    have Du : D ≠ u := ne_of_none (e3 _ _ hD) nu
    have e4 : Ex H2 (upd H3 u (.tup [.ref t.1, .ref o])) := e3.trans (Ex.new nu)
    have wl : W.length ≤ k := by
      have h5 := congrArg List.length hW
      rw [List.length_map, List.length_take] at h5
      omega
    have tl : T.length ≤ 60 := by
      have h5 := congrArg List.length hT
      rw [List.length_map] at h5
      omega
    have kl : k < T.length := (List.getElem?_eq_some_iff.mp ht).1
    refine ⟨_, e4 _ _ hD, by rw [List.length_map]; exact small1000 (by omega), W ++ [⟨u, t.1, o, t.2⟩], ?_, ?_, ?_, fun e he => ?_, ?_⟩
    · rw [List.map_append, hW, List.take_add_one, ht]
      rfl
    · exact Ex.mut (e2.trans e4) nD
    · rw [upd_same, List.map_append]
      rfl
    · rcases List.mem_append.mp he with he | he
      · obtain ⟨a1, a2, a3, a4, a5, a6⟩ := hin e he
        refine ⟨a1, a2, a3, a4, ?_, ?_⟩
        · rw [upd_ne (fun z => a3 z.symm)]
          exact e4 _ _ a5
        · rw [upd_ne (fun z => a4 z.symm)]
          exact e4 _ _ a6
      · rw [List.mem_singleton.mp he]
        have ou : o ≠ u := ne_of_none ho nu
        refine ⟨fresh_back (e2.trans e3) nu, fresh_back e2 no, Du, Do, ?_, ?_⟩
        · show upd _ D _ u = _
          rw [upd_ne (fun z => Du z.symm), upd_same]
        · show upd _ D _ o = _
          rw [upd_ne (fun z => Do z.symm), upd_ne ou]
          exact ho
    · rw [List.map_append]
      refine List.nodup_append.mpr ⟨hno, by simp, fun x hx y hy z => ?_⟩
      obtain ⟨e, he, ee⟩ := List.mem_map.mp hx
      have hy : y = o := List.mem_singleton.mp hy
      have a6 := (hin e he).2.2.2.2.2
      rw [ee, z, hy, no] at a6
      cases a6
  · rintro H2 ⟨W, hW, e2, hD, hin, hno⟩
    rw [List.length_map, List.take_length] at hW
    have hWT : ∀ e ∈ W, (e.g, e.l) ∈ T := fun e he => by
      rw [← hW]
      exact List.mem_map.mpr ⟨e, he, rfl⟩
    refine q D W H2 (e1.trans e2) ⟨fresh_back e1 nD, hD, fun e he => ?_, ?_, hno, fun e he f hf z => ?_, ?_⟩
    · obtain ⟨a1, a2, a3, a4, a5, a6⟩ := hin e he
      have ht := n1.in_ _ (hWT e he)
      have Dg : D ≠ e.g := fun z => by
        have h5 : H1 e.g = _ := ht.2.2
        rw [← z, nD] at h5
        cases h5
      exact ⟨⟨fresh_back e1 a1, ht.1, fresh_back e1 a2⟩, ⟨a3, Dg, a4⟩, a5, e2 _ _ ht.2.2, a6⟩
    · have h5 : W.map WE.g = T.map (·.1) := by
        rw [← hW, List.map_map]
        rfl
      rw [h5]
      exact n1.nd
    · have h5 : H1 e.g = _ := (n1.in_ _ (hWT e he)).2.2
      rw [z, (hin f hf).2.1] at h5
      cases h5
    · rw [← hT, ← hW, List.map_map]
      rfl
theorem q_why {K : PySem.W.Frag} {σ : L2.St} {H : Hp} {tg : TE} {a : Addr} {i j k : Nat} {vs : List Nat} {sp : Sp} {E : XK} {st : List (Int × Int)} {tz : TS} {D : Ends}
    (h1 : ∀ x, ((wipe σ vs).set j (some x))[i]? = some (some (.ref a))) (h2 : ∀ x, ((wipe σ vs).set j (some x))[j]? = some (some x)) (h3 : ∀ x, wipe ((wipe σ vs).set j (some x)) vs = wipe σ vs)
    (hS : StonesAt H a st) (hl : st.length ≤ 60) (hg : ∀ Q : VK, (∀ p T H1, Ex H H1 → NewLL H H1 p T → T.map (·.2) = grps st → Q (.ref p) H1) → tg σ H Q)
    (hsp : ∀ H' g l, StonesAt H' a st → H' g = some (.lst (nats l)) → (∀ p ∈ l, p < st.length) → l.length ≤ 100 → SpL sp [.ref a, .ref g] H' ((odds st l).map V.int))
    (q : ∀ p T H', Ex H H' → NewWhy st H H' p T → tz D (σ.set k (some (.ref p))) H') :
    tSeq (tAsg (tLc (iList K tg) (gName j) tYes (tTup (tCons (tVar j) (tCons (tCall sp [] E (tCons (tVar i) (tCons (tVar j) tNil))) tNil))) vs) (gName k)) tz D σ H :=
  why_comp (Q := fun x H1 => tz D (σ.set k (some x)) H1) h1 h2 h3 hS hl hg hsp q
end Sw
namespace Sw
open PySem PySem.Spec PyProof.Rows L2
open Evl (Ex Ex.refl Ex.trans Ex.new Ex.mut ex_l ex_t ex_rd fresh_back Ev EvL EvU EvT EvA RV RC RCL SpV SpL)
section
variable {K : PySem.W.Frag} {σ : L2.St} {H H' : Hp} {ta tb te : TE} {st su : List (Int × Int)}
/-- what tells a list of stones, old or new -/
def EvSt (te : TE) (σ : L2.St) (H : Hp) (st : List (Int × Int)) : Prop := ∀ H1, Ex H H1 → ∀ Q : VK, (∀ p H2, Ex H1 H2 → StonesAt H2 p st → Q (.ref p) H2) → te σ H1 Q
theorem EvSt.mono (e : Ex H H') (h : EvSt te σ H st) : EvSt te σ H' st := fun H1 a Q q => h H1 (e.trans a) Q q
theorem EvSt.is (h : EvSt te σ H st) (e : st = su) : EvSt te σ H su := by
  rw [← e]
  exact h
theorem es_var {i : Nat} {a : Addr} (h : σ[i]? = some (some (.ref a))) (hS : StonesAt H a st) : EvSt (tVar i) σ H st := fun H1 e Q q => ⟨_, h, q a H1 (Ex.refl H1) (hS.ex e)⟩
/-- a new list of the tuples of others -/
theorem stones_refs {ts : List Addr} {p : Addr} (h1 : H p = some (.lst (ts.map V.ref))) (h2 : ts.length = st.length) (h3 : ∀ (i : Nat) (t : Addr) (s : Int × Int), ts[i]? = some t → st[i]? = some s → H t = some (.tup [.int s.1, .int s.2])) : StonesAt H p st := ⟨ts, h1, h2, h3⟩
theorem es_sl {tl th : TO} {lo hi : Option Int} (h : EvSt te σ H st) (h1 : Evl.EvO tl σ H lo) (h2 : Evl.EvO th σ H hi) :
    EvSt (tSl (rSlL K) te tl th) σ H ((st.drop (HT.sIx st.length 0 lo)).take (HT.sIx st.length st.length hi - HT.sIx st.length 0 lo)) := fun H1 e Q q =>
  h H1 e _ fun a H2 e2 hS => h1 H2 (e.trans e2) _ fun H3 e3 => h2 H3 ((e.trans e2).trans e3) _ fun H4 e4 => by
    obtain ⟨ts, t1, t2, t3⟩ := hS.ex (e3.trans e4)
    refine ⟨a, ts.map V.ref, rfl, SqL.of t1, fun p np => ?_⟩
    refine q p _ (((e2.trans e3).trans e4).trans (Ex.new np)) ⟨(ts.drop (HT.sIx st.length 0 lo)).take (HT.sIx st.length st.length hi - HT.sIx st.length 0 lo), ?_, ?_, fun i t s g1 g2 => ?_⟩
    · rw [upd_same]
      unfold cutV
      rw [List.length_map, t2, ← List.map_drop, ← List.map_take]
    · rw [List.length_take, List.length_take, List.length_drop, List.length_drop, t2]
    · rw [List.getElem?_take] at g1 g2
      by_cases c : i < HT.sIx st.length st.length hi - HT.sIx st.length 0 lo
      · rw [if_pos c, List.getElem?_drop] at g1 g2
        exact Ex.new np _ _ (t3 _ t s g1 g2)
      · rw [if_neg c] at g1
        cases g1
theorem es_take {n : Nat} {tl th : TO} (h : EvSt te σ H st) (h1 : Evl.EvO tl σ H none) (h2 : Evl.EvO th σ H (some (n : Int))) : EvSt (tSl (rSlL K) te tl th) σ H (st.take n) := (es_sl h h1 h2).is (by
  rw [HT.sIx_none, HT.sIx_nat, List.drop_zero, Nat.sub_zero]
  by_cases c : n ≤ st.length
  · rw [Nat.min_eq_left c]
  · rw [Nat.min_eq_right (by omega), List.take_length, List.take_of_length_le (by omega)])
theorem es_drop {n : Nat} {tl th : TO} (h : EvSt te σ H st) (h1 : Evl.EvO tl σ H (some (n : Int))) (h2 : Evl.EvO th σ H none) : EvSt (tSl (rSlL K) te tl th) σ H (st.drop n) := (es_sl h h1 h2).is (by
  rw [HT.sIx_none, HT.sIx_nat]
  by_cases c : n ≤ st.length
  · rw [Nat.min_eq_left c]
    exact List.take_of_length_le (by rw [List.length_drop]; exact Nat.le_refl _)
  · rw [Nat.min_eq_right (by omega), List.drop_length, List.drop_of_length_le (by omega), List.take_nil])
theorem es_cat (h : EvSt ta σ H st) (k : EvSt tb σ H su) (hz : st.length + su.length ≤ 100000) : EvSt (tOp rCat ta tb) σ H (st ++ su) := fun H1 e Q q =>
  h H1 e _ fun a H2 e2 hS => k H2 (e.trans e2) _ fun b H3 e3 hT => by
    obtain ⟨ts, t1, t2, t3⟩ := hS.ex e3
    obtain ⟨us, u1, u2, u3⟩ := hT
    refine ⟨a, b, _, _, rfl, rfl, t1, u1, by rw [List.length_map, List.length_map, t2, u2]; exact Evl.sz_of hz, fun p np => ?_⟩
    refine q p _ ((e2.trans e3).trans (Ex.new np)) ⟨ts ++ us, by rw [upd_same, List.map_append], by rw [List.length_append, List.length_append, t2, u2], fun i t s g1 g2 => ?_⟩
    by_cases c : i < ts.length
    · rw [List.getElem?_append_left c] at g1
      rw [List.getElem?_append_left (by omega)] at g2
      exact Ex.new np _ _ (t3 i t s g1 g2)
    · rw [List.getElem?_append_right (by omega)] at g1
      rw [List.getElem?_append_right (by omega), ← t2] at g2
      exact Ex.new np _ _ (u3 _ t s g1 g2)
theorem es_rev (h : EvSt te σ H st) : EvSt (tRevL K te) σ H st.reverse := fun H1 e Q q =>
  h H1 e _ fun a H2 e2 hS => by
    obtain ⟨ts, t1, t2, t3⟩ := hS
    refine ⟨a, _, rfl, SqL.of t1, fun p np => q p _ (e2.trans (Ex.new np)) ⟨ts.reverse, by rw [upd_same, List.map_reverse], by rw [List.length_reverse, List.length_reverse, t2], fun i t s g1 g2 => ?_⟩⟩
    have c : i < ts.length := by
      have := (List.getElem?_eq_some_iff.mp g1).1
      rwa [List.length_reverse] at this
    rw [List.getElem?_reverse c] at g1
    rw [List.getElem?_reverse (by omega), ← t2] at g2
    exact Ex.new np _ _ (t3 _ t s g1 g2)
/-- [t] of a tuple -/
theorem es_one {i : Nat} {t : Addr} {x y : Int} (h : σ[i]? = some (some (.ref t))) (ht : H t = some (.tup [.int x, .int y])) : EvSt (tLst (tCons (tVar i) tNil)) σ H [(x, y)] := fun H1 e Q q =>
  ⟨_, h, by show 1 ≤ sizeLine; decide, fun p np => q p _ (Ex.new np) ⟨[t], by rw [upd_same]; rfl, rfl, fun j t' s g1 g2 => by
    cases j with
    | zero =>
      have g1 := Option.some.inj g1
      have g2 := Option.some.inj g2
      subst g1 g2
      exact Ex.new np _ _ (e _ _ ht)
    | succ j => simp at g1⟩⟩
/-- [(x, y)] -/
theorem es_pair {x y : Int} (h : Ev ta σ H (.int x)) (k : Ev tb σ H (.int y)) : EvSt (tLst (tCons (tTup (tCons ta (tCons tb tNil))) tNil)) σ H [(x, y)] := fun H1 e Q q =>
  h H1 e _ fun H2 e2 => k H2 (e.trans e2) _ fun H3 e3 => ⟨by show 2 ≤ sizeLine; decide, fun t nt => ⟨by show 1 ≤ sizeLine; decide, fun p np => q p _ (((e2.trans e3).trans (Ex.new nt)).trans (Ex.new np)) ⟨[t], by rw [upd_same]; rfl, rfl, fun j t' s g1 g2 => by
    cases j with
    | zero =>
      have g1 := Option.some.inj g1
      have g2 := Option.some.inj g2
      subst g1 g2
      exact Ex.new np _ _ upd_same
    | succ j => simp at g1⟩⟩⟩
theorem es_nil : EvSt (tLst tNil) σ H [] := fun H1 e Q q => ⟨Nat.zero_le _, fun p np => q p _ (Ex.new np) (stones_nil upd_same)⟩
theorem q_st {i : Nat} {tz : TS} {D : Ends} (h : EvSt te σ H st) (k : ∀ p H1, Ex H H1 → StonesAt H1 p st → tz D (σ.set i (some (.ref p))) H1) : tSeq (tAsg te (gName i)) tz D σ H := h H (Ex.refl H) _ fun p H1 e hS => k p H1 e hS
theorem ev_lenSt {a : Addr} {i : Nat} (h : σ[i]? = some (some (.ref a))) (hS : StonesAt H a st) : Ev (tCB (Evl.rLenS K) (tCons (tVar i) tNil)) σ H (.int (st.length : Int)) := by
  obtain ⟨ts, t1, t2, t3⟩ := hS
  have h := Evl.ev_len (K := K) (Evl.ev_var (H := H) h) (SqL.of t1)
  rw [List.length_map, t2] at h
  exact h
end
end Sw
namespace Sw
open PySem PySem.Spec PyProof.Rows L2
/-! ### the text by places -/
def topS (i : Nat) : Stmt := PySem.Challenge.pw_stonerow_k05_whole_laid.main.body.getD i (.Pass ⟨0, 0, 0, 0⟩)
abbrev sNum : Stmt := topS 6
abbrev sStone : Stmt := topS 7
abbrev sAre : Stmt := topS 8
abbrev sNeed : Stmt := topS 9
abbrev sLying : Stmt := topS 10
abbrev sLies : Stmt := topS 11
abbrev sGroups : Stmt := topS 13
abbrev sLabels : Stmt := topS 14
abbrev sOddE : Stmt := topS 15
abbrev sWhy : Stmt := topS 16
abbrev sLaid : Stmt := topS 18
abbrev sPlaces : Stmt := topS 19
abbrev sGLaid : Stmt := topS 20
abbrev sWalks : Stmt := topS 21
abbrev sWalk : Stmt := topS 22
abbrev sTaken : Stmt := topS 23
abbrev sFilled : Stmt := topS 24
abbrev sCell : Stmt := topS 26
abbrev sStones : Stmt := topS 27
abbrev sLGroups : Stmt := topS 28
abbrev sOdd : Stmt := topS 29
abbrev sLFew : Stmt := topS 30
abbrev sLLies : Stmt := topS 31
abbrev sLChain : Stmt := topS 32
abbrev sLIs : Stmt := topS 33
abbrev sLCopy : Stmt := topS 34
abbrev sAlike : Stmt := topS 35
abbrev sLClosed : Stmt := topS 36
abbrev sLRight : Stmt := topS 37
abbrev sLaw : Stmt := topS 38
end Sw
namespace Sw
open PySem PySem.Spec PyProof.Rows L2
open Evl (Ex Ex.refl Ex.trans Ex.new Ex.mut ex_l ex_t ex_rd fresh_back Ev EvL EvU EvT EvA RV RC RCL SpV SpL)
section
variable {P : Program} {w : World} {K : PySem.W.Frag} {mg : Str → Option Value} {base : Heap}
/-! ### is_number -/
theorem scNum : FnScope ["thing", "highest"] ["thing", "highest"] (defScope sNum) := ⟨rfl, rfl, rfl, by decide +kernel, rfl, by decide +kernel, by decide +kernel⟩
def spNum : Sp := fun vs H Q _ => ∃ i n : Int, vs = [.int i, .int n] ∧ Q (.bl (decide (0 ≤ i) && decide (i ≤ n))) H
theorem ok_num {f : Addr} {fd : FuncData} (F : Fun K "is_number" "is_number" sNum f fd) (mI : mg "isinstance" = none) (mB : mg "bool" = none) (mN : mg "int" = none) : FnOk P w K mg base CX0 1 f fd ["thing", "highest"] spNum := by
  refine F.ok scNum (fun vs H Q E h => ?_) (fun cdv A outer s H vs Q E hr h => ?_)
  · obtain ⟨i, n, rfl, _⟩ := h
    rfl
  · obtain ⟨i, n, rfl, q⟩ := h
    refine ⟨_, pss_cons (ps_if (PW.pt (pw_or (pt_val (pe_callB call_isi (by rfl) mI (by decide +kernel) (pa_cons (pv 0) (pa_cons (pe_bltn (v := .ty "bool") (by rfl) mB (by decide +kernel) rfl) pa_nil))))
        (pw_or1 (pt_not (pt_val (pe_callB call_isi (by rfl) mI (by decide +kernel) (pa_cons (pv 0) (pa_cons (pe_bltn (v := .ty "int") (by rfl) mN (by decide +kernel) rfl) pa_nil)))))))) 
        (pss_one (ps_ret pe_bl)) pss_nil)
      (pss_one (ps_ret (pe_chain op_le op_le pe_int (pv 0) (pv 1)))), ?_⟩
    refine ⟨_, rfl, _, _, _, _, false, rfl, .ty _, .base (.int i), kit_ty (by decide +kernel), false, rfl, ?_⟩
    refine iteF ?_
    refine ⟨_, rfl, _, _, _, _, true, rfl, .ty _, .base (.int i), kit_ty (by decide +kernel), true, rfl, ?_⟩
    refine iteF ?_
    refine ⟨_, rfl, _, _, rfl, rfl, _, rfl, ?_⟩
    by_cases h0 : 0 ≤ i
    · rw [decide_eq_true h0] at q ⊢
      refine iteT ?_
      exact ⟨_, rfl, _, _, rfl, rfl, q⟩
    · rw [decide_eq_false h0] at q ⊢
      exact iteF q
theorem num_in {i n : Int} (h0 : 0 ≤ i) (h1 : i ≤ n) : (decide (0 ≤ i) && decide (i ≤ n)) = true := by rw [decide_eq_true h0, decide_eq_true h1] <;> rfl
theorem pv_num {i n : Int} {H : Hp} : Evl.SpV spNum [.int i, .int n] H (.bl (decide (0 ≤ i) && decide (i ≤ n))) := fun H1 _ Q q _ => ⟨i, n, rfl, q H1 (Ex.refl H1)⟩
/-! ### is_stone -/
theorem scStone : FnScope ["thing"] ["thing"] (defScope sStone) := ⟨rfl, rfl, rfl, by decide +kernel, rfl, by decide +kernel, by decide +kernel⟩
def spStone : Sp := fun vs H Q _ => ∃ (t : Addr) (a b : Int), vs = [.ref t] ∧ H t = some (.tup [.int a, .int b]) ∧ (0 ≤ a ∧ a ≤ 999999) ∧ (0 ≤ b ∧ b ≤ 999999) ∧ Q (.bl true) H
theorem ok_stone {f fE : Addr} {fd fdE : FuncData} (F : Fun K "is_stone" "is_stone" sStone f fd) (mI : mg "isinstance" = none) (mT : mg "tuple" = none) (mL : mg "len" = none) (mH : ∃ t, mg "HIGHEST_END" = some (.int 999999 t))
    (GE : FnOk P w K mg base CX0 1 fE fdE ["thing", "highest"] spNum) (gE : mg "is_number" = some (.ref fE)) (kE : PySem.W.keepIn K (.ref fE) = true) (bE : Binds K fdE ["thing", "highest"] []) : FnOk P w K mg base CX0 2 f fd ["thing"] spStone := by
  obtain ⟨tH, mH⟩ := mH
  refine F.ok scStone (fun vs H Q E h => ?_) (fun cdv A outer s H vs Q E hr h => ?_)
  · obtain ⟨t, a, b, rfl, _⟩ := h
    rfl
  · obtain ⟨t, a, b, rfl, ht, ha, hb, q⟩ := h
    refine ⟨_, pss_cons (ps_if (PW.pt (pw_or (pt_not (pt_val (pe_callB call_isi (by rfl) mI (by decide +kernel) (pa_cons (pv 0) (pa_cons (pe_bltn (v := .ty "tuple") (by rfl) mT (by decide +kernel) rfl) pa_nil)))))
        (pw_or1 (pt_cmpR op_ne (pe_callB call_len_seq (by rfl) mL boot_len (pa_cons (pv 0) pa_nil)) pe_int (nomark _))))) (pss_one (ps_ret pe_bl)) pss_nil)
      (pss_one (ps_ret (pe_and (pe_call GE hr (by rfl) gE kE bE .nil pass0 (pa_cons (pe_ix ix_tup (pv 0) pe_int (fun _ _ => rfl)) (pa_cons (pe_glob (v := .int 999999) rfl mH ⟨_, rfl⟩) pa_nil)))
        (pe_one (pe_call GE hr (by rfl) gE kE bE .nil pass0 (pa_cons (pe_ix ix_tup (pv 0) pe_int (fun _ _ => rfl)) (pa_cons (pe_glob (v := .int 999999) rfl mH ⟨_, rfl⟩) pa_nil))))))), ?_⟩
    refine ⟨_, rfl, _, _, _, _, true, rfl, .ty _, .base (.tup ht), kit_ty (by decide +kernel), true, rfl, ?_⟩
    refine iteF ?_
    refine ⟨_, rfl, t, _, rfl, .inr (SqT.of ht), rfl, _, rfl, ?_⟩
    refine iteF ?_
    refine ⟨_, rfl, t, _, 0, _, rfl, rfl, SqT.of ht, atI_nat (j := 0) rfl, a, _, rfl, true, congrArg V.bl (num_in ha.1 ha.2), ?_⟩
    refine iteT ?_
    refine ⟨_, rfl, t, _, 1, _, rfl, rfl, SqT.of ht, atI_nat (j := 1) rfl, b, _, rfl, ?_⟩
    rw [num_in hb.1 hb.2]
    exact q
theorem pv_stone {t : Addr} {a b : Int} {H : Hp} (ht : H t = some (.tup [.int a, .int b])) (ha : 0 ≤ a ∧ a ≤ 999999) (hb : 0 ≤ b ∧ b ≤ 999999) : Evl.SpV spStone [.ref t] H (.bl true) := fun H1 e Q q _ => ⟨t, a, b, rfl, e _ _ ht, ha, hb, q H1 (Ex.refl H1)⟩
/-! ### are_stones -/
theorem scAre : FnScope ["thing", "stone"] ["thing"] (defScope sAre) := ⟨rfl, rfl, rfl, by decide +kernel, rfl, by decide +kernel, by decide +kernel⟩
def spAre : Sp := fun vs H Q _ => ∃ (a : Addr) (st : List (Int × Int)), vs = [.ref a] ∧ StonesAt H a st ∧ Good st ∧ Evl.RetV (.bl true) H Q
theorem ok_are {f fS : Addr} {fd fdS : FuncData} (F : Fun K "are_stones" "are_stones" sAre f fd) (mI : mg "isinstance" = none) (mT : mg "list" = none) (mL : mg "len" = none) (mA : mg "all" = none) (mM : ∃ t, mg "MOST_STONES" = some (.int 60 t))
    (GS : FnOk P w K mg base CX0 2 fS fdS ["thing"] spStone) (gS : mg "is_stone" = some (.ref fS)) (kS : PySem.W.keepIn K (.ref fS) = true) (bS : Binds K fdS ["thing"] []) : FnOk P w K mg base CX0 3 f fd ["thing"] spAre := by
  obtain ⟨tM, mM⟩ := mM
  refine F.ok scAre (fun vs H Q E h => ?_) (fun cdv A outer s H vs Q E hr h => ?_)
  · obtain ⟨a, st, rfl, _⟩ := h
    rfl
  · obtain ⟨a, st, rfl, hS, hG, q⟩ := h
    refine ⟨_, pss_cons (ps_if (PW.pt (pw_or (pt_not (pt_val (pe_callB call_isi (by rfl) mI (by decide +kernel) (pa_cons (pv 0) (pa_cons (pe_bltn (v := .ty "list") (by rfl) mT (by decide +kernel) rfl) pa_nil)))))
        (pw_or1 (pt_cmpR op_gt (pe_callB call_len_seq (by rfl) mL boot_len (pa_cons (pv 0) pa_nil)) (pe_glob (v := .int 60) rfl mM ⟨_, rfl⟩) (nomark _))))) (pss_one (ps_ret pe_bl)) pss_nil)
      (pss_one (ps_ret (pe_callB (cr_all rfl) (by rfl) mA (by decide +kernel) (pa_cons (pe_lc (own := [("stone", 1)]) (g := gName 1) (tt := tYes) rfl scAre.nd (pi_list (pv 0)) (blkOk_by (N := ["thing", "stone"]) (sc := defScope sAre) (by decide +kernel))
        (fun _ _ _ _ _ => pg_name (i := 1) scAre.nd rfl (Or.inl rfl)) (fun _ _ _ _ _ => pts_nil) (fun _ _ _ _ _ => pe_call GS hr (by rfl) gS kS bS .nil pass0 (pa_cons (pv 1) pa_nil))) pa_nil)))), ?_⟩
    obtain ⟨ts, h1, h2, h3⟩ := hS
    refine ⟨_, rfl, _, _, _, _, true, rfl, .ty _, .base (.lst h1), kit_ty (by decide +kernel), true, rfl, ?_⟩
    refine iteF ?_
    refine ⟨_, rfl, a, _, rfl, .inl (SqL.of h1), _, _, rfl, rfl, false, ?_, ?_⟩
    · show V.bl (decide ((60 : Int) < ((ts.map V.ref).length : Int))) = V.bl false
      rw [List.length_map, decide_eq_false]
      have := hG.1
      omega
    refine iteF ?_
    refine st_next ?_
    dsimp only
    refine Evl.s_ret (v := .bl true) ?_ q
    refine ev_cbN (xs := Evl.given (ts.map V.ref).length (fun _ => true) fun _ => V.bl true) (Evl.el_lcL (fun _ => true) (fun _ => V.bl true) (Evl.ev_var rfl) (SqL.of h1) ?_ (fun _ => rfl) (fun i x H1 e hx H2 e2 Q q => q H2 (Ex.refl H2)) fun i x H1 e hx _ => ?_) fun p H1 hp e => ?_
    · rw [List.length_map]
      have := hG.1
      omega
    · have hi : i < st.length := by
        have := (List.getElem?_eq_some_iff.mp hx).1
        rw [List.length_map] at this
        omega
      rw [List.getElem?_map] at hx
      obtain ⟨t, ht, ex⟩ := Option.map_eq_some_iff.mp hx
      subst ex
      have g := hG.2 _ (List.getElem_mem hi)
      exact Evl.ev_call (Evl.ea_cons (Evl.ev_var rfl) Evl.ea_nil) (pv_stone (e _ _ (h3 i t _ ht (List.getElem?_eq_getElem hi))) g.1 g.2)
    · rw [given_all] at hp
      have e1 : (List.range (ts.map V.ref).length).map (fun _ => V.bl true) = ((List.range (ts.map V.ref).length).map fun _ => true).map V.bl := by
        rw [List.map_map]
        rfl
      rw [e1] at hp
      have r := rc_all (K := K) hp
      have e2 : (((List.range (ts.map V.ref).length).map fun _ => true).all id) = true := by
        rw [List.all_eq_true]
        intro b hb
        obtain ⟨_, _, e⟩ := List.mem_map.mp hb
        exact e.symm
      rw [e2] at r
      exact r
theorem pv_are {a : Addr} {st : List (Int × Int)} {H : Hp} (hS : StonesAt H a st) (hG : Good st) : SpV spAre [.ref a] H (.bl true) := fun H1 e Q q _ => ⟨a, st, rfl, hS.ex e, hG, q⟩
/-! ### need_stones -/
theorem scNeed : FnScope ["thing"] ["thing"] (defScope sNeed) := ⟨rfl, rfl, rfl, by decide +kernel, rfl, by decide +kernel, by decide +kernel⟩
def spNeed : Sp := fun vs H Q _ => ∃ (a : Addr) (st : List (Int × Int)), vs = [.ref a] ∧ StonesAt H a st ∧ Good st ∧ Evl.RetV .non H Q
theorem ok_need {f fA : Addr} {fd fdA : FuncData} (F : Fun K "need_stones" "need_stones" sNeed f fd) (GA : FnOk P w K mg base CX0 3 fA fdA ["thing"] spAre) (gA : mg "are_stones" = some (.ref fA)) (kA : PySem.W.keepIn K (.ref fA) = true) (bA : Binds K fdA ["thing"] []) : FnOk P w K mg base CX0 4 f fd ["thing"] spNeed := by
  refine F.ok scNeed (fun vs H Q E h => ?_) (fun cdv A outer s H vs Q E hr h => ?_)
  · obtain ⟨a, st, rfl, _⟩ := h
    rfl
  · obtain ⟨a, st, rfl, hS, hG, q⟩ := h
    refine ⟨_, pss_one (ps_if (pt_not (pt_val (pe_call GA hr (by rfl) gA kA bA .nil pass0 (pa_cons (pv 0) pa_nil)))) (pss_one ps_never) pss_nil), ?_⟩
    refine ⟨_, rfl, a, st, rfl, hS, hG, fun H1 e => ⟨true, rfl, ?_⟩⟩
    refine iteF ?_
    exact q H1 e
theorem pv_need {a : Addr} {st : List (Int × Int)} {H : Hp} (hS : StonesAt H a st) (hG : Good st) : SpV spNeed [.ref a] H .non := fun H1 e Q q _ => ⟨a, st, rfl, hS.ex e, hG, q⟩
end
end Sw
namespace Sw
open PySem PySem.Spec PyProof.Rows L2
open Evl (Ex Ex.refl Ex.trans Ex.new Ex.mut ex_l ex_t ex_rd fresh_back Ev EvL EvU EvT EvA RV RC RCL SpV SpL)
section
variable {P : Program} {w : World} {K : PySem.W.Frag} {mg : Str → Option Value} {base : Heap}
/-! ### _law_cell -/
theorem scCell : FnScope ["_law_script", "_law_k", "_law_cell_here", "_law_more"] ["_law_script", "_law_k"] (defScope sCell) := ⟨rfl, rfl, rfl, by decide +kernel, rfl, by decide +kernel, by decide +kernel⟩
def cellH (ns : List Int) (k : Int) : Int := if ns = [] then 7919 * k + 11 else ns.getD (k % (ns.length : Int)).toNat 0 * 48271 + 104729 * k + k.fdiv (ns.length : Int) * 7919
def cellM (z : Int) : Int := z % 2147483647 * (z % 2147483647) % 2147483629
def cellF (ns : List Int) (k : Int) : Int := (cellM (cellH ns k) * cellM (cellH ns k) + 69621 * cellM (cellH ns k) + k) % 2147483587
theorem cellF_0 (ns : List Int) (k : Int) : 0 ≤ cellF ns k := Int.emod_nonneg _ (by decide)
theorem cellF_9 (ns : List Int) (k : Int) : cellF ns k < 2147483587 := Int.emod_lt_of_pos _ (by decide)
def spCellS (K : PySem.W.Frag) : Sp := fun vs H Q _ => ∃ (a : Addr) (ns : List Int) (k : Int), vs = [.ref a, .int k] ∧ SqL K H a (ns.map V.int) ∧ ns.length ≤ 63 ∧ Evl.RetV (.int (cellF ns k)) H Q
theorem pv_cell {a : Addr} {ns : List Int} {k : Int} {H : Hp} (hS : SqL K H a (ns.map V.int)) (hl : ns.length ≤ 63) : SpV (spCellS K) [.ref a, .int k] H (.int (cellF ns k)) := fun H1 e Q q _ => ⟨a, ns, k, rfl, ex_l e hS, hl, q⟩
theorem fmod_of {a b : Int} (h : 0 < b) : a.fmod b = a % b := Int.fmod_eq_emod_of_nonneg a (by omega)
theorem ok_cell {f : Addr} {fd : FuncData} (F : Fun K "_law_cell" "_law_cell" sCell f fd) (mL : mg "len" = none) : FnOk P w K mg base CX0 1 f fd ["_law_script", "_law_k"] (spCellS K) := by
  refine F.ok scCell (fun vs H Q E h => ?_) (fun cdv A outer s H vs Q E hr h => ?_)
  · obtain ⟨a, ns, k, rfl, _⟩ := h
    rfl
  · obtain ⟨a, ns, k, rfl, hS, hl, q⟩ := h
    refine ⟨_, pss_cons (ps_set (i := 2) scCell.nd rfl (.inl rfl) (pe_op op_add (pe_op op_mul pe_int (pv 1)) pe_int))
      (Evl.pss_cut (ps_if (pt_cmpR (op_neD hr.units) (pv 0) (pe_lst pa_nil) (nomark _))
        (pss_cons (ps_set (i := 2) scCell.nd rfl (.inl rfl) (pe_op op_mul (pe_ix ix_list (pv 0) (pe_op op_modN (pv 1) (pe_callB call_len_seq (by rfl) mL boot_len (pa_cons (pv 0) pa_nil))) (fun _ _ => rfl)) pe_int))
        (pss_one (ps_set (i := 2) scCell.nd rfl (.inl rfl) (pe_op op_add (pe_op op_add (pv 2) (pe_op op_mul pe_int (pv 1))) (pe_op op_mul (pe_op op_fdivN (pv 1) (pe_callB call_len_seq (by rfl) mL boot_len (pa_cons (pv 0) pa_nil))) pe_int))))) pss_nil)
      (pss_cons (ps_set (i := 3) scCell.nd rfl (.inl rfl) (pe_op op_mod (pv 2) pe_int))
      (pss_cons (ps_set (i := 3) scCell.nd rfl (.inl rfl) (pe_op op_mod (pe_op op_mul (pv 3) (pv 3)) pe_int))
      (pss_one (ps_ret (pe_op op_mod (pe_op op_add (pe_op op_add (pe_op op_mul (pv 3) (pv 3)) (pe_op op_mul pe_int (pv 3))) (pv 1)) pe_int)))))), ?_⟩
    refine ⟨_, rfl, _, _, rfl, rfl, .inl ⟨by decide, by decide⟩, _, _, rfl, rfl, ?_⟩
    refine ⟨fun σ H' => Ex H H' ∧ σ = [some (.ref a), some (.int k), some (.int (cellH ns k)), none], ?_, ?_⟩
    · refine ⟨_, rfl, Nat.zero_le _, fun p hp => ?_⟩
      have e1 : Ex H (upd H p (.lst [])) := Ex.new hp
      refine ⟨dInts ns, dInts [], dp_ints (ex_l e1 hS), dt_ints (ns := []) upd_same |>.dp, (lay_ints _ (by omega)).shaped (by decide), (lay_ints _ (by decide)).shaped (by decide), _, rfl, ?_⟩
      rw [eqv_dInts]
      by_cases hn : ns = []
      · rw [decide_eq_true hn]
        refine ⟨e1, ?_⟩
        unfold cellH
        rw [if_pos hn]
        rfl
      · rw [decide_eq_false hn]
        refine iteT ?_
        have hpos : 0 < ns.length := List.length_pos_iff.mpr hn
        have hS1 := ex_l (K := K) e1 hS
        have hlen : (ns.map V.int).length = ns.length := List.length_map _
        have hm := Int.emod_nonneg k (show (ns.length : Int) ≠ 0 by omega)
        have hm2 := Int.emod_lt_of_pos k (show 0 < (ns.length : Int) by omega)
        have hj : (k % (ns.length : Int)).toNat < ns.length := by omega
        have hat : (ns.map V.int)[(k % (ns.length : Int)).toNat]? = some (.int (ns.getD (k % (ns.length : Int)).toNat 0)) := by
          rw [List.getElem?_map, List.getElem?_eq_getElem hj, List.getD_eq_getElem?_getD, List.getElem?_eq_getElem hj]
          rfl
        have hix : atI (ns.map V.int) (k.fmod ((ns.map V.int).length : Int)) = some (.int (ns.getD (k % (ns.length : Int)).toNat 0)) := by
          refine at_of ?_ hat
          rw [hlen, fmod_of (by omega)]
          omega
        refine ⟨_, rfl, _, rfl, _, rfl, a, _, rfl, .inl hS1, _, _, rfl, rfl, by rw [List.length_map]; omega, a, _, _, _, rfl, rfl, hS1, hix, _, _, rfl, rfl, .inr ⟨by decide, by decide⟩, ?_⟩
        refine ⟨_, rfl, _, rfl, _, _, rfl, rfl, .inl ⟨by decide, by decide⟩, _, _, rfl, rfl, _, rfl, _, rfl, a, _, rfl, .inl hS1, _, _, rfl, rfl, ⟨by rw [List.length_map]; omega, by rw [List.length_map]; omega⟩, _, _, rfl, rfl, .inr ⟨by decide, by decide⟩, _, _, rfl, rfl, ?_⟩
        refine ⟨e1, ?_⟩
        unfold cellH
        rw [if_neg hn, hlen]
        rfl
    · rintro σ H1 ⟨e1, rfl⟩
      have fin : cellF ns k = (cellM (cellH ns k) * cellM (cellH ns k) + 69621 * cellM (cellH ns k) + k) % 2147483587 := rfl
      generalize cellH ns k = z at fin ⊢
      unfold cellM at fin
      refine ⟨_, rfl, _, _, rfl, rfl, (by show (0 : Int) < 2147483647; decide), ?_⟩
      have a1 := Int.emod_nonneg z (show (2147483647 : Int) ≠ 0 by decide)
      have a2 := Int.emod_lt_of_pos z (show (0 : Int) < 2147483647 by decide)
      refine ⟨_, rfl, _, rfl, _, _, rfl, rfl, .inl ⟨by show _ < z % 2147483647; omega, by show z % 2147483647 < _; omega⟩, _, _, rfl, rfl, (by show (0 : Int) < 2147483629; decide), ?_⟩
      generalize z % 2147483647 * (z % 2147483647) = y at fin
      have b1 := Int.emod_nonneg y (show (2147483629 : Int) ≠ 0 by decide)
      have b2 := Int.emod_lt_of_pos y (show (0 : Int) < 2147483629 by decide)
      refine ⟨_, rfl, _, rfl, _, _, rfl, rfl, .inl ⟨by show _ < y % 2147483629; omega, by show y % 2147483629 < _; omega⟩, _, rfl, _, _, rfl, rfl, .inl ⟨by decide, by decide⟩, _, _, rfl, rfl, _, rfl, _, _, rfl, rfl, _, _, rfl, rfl, (by show (0 : Int) < 2147483587; decide), ?_⟩
      have r := q _ e1
      rw [fin] at r
      exact r
/-! ### _law_stones -/
theorem scStones : FnScope ["_law_script", "_law_kind", "_law_found", "_law_k", "_law_cell_here", "_law_most"] ["_law_script"] (defScope sStones) := ⟨rfl, rfl, rfl, by decide +kernel, rfl, by decide +kernel, by decide +kernel⟩
def spStones (K : PySem.W.Frag) : Sp := fun vs H Q _ => ∃ (a : Addr) (ns : List Int), vs = [.ref a] ∧ SqL K H a (ns.map V.int) ∧ ns.length ≤ 63 ∧ ∀ p st H', Ex H H' → H p = none → Good st → StonesAt H' p st → Q (.ref p) H'
theorem ok_stones {f fC : Addr} {fd fdC : FuncData} (F : Fun K "_law_stones" "_law_stones" sStones f fd) (mL : mg "len" = none) (mR : mg "range" = none) (mX : mg "max" = none) (mN : mg "min" = none)
    (GC : FnOk P w K mg base CX0 1 fC fdC ["_law_script", "_law_k"] (spCellS K)) (gC : mg "_law_cell" = some (.ref fC)) (kC : PySem.W.keepIn K (.ref fC) = true) (bC : Binds K fdC ["_law_script", "_law_k"] []) : FnOk P w K mg base CX0 2 f fd ["_law_script"] (spStones K) := by
  refine F.ok scStones (fun vs H Q E h => ?_) (fun cdv A outer s H vs Q E hr h => ?_)
  · obtain ⟨a, ns, rfl, _⟩ := h
    rfl
  · obtain ⟨a, ns, rfl, hS, hl, q⟩ := h
    refine ⟨_, pss_cons (ps_set (i := 1) scStones.nd rfl (.inl rfl) (pe_call GC hr (by rfl) gC kC bC .nil pass0 (pa_cons (pv 0) (pa_cons pe_int pa_nil))))
      (pss_cons (ps_set (i := 2) scStones.nd rfl (.inl rfl) (pe_lst pa_nil))
      (pss_cons (ps_for PassesOwn.never rfl (pi_range1 (by rfl) mR (pa_cons (pe_callB (call_max2 rfl) (by rfl) mX (by decide +kernel) (pa_cons (pe_callB (call_min2 rfl) (by rfl) mN (by decide +kernel) (pa_cons (pe_callB call_len_seq (by rfl) mL boot_len (pa_cons (pv 0) pa_nil)) (pa_cons pe_int pa_nil))) (pa_cons (pe_op op_mod (pe_op op_fdiv (pv 1) pe_int) pe_int) pa_nil))) pa_nil)) (pg_name (i := 3) scStones.nd rfl (.inl rfl))
        (pss_cons (ps_set (i := 4) scStones.nd rfl (.inl rfl) (pe_call GC hr (by rfl) gC kC bC .nil pass0 (pa_cons (pv 0) (pa_cons (pe_op op_add pe_int (pv 3)) pa_nil))))
        (pss_cons (ps_set (i := 5) scStones.nd rfl (.inl rfl) (pe_ix ix_list (pe_lst (pa_cons pe_int (pa_cons pe_int (pa_cons pe_int (pa_cons pe_int pa_nil))))) (pe_op op_mod (pe_op op_add (pe_op op_mod (pv 1) pe_int) (pe_op op_fdiv (pe_op op_mod (pe_op op_fdiv (pv 4) pe_int) pe_int) pe_int)) pe_int) (fun _ _ => rfl)))
        (pss_cons (ps_expr (pe_bm PySem.F.plainAttrs_list PySem.F.slot_list_append PySem.F.type_list_append mt_append (pv 2) (pa_cons (pe_tup (pa_cons (pe_op op_mod (pe_op op_fdiv (pv 4) pe_int) (pv 5)) (pa_cons (pe_op op_mod (pe_op op_fdiv (pe_call GC hr (by rfl) gC kC bC .nil pass0 (pa_cons (pv 0) (pa_cons (pe_op op_add pe_int (pv 3)) pa_nil))) pe_int) (pv 5)) pa_nil))) pa_nil)))
        (pss_one (ps_if (pt_cmpR op_eq (pe_op op_mod (pv 4) pe_int) pe_int (nomark _)) (pss_one (ps_asg (pe_tup (pa_cons (pe_ix ix_tup (pe_ix ix_list (pv 2) (pv 3) (fun _ _ => rfl)) pe_int (fun _ _ => rfl)) (pa_cons (pe_ix ix_tup (pe_ix ix_list (pv 2) (pv 3) (fun _ _ => rfl)) pe_int (fun _ _ => rfl)) pa_nil))) (pg_sub (pv 2) (pv 3) set_list))) pss_nil))))))
      (pss_one (ps_ret (pv 2))))), ?_⟩
    refine ⟨_, rfl, a, ns, 1, rfl, hS, hl, fun H1 e1 => ?_⟩
    have k0 := cellF_0 ns 1
    generalize cellF ns 1 = kind at k0 ⊢
    refine ⟨Nat.zero_le _, fun fl nf => ?_⟩
    have e2 : Ex H (upd H1 fl (.lst [])) := e1.trans (Ex.new nf)
    refine ⟨_, rfl, a, _, rfl, .inl (ex_l e2 hS), _, _, rfl, _, rfl, _, _, rfl, rfl, ⟨by decide, by decide⟩, _, _, rfl, rfl, (by show (0 : Int) < 16; decide), _, _, rfl, ?_⟩
    have m1 := Int.emod_nonneg (kind / 4) (show (16 : Int) ≠ 0 by decide)
    have m2 := Int.emod_lt_of_pos (kind / 4) (show (0 : Int) < 16 by decide)
    rw [List.length_map]
    generalize hJ : (if (kind / 4 % 16 : Int) > (if (60 : Int) < (ns.length : Int) then (60 : Int) else (ns.length : Int)) then kind / 4 % 16 else (if (60 : Int) < (ns.length : Int) then (60 : Int) else (ns.length : Int))) = J
    have j0 : 0 ≤ J := by
      rw [← hJ]
      split <;> split <;> omega
    have j1 : J ≤ 60 := by
      rw [← hJ]
      split <;> split <;> omega
    refine ⟨J, rfl, by omega, by omega, for_range (lo := 0) (n := J.toNat) (fun i σ H' => ∃ (st : List (Int × Int)) (x3 x4 x5 : Option V), σ = [some (.ref a), some (.int kind), some (.ref fl), x3, x4, x5] ∧ st.length = i ∧ (∀ s ∈ st, GoodS s) ∧ StonesAt H' fl st ∧ Ex H H')
      ⟨[], none, none, none, rfl, rfl, fun s hs => (nomatch hs), stones_nil upd_same, e2⟩ ?_ ?_⟩
    · rintro i σ H2 hi ⟨st, x3, x4, x5, rfl, el, hg, ⟨ts, t1, t2, t3⟩, e3⟩
      have hf : H fl = none := fresh_back e1 nf
      rw [Int.zero_add]
      refine ⟨_, rfl, _, rfl, _, _, rfl, rfl, a, ns, _, rfl, ex_l e3 hS, hl, fun H3 e4 => ?_⟩
      have c0 := cellF_0 ns (10 + (i : Int))
      generalize cellF ns (10 + (i : Int)) = c at c0 ⊢
      refine ⟨by show 4 ≤ sizeLine; decide, fun p np => ?_⟩
      refine ⟨_, rfl, _, _, rfl, rfl, (by show (0 : Int) < 4; decide), _, rfl, _, _, rfl, rfl, ⟨by decide, by decide⟩, _, _, rfl, rfl, (by show (0 : Int) < 9; decide), _, _, rfl, rfl, ⟨by decide, by decide⟩, _, _, rfl, rfl, _, _, rfl, rfl, (by show (0 : Int) < 4; decide), ?_⟩
      generalize kind % 4 + c / 1000 % 9 / 8 = y
      obtain ⟨m, hm, m0, m9⟩ : ∃ m : Int, atI [V.int 3, V.int 6, V.int 14, V.int 1000000] (y % 4) = some (.int m) ∧ 1 ≤ m ∧ m ≤ 1000000 := by
        have y0 := Int.emod_nonneg y (show (4 : Int) ≠ 0 by decide)
        have y1 := Int.emod_lt_of_pos y (show (0 : Int) < 4 by decide)
        have : y % 4 = 0 ∨ y % 4 = 1 ∨ y % 4 = 2 ∨ y % 4 = 3 := by omega
        rcases this with e | e | e | e
        · exact ⟨3, by rw [e]; rfl, by decide, by decide⟩
        · exact ⟨6, by rw [e]; rfl, by decide, by decide⟩
        · exact ⟨14, by rw [e]; rfl, by decide, by decide⟩
        · exact ⟨1000000, by rw [e]; rfl, by decide, by decide⟩
      refine ⟨p, _, _, _, rfl, rfl, SqL.of upd_same, hm, ?_⟩
      have e5 : Ex H2 (upd H3 p (.lst [V.int 3, V.int 6, V.int 14, V.int 1000000])) := e4.trans (Ex.new np)
      refine ⟨_, rfl, .inl ⟨rfl, _, SqL.of (e5 _ _ t1)⟩, ?_⟩
      refine ⟨_, rfl, _, _, rfl, rfl, ⟨by decide, by decide⟩, _, rfl, _, _, rfl, rfl, (show (0 : Int) < m by omega), ?_⟩
      refine ⟨_, rfl, _, rfl, _, _, rfl, rfl, a, ns, _, rfl, ex_l (e3.trans e5) hS, hl, fun H4 e6 => ?_⟩
      have d0 := cellF_0 ns (100 + (i : Int))
      generalize cellF ns (100 + (i : Int)) = d at d0 ⊢
      refine ⟨_, _, rfl, rfl, ⟨by decide, by decide⟩, _, rfl, _, _, rfl, rfl, (show (0 : Int) < m by omega), ?_⟩
      refine ⟨by show 2 ≤ sizeLine; decide, fun t nt => ?_⟩
      have e7 : Ex H2 H4 := e5.trans e6
      have t1' := e7 _ _ t1
      have tf : fl ≠ t := ne_of_none t1' nt
      refine ⟨fl, _, _, rfl, rfl, (by rw [upd_ne tf]; exact t1'), ?_, ?_⟩
      · rw [List.length_map, t2]
        exact small1000 (by omega)
      have gs : GoodS (c / 7 % m, d / 5 % m) := by
        have := Int.emod_nonneg (c / 7) (show m ≠ 0 by omega)
        have := Int.emod_lt_of_pos (c / 7) (show 0 < m by omega)
        have := Int.emod_nonneg (d / 5) (show m ≠ 0 by omega)
        have := Int.emod_lt_of_pos (d / 5) (show 0 < m by omega)
        exact ⟨⟨by assumption, by show c / 7 % m ≤ _; omega⟩, by assumption, by show d / 5 % m ≤ _; omega⟩
      have S5 := StonesAt.app (s := (c / 7 % m, d / 5 % m)) t1' t2 (fun i t s e1 e2 => e7 _ _ (t3 i t s e1 e2)) nt
      have G5 := goods_snoc hg gs
      have L5 : (st ++ [(c / 7 % m, d / 5 % m)]).length = i + 1 := by rw [List.length_append, el]; rfl
      have E5 : Ex H (upd (upd H4 t (.tup [.int (c / 7 % m), .int (d / 5 % m)])) fl (.lst (ts.map V.ref ++ [.ref t]))) := Ex.mut ((e3.trans e7).trans (Ex.new nt)) hf
      generalize upd (upd H4 t (.tup [.int (c / 7 % m), .int (d / 5 % m)])) fl (.lst (ts.map V.ref ++ [.ref t])) = H5 at S5 E5 ⊢
      generalize st ++ [(c / 7 % m, d / 5 % m)] = st5 at S5 G5 L5
      -- if cell % 23 == 1
      refine ⟨_, rfl, _, _, rfl, rfl, (by show (0 : Int) < 23; decide), rfl, _, rfl, ite2 (fun _ => ?_) (fun _ => ?_)⟩
      · obtain ⟨us, u1, u2, u3⟩ := S5
        have iu : i < us.length := by omega
        have is5 : i < st5.length := by omega
        have hu := u3 i _ _ (List.getElem?_eq_getElem iu) (List.getElem?_eq_getElem is5)
        have hat : (us.map V.ref)[i]? = some (.ref us[i]) := by
          rw [List.getElem?_map, List.getElem?_eq_getElem iu]
          rfl
        refine ⟨_, rfl, _, rfl, fl, _, _, _, rfl, rfl, SqL.of u1, atI_nat hat, us[i], _, _, _, rfl, rfl, SqT.of hu, atI_nat (j := 0) rfl, _, rfl, _, rfl, fl, _, _, _, rfl, rfl, SqL.of u1, atI_nat hat, us[i], _, _, _, rfl, rfl, SqT.of hu, atI_nat (j := 0) rfl, ?_⟩
        refine ⟨by show 2 ≤ sizeLine; decide, fun t6 nt6 => ?_⟩
        have tf6 : fl ≠ t6 := ne_of_none u1 nt6
        refine ⟨_, rfl, _, rfl, fl, _, _, i, rfl, rfl, (by rw [upd_ne tf6]; exact u1), Evl.ixN_nat (by rw [List.length_map]; exact iu), ?_⟩
        have gi := G5 _ (List.getElem_mem is5)
        refine ⟨st5.set i (st5[i].1, st5[i].1), _, _, _, rfl, by rw [List.length_set]; exact L5, goods_set G5 ⟨gi.1, gi.1⟩, StonesAt.put (s := (st5[i].1, st5[i].1)) u1 u2 u3 nt6, Ex.mut (E5.trans (Ex.new nt6)) hf⟩
      · exact ⟨st5, _, _, _, rfl, L5, G5, S5, E5⟩
    · rintro σ H2 ⟨st, x3, x4, x5, rfl, el, hg, hS2, e3⟩
      exact ⟨_, rfl, q fl st H2 e3 (fresh_back e1 nf) ⟨by omega, hg⟩ hS2⟩
end
end Sw
namespace Sw
open PySem PySem.Spec PyProof.Rows L2
open Evl (Ex Ex.refl Ex.trans Ex.new Ex.mut ex_l ex_t ex_rd fresh_back Ev EvL EvU EvT EvA RV RC RCL SpV SpL)
/-! ### a dict of ints -/
def encL (l : List (Int × Int)) : List (Key × V) := l.map fun p => ((Sum.inl p.1 : Key), V.int p.2)
theorem encL_len (l : List (Int × Int)) : (encL l).length = l.length := List.length_map _
theorem encL_val (l : List (Int × Int)) (x : Int) : valV (encL l) (Sum.inl x) = (look l x).map V.int := by
  induction l with
  | nil => rfl
  | cons p l ih =>
    rw [look_cons]
    show valV (((Sum.inl p.1 : Key), V.int p.2) :: encL l) (Sum.inl x) = _
    by_cases h : p.1 = x
    · rw [valV_pos (by show (Sum.inl p.1 : Key) = Sum.inl x; rw [h]), if_pos h]
      rfl
    · rw [valV_neg (fun q => h (Sum.inl.inj q)), if_neg h, ih]
theorem encL_put {l : List (Int × Int)} {x v : Int} (h : look l x = none) : putK (encL l) (Sum.inl x) (.int v) = encL (l ++ [(x, v)]) := by
  rw [putK_new _ (by rw [encL_val, h]; rfl)]
  unfold encL
  rw [List.map_append]
  rfl
theorem setd_read {H0 H3 : Hp} {d : Addr} {l : List (Int × Int)} {a v : Int} {Q : VK} (hd : H3 d = some (.dK (encL l))) (nd : H0 d = none) (e : Ex H0 H3) (hl : l.length < 1000)
    (q : ∀ H', Ex H0 H' → H' d = some (.dK (encL (setd l a v))) → Q (.int ((look (setd l a v) a).getD 0)) H') :
    ∃ (kvs : List (Key × V)) (k : Key), H3 d = some (.dK kvs) ∧ V.int a = kV k ∧ kvs.length < sizeLine ∧ (∀ v', valV kvs k = some v' → Q v' H3) ∧ (valV kvs k = none → Q (.int v) (upd H3 d (.dK (putK kvs k (.int v))))) := by
  refine ⟨encL l, Sum.inl a, hd, rfl, by rw [encL_len]; exact small1000 (by omega), fun v' hv => ?_, fun hv => ?_⟩
  · rw [encL_val] at hv
    obtain ⟨w, hw, rfl⟩ := Option.map_eq_some_iff.mp hv
    have es : setd l a v = l := by
      unfold setd
      rw [hw]
      rfl
    have r := q H3 e (by rw [es]; exact hd)
    rw [es, hw] at r
    exact r
  · rw [encL_val] at hv
    have hn : look l a = none := Option.map_eq_none_iff.mp hv
    have es : setd l a v = l ++ [(a, v)] := by
      unfold setd
      rw [hn]
      rfl
    have r := q (upd H3 d (.dK (putK (encL l) (Sum.inl a) (.int v)))) (Ex.mut e nd) (by rw [upd_same, encL_put hn, es])
    rw [es, look_append, hn, look_cons, if_pos rfl] at r
    exact r
/-- a dict comprehension over anything that is walked -/
theorem dc_it {J : It} {n : Nat} {G : Hp → Prop} {Y : Nat → Hp → V → Hp → Prop} (w : Walk J n G Y) {g : TG} {tt : TT} {tk tv : TE} {vs : List Nat} {σ : L2.St} {H1 : Hp} {D : Addr} {Qd : Hp → Prop} (Pv : Nat → Hp → Prop) (h0 : Pv 0 (upd H1 D (.dK []))) (hG : ∀ i H, i ≤ n → Pv i H → G H)
    (hs : ∀ i x H H', i < n → Pv i H → Y i H x H' → g x (wipe σ vs) H' fun σ2 H2 => wipe σ2 vs = wipe σ vs ∧ tt σ2 H2 fun b H3 =>
      if b = true then tk σ2 H3 fun y H4 => tv σ2 H4 fun z H5 => ∃ kvs k, y = kV k ∧ H5 D = some (.dK kvs) ∧ kvs.length < sizeLine ∧ Pv (i + 1) (upd H5 D (.dK (putK kvs k z))) else Pv (i + 1) H3) (hd : ∀ H, Pv n H → Qd H) :
    ∃ W : Nat → Nat → Hp → Prop, (∃ m, W 0 m (upd H1 D (.dK []))) ∧ ∀ i m H, W i m H →
      (J.stop i H ∧ Qd H) ∨ (J.go i H ∧ ∃ Nx : Hp → Prop, (∀ H', Nx H' → ∃ m', m' < m ∧ W (i + 1) m' H') ∧ ∀ x H', J.yld i H x H' → g x (wipe σ vs) H' fun σ2 H2 => wipe σ2 vs = wipe σ vs ∧ tt σ2 H2 fun b H3 =>
        if b = true then tk σ2 H3 fun y H4 => tv σ2 H4 fun z H5 => ∃ kvs k, y = kV k ∧ H5 D = some (.dK kvs) ∧ kvs.length < sizeLine ∧ Nx (upd H5 D (.dK (putK kvs k z))) else Nx H3) := by
  refine ⟨fun i m H => m = n - i ∧ i ≤ n ∧ Pv i H, ⟨n, rfl, Nat.zero_le _, h0⟩, ?_⟩
  rintro i m H ⟨rfl, hi, p⟩
  by_cases hlt : i < n
  · exact .inr ⟨w.goes i H hlt (hG i H hi p), Pv (i + 1), fun H' p' => ⟨n - (i + 1), by omega, rfl, hlt, p'⟩, fun x H' y => hs i x H H' hlt p (w.yields i H x H' hlt (hG i H hi p) y)⟩
  · have e : i = n := by omega
    subst e
    exact .inl ⟨w.stops H (hG i H hi p), hd H p⟩
section
variable {P : Program} {w : World} {K : PySem.W.Frag} {mg : Str → Option Value} {base : Heap}
theorem scLabels : FnScope ["stones", "labels", "first", "second", "old", "new", "number", "label"] ["stones"] (defScope sLabels) := ⟨rfl, rfl, rfl, by decide +kernel, rfl, by decide +kernel, by decide +kernel⟩
/-- a new dict of labels -/
def spLabels : Sp := fun vs H Q _ => ∃ (a : Addr) (st : List (Int × Int)), vs = [.ref a] ∧ StonesAt H a st ∧ st.length ≤ 60 ∧ ∀ d H', H d = none → Ex H H' → H' d = some (.dK (encL (labOf st))) → Q (.ref d) H'
theorem ok_labels {f : Addr} {fd : FuncData} (F : Fun K "_labels" "_labels" sLabels f fd) : FnOk P w K mg base CX0 1 f fd ["stones"] spLabels := by
  refine F.ok scLabels (fun vs H Q E h => ?_) (fun cdv A outer s H vs Q E hr h => ?_)
  · obtain ⟨a, st, rfl, _⟩ := h
    rfl
  · obtain ⟨a, st, rfl, hS, hl, q⟩ := h
    refine ⟨_, pss_cons (ps_set (i := 1) scLabels.nd rfl (.inl rfl) pe_dnewK)
      (pss_cons (ps_for PassesOwn.never rfl (pi_list (pv 0)) (pg_tup rfl (pgs_cons (pg_name (i := 2) scLabels.nd rfl (.inl rfl)) (pgs_cons (pg_name (i := 3) scLabels.nd rfl (.inl rfl)) pgs_nil)))
        (pss_cons (ps_set (i := 4) scLabels.nd rfl (.inr rfl) (pe_dsetd (pv 1) (pv 2) (pv 2) ⟨rfl, rfl, rfl, rfl⟩))
        (pss_cons (ps_set (i := 5) scLabels.nd rfl (.inr rfl) (pe_dsetd (pv 1) (pv 3) (pv 3) ⟨rfl, rfl, rfl, rfl⟩))
        (pss_one (ps_if (pt_cmpR op_ne (pv 4) (pv 5) (nomark _)) (pss_one (ps_lock (ps_setDc (n := 1) (own := [("number", 6), ("label", 7)]) (tt := tYes) (g := gTup K 2 (gCons (gName 6) (gCons (gName 7) gNil))) (tk := tVar 6) (tv := tIf (tTest (tOp rEq (tVar 7) (tVar 4))) (tVar 5) (tVar 7)) rfl scLabels.nd rfl rfl (sw_dict rfl rfl rfl (by decide +kernel)) (pi_items (pv 1)) (blkOk_by (own := [("number", 6), ("label", 7)]) (N := ["stones", "labels", "first", "second", "old", "new", "number", "label"]) (sc := defScope sLabels) (by decide +kernel))
          (fun _ _ _ _ _ => pg_tup rfl (pgs_cons (pg_name (i := 6) scLabels.nd rfl (Or.inl rfl)) (pgs_cons (pg_name (i := 7) scLabels.nd rfl (Or.inl rfl)) pgs_nil))) (fun _ _ _ _ _ => pts_nil) (fun _ _ _ _ _ => pv 6) (fun _ _ _ _ _ => pe_ifExp (pt_cmpR op_eq (pv 7) (pv 4) (nomark _)) (pv 5) (pv 7))))) pss_nil)))))
      (pss_one (ps_ret (pv 1)))), ?_⟩
    refine fun d nd => ?_
    obtain ⟨ts, t1, t2, t3⟩ := id hS
    have e1 : Ex H (upd H d (.dK [])) := Ex.new nd
    refine ⟨_, rfl, a, rfl, ⟨_, SqL.of (e1 _ _ t1)⟩, for_list (K := K) (a := a) (xs := ts.map V.ref) (fun i σ H' => ∃ (d : Addr) (x2 x3 x4 x5 x6 x7 : Option V), σ = [some (.ref a), some (.ref d), x2, x3, x4, x5, x6, x7] ∧ Ex H H' ∧ H d = none ∧ H' d = some (.dK (encL ((st.take i).foldl labStep []))))
      ⟨d, _, _, _, _, _, _, rfl, e1, nd, upd_same⟩ (fun i σ H' _ ⟨_, _, _, _, _, _, _, _, e, _⟩ => SqL.of (e _ _ t1)) ?_ ?_⟩
    · rintro i y σ H1 hi ⟨d, x2, x3, x4, x5, x6, x7, rfl, e2, nd, hd⟩
      rw [List.getElem?_map] at hi
      obtain ⟨t, ht, rfl⟩ := Option.map_eq_some_iff.mp hi
      have hit : i < st.length := by
        rw [← t2]
        exact (List.getElem?_eq_some_iff.mp ht).1
      have hst : st[i]? = some (sa st i, sb st i) := st_at hit
      have htt := t3 i t _ ht hst
      obtain ⟨l1, l2⟩ := labTake_ok st i
      rw [labTake_succ hst]
      generalize sa st i = p at htt
      generalize sb st i = r at htt
      generalize (st.take i).foldl labStep [] = l at hd l1 l2
      refine ⟨t, [.int p, .int r], rfl, SqT.of (e2 _ _ htt), rfl, .int p, [.int r], rfl, .int r, [], rfl, rfl, ?_⟩
      refine ⟨_, rfl, d, rfl, .inl ⟨_, .inl hd⟩, _, rfl, _, rfl, setd_read hd nd e2 (by omega) fun H2 e3 hd2 => ?_⟩
      have k1 := setd_len l p p
      refine ⟨_, rfl, d, rfl, .inl ⟨_, .inl hd2⟩, _, rfl, _, rfl, setd_read hd2 nd e3 (by omega) fun H3 e4 hd3 => ?_⟩
      have k2 := setd_len (setd l p p) r r
      have k3 := setd_keys _ r r (setd_keys l p p l2)
      have step : labStep l (p, r) = if (look (setd l p p) p).getD 0 ≠ (look (setd (setd l p p) r r) r).getD 0 then relab ((look (setd l p p) p).getD 0) ((look (setd (setd l p p) r r) r).getD 0) (setd (setd l p p) r r) else setd (setd l p p) r r := by
        rw [← look_second l p r]
        rfl
      generalize (look (setd l p p) p).getD 0 = o at step ⊢
      generalize (look (setd (setd l p p) r r) r).getD 0 = n at step ⊢
      generalize setd (setd l p p) r r = l3 at step hd3 k2 k3
      refine ⟨_, rfl, _, rfl, rfl, _, rfl, ite2 (fun hne => ?_) (fun hne => ?_)⟩
      · have hne : o ≠ n := fun e => by
          rw [e, decide_eq_true rfl] at hne
          exact absurd hne Bool.false_ne_true
        rw [if_pos hne] at step
        rw [step]
        refine ⟨d, _, hd3, trivial, fun od => ?_⟩
        refine ⟨_, rfl, d, od, _, rfl, upd_same, fun D nD => dc_it walk_items (fun j H' => Ex (upd H3 d (.frz od (.dK (encL l3)))) H' ∧ H' D = some (.dK (encL ((relab o n l3).take j)))) ⟨Ex.new nD, upd_same⟩ (fun j H' _ h => h.1 _ _ upd_same) ?_ ?_⟩
        · rintro j x H4 H5 hj ⟨e5, hD⟩ ⟨T, x1, y1, rfl, nT, rfl, hx, hy⟩
          obtain ⟨p', hp', rfl, rfl⟩ : ∃ p' : Int × Int, l3[j]? = some p' ∧ x1 = .int p'.1 ∧ y1 = .int p'.2 := by
            rw [encL_len] at hj
            refine ⟨l3[j], List.getElem?_eq_getElem hj, ?_, ?_⟩
            · unfold encL at hx
              dsimp only at hx
              rw [List.getElem?_map, List.getElem?_eq_getElem hj] at hx
              exact (Option.some.inj hx).symm
            · unfold encL at hy
              dsimp only at hy
              rw [List.getElem?_map, List.getElem?_eq_getElem hj] at hy
              exact (Option.some.inj hy).symm
          have hput : ∀ z : Int, z = (if p'.2 = o then n else p'.2) → putK (encL ((relab o n l3).take j)) (Sum.inl p'.1) (.int z) = encL ((relab o n l3).take (j + 1)) := fun z hz => by
            rw [encL_put (relab_take_look k3 hp'), List.take_add_one, relab_at hp', hz]
            rfl
          have hlt : (encL ((relab o n l3).take j)).length < sizeLine := by
            rw [encL_len, List.length_take, relab_len]
            exact small1000 (by have := Nat.min_le_right j l3.length; omega)
          have tD : D ≠ T := ne_of_none hD nT
          refine ⟨T, [.int p'.1, .int p'.2], rfl, SqT.of upd_same, rfl, .int p'.1, [.int p'.2], rfl, .int p'.2, [], rfl, rfl, rfl, ?_⟩
          unfold tYes
          dsimp only
          rw [if_pos rfl]
          refine ⟨_, rfl, _, rfl, _, rfl, rfl, _, rfl, ite2 (fun hb => ?_) (fun hb => ?_)⟩
          · have hb : p'.2 = o := V.int.inj (of_decide_eq_true hb)
            refine ⟨_, rfl, _, Sum.inl p'.1, rfl, (by rw [upd_ne tD]; exact hD), hlt, Ex.mut (e5.trans (Ex.new nT)) nD, ?_⟩
            rw [upd_same, hput n (by rw [if_pos hb])]
          · have hb : ¬ p'.2 = o := fun z => hb (decide_eq_true (by rw [z]))
            refine ⟨_, rfl, _, Sum.inl p'.1, rfl, (by rw [upd_ne tD]; exact hD), hlt, Ex.mut (e5.trans (Ex.new nT)) nD, ?_⟩
            rw [upd_same, hput p'.2 (by rw [if_neg hb])]
        · rintro H4 ⟨e5, hD⟩
          rw [encL_len, ← relab_len o n l3, List.take_length] at hD
          have dD : D ≠ d := fun e => by
            rw [e, upd_same] at nD
            cases nD
          refine ⟨e5 _ _ upd_same, D, _, _, _, _, _, _, rfl, fun b ob hb => ?_, ?_, ?_⟩
          · have bd : b ≠ d := ne_of_none hb nd
            rw [upd_ne bd]
            exact e5 _ _ (by rw [upd_ne bd]; exact e4 _ _ hb)
          · rw [upd_ne dD] at nD
            exact fresh_back e4 nD
          · rw [upd_ne dD]
            exact hD
      · have hne : o = n := by
          by_cases e : o = n
          · exact e
          · exact absurd (show (!decide (V.int o = V.int n)) = true by rw [decide_eq_false fun q => e (V.int.inj q)]; rfl) hne
        rw [if_neg (fun z => z hne)] at step
        rw [step]
        exact ⟨d, _, _, _, _, _, _, rfl, e4, nd, hd3⟩
    · rintro σ H1 ⟨d, x2, x3, x4, x5, x6, x7, rfl, e2, nd, hd⟩
      rw [List.length_map, t2, List.take_length] at hd
      exact ⟨_, rfl, q d H1 nd e2 hd⟩
end
end Sw
namespace Sw
open PySem PySem.Spec PyProof.Rows L2
open Evl (Ex Ex.refl Ex.trans Ex.new Ex.mut ex_l ex_t ex_rd fresh_back Ev EvL EvU EvT EvA RV RC RCL SpV SpL)
/-- a list, its label, its places -/
abbrev Ent := Addr × Int × List Nat
def encG (T : List Ent) : List (Key × V) := T.map fun t => ((Sum.inl t.2.1 : Key), V.ref t.1)
theorem encG_none {T : List Ent} {k : Int} (h : k ∉ T.map fun t => t.2.1) : valV (encG T) (Sum.inl k) = none := by
  induction T with
  | nil => rfl
  | cons t T ih =>
    show valV (((Sum.inl t.2.1 : Key), V.ref t.1) :: encG T) (Sum.inl k) = none
    rw [valV_neg (fun q => h (by rw [List.map_cons, Sum.inl.inj q]; exact List.mem_cons_self))]
    exact ih fun m => h (List.mem_cons.mpr (.inr m))
theorem encG_some {T : List Ent} {k : Int} (h : k ∈ T.map fun t => t.2.1) : ∃ t ∈ T, t.2.1 = k ∧ valV (encG T) (Sum.inl k) = some (.ref t.1) := by
  induction T with
  | nil => cases h
  | cons t T ih =>
    by_cases e : t.2.1 = k
    · exact ⟨t, List.mem_cons_self, e, valV_pos (p := ((Sum.inl t.2.1 : Key), V.ref t.1)) (by show (Sum.inl t.2.1 : Key) = Sum.inl k; rw [e])⟩
    · rcases List.mem_cons.mp h with z | z
      · exact absurd z.symm e
      · obtain ⟨u, hu, e1, e2⟩ := ih z
        refine ⟨u, List.mem_cons.mpr (.inr hu), e1, ?_⟩
        rw [← e2]
        exact valV_neg (p := ((Sum.inl t.2.1 : Key), V.ref t.1)) fun q => e (Sum.inl.inj q)
def addTo (k : Int) (i : Nat) (T : List Ent) : List Ent := T.map fun t => (t.1, t.2.1, if t.2.1 = k then t.2.2 ++ [i] else t.2.2)
theorem addTo_enc (k : Int) (i : Nat) (T : List Ent) : encG (addTo k i T) = encG T := by
  unfold encG addTo
  rw [List.map_map]
  rfl
theorem addTo_fst (k : Int) (i : Nat) (T : List Ent) : (addTo k i T).map (·.1) = T.map (·.1) := by
  unfold addTo
  rw [List.map_map]
  rfl
theorem addTo_snd (k : Int) (i : Nat) (T : List Ent) : (addTo k i T).map (·.2) = (T.map (·.2)).map fun e => (e.1, if e.1 = k then e.2 ++ [i] else e.2) := by
  unfold addTo
  rw [List.map_map, List.map_map]
  rfl
theorem nats_snoc (l : List Nat) (i : Nat) : nats (l ++ [i]) = nats l ++ [.int (i : Int)] := by
  unfold nats
  rw [List.map_append]
  rfl
/-- the dict of lists of places, all its own -/
structure GrpAt (H H' : Hp) (d : Addr) (T : List Ent) : Prop where
  ex : Ex H H'
  nd : H d = none
  at_ : H' d = some (.dK (encG T))
  ap : (T.map (·.1)).Nodup
  in_ : ∀ t ∈ T, H t.1 = none ∧ t.1 ≠ d ∧ H' t.1 = some (.lst (nats t.2.2))
theorem GrpAt.up {H H' H'' : Hp} {d : Addr} {T : List Ent} (g : GrpAt H H' d T) (e : Ex H' H'') : GrpAt H H'' d T :=
  ⟨g.ex.trans e, g.nd, e _ _ g.at_, g.ap, fun t ht => ⟨(g.in_ t ht).1, (g.in_ t ht).2.1, e _ _ (g.in_ t ht).2.2⟩⟩
theorem cls_look {st : List (Int × Int)} {i : Nat} (h : i < st.length) : valV (encL (labOf st)) (Sum.inl (sa st i)) = some (.int (cls st i)) := by
  rw [encL_val]
  obtain ⟨m, em⟩ := Option.isSome_iff_exists.mp (((labOf_ok st).key (sa st i)).mpr (st_ends h).1)
  unfold cls lab
  rw [em]
  rfl
theorem nd_inj {T : List Ent} (h : (T.map (·.1)).Nodup) {t u : Ent} (ht : t ∈ T) (hu : u ∈ T) (e : t.1 = u.1) : t = u := by
  obtain ⟨i, hi⟩ := List.mem_iff_getElem?.mp ht
  obtain ⟨j, hj⟩ := List.mem_iff_getElem?.mp hu
  have hi' : (T.map (·.1))[i]? = some t.1 := by rw [List.getElem?_map, hi]; rfl
  have hj' : (T.map (·.1))[j]? = some t.1 := by rw [List.getElem?_map, hj, e]; rfl
  have := nd_ix h hi' hj'
  subst this
  exact Option.some.inj (hi.symm.trans hj)
theorem GrpAt.old {H H' : Hp} {d : Addr} {T : List Ent} (g : GrpAt H H' d T) {k : Int} {i : Nat} {t : Ent} (ht : t ∈ T) (hk : t.2.1 = k) (kn : (T.map fun t => t.2.1).Nodup) {H2 : Hp} (e : Ex H' H2) : GrpAt H (upd H2 t.1 (.lst (nats t.2.2 ++ [.int (i : Int)]))) d (addTo k i T) := by
  obtain ⟨n1, n2, n3⟩ := g.in_ t ht
  refine ⟨Ex.mut (g.ex.trans e) n1, g.nd, ?_, by rw [addTo_fst]; exact g.ap, fun u hu => ?_⟩
  · rw [upd_ne (fun z => n2 z.symm), addTo_enc]
    exact e _ _ g.at_
  · obtain ⟨v, hv, rfl⟩ := List.mem_map.mp hu
    obtain ⟨m1, m2, m3⟩ := g.in_ v hv
    refine ⟨m1, m2, ?_⟩
    by_cases c : v.1 = t.1
    · have := nd_inj g.ap hv ht c
      subst this
      show upd H2 v.1 _ v.1 = some (.lst (nats (if v.2.1 = k then v.2.2 ++ [i] else v.2.2)))
      rw [upd_same, if_pos hk, nats_snoc]
    · have ck : v.2.1 ≠ k := fun z => by
        obtain ⟨a, ha⟩ := List.mem_iff_getElem?.mp hv
        obtain ⟨b, hb⟩ := List.mem_iff_getElem?.mp ht
        have ha' : (T.map fun t => t.2.1)[a]? = some k := by rw [List.getElem?_map, ha, ← z]; rfl
        have hb' : (T.map fun t => t.2.1)[b]? = some k := by rw [List.getElem?_map, hb, ← hk]; rfl
        have := nd_ix kn ha' hb'
        subst this
        have := Option.some.inj (ha.symm.trans hb)
        exact c (by rw [this])
      show upd H2 t.1 _ v.1 = some (.lst (nats (if v.2.1 = k then v.2.2 ++ [i] else v.2.2)))
      rw [upd_ne c, if_neg ck]
      exact e _ _ m3
theorem GrpAt.new {H H' : Hp} {d : Addr} {T : List Ent} (g : GrpAt H H' d T) {k : Int} {i : Nat} (hk : k ∉ T.map fun t => t.2.1) {p : Addr} (np : H' p = none) :
    GrpAt H (upd (upd (upd H' p (.lst [])) d (.dK (putK (encG T) (Sum.inl k) (.ref p)))) p (.lst (nats [i]))) d (T ++ [(p, k, [i])]) := by
  have np0 : H p = none := fresh_back g.ex np
  have pd : p ≠ d := fun z => by
    rw [z, g.at_] at np
    cases np
  refine ⟨Ex.mut (Ex.mut (g.ex.trans (Ex.new np)) g.nd) np0, g.nd, ?_, ?_, fun u hu => ?_⟩
  · rw [upd_ne (fun z => pd z.symm), upd_same, putK_new _ (encG_none hk)]
    unfold encG
    rw [List.map_append]
    rfl
  · rw [List.map_append]
    refine List.nodup_append.mpr ⟨g.ap, by simp, fun a ha b hb z => ?_⟩
    have hb : b = p := List.mem_singleton.mp hb
    obtain ⟨t, ht, et⟩ := List.mem_map.mp ha
    have q := (g.in_ t ht).2.2
    rw [et, z, hb, np] at q
    cases q
  · rcases List.mem_append.mp hu with hu | hu
    · obtain ⟨m1, m2, m3⟩ := g.in_ u hu
      have up : u.1 ≠ p := fun z => by
        rw [z, np] at m3
        cases m3
      refine ⟨m1, m2, ?_⟩
      rw [upd_ne up, upd_ne m2, upd_ne up]
      exact m3
    · have hu := List.mem_singleton.mp hu
      subst hu
      refine ⟨np0, pd, upd_same⟩
section
variable {P : Program} {w : World} {K : PySem.W.Frag} {mg : Str → Option Value} {base : Heap}
theorem scGroups : FnScope ["stones", "labels", "found", "place", "stone"] ["stones"] (defScope sGroups) := ⟨rfl, rfl, rfl, by decide +kernel, rfl, by decide +kernel, by decide +kernel⟩
def spGroups : Sp := fun vs H Q _ => ∃ (a : Addr) (st : List (Int × Int)), vs = [.ref a] ∧ StonesAt H a st ∧ Good st ∧ ∀ p T H', Ex H H' → NewLL H H' p T → T.map (·.2) = grps st → Q (.ref p) H'
theorem ok_groups {f fN fL : Addr} {fd fdN fdL : FuncData} (F : Fun K "groups" "groups" sGroups f fd) (mE : mg "enumerate" = none) (mLi : mg "list" = none)
    (GN : FnOk P w K mg base CX0 4 fN fdN ["thing"] spNeed) (gN : mg "need_stones" = some (.ref fN)) (kN : PySem.W.keepIn K (.ref fN) = true) (bN : Binds K fdN ["thing"] [])
    (GL : FnOk P w K mg base CX0 1 fL fdL ["stones"] spLabels) (gL : mg "_labels" = some (.ref fL)) (kL : PySem.W.keepIn K (.ref fL) = true) (bL : Binds K fdL ["stones"] []) : FnOk P w K mg base CX0 5 f fd ["stones"] spGroups := by
  refine F.ok scGroups (fun vs H Q E h => ?_) (fun cdv A outer s H vs Q E hr h => ?_)
  · obtain ⟨a, st, rfl, _⟩ := h
    rfl
  · obtain ⟨a, st, rfl, hS, hG, q⟩ := h
    have hr1 : Room 1 _ := hr.mono (by decide)
    refine ⟨_, pss_cons (ps_expr (pe_call GN hr (by rfl) gN kN bN .nil pass0 (pa_cons (pv 0) pa_nil)))
      (pss_cons (ps_set (i := 1) scGroups.nd rfl (.inl rfl) (pe_call GL hr1 (by rfl) gL kL bL .nil pass0 (pa_cons (pv 0) pa_nil)))
      (pss_cons (ps_set (i := 2) scGroups.nd rfl (.inl rfl) pe_dnewK)
      (pss_cons (ps_for PassesOwn.never rfl (pi_enum (by rfl) mE (pa_cons (pv 0) pa_nil)) (pg_tup rfl (pgs_cons (pg_name (i := 3) scGroups.nd rfl (.inl rfl)) (pgs_cons (pg_name (i := 4) scGroups.nd rfl (.inl rfl)) pgs_nil)))
        (pss_one (ps_expr (pe_bm PySem.F.plainAttrs_list PySem.F.slot_list_append PySem.F.type_list_append mt_append (pe_dsetd (pv 2) (pe_dget (hu_of hr) (pv 1) (pe_ix ix_tup (pv 4) pe_int (fun _ _ => rfl)) (fun _ _ => rfl)) (pe_lst pa_nil) ⟨rfl, rfl, rfl, rfl⟩) (pa_cons (pv 3) pa_nil)))))
      (pss_one (ps_ret (pe_listVals rfl (by rfl) mLi (pv 2))))))), ?_⟩
    refine ⟨_, rfl, a, st, rfl, hS, hG, fun H1 e1 => ?_⟩
    have hS1 := hS.ex e1
    refine ⟨_, rfl, a, st, rfl, hS1, hG.1, fun dl H2 ndl e2 hdl d nd => ?_⟩
    have hS2 := hS1.ex e2
    have e12 := e1.trans e2
    have nd0 : H d = none := fresh_back e12 nd
    obtain ⟨ts, t1, t2, t3⟩ := id hS
    have dd : dl ≠ d := ne_of_none hdl nd
    refine ⟨_, rfl, a, _, rfl, SqL.of ((e12.trans (Ex.new nd)) _ _ t1), for_it (walk_enum (xs := ts.map V.ref)) (fun i σ H' => ∃ (T : List Ent) (x3 x4 : Option V), σ = [some (.ref a), some (.ref dl), some (.ref d), x3, x4] ∧ GrpAt H H' d T ∧ H' dl = some (.dK (encL (labOf st))) ∧ (∀ t ∈ T, t.1 ≠ dl) ∧ T.map (·.2) = grpD (cls st) i)
      ⟨[], none, none, rfl, ⟨e12.trans (Ex.new nd), nd0, upd_same, List.nodup_nil, fun t ht => nomatch ht⟩, by rw [upd_ne dd]; exact hdl, fun t ht => (nomatch ht), rfl⟩ (fun i σ H' _ ⟨T, _, _, _, g, _⟩ => SqL.of (g.ex _ _ t1)) ?_ ?_⟩
    · rintro i x σ H3 H4 hi ⟨T, x3, x4, rfl, g, hdl3, hnl, hT⟩ ⟨Tp, p, s, rfl, nT, rfl, hp, hs⟩
      have hp : p = .int (i : Int) := (Option.some.inj hp).symm
      subst hp
      have hs : (ts.map V.ref)[i]? = some s := hs
      rw [List.getElem?_map] at hs
      obtain ⟨t, ht, rfl⟩ := Option.map_eq_some_iff.mp hs
      have hit : i < st.length := by
        rw [← t2]
        exact (List.getElem?_eq_some_iff.mp ht).1
      have htt := t3 i t _ ht (st_at hit)
      have e4 : Ex H3 (upd H3 Tp (.tup [.int (i : Int), .ref t])) := Ex.new nT
      refine ⟨Tp, [.int (i : Int), .ref t], rfl, SqT.of upd_same, rfl, .int (i : Int), [.ref t], rfl, .ref t, [], rfl, rfl, ?_⟩
      have g4 := g.up e4
      have hdl4 := e4 _ _ hdl3
      have nl4 : ∀ t ∈ T, t.1 ≠ dl := hnl
      generalize upd H3 Tp (.tup [.int (i : Int), .ref t]) = H4 at e4 g4 hdl4
      refine ⟨_, rfl, d, rfl, .inl ⟨_, .inl g4.at_⟩, _, rfl, _, rfl, t, _, 0, _, rfl, rfl, SqT.of (g4.ex _ _ htt), atI_nat (j := 0) rfl, dl, .int (cls st i), rfl, ?_, ?_⟩
      · rw [← cls_look hit]
        exact DGet.k (k := Sum.inl (sa st i)) hdl4
      refine ⟨Nat.zero_le _, fun p np => ?_⟩
      have e5 : Ex H4 (upd H4 p (.lst [])) := Ex.new np
      have kk : (grpD (cls st) i).map (·.1) = T.map fun t => t.2.1 := by
        rw [← hT, List.map_map]
        rfl
      have kn : (T.map fun t => t.2.1).Nodup := by
        rw [← kk]
        exact grpD_nodup _ _
      have tl : T.length ≤ i := by
        have h1 := congrArg List.length hT
        have h2 := grpD_len (cls st) i
        rw [List.length_map] at h1
        omega
      have hG1 := hG.1
      refine ⟨encG T, Sum.inl (cls st i), e5 _ _ g4.at_, rfl, ?_, fun v hv => ?_, fun hv => ?_⟩
      · unfold encG
        rw [List.length_map]
        exact small1000 (by omega)
      · -- the list is there
        by_cases c : cls st i ∈ T.map fun t => t.2.1
        · obtain ⟨u, hu, e1, e2⟩ := encG_some c
          have ev : v = .ref u.1 := Option.some.inj (hv.symm.trans e2)
          subst ev
          obtain ⟨m1, m2, m3⟩ := g4.in_ u hu
          have m4 := e5 _ _ m3
          have ul : u.2.2.length ≤ i := by
            have h1 : u.2 ∈ grpD (cls st) i := by
              rw [← hT]
              exact List.mem_map.mpr ⟨u, hu, rfl⟩
            unfold grpD at h1
            obtain ⟨z, _, h2⟩ := List.mem_map.mp h1
            rw [← h2]
            have h3 := List.length_filter_le (fun q => decide (cls st q = cls st z)) (List.range i)
            rw [List.length_range] at h3
            exact h3
          refine ⟨.inl ⟨rfl, _, SqL.of m4⟩, _, rfl, u.1, _, _, rfl, rfl, m4, by rw [nats_len]; exact small1000 (by omega), ?_⟩
          refine ⟨addTo (cls st i) i T, _, _, rfl, g4.old hu e1 kn e5, ?_, fun t ht => ?_, ?_⟩
          · rw [upd_ne (fun z => nl4 u hu z.symm)]
            exact e5 _ _ hdl4
          · obtain ⟨w, hw, rfl⟩ := List.mem_map.mp ht
            exact nl4 w hw
          · rw [addTo_snd, hT]
            obtain ⟨j, hj, ej⟩ := (grpD_key (cls st) i (cls st i)).mp (by rw [kk]; exact c)
            exact (grpD_old (cls st) i ⟨j, hj, ej⟩).symm
        · rw [encG_none c] at hv
          cases hv
      · -- a new list
        have c : cls st i ∉ T.map fun t => t.2.1 := fun c => by
          obtain ⟨u, hu, e1, e2⟩ := encG_some c
          rw [e2] at hv
          cases hv
        have pd : p ≠ d := fun z => by
          rw [z, g4.at_] at np
          cases np
        refine ⟨.inl ⟨rfl, _, SqL.of (by rw [upd_ne pd, upd_same])⟩, _, rfl, p, [], _, rfl, rfl, by rw [upd_ne pd, upd_same], by decide, ?_⟩
        have pdl : dl ≠ p := ne_of_none hdl4 np
        refine ⟨T ++ [(p, cls st i, [i])], _, _, rfl, g4.new c np, ?_, fun t ht => ?_, ?_⟩
        · rw [upd_ne pdl, upd_ne dd, upd_ne pdl]
          exact hdl4
        · rcases List.mem_append.mp ht with ht | ht
          · exact nl4 t ht
          · rw [List.mem_singleton.mp ht]
            exact fun z => pdl z.symm
        · rw [List.map_append, hT, grpD_new (cls st) i fun j hj ej => c (by rw [← kk]; exact (grpD_key _ _ _).mpr ⟨j, hj, ej⟩)]
          rfl
    · rintro σ H3 ⟨T, x3, x4, rfl, g, hdl3, hnl, hT⟩
      rw [List.length_map, t2] at hT
      refine ⟨_, rfl, d, _, rfl, g.at_, fun p np => ?_⟩
      have e5 : Ex H3 (upd H3 p (.lst ((encG T).map (·.2)))) := Ex.new np
      refine q p (T.map fun t => (t.1, t.2.2)) _ (g.ex.trans e5) ⟨fresh_back g.ex np, ?_, ?_, fun u hu => ?_⟩ ?_
      · rw [upd_same]
        unfold encG
        rw [List.map_map, List.map_map]
        rfl
      · rw [List.map_map]
        exact g.ap
      · obtain ⟨t, ht, rfl⟩ := List.mem_map.mp hu
        obtain ⟨m1, m2, m3⟩ := g.in_ t ht
        exact ⟨m1, ne_of_none m3 np, e5 _ _ m3⟩
      · rw [List.map_map]
        unfold grps
        rw [← grpD_snd, ← hT, List.map_map]
        rfl
end
end Sw
namespace Sw
open PySem PySem.Spec PyProof.Rows L2
open Evl (Ex Ex.refl Ex.trans Ex.new Ex.mut ex_l ex_t ex_rd fresh_back Ev EvL EvU EvT EvA RV RC RCL SpV SpL)
/-- a stone's tuple -/
theorem StonesAt.get {H : Hp} {a : Addr} {st : List (Int × Int)} (h : StonesAt H a st) {p : Nat} (hp : p < st.length) : ∃ (ts : List Addr) (t : Addr), H a = some (.lst (ts.map V.ref)) ∧ (ts.map V.ref)[p]? = some (.ref t) ∧ H t = some (.tup [.int (sa st p), .int (sb st p)]) := by
  obtain ⟨ts, h1, h2, h3⟩ := h
  have ht : p < ts.length := by omega
  refine ⟨ts, ts[p], h1, ?_, h3 p _ _ (List.getElem?_eq_getElem ht) (st_at hp)⟩
  rw [List.getElem?_map, List.getElem?_eq_getElem ht]
  rfl
end Sw
namespace Sw
open PySem PySem.Spec PyProof.Rows L2
open Evl (Ex Ex.refl Ex.trans Ex.new Ex.mut ex_l ex_t ex_rd fresh_back Ev EvL EvU EvT EvA RV RC RCL SpV SpL)
section
variable {P : Program} {w : World} {K : PySem.W.Frag} {mg : Str → Option Value} {base : Heap}
/-! ### odd_ends -/
/-- a dict of counts -/
def CntOk (E : List Int) (kvs : List (Key × V)) : Prop := ∃ ks : List Int, kvs.map (·.1) = ks.map Sum.inl ∧ ks.Nodup ∧ (∀ k, k ∈ ks ↔ k ∈ E) ∧ (∀ k : Int, valV kvs (Sum.inl k) = if k ∈ E then some (.int ((E.count k : Nat) : Int)) else none) ∧ kvs.length ≤ E.length
theorem cnt_nil : CntOk [] [] := by
  refine ⟨[], rfl, List.nodup_nil, fun k => Iff.rfl, fun k => ?_, Nat.le_refl _⟩
  rw [if_neg (by simp)]
  rfl
theorem CntOk.put {E : List Int} {kvs : List (Key × V)} (h : CntOk E kvs) (x : Int) {z : Int} (hz : z = ((E.count x : Nat) : Int) + 1) : CntOk (E ++ [x]) (putK kvs (Sum.inl x) (.int z)) := by
  obtain ⟨ks, h1, h2, h3, h4, h5⟩ := h
  have hv : ∀ k : Int, valV (putK kvs (Sum.inl x) (V.int z)) (Sum.inl k) = if k ∈ E ++ [x] then some (.int (((E ++ [x]).count k : Nat) : Int)) else none := by
    intro k
    rw [valV_put]
    by_cases e : k = x
    · rw [if_pos (by rw [e]), if_pos (List.mem_append.mpr (.inr (List.mem_singleton.mpr e))), e, hz, List.count_append]
      have : ([x] : List Int).count x = 1 := by simp
      rw [this]
      rfl
    · rw [if_neg (fun q => e (Sum.inl.inj q)), h4 k]
      have c0 : ([x] : List Int).count k = 0 := List.count_eq_zero.mpr fun m => e (List.mem_singleton.mp m)
      rw [List.count_append, c0, Nat.add_zero]
      by_cases m : k ∈ E
      · rw [if_pos m, if_pos (List.mem_append.mpr (.inl m))]
      · rw [if_neg m, if_neg fun q => (List.mem_append.mp q).elim m fun q => e (List.mem_singleton.mp q)]
  have hlen := length_putK kvs (Sum.inl x) (V.int z)
  by_cases m : x ∈ E
  · refine ⟨ks, ?_, h2, fun k => ?_, hv, ?_⟩
    · unfold putK
      rw [valV_any, h4 x, if_pos m, Option.isSome_some, if_pos (Eq.refl true), ← h1, List.map_map]
      refine List.map_congr_left fun p _ => ?_
      show (if p.1 = Sum.inl x then (p.1, V.int z) else p).1 = p.1
      split <;> rfl
    · rw [h3, List.mem_append]
      exact ⟨.inl, fun q => q.elim id fun q => by rw [List.mem_singleton.mp q]; exact m⟩
    · rw [List.length_append]
      show _ ≤ E.length + 1
      omega
  · refine ⟨ks ++ [x], ?_, ?_, fun k => ?_, hv, ?_⟩
    · rw [putK_new _ (by rw [h4 x, if_neg m]), List.map_append, List.map_append, h1]
      rfl
    · refine List.nodup_append.mpr ⟨h2, by simp, fun a ha b hb q => ?_⟩
      rw [q, List.mem_singleton.mp hb] at ha
      exact m ((h3 x).mp ha)
    · rw [List.mem_append, List.mem_append, h3]
    · rw [List.length_append]
      show _ ≤ E.length + 1
      omega
theorem CntOk.get {E : List Int} {kvs : List (Key × V)} (h : CntOk E kvs) (x : Int) : (valV kvs (Sum.inl x)).getD (.int 0) = .int ((E.count x : Nat) : Int) := by
  obtain ⟨ks, h1, h2, h3, h4, h5⟩ := h
  rw [h4 x]
  by_cases m : x ∈ E
  · rw [if_pos m]
    rfl
  · rw [if_neg m, List.count_eq_zero.mpr m]
    rfl
def srt (l : List Int) : List Int := l.mergeSort fun a b => decide (a ≤ b)
theorem srt_perm (l : List Int) : (srt l).Perm l := List.mergeSort_perm _ _
theorem srt_up (l : List Int) : (srt l).Pairwise (· ≤ ·) := by
  have h := List.pairwise_mergeSort (le := fun a b : Int => decide (a ≤ b)) (fun a b c h1 h2 => by simp at *; omega) (fun a b => by simp; omega) l
  exact h.imp fun h => of_decide_eq_true h
theorem el_sortKeys {σ : L2.St} {te : TE} {H : Hp} {d : Addr} {kvs : List (Key × V)} {ks : List Int} (h : Ev te σ H (.ref d)) (hd : H d = some (.dK kvs)) (hk : kvs.map (·.1) = ks.map Sum.inl) : EvL (tCB rSortedKeys (tCons te tNil)) σ H ((srt ks).map V.int) := fun H1 e Q q =>
  h H1 e _ fun H2 e2 => ⟨d, kvs, ks, rfl, .inl (e2 _ _ (e _ _ hd)), hk, fun ys p hp hs np => by
    have e3 : ys = srt ks := perm_sorted_eq (hp.trans (srt_perm ks).symm) hs (srt_up ks)
    subst e3
    exact q p _ (fresh_back e2 np) (e2.trans (Ex.new np)) upd_same⟩
theorem scOddE : FnScope ["stones", "group", "times", "place", "number"] ["stones", "group"] (defScope sOddE) := ⟨rfl, rfl, rfl, by decide +kernel, rfl, by decide +kernel, by decide +kernel⟩
def spOddE (K : PySem.W.Frag) : Sp := fun vs H Q _ => ∃ (a g : Addr) (st : List (Int × Int)) (ps : List Nat), vs = [.ref a, .ref g] ∧ StonesAt H a st ∧ Good st ∧ H g = some (.lst (nats ps)) ∧ (∀ p ∈ ps, p < st.length) ∧ ps.length ≤ 100 ∧ Evl.RetL ((odds st ps).map V.int) H Q
theorem ok_oddE {f fN : Addr} {fd fdN : FuncData} (F : Fun K "odd_ends" "odd_ends" sOddE f fd) (mL : mg "len" = none) (mSo : mg "sorted" = none)
    (GN : FnOk P w K mg base CX0 4 fN fdN ["thing"] spNeed) (gN : mg "need_stones" = some (.ref fN)) (kN : PySem.W.keepIn K (.ref fN) = true) (bN : Binds K fdN ["thing"] []) : FnOk P w K mg base CX0 5 f fd ["stones", "group"] (spOddE K) := by
  refine F.ok scOddE (fun vs H Q E h => ?_) (fun cdv A outer s H vs Q E hr h => ?_)
  · obtain ⟨a, g, st, ps, rfl, _⟩ := h
    rfl
  · obtain ⟨a, g, st, ps, rfl, hS, hG, hg, hp, hl, q⟩ := h
    refine ⟨_, pss_cons (ps_expr (pe_call GN hr (by rfl) gN kN bN .nil pass0 (pa_cons (pv 0) pa_nil)))
      (pss_cons (ps_set (i := 2) scOddE.nd rfl (.inr rfl) pe_dnewK)
      (pss_cons (ps_for PassesOwn.never rfl (pi_list (pv 1)) (pg_name (i := 3) scOddE.nd rfl (.inl rfl))
        (pss_one (ps_if (pt_chain op_le op_lt pe_int (pv 3) (pe_callB call_len_seq (by rfl) mL boot_len (pa_cons (pv 0) pa_nil)))
          (pss_one (ps_for PassesOwn.never rfl (pi_tup (pe_ix ix_list (pv 0) (pv 3) (fun _ _ => rfl))) (pg_name (i := 4) scOddE.nd rfl (.inl rfl))
            (pss_one (ps_dput (hu_of hr) (pv 2) (pv 4) (pe_op op_add (pe_dget2 (hu_of hr) (pv 2) (pv 4) pe_int ⟨rfl, rfl, rfl, rfl⟩) pe_int) rfl)))) pss_nil)))
      (pss_one (ps_ret (pe_lc (own := [("number", 4)]) (g := gName 4) (tt := tTest (tOp rEq (tOp rModP (tDGet (tVar 2) (tVar 4)) (tC (.int 2))) (tC (.int 1)))) rfl scOddE.nd (pi_list (pe_callB (cr_sortedKeys rfl) (by rfl) mSo PyProof.Rows.boot_sorted (pa_cons (pv 2) pa_nil))) (blkOk_by (N := ["stones", "group", "times", "place", "number"]) (sc := defScope sOddE) (by decide +kernel))
          (fun _ _ _ _ _ => pg_name (i := 4) scOddE.nd rfl (Or.inl rfl)) (fun _ _ _ _ _ => pts_one (pt_cmpR op_eq (pe_op (r := rModP) op_mod (pe_dget (hu_of hr) (pv 2) (pv 4) (fun _ _ => rfl)) pe_int) pe_int (nomark _)))
          (fun _ _ _ _ _ => pv 4)))))), ?_⟩
    refine ⟨_, rfl, a, st, rfl, hS, hG, fun H1 e1 d nd => ?_⟩
    have e2 : Ex H (upd H1 d (.dK [])) := e1.trans (Ex.new nd)
    have nd0 : H d = none := fresh_back e1 nd
    refine ⟨_, rfl, g, rfl, ⟨_, SqL.of (e2 _ _ hg)⟩, for_list (K := K) (a := g) (xs := nats ps) (fun i σ H' => ∃ (kvs : List (Key × V)) (x3 x4 : Option V), σ = [some (.ref a), some (.ref g), some (.ref d), x3, x4] ∧ Ex H H' ∧ H' d = some (.dK kvs) ∧ CntOk (endsOf st (ps.take i)) kvs)
      ⟨[], none, none, rfl, e2, upd_same, cnt_nil⟩ (fun i σ H' _ ⟨_, _, _, _, e, _⟩ => SqL.of (e _ _ hg)) ?_ ?_⟩
    · rintro i y σ H' hi ⟨kvs, x3, x4, rfl, e3, hd, hc⟩
      obtain ⟨p, hpi, rfl⟩ : ∃ p : Nat, ps[i]? = some p ∧ y = .int (p : Int) := by
        unfold nats at hi
        rw [List.getElem?_map] at hi
        obtain ⟨p, h1, h2⟩ := Option.map_eq_some_iff.mp hi
        exact ⟨p, h1, h2.symm⟩
      have hpl := hp p (List.mem_of_getElem? hpi)
      obtain ⟨ts, t, t1, t2, t3⟩ := (hS.ex e3).get hpl
      have hil : i < ps.length := (List.getElem?_eq_some_iff.mp hpi).1
      have tl : ts.length = st.length := by
        obtain ⟨us, u1, u2, _⟩ := hS.ex e3
        rw [u1] at t1
        have := HO.lst.inj (Option.some.inj t1)
        have := congrArg List.length this
        rw [List.length_map, List.length_map] at this
        omega
      refine ⟨_, rfl, _, _, rfl, rfl, _, rfl, ?_⟩
      rw [decide_eq_true (show (0 : Int) ≤ (p : Int) by omega)]
      refine iteT ?_
      refine ⟨_, rfl, a, _, rfl, .inl (SqL.of t1), _, _, rfl, rfl, _, rfl, ?_⟩
      rw [decide_eq_true (show (p : Int) < ((ts.map V.ref).length : Int) by rw [List.length_map]; omega)]
      refine iteT ?_
      refine ⟨_, rfl, _, rfl, a, _, _, _, rfl, rfl, SqL.of t1, atI_nat t2, t, rfl, ⟨_, SqT.of t3⟩, for_tup (K := K) (a := t) (xs := [.int (sa st p), .int (sb st p)]) (fun j σ H'' => ∃ (kvs : List (Key × V)) (x4 : Option V), σ = [some (.ref a), some (.ref g), some (.ref d), some (.int (p : Int)), x4] ∧ Ex H H'' ∧ H'' t = some (.tup [.int (sa st p), .int (sb st p)]) ∧ H'' d = some (.dK kvs) ∧ CntOk (endsOf st (ps.take i) ++ ([sa st p, sb st p] : List Int).take j) kvs)
        ⟨kvs, _, rfl, e3, t3, hd, by rw [List.take_zero, List.append_nil]; exact hc⟩ (fun j σ H'' _ ⟨_, _, _, _, ht, _⟩ => SqT.of ht) ?_ ?_⟩
      · rintro j y σ H2 hj ⟨kvs, x4, rfl, e4, ht, hd, hc⟩
        obtain ⟨x, hx, rfl⟩ : ∃ x : Int, ([sa st p, sb st p] : List Int)[j]? = some x ∧ y = .int x := by
          rw [show ([.int (sa st p), .int (sb st p)] : List V) = ([sa st p, sb st p] : List Int).map V.int from rfl, List.getElem?_map] at hj
          obtain ⟨x, h1, h2⟩ := Option.map_eq_some_iff.mp hj
          exact ⟨x, h1, h2.symm⟩
        refine ⟨_, rfl, d, rfl, .inl ⟨_, .inl hd⟩, _, rfl, _, DGet.k (k := Sum.inl x) hd, ?_⟩
        rw [hc.get x]
        refine ⟨_, _, rfl, rfl, _, rfl, _, rfl, d, _, rfl, DPut.k (k := Sum.inl x) hd ?_, ?_⟩
        · have h1 := hc.choose_spec.2.2.2.2
          have h2 : (300 : Nat) < sizeLine := by decide
          rw [List.length_append, endsOf_len, List.length_take, List.length_take] at h1
          have h3 := Nat.min_le_right i ps.length
          have h4 := Nat.min_le_right j ([sa st p, sb st p] : List Int).length
          have h5 : ([sa st p, sb st p] : List Int).length = 2 := rfl
          omega
        · have td : t ≠ d := fun e => by
            rw [e, hd] at ht
            cases ht
          refine ⟨_, _, rfl, Ex.mut e4 nd0, by rw [upd_ne td]; exact ht, upd_same, ?_⟩
          rw [List.take_add_one, hx, ← List.append_assoc]
          exact hc.put x rfl
      · rintro σ H2 ⟨kvs, x4, rfl, e4, ht, hd, hc⟩
        refine ⟨kvs, _, _, rfl, e4, hd, ?_⟩
        rw [endsOf_take hpi]
        exact hc
    · rintro σ H' ⟨kvs, x3, x4, rfl, e3, hd, hc⟩
      rw [nats_len, List.take_length] at hc
      obtain ⟨ks, k1, k2, k3, k4, k5⟩ := hc
      dsimp only
      refine Evl.s_retL (xs := (odds st ps).map V.int) ?_ ?_
      case refine_2 => exact fun p H1 hp e h1 => q p H1 (fresh_back e3 hp) (e3.trans e) h1
      have lt := lt_of_le_nd (srt_up ks) ((srt_perm ks).nodup_iff.mpr k2)
      have eo : odds st ps = (srt ks).filter fun k => decide ((endsOf st ps).count k % 2 = 1) := (oddL_ok _).uniq (isOdd_filter lt fun k => by rw [(srt_perm ks).mem_iff, k3])
      rw [eo, ← given_filter (srt ks) (fun i => decide ((((endsOf st ps).count ((srt ks).getD i 0) : Nat) : Int) % 2 = 1)) (fun i => V.int ((srt ks).getD i 0)) (fun k => decide ((endsOf st ps).count k % 2 = 1)) V.int fun i k hk => ?_]
      · rw [← List.length_map (f := V.int) (as := srt ks)]
        refine Evl.el_lcNL _ _ (el_sortKeys (Evl.ev_var rfl) hd k1) ?_ (fun _ => rfl) (fun i x H1 e hx => ?_) fun i x H1 e hx _ => ?_
        · have h1 := congrArg List.length k1
          rw [List.length_map, List.length_map] at h1
          rw [endsOf_len] at k5
          rw [List.length_map, (srt_perm ks).length_eq]
          omega
        · rw [List.getElem?_map] at hx
          obtain ⟨k, hk, rfl⟩ := Option.map_eq_some_iff.mp hx
          have ek : (srt ks).getD i 0 = k := by
            rw [List.getD_eq_getElem?_getD, hk]
            rfl
          have hin : k ∈ endsOf st ps := (k3 k).mp ((srt_perm ks).mem_iff.mp (List.mem_of_getElem? hk))
          have hv := k4 k
          rw [if_pos hin] at hv
          rw [ek]
          refine Evl.et_is (Evl.et_test (Evl.ev_op (x := .int ((((endsOf st ps).count k : Nat) : Int) % 2)) (y := .int 1) (Evl.ev_op (x := .int (((endsOf st ps).count k : Nat) : Int)) (y := .int 2) ?_ Evl.ev_c (Evl.rv_I (by decide))) Evl.ev_c (Evl.rv_eq rfl))) ?_
          · refine fun H2 e2 Q q => ⟨_, rfl, _, rfl, d, _, rfl, ?_, q H2 (Ex.refl H2)⟩
            rw [← hv]
            exact DGet.k (k := Sum.inl k) (e2 _ _ (e _ _ hd))
          · refine Bool.eq_iff_iff.mpr ?_
            rw [decide_eq_true_eq, decide_eq_true_eq]
            exact V.int.injEq _ _ ▸ Iff.rfl
        · rw [List.getElem?_map] at hx
          obtain ⟨k, hk, rfl⟩ := Option.map_eq_some_iff.mp hx
          have ek : (srt ks).getD i 0 = k := by
            rw [List.getD_eq_getElem?_getD, hk]
            rfl
          rw [ek]
          exact Evl.ev_var rfl
      · have ek : (srt ks).getD i 0 = k := by
          rw [List.getD_eq_getElem?_getD, hk]
          rfl
        rw [ek]
        refine ⟨?_, fun _ => rfl⟩
        refine Bool.eq_iff_iff.mpr ?_
        rw [decide_eq_true_eq, decide_eq_true_eq]
        omega
end
end Sw
namespace Sw
open PySem PySem.Spec PyProof.Rows L2
open Evl (Ex Ex.refl Ex.trans Ex.new Ex.mut ex_l ex_t ex_rd fresh_back Ev EvL EvU EvT EvA RV RC RCL SpV SpL)
section
variable {P : Program} {w : World} {K : PySem.W.Frag} {mg : Str → Option Value} {base : Heap}
theorem scWhy : FnScope ["stones", "group"] ["stones"] (defScope sWhy) := ⟨rfl, rfl, rfl, by decide +kernel, rfl, by decide +kernel, by decide +kernel⟩
def spWhy : Sp := fun vs H Q _ => ∃ (a : Addr) (st : List (Int × Int)), vs = [.ref a] ∧ StonesAt H a st ∧ Good st ∧ ∀ p T H', Ex H H' → NewWhy st H H' p T → Q (.ref p) H'
theorem ok_why {f fG fE : Addr} {fd fdG fdE : FuncData} (F : Fun K "why" "why" sWhy f fd)
    (GG : FnOk P w K mg base CX0 5 fG fdG ["stones"] spGroups) (gG : mg "groups" = some (.ref fG)) (kG : PySem.W.keepIn K (.ref fG) = true) (bG : Binds K fdG ["stones"] [])
    (GE : FnOk P w K mg base CX0 5 fE fdE ["stones", "group"] (spOddE K)) (gE : mg "odd_ends" = some (.ref fE)) (kE : PySem.W.keepIn K (.ref fE) = true) (bE : Binds K fdE ["stones", "group"] []) : FnOk P w K mg base CX0 6 f fd ["stones"] spWhy := by
  refine F.ok scWhy (fun vs H Q E h => ?_) (fun cdv A outer s H vs Q E hr h => ?_)
  · obtain ⟨a, st, rfl, _⟩ := h
    rfl
  · obtain ⟨a, st, rfl, hS, hG, q⟩ := h
    refine ⟨_, pss_one (ps_ret (pe_lc (own := [("group", 1)]) (g := gName 1) (tt := tYes) rfl scWhy.nd (pi_list (pe_call GG hr (by rfl) gG kG bG .nil pass0 (pa_cons (pv 0) pa_nil))) (blkOk_by (own := [("group", 1)]) (N := ["stones", "group"]) (sc := defScope sWhy) (by decide +kernel))
      (fun _ _ _ _ _ => pg_name (i := 1) scWhy.nd rfl (Or.inl rfl)) (fun _ _ _ _ _ => pts_nil)
      (fun _ _ _ _ _ => pe_tup (pa_cons (pv 1) (pa_cons (pe_call GE hr (by rfl) gE kE bE .nil pass0 (pa_cons (pv 0) (pa_cons (pv 1) pa_nil))) pa_nil))))), ?_⟩
    refine why_comp (a := a) (st := st) (fun _ => rfl) (fun _ => rfl) (fun _ => rfl) hS hG.1 (fun Q hQ => ?_) (fun H' g l hS' hg hlt hl H1 e1 Q1 q1 E1 => ?_) (fun p T H' e n => q p T H' e n)
    · exact ⟨_, rfl, a, st, rfl, hS, hG, hQ⟩
    · exact ⟨a, g, st, l, rfl, hS'.ex e1, hG, e1 _ _ hg, hlt, hl, fun p H2 hp e2 h2 => q1 p H2 hp e2 h2⟩
end
end Sw
namespace Sw
open PySem PySem.Spec PyProof.Rows L2
open Evl (Ex Ex.refl Ex.trans Ex.new Ex.mut ex_l ex_t ex_rd fresh_back Ev EvL EvU EvT EvA RV RC RCL SpV SpL)
section
variable {P : Program} {w : World} {K : PySem.W.Frag} {mg : Str → Option Value} {base : Heap}
/-! ### _law_odd -/
theorem scOdd : FnScope ["_law_stones_here", "_law_group", "_law_ends", "_law_place", "_law_number"] ["_law_stones_here", "_law_group"] (defScope sOdd) := ⟨rfl, rfl, rfl, by decide +kernel, rfl, by decide +kernel, by decide +kernel⟩
def spOdd (K : PySem.W.Frag) : Sp := fun vs H Q _ => ∃ (a g : Addr) (st : List (Int × Int)) (ps : List Nat), vs = [.ref a, .ref g] ∧ StonesAt H a st ∧ H g = some (.lst (nats ps)) ∧ (∀ p ∈ ps, p < st.length) ∧ ps.length ≤ 100 ∧ Evl.RetL ((odds st ps).map V.int) H Q
theorem el_sortset {σ : L2.St} {te : TE} {H : Hp} {zs ns : List Int} (h : EvL te σ H (zs.map V.int)) (hz : zs.length ≤ 1000) (uniq : ∀ ms : List Int, ms.Pairwise (· < ·) → (∀ k, k ∈ ms ↔ k ∈ zs) → ms = ns) :
    EvL (tCB (rSortedSetN w) (tCons (tCB (rSetI K w) (tCons te tNil)) tNil)) σ H (ns.map V.int) := fun H1 e Q q =>
  h H1 e _ fun p H2 hp e2 h2 => ⟨p, zs, rfl, SqL.of h2, hz, fun n s hn hs => ⟨s, _, n, rfl, upd_same, fun ms l up mem hl => by
    have e3 := uniq ms up fun k => by rw [mem k, decide_eq_true_eq]
    subst e3
    exact q l _ (fresh_back (e2.trans (Ex.new hs)) hl) ((e2.trans (Ex.new hs)).trans (Ex.new hl)) upd_same⟩⟩
theorem ok_odd {f : Addr} {fd : FuncData} (F : Fun K "_law_odd" "_law_odd" sOdd f fd) (mSo : mg "sorted" = none) (mSe : mg "set" = none) (mLi : mg "list" = none) : FnOk P w K mg base CX0 1 f fd ["_law_stones_here", "_law_group"] (spOdd K) := by
  refine F.ok scOdd (fun vs H Q E h => ?_) (fun cdv A outer s H vs Q E hr h => ?_)
  · obtain ⟨a, g, st, ps, rfl, _⟩ := h
    rfl
  · obtain ⟨a, g, st, ps, rfl, hS, hg, hp, hl, q⟩ := h
    refine ⟨_, pss_cons (ps_set (i := 2) scOdd.nd rfl (.inr rfl) (pe_lst pa_nil))
      (pss_cons (ps_for PassesOwn.never rfl (pi_list (pv 1)) (pg_name (i := 3) scOdd.nd rfl (.inl rfl))
        (pss_one (ps_set (i := 2) scOdd.nd rfl (.inr rfl) (pe_op op_cat (pv 2) (pe_callTy call_list_of (by rfl) mLi PyProof.Rows.boot_list (pa_cons (pe_ix ix_list (pv 0) (pv 3) (fun _ _ => rfl)) pa_nil))))))
      (pss_one (ps_ret (pe_callB (cr_sortedSetN rfl) (by rfl) mSo PyProof.Rows.boot_sorted (pa_cons (pe_callTy (cr_setI rfl) (by rfl) mSe PyProof.Rows.boot_set (pa_cons
        (pe_lc (own := [("_law_number", 4)]) (g := gName 4) (tt := tTest (tOp rEq (tOp rModP (tBM K "list" (rCntI K) (tVar 2) (tCons (tVar 4) tNil)) (tC (.int 2))) (tC (.int 1)))) rfl scOdd.nd (pi_list (pv 2)) (blkOk_by (N := ["_law_stones_here", "_law_group", "_law_ends", "_law_place", "_law_number"]) (sc := defScope sOdd) (by decide +kernel))
          (fun _ _ _ _ _ => pg_name (i := 4) scOdd.nd rfl (Or.inl rfl)) (fun _ _ _ _ _ => pts_one (pt_cmpR op_eq (pe_op (r := rModP) op_mod (pe_bm (r := rCntI K) PySem.F.plainAttrs_list PySem.F.slot_list_count PySem.F.type_list_count mt_lcount (pv 2) (pa_cons (pv 4) pa_nil)) pe_int) pe_int (nomark _)))
          (fun _ _ _ _ _ => pv 4)) pa_nil)) pa_nil))))), ?_⟩
    refine ⟨Nat.zero_le _, fun el nl => ?_⟩
    have e1 : Ex H (upd H el (.lst [])) := Ex.new nl
    refine ⟨_, rfl, g, rfl, ⟨_, SqL.of (e1 _ _ hg)⟩, for_list (K := K) (a := g) (xs := nats ps) (fun i σ H' => ∃ (l : Addr) (x3 x4 : Option V), σ = [some (.ref a), some (.ref g), some (.ref l), x3, x4] ∧ Ex H H' ∧ H' l = some (.lst ((endsOf st (ps.take i)).map V.int)))
      ⟨el, none, none, rfl, e1, upd_same⟩ (fun i σ H' _ ⟨_, _, _, _, e, _⟩ => SqL.of (e _ _ hg)) ?_ ?_⟩
    · rintro i y σ H' hi ⟨l, x3, x4, rfl, e2, hE⟩
      obtain ⟨p, hpi, rfl⟩ : ∃ p : Nat, ps[i]? = some p ∧ y = .int (p : Int) := by
        unfold nats at hi
        rw [List.getElem?_map] at hi
        obtain ⟨p, h1, h2⟩ := Option.map_eq_some_iff.mp hi
        exact ⟨p, h1, h2.symm⟩
      have hpl := hp p (List.mem_of_getElem? hpi)
      obtain ⟨ts, t, t1, t2, t3⟩ := (hS.ex e2).get hpl
      have hil : i < ps.length := (List.getElem?_eq_some_iff.mp hpi).1
      refine ⟨_, rfl, _, rfl, _, rfl, a, _, _, _, rfl, rfl, SqL.of t1, atI_nat t2, t, _, rfl, .inr (SqT.of t3), fun u nu => ?_⟩
      have lu : l ≠ u := ne_of_none hE nu
      refine ⟨l, u, _, _, rfl, rfl, (by rw [upd_ne lu]; exact hE), upd_same, ?_, fun v nv => ?_⟩
      · rw [List.length_map, endsOf_len, List.length_take]
        have h1 : (2 : Nat) * 100 + 2 ≤ sizeLine := by decide
        have h2 := Nat.min_le_right i ps.length
        show 2 * min i ps.length + 2 ≤ sizeLine
        omega
      · refine ⟨v, _, _, rfl, (e2.trans (Ex.new nu)).trans (Ex.new nv), ?_⟩
        rw [upd_same, endsOf_take hpi, List.map_append]
        rfl
    · rintro σ H' ⟨l, x3, x4, rfl, e2, hE⟩
      rw [nats_len, List.take_length] at hE
      have hlen : (endsOf st ps).length ≤ 200 := by
        rw [endsOf_len]
        omega
      dsimp only
      refine Evl.s_retL (xs := (odds st ps).map V.int) ?_ ?_
      case refine_2 => exact fun p H1 hp e h1 => q p H1 (fresh_back e2 hp) (e2.trans e) h1
      refine el_sortset (zs := (endsOf st ps).filter fun k => decide ((endsOf st ps).count k % 2 = 1)) ?_ ?_ fun ms up mem => (isOdd_mem up mem).uniq (oddL_ok _)
      · have hg := given_filter (endsOf st ps) (fun i => decide ((((endsOf st ps).count ((endsOf st ps).getD i 0) : Nat) : Int) % 2 = 1)) (fun i => V.int ((endsOf st ps).getD i 0)) (fun k => decide ((endsOf st ps).count k % 2 = 1)) V.int fun i k hk => by
          have ek : (endsOf st ps).getD i 0 = k := by
            rw [List.getD_eq_getElem?_getD, hk]
            rfl
          rw [ek]
          refine ⟨?_, fun _ => rfl⟩
          refine Bool.eq_iff_iff.mpr ?_
          rw [decide_eq_true_eq, decide_eq_true_eq]
          omega
        rw [← hg]
        have hm : ((endsOf st ps).map V.int).length = (endsOf st ps).length := List.length_map _
        rw [← hm]
        refine Evl.el_lcL _ _ (Evl.ev_var rfl) (SqL.of hE) (by omega) (fun _ => rfl) (fun i x H1 e hx => ?_) fun i x H1 e hx _ => ?_
        · rw [List.getElem?_map] at hx
          obtain ⟨k, hk, rfl⟩ := Option.map_eq_some_iff.mp hx
          have ek : (endsOf st ps).getD i 0 = k := by
            rw [List.getD_eq_getElem?_getD, hk]
            rfl
          rw [ek]
          refine Evl.et_is (Evl.et_test (Evl.ev_op (x := .int ((((endsOf st ps).count k : Nat) : Int) % 2)) (y := .int 1) (Evl.ev_op (x := .int (((endsOf st ps).count k : Nat) : Int)) (y := .int 2) ?_ Evl.ev_c (Evl.rv_I (by decide))) Evl.ev_c (Evl.rv_eq rfl))) ?_
          · exact fun H2 e2 Q q => ⟨_, rfl, .inl ⟨rfl, _, SqL.of (e2 _ _ (e _ _ hE))⟩, _, rfl, l, _, k, rfl, rfl, SqL.of (e2 _ _ (e _ _ hE)), q H2 (Ex.refl H2)⟩
          · refine Bool.eq_iff_iff.mpr ?_
            rw [decide_eq_true_eq, decide_eq_true_eq]
            exact V.int.injEq _ _ ▸ Iff.rfl
        · rw [List.getElem?_map] at hx
          obtain ⟨k, hk, rfl⟩ := Option.map_eq_some_iff.mp hx
          have ek : (endsOf st ps).getD i 0 = k := by
            rw [List.getD_eq_getElem?_getD, hk]
            rfl
          rw [ek]
          exact Evl.ev_var rfl
      · exact Nat.le_trans (List.length_filter_le _ _) (by omega)
end
end Sw
namespace Sw
open PySem PySem.Spec PyProof.Rows L2
open Evl (Ex Ex.refl Ex.trans Ex.new Ex.mut ex_l ex_t ex_rd fresh_back Ev EvL EvU EvT EvA RV RC RCL SpV SpL)
/-! ### plain facts -/
theorem rgV_nats (n : Nat) : rgV 0 (n : Int) = nats (List.range n) := by
  unfold rgV nats
  rw [show ((n : Int) - 0).toNat = n by omega]
  refine List.map_congr_left fun i _ => ?_
  rw [Int.zero_add]
theorem erase_map {α β : Type} (f : α → β) : ∀ (l : List α) (j : Nat), (l.map f).eraseIdx j = (l.eraseIdx j).map f
  | [], _ => rfl
  | _ :: _, 0 => rfl
  | a :: l, j + 1 => congrArg (f a :: ·) (erase_map f l j)
theorem nats_erase (l : List Nat) (j : Nat) : (nats l).eraseIdx j = nats (l.eraseIdx j) := by
  unfold nats
  exact erase_map _ _ _
theorem ofNats_erase (l : List Nat) (j : Nat) : (ofNats l).eraseIdx j = ofNats (l.eraseIdx j) := by
  unfold ofNats
  exact erase_map _ _ _
theorem erase_nodup : ∀ {l : List Nat} {j x : Nat}, l.Nodup → l[j]? = some x → l.eraseIdx j = l.filter fun y => decide (y ≠ x)
  | [], j, x, _, h => by simp at h
  | a :: l, 0, x, hn, h => by
    have e : a = x := Option.some.inj h
    subst e
    obtain ⟨h1, h2⟩ := List.nodup_cons.mp hn
    rw [List.filter_cons, if_neg (by rw [decide_eq_false (fun z => z rfl)]; exact Bool.false_ne_true)]
    show l = _
    symm
    refine List.filter_eq_self.mpr fun y hy => decide_eq_true fun z => h1 (by rw [← z]; exact hy)
  | a :: l, j + 1, x, hn, h => by
    obtain ⟨h1, h2⟩ := List.nodup_cons.mp hn
    have ih := erase_nodup (j := j) (x := x) h2 h
    have hx : x ∈ l := List.mem_of_getElem? h
    have ax : a ≠ x := fun z => h1 (by rw [z]; exact hx)
    rw [List.filter_cons, if_pos (decide_eq_true ax)]
    show a :: l.eraseIdx j = _
    rw [ih]
theorem rising_len : ∀ (l : List Nat) (k n : Nat), l.Pairwise (· < ·) → (∀ q ∈ l, k ≤ q ∧ q < n) → l.length ≤ n - k
  | [], _, _, _, _ => Nat.zero_le _
  | x :: l, k, n, h, b => by
    obtain ⟨h1, h2⟩ := List.pairwise_cons.mp h
    have hx := b x List.mem_cons_self
    have ih := rising_len l (x + 1) n h2 fun q hq => ⟨h1 q hq, (b q (List.mem_cons.mpr (.inr hq))).2⟩
    rw [List.length_cons]
    omega
theorem Whole.len {st : List (Int × Int)} {L : List Nat} (h : Whole st L) : L.length ≤ st.length := by
  have := rising_len L 0 st.length h.up fun q hq => ⟨Nat.zero_le _, h.lt q hq⟩
  omega
theorem seq_zero {n : Nat} (h : 0 < n) : seqIndex? 0 n = some 0 := by
  have := (ixN_seq (n := n) (i := 0) (j := 0) (by unfold ixN; rw [if_pos (by omega), if_pos (by omega)]; rfl)).1
  exact this
theorem filter_rest (l : List Nat) (t : Nat → Bool) : l.filter (fun q => decide (q ∉ l.filter t)) = l.filter fun q => !t q := by
  refine List.filter_congr fun q hq => ?_
  refine Bool.eq_iff_iff.mpr ?_
  rw [decide_eq_true_eq, List.mem_filter, Bool.not_eq_true']
  constructor
  · intro h
    cases e : t q with
    | false => rfl
    | true => exact absurd ⟨hq, e⟩ h
  · intro h h2
    rw [h2.2] at h
    cases h
theorem filter_lens (l : List Nat) (t : Nat → Bool) : (l.filter fun q => decide (q ∉ l.filter t)).length + (l.filter t).length = l.length := by
  rw [filter_rest]
  have := (List.filter_append_perm t l).length_eq
  rw [List.length_append] at this
  omega
theorem filter_take (l m : List Nat) {i q : Nat} (h : m[i]? = some q) : (l.filter fun x => decide (x ∉ m.take i)).filter (fun x => decide (x ≠ q)) = l.filter fun x => decide (x ∉ m.take (i + 1)) := by
  rw [List.filter_filter]
  refine List.filter_congr fun x _ => ?_
  refine Bool.eq_iff_iff.mpr ?_
  rw [Bool.and_eq_true, decide_eq_true_eq, decide_eq_true_eq, decide_eq_true_eq, List.take_add_one, h, Option.toList_some, List.mem_append, List.mem_singleton, not_or]
  exact And.comm
theorem nodup_takeN {l : List Nat} {j x : Nat} (h : l.Nodup) (hx : l[j]? = some x) : x ∉ l.take j := by
  intro m
  obtain ⟨i, hi⟩ := List.mem_iff_getElem?.mp m
  rw [List.getElem?_take] at hi
  by_cases c : i < j
  · rw [if_pos c] at hi
    obtain ⟨h1, e1⟩ := List.getElem?_eq_some_iff.mp hi
    obtain ⟨h2, e2⟩ := List.getElem?_eq_some_iff.mp hx
    have := (List.getElem_inj h).mp (e1.trans e2.symm)
    omega
  · rw [if_neg c] at hi
    cases hi
theorem nats_flat (l : List Int) : (l.map V.int).all flatV = true := by
  rw [List.all_eq_true]
  intro v hv
  obtain ⟨k, _, e⟩ := List.mem_map.mp hv
  rw [← e]
  rfl
theorem inV_ints (x : Int) (l : List Int) : inV (.int x) (l.map V.int) = decide (x ∈ l) := by
  unfold inV
  rw [List.any_map]
  refine Bool.eq_iff_iff.mpr ?_
  rw [List.any_eq_true, decide_eq_true_eq]
  constructor
  · rintro ⟨y, hy, e⟩
    have e : (y == x) = true := e
    rw [← eq_of_beq e]
    exact hy
  · intro h
    exact ⟨x, h, beq_self_eq_true x⟩
structure LG (H : Hp) (lf ff : Addr) (T : List (Addr × List Nat)) (H' : Hp) : Prop where
  ex : Ex H H'
  nlf : H lf = none
  nff : H ff = none
  ne : lf ≠ ff
  at_ : H' ff = some (.lst (T.map fun t => V.ref t.1))
  nd : (T.map (·.1)).Nodup
  in_ : ∀ t ∈ T, H t.1 = none ∧ t.1 ≠ ff ∧ t.1 ≠ lf ∧ H' t.1 = some (.lst (nats t.2))
theorem LG.up {H H' H'' : Hp} {lf ff : Addr} {T : List (Addr × List Nat)} (g : LG H lf ff T H') (e : Ex H' H'') : LG H lf ff T H'' :=
  ⟨g.ex.trans e, g.nlf, g.nff, g.ne, e _ _ g.at_, g.nd, fun t ht => ⟨(g.in_ t ht).1, (g.in_ t ht).2.1, (g.in_ t ht).2.2.1, e _ _ (g.in_ t ht).2.2.2⟩⟩
theorem LG.put {H H' : Hp} {lf ff : Addr} {T : List (Addr × List Nat)} {o : HO} (g : LG H lf ff T H') : LG H lf ff T (upd H' lf o) :=
  ⟨Ex.mut g.ex g.nlf, g.nlf, g.nff, g.ne, by rw [upd_ne (fun z => g.ne z.symm)]; exact g.at_, g.nd, fun t ht => ⟨(g.in_ t ht).1, (g.in_ t ht).2.1, (g.in_ t ht).2.2.1, by rw [upd_ne (g.in_ t ht).2.2.1]; exact (g.in_ t ht).2.2.2⟩⟩
/-- a new list of places, put behind the others -/
theorem LG.app {H H' : Hp} {lf ff p : Addr} {T : List (Addr × List Nat)} {l : List Nat} (g : LG H lf ff T H') (hp : H p = none) (pf : p ≠ ff) (pl : p ≠ lf) (hn : ∀ t ∈ T, t.1 ≠ p) (hv : H' p = some (.lst (nats l))) :
    LG H lf ff (T ++ [(p, l)]) (upd H' ff (.lst (T.map (fun t => V.ref t.1) ++ [.ref p]))) := by
  refine ⟨Ex.mut g.ex g.nff, g.nlf, g.nff, g.ne, by rw [upd_same, List.map_append]; rfl, ?_, fun t ht => ?_⟩
  · rw [List.map_append]
    refine List.nodup_append.mpr ⟨g.nd, by simp, fun a ha b hb z => ?_⟩
    obtain ⟨t, ht, et⟩ := List.mem_map.mp ha
    exact hn t ht (et.trans (z.trans (List.mem_singleton.mp hb)))
  · rcases List.mem_append.mp ht with ht | ht
    · obtain ⟨a, b, c, d⟩ := g.in_ t ht
      exact ⟨a, b, c, by rw [upd_ne b]; exact d⟩
    · rw [List.mem_singleton.mp ht]
      exact ⟨hp, pf, pl, by rw [upd_ne pf]; exact hv⟩
end Sw
namespace Sw
open PySem PySem.Spec PyProof.Rows L2
open Evl (Ex Ex.refl Ex.trans Ex.new Ex.mut ex_l ex_t ex_rd fresh_back Ev EvL EvU EvT EvA RV RC RCL SpV SpL)
section
variable {P : Program} {w : World} {K : PySem.W.Frag} {mg : Str → Option Value} {base : Heap}
theorem scLG : FnScope ["_law_stones_here", "_law_left", "_law_found", "_law_group", "_law_numbers", "_law_more", "_law_place"] ["_law_stones_here"] (defScope sLGroups) := ⟨rfl, rfl, rfl, by decide +kernel, rfl, by decide +kernel, by decide +kernel⟩
def spLGroups : Sp := fun vs H Q _ => ∃ (a : Addr) (st : List (Int × Int)), vs = [.ref a] ∧ StonesAt H a st ∧ st.length ≤ 60 ∧ ∀ p T H', Ex H H' → NewLL H H' p T → T.map (·.2) = grps st → Q (.ref p) H'
theorem ok_lgroups {f : Addr} {fd : FuncData} (F : Fun K "_law_groups" "_law_groups" sLGroups f fd) (mL : mg "len" = none) (mR : mg "range" = none) (mLi : mg "list" = none) (mSo : mg "sorted" = none) : FnOk P w K mg base CX0 1 f fd ["_law_stones_here"] spLGroups := by
  refine F.ok scLG (fun vs H Q E h => ?_) (fun cdv A outer s H vs Q E hr h => ?_)
  · obtain ⟨a, st, rfl, _⟩ := h
    rfl
  · obtain ⟨a, st, rfl, hS, hl, q⟩ := h
    refine ⟨_, pss_cons (ps_set (i := 1) scLG.nd rfl (.inl rfl) (pe_listRg rfl (by rfl) mLi (prg_1 (by rfl) mR (pe_callB call_len_seq (by rfl) mL boot_len (pa_cons (pv 0) pa_nil)))))
      (pss_cons (ps_set (i := 2) scLG.nd rfl (.inl rfl) (pe_lst pa_nil))
      (pss_cons (ps_while PassesOwn.never (pt_cmpR (op_neD hr.units) (pv 1) (pe_lst pa_nil) (nomark _))
        (pss_cons (ps_set (i := 3) scLG.nd rfl (.inl rfl) (pe_lst (pa_cons (pe_bm PySem.F.plainAttrs_list PySem.F.slot_list_pop PySem.F.type_list_pop mt_popAt (pv 1) (pa_cons pe_int pa_nil)) pa_nil)))
        (pss_cons (ps_set (i := 4) scLG.nd rfl (.inr rfl) (pe_callTy call_list_of (by rfl) mLi PyProof.Rows.boot_list (pa_cons (pe_ix ix_list (pv 0) (pe_ix ix_list (pv 3) pe_int (fun _ _ => rfl)) (fun _ _ => rfl)) pa_nil)))
        (pss_cons (ps_set (i := 5) scLG.nd rfl (.inl rfl) (pe_lst (pa_cons pe_int pa_nil)))
        (pss_cons (ps_while PassesOwn.never (pt_cmpR (op_neD hr.units) (pv 5) (pe_lst pa_nil) (nomark _))
          (pss_cons (ps_setLc (i := 5) (own := [("_law_place", 6)]) (g := gName 6) (tt := tOr (tTest (tOp (rIn K false) (tOp (rIxT K) (tOp (rIxL K) (tVar 0) (tVar 6)) (tC (.int 0))) (tVar 4))) (tTest (tOp (rIn K false) (tOp (rIxT K) (tOp (rIxL K) (tVar 0) (tVar 6)) (tC (.int 1))) (tVar 4)))) rfl scLG.nd rfl rfl (sw_true rfl rfl rfl (by decide +kernel))
              (pi_list (pv 1)) (blkOk_by (own := [("_law_place", 6)]) (N := ["_law_stones_here", "_law_left", "_law_found", "_law_group", "_law_numbers", "_law_more", "_law_place"]) (sc := defScope sLGroups) (by decide +kernel))
              (fun _ _ _ _ _ => pg_name (i := 6) scLG.nd rfl (Or.inl rfl))
              (fun _ _ _ _ _ => pts_one (PW.pt (pw_or (pt_cmpR (r := rIn K false) op_in_seq (pe_ix (r := rIxT K) ix_tup (pe_ix (r := rIxL K) ix_list (pv 0) (pv 6) (fun _ _ => rfl)) pe_int (fun _ _ => rfl)) (pv 4) (by rfl)) (pw_or1 (pt_cmpR (r := rIn K false) op_in_seq (pe_ix (r := rIxT K) ix_tup (pe_ix (r := rIxL K) ix_list (pv 0) (pv 6) (fun _ _ => rfl)) pe_int (fun _ _ => rfl)) (pv 4) (by rfl))))))
              (fun _ _ _ _ _ => pv 6))
          (pss_cons (ps_for PassesOwn.never rfl (pi_list (pv 5)) (pg_name (i := 6) scLG.nd rfl (.inl rfl))
            (pss_cons (ps_expr (pe_bm PySem.F.plainAttrs_list PySem.F.slot_list_remove PySem.F.type_list_remove mt_remove (pv 1) (pa_cons (pv 6) pa_nil)))
            (pss_one (ps_set (i := 4) scLG.nd rfl (.inr rfl) (pe_op op_cat (pv 4) (pe_callTy call_list_of (by rfl) mLi PyProof.Rows.boot_list (pa_cons (pe_ix ix_list (pv 0) (pv 6) (fun _ _ => rfl)) pa_nil)))))))
          (pss_one (ps_set (i := 3) scLG.nd rfl (.inl rfl) (pe_op op_cat (pv 3) (pv 5)))))))
        (pss_one (ps_expr (pe_bm PySem.F.plainAttrs_list PySem.F.slot_list_append PySem.F.type_list_append mt_append (pv 2) (pa_cons (pe_callB cr_sortedI (by rfl) mSo PyProof.Rows.boot_sorted (pa_cons (pv 3) pa_nil)) pa_nil)))))))))
      (pss_one (ps_ret (pv 2))))), ?_⟩
    obtain ⟨ts, t1, t2, t3⟩ := id hS
    -- left = list(range(len(stones))); found = []
    refine ⟨_, rfl, a, _, rfl, .inl (SqL.of t1), _, rfl, .of_le (by omega) (by rw [List.length_map]; omega) (by omega) (by omega), fun lf nlf => ?_⟩
    rw [List.length_map, t2, rgV_nats]
    refine ⟨Nat.zero_le _, fun ff nff => ?_⟩
    have e1 : Ex H (upd H lf (.lst (nats (List.range st.length)))) := Ex.new nlf
    have lff : lf ≠ ff := fun z => by
      rw [← z, upd_same] at nff
      cases nff
    have nff0 : H ff = none := fresh_back e1 nff
    refine ⟨fun m σ H' => ∃ (L : List Nat) (T : List (Addr × List Nat)) (x3 x4 x5 x6 : Option V), σ = [some (.ref a), some (.ref lf), some (.ref ff), x3, x4, x5, x6] ∧ m = L.length ∧ LG H lf ff T H' ∧ H' lf = some (.lst (nats L)) ∧ Whole st L ∧ T.map (·.2) ++ grpsL (cls st) L = grps st,
      ⟨_, List.range st.length, [], _, _, _, _, rfl, rfl, ⟨e1.trans (Ex.new nff), nlf, nff0, lff, upd_same, List.nodup_nil, fun t ht => (nomatch ht)⟩, by rw [upd_ne lff, upd_same], whole_range st, rfl⟩, fun m σ H1 hW => ?_⟩
    obtain ⟨L, T, x3, x4, x5, x6, rfl, rfl, g1, hlf, hWh, hgr⟩ := hW
    have hLl : L.length ≤ 60 := Nat.le_trans hWh.len hl
    refine ⟨_, rfl, Nat.zero_le _, fun z nz => ?_⟩
    have ez : Ex H1 (upd H1 z (.lst [])) := Ex.new nz
    have hlf' : upd H1 z (.lst []) lf = some (.lst ((ofNats L).map V.int)) := by
      rw [← nats_eq]
      exact ez _ _ hlf
    refine ⟨dInts (ofNats L), dInts [], (dt_ints hlf').dp, (dt_ints (ns := []) upd_same).dp, (lay_ints _ (by unfold ofNats; rw [List.length_map]; omega)).shaped (by decide), (lay_ints _ (by decide)).shaped (by decide), _, rfl, ?_⟩
    rw [eqv_dInts]
    have g2 := g1.up ez
    have hlf2 := ez _ _ hlf
    generalize upd H1 z (.lst []) = H2 at g2 hlf2
    clear hlf' ez nz
    cases L with
    | nil =>
      rw [show decide (ofNats [] = []) = true from decide_eq_true rfl]
      refine iteF ?_
      refine ⟨_, rfl, q ff T H2 g2.ex ⟨g2.nff, g2.at_, g2.nd, fun t ht => ⟨(g2.in_ t ht).1, (g2.in_ t ht).2.1, (g2.in_ t ht).2.2.2⟩⟩ ?_⟩
      rw [← hgr, grpsL_nil, List.append_nil]
    | cons p r =>
      rw [show decide (ofNats (p :: r) = []) = false from decide_eq_false (by unfold ofNats; simp)]
      refine iteT ?_
      refine ⟨_, fun _ _ n => n, ?_⟩
      have hpl : p < st.length := hWh.lt p List.mem_cons_self
      have htp : p < ts.length := by omega
      have hatp : (ts.map V.ref)[p]? = some (.ref ts[p]) := by
        rw [List.getElem?_map, List.getElem?_eq_getElem htp]
        rfl
      have htt := t3 p _ _ (List.getElem?_eq_getElem htp) (st_at hpl)
      -- group = [left.pop(0)]
      refine ⟨_, rfl, .inl ⟨rfl, _, SqL.of hlf2⟩, lf, _, 0, 0, .int (p : Int), rfl, rfl, hlf2, by decide, by decide, seq_zero (by rw [nats_len]; exact Nat.zero_lt_succ _), rfl, by show 1 ≤ sizeLine; decide, fun lg nlg => ?_⟩
      have g3 : LG H lf ff T (upd H2 lf (.lst (nats r))) := g2.put
      have hlf3 : upd H2 lf (.lst (nats r)) lf = some (.lst (nats r)) := upd_same
      have nlg : upd H2 lf (.lst (nats r)) lg = none := nlg
      show tSeq _ _ _ _ (upd (upd H2 lf (.lst (nats r))) lg (.lst [.int (p : Int)]))
      generalize upd H2 lf (.lst (nats r)) = H3 at g3 hlf3 nlg ⊢
      have e4 : Ex H3 (upd H3 lg (.lst [.int (p : Int)])) := Ex.new nlg
      have hlg4 : upd H3 lg (.lst [.int (p : Int)]) lg = some (.lst (nats [p])) := upd_same
      have nlg0 : H lg = none := fresh_back g3.ex nlg
      generalize upd H3 lg (.lst [.int (p : Int)]) = H4 at e4 hlg4 ⊢
      have g4 := g3.up e4
      -- numbers = list(stones[group[0]])
      refine ⟨_, rfl, _, rfl, lg, _, 0, _, rfl, rfl, SqL.of hlg4, atI_nat (j := 0) rfl, a, _, (p : Int), _, rfl, rfl, SqL.of (g4.ex _ _ t1), atI_nat hatp, ts[p], _, rfl, .inr (SqT.of (g4.ex _ _ htt)), fun ln nln => ?_⟩
      have e5 : Ex H4 (upd H4 ln (.lst [.int (sa st p), .int (sb st p)])) := Ex.new nln
      have hln5 : upd H4 ln (.lst [.int (sa st p), .int (sb st p)]) ln = some (.lst (([sa st p, sb st p] : List Int).map V.int)) := upd_same
      show tSeq _ _ _ _ (upd H4 ln (.lst [.int (sa st p), .int (sb st p)]))
      generalize upd H4 ln (.lst [.int (sa st p), .int (sb st p)]) = H5 at e5 hln5 ⊢
      refine ⟨by show 1 ≤ sizeLine; decide, fun lm nlm => ?_⟩
      have e6 : Ex H5 (upd H5 lm (.lst [.int 0])) := Ex.new nlm
      have hlm6 : upd H5 lm (.lst [.int 0]) lm = some (.lst (nats [0])) := upd_same
      show tSeq _ _ _ _ (upd H5 lm (.lst [.int 0]))
      generalize upd H5 lm (.lst [.int 0]) = H6 at e6 hlm6 ⊢
      have e46 : Ex H3 H6 := e4.trans (e5.trans e6)
      have n1 : lg ≠ lf := fun z => by
        rw [z, hlf3] at nlg
        cases nlg
      have n2 : ln ≠ lf := fun z => by
        rw [z, e4 _ _ hlf3] at nln
        cases nln
      have n3 : lm ≠ lf := fun z => by
        rw [z, (e4.trans e5) _ _ hlf3] at nlm
        cases nlm
      refine ⟨fun m σ H' => ∃ (left grp more : List Nat) (ns : List Int) (lg ln lm : Addr) (x6 : Option V), σ = [some (.ref a), some (.ref lf), some (.ref ff), some (.ref lg), some (.ref ln), some (.ref lm), x6] ∧ m = 2 * left.length + (if more = [] then 0 else 1) ∧ LG H lf ff T H' ∧
          H' lf = some (.lst (nats left)) ∧ H' lg = some (.lst (nats grp)) ∧ H' ln = some (.lst (ns.map V.int)) ∧ H' lm = some (.lst (nats more)) ∧ (lg ≠ lf ∧ ln ≠ lf ∧ lm ≠ lf) ∧ Walk1 st p r left grp ns ∧ (more = [] → left.filter (touch st ns) = []) ∧ more.length ≤ 60 ∧ ns.length = 2 * grp.length ∧ grp.length + left.length = r.length + 1,
        ⟨_, r, [p], [0], [sa st p, sb st p], lg, ln, lm, _, rfl, rfl, g3.up e46, e46 _ _ hlf3, (e5.trans e6) _ _ hlg4, e6 _ _ hln5, hlm6, ⟨n1, n2, n3⟩, walk1_start hWh, fun z => (nomatch z), by decide, rfl, by show 1 + r.length = r.length + 1; omega⟩, fun m σ H7 hW => ?_⟩
      clear n1 n2 n3 hlg4 hln5 hlm6 nlm nln nlg nlg0 e46 g4 e4 e5 e6
      obtain ⟨left, grp, more, ns, lg, ln, lm, x6, rfl, rfl, g7, h1, h2, h3, h4, ⟨n1, n2, n3⟩, w1, hm, hml, hnl, hgl⟩ := hW
      refine ⟨_, rfl, Nat.zero_le _, fun z nz => ?_⟩
      have ez : Ex H7 (upd H7 z (.lst [])) := Ex.new nz
      have h4' : upd H7 z (.lst []) lm = some (.lst ((ofNats more).map V.int)) := by
        rw [← nats_eq]
        exact ez _ _ h4
      refine ⟨dInts (ofNats more), dInts [], (dt_ints h4').dp, (dt_ints (ns := []) upd_same).dp, (lay_ints _ (by unfold ofNats; rw [List.length_map]; omega)).shaped (by decide), (lay_ints _ (by decide)).shaped (by decide), _, rfl, ?_⟩
      rw [eqv_dInts]
      have g8 := g7.up ez
      replace h1 := ez _ _ h1
      replace h2 := ez _ _ h2
      replace h3 := ez _ _ h3
      replace h4 := ez _ _ h4
      generalize upd H7 z (.lst []) = H8 at g8 h1 h2 h3 h4
      clear h4' ez nz g7
      by_cases hmore : more = []
      · subst hmore
        rw [show decide (ofNats [] = []) = true from decide_eq_true rfl]
        refine iteF ?_
        -- found.append(sorted(group))
        have hfin := w1.fin hWh (hm rfl)
        refine ⟨_, rfl, .inl ⟨rfl, _, SqL.of g8.at_⟩, _, rfl, lg, ofNats grp, rfl, SqL.of (by rw [← nats_eq]; exact h2), fun gs s hp hs nos => ?_⟩
        have hgs := w1.sorted hWh (hm rfl) hp hs
        have e9 : Ex H8 (upd H8 s (.lst (gs.map V.int))) := Ex.new nos
        have hs9 : upd H8 s (.lst (gs.map V.int)) s = some (.lst (nats ((p :: r).filter fun q => decide (cls st q = cls st p)))) := by
          rw [upd_same, nats_eq]
          rw [hgs]
          rfl
        generalize upd H8 s (.lst (gs.map V.int)) = H9 at e9 hs9
        have g9 := g8.up e9
        have hTl : T.length ≤ 60 := by
          have h5 := congrArg List.length hgr
          rw [List.length_append, List.length_map] at h5
          have h6 := (grps_size st).1
          omega
        refine ⟨ff, _, _, rfl, rfl, g9.at_, by rw [List.length_map]; exact small1000 (by omega), ?_⟩
        have sn : s ≠ ff := fun z => by
          rw [z, g8.at_] at nos
          cases nos
        have sl : s ≠ lf := fun z => by
          rw [z, h1] at nos
          cases nos
        have sT : ∀ t ∈ T, t.1 ≠ s := fun t ht => ne_of_none (g8.in_ t ht).2.2.2 nos
        refine ⟨left.length, by show left.length < (p :: r).length; rw [hfin.2]; exact Nat.lt_succ_of_le (List.length_filter_le _ _), left, _, _, _, _, _, rfl, rfl, g9.app (fresh_back g8.ex nos) sn sl sT hs9, by rw [upd_ne g9.ne]; exact e9 _ _ h1, by rw [hfin.2]; exact hWh.rest, ?_⟩
        rw [List.map_append, hfin.2, ← hgr, grpsL_cons _ _ _ hWh.up, List.append_assoc]
        rfl
      · rw [show decide (ofNats more = []) = false from decide_eq_false (fun z => hmore (List.map_eq_nil_iff.mp z))]
        refine iteT ?_
        refine ⟨_, fun _ _ n => n, ?_⟩
        have hleft : ∀ q ∈ left, q < st.length := fun q hq => by
          rw [w1.left] at hq
          exact hWh.lt q (List.mem_cons.mpr (.inr (List.mem_filter.mp hq).1))
        have hlnd : left.Nodup := by
          rw [w1.left]
          exact ((List.pairwise_cons.mp hWh.up).2.imp fun h => by omega : r.Nodup).filter _
        have hll : left.length ≤ 60 := by
          have h5 := hLl
          rw [List.length_cons] at h5
          have h6 : 0 < grp.length := List.length_pos_of_mem w1.has
          omega
        have hgl2 : grp.length ≤ 60 := by
          have h5 := hLl
          rw [List.length_cons] at h5
          omega
        have item : ∀ (q : Nat) (i : Nat) (σ : L2.St) (H' : Hp) (k : Nat) (v : Int), q < st.length → Ex H8 H' → σ[6]? = some (some (.int (q : Int))) → σ[0]? = some (some (.ref a)) → ([sa st q, sb st q] : List Int)[k]? = some v →
            Ev (tOp (rIxT K) (tOp (rIxL K) (tVar 0) (tVar 6)) (tC (.int (k : Nat)))) σ H' (.int v) := fun q i σ H' k v hq e s6 s0 hk => by
          have htq : q < ts.length := by omega
          have hat : (ts.map V.ref)[q]? = some (.ref ts[q]) := by
            rw [List.getElem?_map, List.getElem?_eq_getElem htq]
            rfl
          have htt := t3 q _ _ (List.getElem?_eq_getElem htq) (st_at hq)
          refine Evl.ev_op (Evl.ev_op (Evl.ev_var s0) (Evl.ev_var s6) (Evl.rv_ixL (SqL.of (e _ _ (g8.ex _ _ t1))) (atI_nat hat))) Evl.ev_c (Evl.rv_ixT (SqT.of (e _ _ (g8.ex _ _ htt))) (atI_nat ?_))
          rw [show ([.int (sa st q), .int (sb st q)] : List V) = ([sa st q, sb st q] : List Int).map V.int from rfl, List.getElem?_map, hk]
          rfl
        -- more = [..]
        have hgv := given_filter left (fun i => touch st ns (left.getD i 0)) (fun i => V.int ((left.getD i 0 : Nat) : Int)) (touch st ns) (fun p : Nat => V.int (p : Int)) fun i q hq => by
          rw [List.getD_eq_getElem?_getD, hq]
          exact ⟨rfl, fun _ => rfl⟩
        refine Evl.q_asgL (xs := nats (left.filter (touch st ns))) ?_ ?_
        · show EvL _ _ _ ((left.filter (touch st ns)).map fun p : Nat => V.int (p : Int))
          rw [← hgv, ← nats_len left]
          refine Evl.el_lcL _ _ (Evl.ev_var rfl) (SqL.of h1) (by rw [nats_len]; omega) (fun _ => rfl) (fun i x H9 e9 hx => ?_) fun i x H9 e9 hx _ => ?_
          · obtain ⟨q, hq, rfl⟩ := nats_inv hx
            have eq : left.getD i 0 = q := by
              rw [List.getD_eq_getElem?_getD, hq]
              rfl
            rw [eq]
            have hqs := hleft q (List.mem_of_getElem? hq)
            refine Evl.et_or (a := decide (sa st q ∈ ns)) (b := decide (sb st q ∈ ns)) (Evl.et_test ?_) fun _ => Evl.et_test ?_
            · exact Evl.ev_is (Evl.ev_op (item q i _ H9 0 _ hqs e9 rfl rfl rfl) (Evl.ev_var rfl) (Evl.rv_isL (SqL.of (e9 _ _ h3)) rfl (nats_flat _))) (by rw [inV_ints])
            · exact Evl.ev_is (Evl.ev_op (item q i _ H9 1 _ hqs e9 rfl rfl rfl) (Evl.ev_var rfl) (Evl.rv_isL (SqL.of (e9 _ _ h3)) rfl (nats_flat _))) (by rw [inV_ints])
          · obtain ⟨q, hq, rfl⟩ := nats_inv hx
            rw [List.getD_eq_getElem?_getD, hq]
            exact Evl.ev_var rfl
        intro lm2 H9 nlm2 e9 h9
        have n4 : lm2 ≠ lf := fun z => by
          rw [z, h1] at nlm2
          cases nlm2
        have g9 := g8.up e9
        replace h1 := e9 _ _ h1
        replace h2 := e9 _ _ h2
        replace h3 := e9 _ _ h3
        have hm60 : (left.filter (touch st ns)).length ≤ 60 := Nat.le_trans (List.length_filter_le _ _) hll
        have hmsub : ∀ q ∈ left.filter (touch st ns), q < st.length := fun q hq => hleft q (List.mem_filter.mp hq).1
        have hlens := filter_lens left (touch st ns)
        have hmnd : (left.filter (touch st ns)).Nodup := hlnd.filter _
        have hmin : ∀ q ∈ left.filter (touch st ns), q ∈ left := fun q hq => (List.mem_filter.mp hq).1
        have hturn := fun ns' e => w1.turn (ns' := ns') hWh e
        generalize hmo : left.filter (touch st ns) = mo at h9 hm60 hmsub hlens hturn hmnd hmin
        refine Evl.q_forLn (K := K) (a := lm2) (xs := nats mo) (Evl.ev_var rfl) (SqL.of h9) (fun i σ H' => ∃ (ln : Addr) (x6 : Option V), σ = [some (.ref a), some (.ref lf), some (.ref ff), some (.ref lg), some (.ref ln), some (.ref lm2), x6] ∧ LG H lf ff T H' ∧ H' lf = some (.lst (nats (left.filter fun x => decide (x ∉ mo.take i)))) ∧
          H' ln = some (.lst ((ns ++ endsOf st (mo.take i)).map V.int)) ∧ H' lg = some (.lst (nats grp)) ∧ H' lm2 = some (.lst (nats mo)) ∧ ln ≠ lf)
          (fun H10 e10 => ⟨ln, _, rfl, g9.up e10, ?_, ?_, e10 _ _ h2, e10 _ _ h9, n2⟩) (fun i σ' H' _ ⟨_, _, _, _, _, _, _, h, _⟩ => SqL.of h) ?_ ?_
        · rw [List.take_zero, List.filter_eq_self.mpr fun x _ => decide_eq_true (by simp)]
          exact e10 _ _ h1
        · rw [List.take_zero]
          show H10 ln = some (.lst ((ns ++ []).map V.int))
          rw [List.append_nil]
          exact e10 _ _ h3
        · rintro i y σ' H10 hi ⟨ln, x6, rfl, g10, k1, k3, k2, k4, k5⟩
          obtain ⟨q, hq, rfl⟩ := nats_inv hi
          have hqs := hmsub q (List.mem_of_getElem? hq)
          have htq : q < ts.length := by omega
          have hat : (ts.map V.ref)[q]? = some (.ref ts[q]) := by
            rw [List.getElem?_map, List.getElem?_eq_getElem htq]
            rfl
          have htt := t3 q _ _ (List.getElem?_eq_getElem htq) (st_at hqs)
          have hqin : q ∈ left.filter fun x => decide (x ∉ mo.take i) := List.mem_filter.mpr ⟨hmin q (List.mem_of_getElem? hq), decide_eq_true (nodup_takeN hmnd hq)⟩
          have hnd : (left.filter fun x => decide (x ∉ mo.take i)).Nodup := hlnd.filter _
          have hft := filter_take left mo hq
          have htk := endsOf_take (st := st) hq
          have hi60 : i < mo.length := (List.getElem?_eq_some_iff.mp hq).1
          generalize (left.filter fun x => decide (x ∉ mo.take i)) = cur at k1 hqin hnd hft
          obtain ⟨j, hj⟩ := List.mem_iff_getElem?.mp hqin
          have hj2 : (ofNats cur)[j]? = some (q : Int) := by
            unfold ofNats
            rw [List.getElem?_map, hj]
            rfl
          refine ⟨_, rfl, .inl ⟨rfl, _, SqL.of k1⟩, _, rfl, lf, ofNats cur, (q : Int), j, rfl, rfl, by rw [← nats_eq]; exact k1, hj2, fun m hmj hc => ?_, ?_⟩
          · unfold ofNats at hc
            rw [List.getElem?_map] at hc
            obtain ⟨q', hq', eq'⟩ := Option.map_eq_some_iff.mp hc
            have eq' : q' = q := by omega
            rw [eq'] at hq'
            obtain ⟨a1, b1⟩ := List.getElem?_eq_some_iff.mp hq'
            obtain ⟨a2, b2⟩ := List.getElem?_eq_some_iff.mp hj
            have := (List.getElem_inj hnd).mp (b1.trans b2.symm)
            omega
          rw [ofNats_erase, ← nats_eq, erase_nodup hnd hj, hft]
          have g11 : LG H lf ff T (upd H10 lf (.lst (nats (left.filter fun x => decide (x ∉ mo.take (i + 1)))))) := g10.put
          have k1' : upd H10 lf (.lst (nats (left.filter fun x => decide (x ∉ mo.take (i + 1))))) lf = some (.lst (nats (left.filter fun x => decide (x ∉ mo.take (i + 1))))) := upd_same
          have k3' : upd H10 lf (.lst (nats (left.filter fun x => decide (x ∉ mo.take (i + 1))))) ln = some (.lst ((ns ++ endsOf st (mo.take i)).map V.int)) := by rw [upd_ne k5]; exact k3
          have k2' : upd H10 lf (.lst (nats (left.filter fun x => decide (x ∉ mo.take (i + 1))))) lg = some (.lst (nats grp)) := by rw [upd_ne n1]; exact k2
          have k4' : upd H10 lf (.lst (nats (left.filter fun x => decide (x ∉ mo.take (i + 1))))) lm2 = some (.lst (nats mo)) := by rw [upd_ne n4]; exact k4
          generalize upd H10 lf (.lst (nats (left.filter fun x => decide (x ∉ mo.take (i + 1))))) = H11 at g11 k1' k2' k3' k4'
          refine ⟨_, rfl, _, rfl, _, rfl, a, _, (q : Int), _, rfl, rfl, SqL.of (g11.ex _ _ t1), atI_nat hat, ts[q], _, rfl, .inr (SqT.of (g11.ex _ _ htt)), fun u nu => ?_⟩
          have eu : Ex H11 (upd H11 u (.lst [.int (sa st q), .int (sb st q)])) := Ex.new nu
          refine ⟨ln, u, _, _, rfl, rfl, eu _ _ k3', upd_same, ?_, fun v nv => ?_⟩
          · rw [List.length_map, List.length_append, hnl, endsOf_len, List.length_take]
            have h5 := Nat.min_le_right i mo.length
            have h6 : (2 : Nat) * 60 + 2 * 60 + 2 ≤ sizeLine := by decide
            show 2 * grp.length + 2 * min i mo.length + 2 ≤ sizeLine
            omega
          · have ev := eu.trans (Ex.new (o := .lst ((ns ++ endsOf st (mo.take i)).map V.int ++ [V.int (sa st q), V.int (sb st q)])) nv)
            have vl : v ≠ lf := fun z => by
              rw [z, eu _ _ k1'] at nv
              cases nv
            refine ⟨v, _, rfl, g11.up ev, ev _ _ k1', ?_, ev _ _ k2', ev _ _ k4', vl⟩
            rw [upd_same, htk, ← List.append_assoc, List.map_append (l₁ := ns ++ endsOf st (mo.take i))]
            rfl
        · rintro σ' H10 ⟨ln, x6, rfl, g10, k1, k3, k2, k4, k5⟩
          rw [nats_len, List.take_length] at k1 k3
          -- group = group + more
          refine ⟨_, rfl, _, rfl, lg, lm2, _, _, rfl, rfl, k2, k4, ?_, fun v nv => ?_⟩
          · rw [nats_len, nats_len]
            have h6 : (60 : Nat) + 60 ≤ sizeLine := by decide
            omega
          · have ev : Ex H10 (upd H10 v (.lst (nats grp ++ nats mo))) := Ex.new nv
            have vl : v ≠ lf := fun z => by
              rw [z, k1] at nv
              cases nv
            have hv : upd H10 v (.lst (nats grp ++ nats mo)) v = some (.lst (nats (grp ++ mo))) := by
              rw [upd_same]
              unfold nats
              rw [List.map_append]
            refine ⟨2 * (left.filter fun x => decide (x ∉ mo)).length + (if mo = [] then 0 else 1), ?_, _, grp ++ mo, mo, ns ++ endsOf st mo, v, ln, lm2, _, rfl, rfl, g10.up ev, ev _ _ k1, hv, ev _ _ k3, ev _ _ k4, ⟨vl, k5, n4⟩, hturn _ rfl, ?_, hm60, ?_, ?_⟩
            · rw [if_neg hmore]
              by_cases z : mo = []
              · rw [if_pos z]
                omega
              · rw [if_neg z]
                have := List.length_pos_iff.mpr z
                omega
            · intro z
              subst z
              rw [List.filter_eq_self.mpr fun x _ => decide_eq_true (by simp)]
              show left.filter (touch st (ns ++ [])) = []
              rw [List.append_nil]
              exact hmo
            · rw [List.length_append, endsOf_len, hnl, List.length_append]
              omega
            · rw [List.length_append]
              omega
end
end Sw
namespace Sw
open PySem PySem.Spec PyProof.Rows L2
open Evl (Ex Ex.refl Ex.trans Ex.new Ex.mut ex_l ex_t ex_rd fresh_back Ev EvL EvU EvT EvA RV RC RCL SpV SpL)
section
variable {P : Program} {w : World} {K : PySem.W.Frag} {mg : Str → Option Value} {base : Heap}
theorem scLFew : FnScope ["_law_stones_here", "_law_found", "_law_group"] ["_law_stones_here"] (defScope sLFew) := ⟨rfl, rfl, rfl, by decide +kernel, rfl, by decide +kernel, by decide +kernel⟩
def spLFew : Sp := fun vs H Q _ => ∃ (a : Addr) (st : List (Int × Int)), vs = [.ref a] ∧ StonesAt H a st ∧ st.length ≤ 60 ∧ Evl.RetV (.int (few st : Nat)) H Q
theorem ok_lfew {f fL fO : Addr} {fd fdL fdO : FuncData} (F : Fun K "_law_fewest" "_law_fewest" sLFew f fd) (mX : mg "max" = none) (mL : mg "len" = none)
    (GL : FnOk P w K mg base CX0 1 fL fdL ["_law_stones_here"] spLGroups) (gL : mg "_law_groups" = some (.ref fL)) (kL : PySem.W.keepIn K (.ref fL) = true) (bL : Binds K fdL ["_law_stones_here"] [])
    (GO : FnOk P w K mg base CX0 1 fO fdO ["_law_stones_here", "_law_group"] (spOdd K)) (gO : mg "_law_odd" = some (.ref fO)) (kO : PySem.W.keepIn K (.ref fO) = true) (bO : Binds K fdO ["_law_stones_here", "_law_group"] []) : FnOk P w K mg base CX0 2 f fd ["_law_stones_here"] spLFew := by
  refine F.ok scLFew (fun vs H Q E h => ?_) (fun cdv A outer s H vs Q E hr h => ?_)
  · obtain ⟨a, st, rfl, _⟩ := h
    rfl
  · obtain ⟨a, st, rfl, hS, hl, q⟩ := h
    refine ⟨_, pss_cons (ps_set (i := 1) scLFew.nd rfl (.inl rfl) pe_int)
      (pss_cons (ps_for PassesOwn.never rfl (pi_list (pe_call GL hr (by rfl) gL kL bL .nil pass0 (pa_cons (pv 0) pa_nil))) (pg_name (i := 2) scLFew.nd rfl (.inl rfl))
        (pss_one (ps_set (i := 1) scLFew.nd rfl (.inl rfl) (pe_op op_add (pv 1) (pe_callB (call_max2 rfl) (by rfl) mX (by decide +kernel) (pa_cons pe_int (pa_cons (pe_op op_fdiv (pe_callB call_len_seq (by rfl) mL boot_len (pa_cons (pe_call GO hr (by rfl) gO kO bO .nil pass0 (pa_cons (pv 0) (pa_cons (pv 2) pa_nil))) pa_nil)) pe_int) pa_nil)))))))
      (pss_one (ps_ret (pv 1)))), ?_⟩
    refine ⟨_, rfl, a, st, rfl, hS, hl, fun p T H1 e1 n1 hT => ⟨p, rfl, ⟨_, SqL.of n1.at_⟩, ?_⟩⟩
    have gsz := grps_size st
    refine for_list (K := K) (a := p) (xs := T.map fun t => V.ref t.1) (fun i σ H' => Ex H1 H' ∧ ∃ x2, σ = [some (.ref a), some (.int ((((T.take i).map fun t => max 1 ((odds st t.2).length / 2)).sum : Nat) : Int)), x2])
      ⟨Ex.refl H1, _, rfl⟩ (fun i σ H' _ h => SqL.of (h.1 _ _ n1.at_)) ?_ ?_
    · rintro i x σ H2 hi ⟨e2, x2, rfl⟩
      rw [List.getElem?_map] at hi
      obtain ⟨t, ht, rfl⟩ := Option.map_eq_some_iff.mp hi
      have htm := n1.in_ t (List.mem_of_getElem? ht)
      have hgm : t.2 ∈ grps st := by
        rw [← hT]
        exact List.mem_map.mpr ⟨t, List.mem_of_getElem? ht, rfl⟩
      refine ⟨_, rfl, _, rfl, _, rfl, a, t.1, st, t.2, rfl, hS.ex (e1.trans e2), e2 _ _ htm.2.2, grps_lt st _ hgm, by have := gsz.2 _ hgm; omega, fun o H3 no e3 ho => ?_⟩
      refine ⟨o, _, rfl, .inl (SqL.of ho), _, _, rfl, rfl, ⟨by decide, by decide⟩, _, _, rfl, _, _, rfl, rfl, e2.trans e3, some (.ref t.1), ?_⟩
      have e : (if ((((odds st t.2).map V.int).length : Int) / 2 > 1) then (((odds st t.2).map V.int).length : Int) / 2 else 1) = ((max 1 ((odds st t.2).length / 2) : Nat) : Int) := by
        rw [List.length_map]
        split <;> omega
      rw [List.take_add_one, ht, Option.toList_some, List.map_append, List.sum_append]
      show [some (V.ref a), some (V.int ((((T.take i).map fun t => max 1 ((odds st t.2).length / 2)).sum : Nat) + (if ((((odds st t.2).map V.int).length : Int) / 2 > 1) then (((odds st t.2).map V.int).length : Int) / 2 else 1))), some (.ref t.1)] = _
      rw [e]
      show _ = [some (V.ref a), some (V.int (((((T.take i).map fun t => max 1 ((odds st t.2).length / 2)).sum + (max 1 ((odds st t.2).length / 2) + 0)) : Nat) : Int)), some (.ref t.1)]
      rw [Nat.add_zero, Int.natCast_add]
    · rintro σ H2 ⟨e2, x2, rfl⟩
      rw [List.length_map, List.take_length]
      refine ⟨_, rfl, ?_⟩
      have es : (T.map fun t => max 1 ((odds st t.2).length / 2)).sum = few st := by
        unfold few
        rw [← hT, List.map_map]
        rfl
      rw [es]
      exact q _ (e1.trans e2)
end
end Sw
namespace Sw
open PySem PySem.Spec PyProof.Rows L2
open Evl (Ex Ex.refl Ex.trans Ex.new Ex.mut ex_l ex_t ex_rd fresh_back Ev EvL EvU EvT EvA RV RC RCL SpV SpL)
section
variable {P : Program} {w : World} {K : PySem.W.Frag} {mg : Str → Option Value} {base : Heap}
/-! ### _law_alike -/
theorem scAlike : FnScope ["_law_found", "_law_due", "_law_k"] ["_law_found", "_law_due"] (defScope sAlike) := ⟨rfl, rfl, rfl, by decide +kernel, rfl, by decide +kernel, by decide +kernel⟩
def spAlike (n : Nat) : Sp := fun vs H Q _ => ∃ (x y : V) (d : PyData), vs = [x, y] ∧ Dt H x d ∧ Dt H y d ∧ Lay n d ∧ Evl.RetV (.bl true) H Q
def isSeq : PyData → Bool
  | .list _ => true
  | .tuple _ => true
  | _ => false
theorem isSeq_kind (d : PyData) : isSeq d = (decide (kindOf d = "tuple") || decide (kindOf d = "list")) := by cases d <;> simp [isSeq, kindOf]
theorem kit_seq (d : PyData) : PySem.W.kitAny K (.type (kindOf d)) [.type "tuple", .type "list"] = some (isSeq d) := by
  refine kitAny_cons (kit_tuple d) (fun h => ?_) (fun h => by rw [isSeq_kind, h]; rfl)
  refine kitAny_cons (kit_list d) (fun h2 => ?_) (fun h2 => by rw [isSeq_kind, h2]; exact Bool.or_true _)
  rw [isSeq_kind, h, h2]
  rfl
theorem rc_seq {x : V} {d : PyData} {H : Hp} {p : Addr} (hx : Dt H x d) (hp : H p = some (.tup [.ty "tuple", .ty "list"])) : RC (rIsiT K) [x, .ref p] H (.bl (isSeq d)) := fun H1 e Q q =>
  ⟨x, p, _, _, _, _, rfl, e _ _ hp, .cons (.ty _) (.cons (.ty _) .nil), (Dt.ex e d _ hx).ty, kit_seq d, q H1 (Ex.refl H1)⟩
theorem rc_kind {x : V} {d : PyData} {H : Hp} {T : String} {b : Bool} (hx : Dt H x d) (hk : PySem.W.kitOne K (.type (kindOf d)) (.type T) = some b) : RC (rIsi K) [x, .ty T] H (.bl b) :=
  rc_isi (.ty T) (fun H1 e => (Dt.ex e d _ hx).ty) hk
theorem leaf_same {H : Hp} {x y : V} {d : PyData} (hs : isSeq d = false) (hx : Dt H x d) (hy : Dt H y d) : x = y ∧ scal x y = true := by
  cases hx with
  | non =>
    cases hy
    exact ⟨rfl, rfl⟩
  | bl b =>
    cases hy
    exact ⟨rfl, rfl⟩
  | int i =>
    cases hy
    exact ⟨rfl, rfl⟩
  | str z =>
    cases hy
    exact ⟨rfl, rfl⟩
  | lst h t => exact absurd hs Bool.noConfusion
  | tup h t => exact absurd hs Bool.noConfusion
theorem ev_isi {σ : L2.St} {H : Hp} {x : V} {d : PyData} {T : String} {b : Bool} {i : Nat} (hi : σ[i]? = some (some x)) (hx : Dt H x d) (hk : PySem.W.kitOne K (.type (kindOf d)) (.type T) = some b) :
    Ev (tCB (rIsi K) (tCons (tVar i) (tCons (tC (.ty T)) tNil))) σ H (.bl b) := Evl.ev_cb (Evl.ea_cons (Evl.ev_var hi) (Evl.ea_cons Evl.ev_c Evl.ea_nil)) (rc_kind hx hk)
theorem alike_leaf {f : Addr} {fd : FuncData} (F : Fun K "_law_alike" "_law_alike" sAlike f fd) (mI : mg "isinstance" = none) (mB : mg "bool" = none) (mT : mg "tuple" = none) (mLi : mg "list" = none) : FnOk P w K mg base CX0 1 f fd ["_law_found", "_law_due"] (spAlike 0) := by
  refine F.ok scAlike (fun vs H Q E h => ?_) (fun cdv A outer s H vs Q E hr h => ?_)
  · obtain ⟨x, y, d, rfl, _⟩ := h
    rfl
  · obtain ⟨x, y, d, rfl, hx, hy, hd, q⟩ := h
    refine ⟨_, pss_cons (ps_if (pt_val (pe_callB call_isiT (by rfl) mI (by decide +kernel) (pa_cons (pv 1) (pa_cons (pe_tup (pa_cons (pe_bltn (v := .ty "tuple") (by rfl) mT (by decide +kernel) rfl) (pa_cons (pe_bltn (v := .ty "list") (by rfl) mLi (by decide +kernel) rfl) pa_nil))) pa_nil))))
        (pss_cons ps_never (pss_one ps_never)) pss_nil)
      (pss_one (ps_ret (pe_and (pe_cmpR op_eq (pe_callB call_isi (by rfl) mI (by decide +kernel) (pa_cons (pv 0) (pa_cons (pe_bltn (v := .ty "bool") (by rfl) mB (by decide +kernel) rfl) pa_nil))) (pe_callB call_isi (by rfl) mI (by decide +kernel) (pa_cons (pv 1) (pa_cons (pe_bltn (v := .ty "bool") (by rfl) mB (by decide +kernel) rfl) pa_nil))) (nomark _))
        (pe_one (pe_cmpR op_eq (pv 0) (pv 1) (nomark _)))))), ?_⟩
    have hs : isSeq d = false := by
      cases d with
      | list ds => exact hd.lst_pos.elim
      | tuple ds => exact hd.tup_pos.elim
      | _ => rfl
    refine ⟨y, rfl, by show 2 ≤ sizeLine; decide, fun p np => ?_⟩
    have e1 : Ex H (upd H p (.tup [.ty "tuple", .ty "list"])) := Ex.new np
    refine ⟨y, p, _, _, _, _, rfl, upd_same, .cons (.ty _) (.cons (.ty _) .nil), (Dt.ex e1 d y hy).ty, kit_seq d, _, rfl, ?_⟩
    rw [hs]
    refine iteF ?_
    refine st_next ?_
    dsimp only
    have e3 := e1
    obtain ⟨exy, hsc⟩ := leaf_same hs hx hy
    subst exy
    have hx2 := Dt.ex e3 d x hx
    refine Evl.s_ret (v := .bl (true && true)) (Evl.ev_andV ?_ fun _ => ?_) fun H4 e4 => q H4 (e3.trans e4)
    · exact Evl.ev_is (Evl.ev_op (ev_isi rfl hx2 (kit_bool d)) (ev_isi rfl hx2 (kit_bool d)) (Evl.rv_eq rfl)) (by rw [decide_eq_true rfl])
    · exact Evl.ev_is (Evl.ev_op (Evl.ev_var rfl) (Evl.ev_var rfl) (Evl.rv_eq hsc)) (by rw [decide_eq_true rfl])
/-- a list or a tuple of items -/
theorem seq_of {H : Hp} {x : V} {d : PyData} (hs : isSeq d = true) (hx : Dt H x d) : ∃ (a : Addr) (xs : List V) (ds : List PyData), x = .ref a ∧ ((d = .list ds ∧ H a = some (.lst xs)) ∨ (d = .tuple ds ∧ H a = some (.tup xs))) ∧ DtAll H xs ds := by
  cases hx with
  | lst h t => exact ⟨_, _, _, rfl, .inl ⟨rfl, h⟩, t⟩
  | tup h t => exact ⟨_, _, _, rfl, .inr ⟨rfl, h⟩, t⟩
  | _ => exact absurd hs Bool.noConfusion
theorem kinds_seq {d : PyData} (hs : isSeq d = true) : ∀ (ds : List PyData), (d = .list ds ∨ d = .tuple ds) → True := fun _ _ => trivial
theorem at_all {H : Hp} {xs : List V} {ds : List PyData} (h : DtAll H xs ds) {i : Nat} (hi : i < ds.length) : ∃ x, xs[i]? = some x ∧ Dt H x ds[i] := by
  have hx : i < xs.length := by rw [h.len]; exact hi
  obtain ⟨d, e1, e2⟩ := h.at i _ (List.getElem?_eq_getElem hx)
  rw [List.getElem?_eq_getElem hi] at e1
  have e1 := Option.some.inj e1
  rw [← e1] at e2
  exact ⟨_, List.getElem?_eq_getElem hx, e2⟩
/-- an item of a list or a tuple -/
theorem rv_item {H : Hp} {a : Addr} {xs : List V} {i : Nat} {v : V} (h : H a = some (.lst xs) ∨ H a = some (.tup xs)) (hi : xs[i]? = some v) : RV (rIx K) (.ref a) (.int (i : Nat)) H v := fun H1 e Q q => by
  rcases h with h | h
  · exact .inl ⟨a, xs, _, v, rfl, rfl, SqL.of (e _ _ h), atI_nat hi, q H1 (Ex.refl H1)⟩
  · exact .inr (.inl ⟨a, xs, _, v, rfl, rfl, SqT.of (e _ _ h), atI_nat hi, q H1 (Ex.refl H1)⟩)
theorem ev_lenS {σ : L2.St} {te : TE} {H : Hp} {a : Addr} {xs : List V} (h : H a = some (.lst xs) ∨ H a = some (.tup xs)) (ha : Ev te σ H (.ref a)) : Ev (tCB (Evl.rLenS K) (tCons te tNil)) σ H (.int (xs.length : Int)) := fun H1 e Q q =>
  ha H1 e _ fun H2 e2 => by
    rcases h with h | h
    · exact ⟨a, xs, rfl, .inl (SqL.of (e.trans e2 _ _ h)), q H2 e2⟩
    · exact ⟨a, xs, rfl, .inr (SqT.of (e.trans e2 _ _ h)), q H2 e2⟩
theorem alike_step {n : Nat} {f : Addr} {fd : FuncData} (F : Fun K "_law_alike" "_law_alike" sAlike f fd) (mI : mg "isinstance" = none) (mB : mg "bool" = none) (mT : mg "tuple" = none) (mLi : mg "list" = none) (mL : mg "len" = none) (mA : mg "all" = none) (mR : mg "range" = none)
    (GA : FnOk P w K mg base CX0 (n + 1) f fd ["_law_found", "_law_due"] (spAlike n)) (gA : mg "_law_alike" = some (.ref f)) (kA : PySem.W.keepIn K (.ref f) = true) (bA : Binds K fd ["_law_found", "_law_due"] []) : FnOk P w K mg base CX0 (n + 2) f fd ["_law_found", "_law_due"] (spAlike (n + 1)) := by
  refine F.ok scAlike (fun vs H Q E h => ?_) (fun cdv A outer s H vs Q E hr h => ?_)
  · obtain ⟨x, y, d, rfl, _⟩ := h
    rfl
  · obtain ⟨x, y, d, rfl, hx, hy, hd, q⟩ := h
    refine ⟨_, pss_cons (ps_if (pt_val (pe_callB call_isiT (by rfl) mI (by decide +kernel) (pa_cons (pv 1) (pa_cons (pe_tup (pa_cons (pe_bltn (v := .ty "tuple") (by rfl) mT (by decide +kernel) rfl) (pa_cons (pe_bltn (v := .ty "list") (by rfl) mLi (by decide +kernel) rfl) pa_nil))) pa_nil))))
        (pss_cons (ps_if (PW.pt (pw_or (pt_cmpR op_ne (pe_callB call_isi (by rfl) mI (by decide +kernel) (pa_cons (pv 0) (pa_cons (pe_bltn (v := .ty "tuple") (by rfl) mT (by decide +kernel) rfl) pa_nil))) (pe_callB call_isi (by rfl) mI (by decide +kernel) (pa_cons (pv 1) (pa_cons (pe_bltn (v := .ty "tuple") (by rfl) mT (by decide +kernel) rfl) pa_nil))) (nomark _))
            (pw_or1 (pt_cmpR op_ne (pe_callB call_isi (by rfl) mI (by decide +kernel) (pa_cons (pv 0) (pa_cons (pe_bltn (v := .ty "list") (by rfl) mLi (by decide +kernel) rfl) pa_nil))) (pe_callB call_isi (by rfl) mI (by decide +kernel) (pa_cons (pv 1) (pa_cons (pe_bltn (v := .ty "list") (by rfl) mLi (by decide +kernel) rfl) pa_nil))) (nomark _)))))
          (pss_one ps_never) pss_nil)
        (pss_one (ps_ret (pe_and (pe_cmpR op_eq (pe_callB call_len_seq (by rfl) mL boot_len (pa_cons (pv 0) pa_nil)) (pe_callB call_len_seq (by rfl) mL boot_len (pa_cons (pv 1) pa_nil)) (nomark _))
          (pe_one (pe_callB (cr_all rfl) (by rfl) mA (by decide +kernel) (pa_cons (pe_lc (own := [("_law_k", 2)]) (g := gName 2) (tt := tYes) rfl scAlike.nd (pi_range1 (by rfl) mR (pa_cons (pe_callB call_len_seq (by rfl) mL boot_len (pa_cons (pv 1) pa_nil)) pa_nil)) (blkOk_by (N := ["_law_found", "_law_due", "_law_k"]) (sc := defScope sAlike) (by decide +kernel))
            (fun _ _ _ _ _ => pg_name (i := 2) scAlike.nd rfl (Or.inl rfl)) (fun _ _ _ _ _ => pts_nil) (fun _ _ _ _ _ => pe_call GA hr (by rfl) gA kA bA .nil pass0 (pa_cons (pe_ix (r := rIx K) ix_seq (pv 0) (pv 2) (fun _ _ => rfl)) (pa_cons (pe_ix (r := rIx K) ix_seq (pv 1) (pv 2) (fun _ _ => rfl)) pa_nil)))) pa_nil))))))) pss_nil)
      (pss_one (ps_ret (pe_and (pe_cmpR op_eq (pe_callB call_isi (by rfl) mI (by decide +kernel) (pa_cons (pv 0) (pa_cons (pe_bltn (v := .ty "bool") (by rfl) mB (by decide +kernel) rfl) pa_nil))) (pe_callB call_isi (by rfl) mI (by decide +kernel) (pa_cons (pv 1) (pa_cons (pe_bltn (v := .ty "bool") (by rfl) mB (by decide +kernel) rfl) pa_nil))) (nomark _))
        (pe_one (pe_cmpR op_eq (pv 0) (pv 1) (nomark _)))))), ?_⟩
    refine ⟨y, rfl, by show 2 ≤ sizeLine; decide, fun p np => ?_⟩
    have e3 : Ex H (upd H p (.tup [.ty "tuple", .ty "list"])) := Ex.new np
    refine ⟨y, p, _, _, _, _, rfl, upd_same, .cons (.ty _) (.cons (.ty _) .nil), (Dt.ex e3 d y hy).ty, kit_seq d, _, rfl, ?_⟩
    have hx2 := Dt.ex e3 d x hx
    have hy2 := Dt.ex e3 d y hy
    generalize upd H p (.tup [.ty "tuple", .ty "list"]) = H2 at e3 hx2 hy2
    cases hs : isSeq d with
    | false =>
      refine iteF ?_
      refine st_next ?_
      dsimp only
      obtain ⟨exy, hsc⟩ := leaf_same hs hx hy
      subst exy
      refine Evl.s_ret (v := .bl (true && true)) (Evl.ev_andV ?_ fun _ => ?_) fun H4 e4 => q H4 (e3.trans e4)
      · exact Evl.ev_is (Evl.ev_op (ev_isi rfl hx2 (kit_bool d)) (ev_isi rfl hx2 (kit_bool d)) (Evl.rv_eq rfl)) (by rw [decide_eq_true rfl])
      · exact Evl.ev_is (Evl.ev_op (Evl.ev_var rfl) (Evl.ev_var rfl) (Evl.rv_eq hsc)) (by rw [decide_eq_true rfl])
    | true =>
      refine iteT ?_
      obtain ⟨a, xs, ds, rfl, ea, ax⟩ := seq_of hs hx2
      obtain ⟨b, ys, ds2, rfl, eb, ay⟩ := seq_of hs hy2
      have hds : ds2 = ds ∧ ds.length ≤ 1000 ∧ ∀ d' ∈ ds, Lay n d' := by
        rcases ea with ⟨rfl, _⟩ | ⟨rfl, _⟩
        · rcases eb with ⟨z, _⟩ | ⟨z, _⟩
          · cases z
            exact ⟨rfl, hd.lst_inv⟩
          · cases z
        · rcases eb with ⟨z, _⟩ | ⟨z, _⟩
          · cases z
          · cases z
            exact ⟨rfl, hd.tup_inv⟩
      obtain ⟨hq, hz, hl⟩ := hds
      subst hq
      have ha : H2 a = some (.lst xs) ∨ H2 a = some (.tup xs) := ea.imp And.right And.right
      have hb : H2 b = some (.lst ys) ∨ H2 b = some (.tup ys) := eb.imp And.right And.right
      refine Evl.q_when (b := false) ?_ (fun z => nomatch z) fun _ H3 e4 => ?_
      · refine Evl.et_is (Evl.et_or (a := false) (Evl.et_test (Evl.ev_is (Evl.ev_op (ev_isi rfl hx2 (kit_tuple d)) (ev_isi rfl hy2 (kit_tuple d)) (Evl.rv_ne rfl)) ?_)) fun _ => Evl.et_test (Evl.ev_is (Evl.ev_op (ev_isi rfl hx2 (kit_list d)) (ev_isi rfl hy2 (kit_list d)) (Evl.rv_ne rfl)) (w := .bl false) ?_)) rfl
        · rw [decide_eq_true rfl]
          rfl
        · rw [decide_eq_true rfl]
          rfl
      · have e5 := e3.trans e4
        have ha3 : H3 a = some (.lst xs) ∨ H3 a = some (.tup xs) := ha.imp (e4 _ _) (e4 _ _)
        have hb3 : H3 b = some (.lst ys) ∨ H3 b = some (.tup ys) := hb.imp (e4 _ _) (e4 _ _)
        refine Evl.s_ret (v := .bl (true && true)) (Evl.ev_andV ?_ fun _ => ?_) fun H4 e6 => q H4 (e5.trans e6)
        · refine Evl.ev_is (Evl.ev_op (ev_lenS ha3 (Evl.ev_var rfl)) (ev_lenS hb3 (Evl.ev_var rfl)) (Evl.rv_eq rfl)) ?_
          rw [ax.len, ay.len, decide_eq_true rfl]
        · have ax3 := DtAll.ex e4 _ _ ax
          have ay3 := DtAll.ex e4 _ _ ay
          refine ev_cbN (Evl.el_lcR1 (n := (ys.length : Int)) (fun _ => true) (fun _ => V.bl true) (Evl.ea_cons (ev_lenS hb3 (Evl.ev_var rfl)) Evl.ea_nil) ⟨by omega, ?_⟩ (fun _ => rfl) (fun i H1 e hx H2 e2 Q q => q H2 (Ex.refl H2)) fun i H1 e hi _ => ?_) fun p H1 hp e => ?_
          · have := ay.len
            omega
          · have hi2 : i < ds2.length := by
              rw [← ay.len]
              omega
            obtain ⟨u, hu, du⟩ := at_all ax3 hi2
            obtain ⟨v, hv, dv⟩ := at_all ay3 hi2
            refine Evl.ev_call (vs := [u, v]) (Evl.ea_cons (Evl.ev_op (Evl.ev_var rfl) (Evl.ev_var rfl) (rv_item (ha3.imp (e _ _) (e _ _)) hu)) (Evl.ea_cons (Evl.ev_op (Evl.ev_var rfl) (Evl.ev_var rfl) (rv_item (hb3.imp (e _ _) (e _ _)) hv)) Evl.ea_nil)) ?_
            exact fun H5 e5 Q q _ => ⟨u, v, _, rfl, Dt.ex (e.trans e5) _ _ du, Dt.ex (e.trans e5) _ _ dv, hl _ (List.getElem_mem hi2), q⟩
          · rw [given_all] at hp
            have e1 : (List.range ((ys.length : Int)).toNat).map (fun _ => V.bl true) = ((List.range ((ys.length : Int)).toNat).map fun _ => true).map V.bl := by
              rw [List.map_map]
              rfl
            rw [e1] at hp
            have r := rc_all (K := K) hp
            have e2 : (((List.range ((ys.length : Int)).toNat).map fun _ => true).all id) = true := by
              rw [List.all_eq_true]
              intro b hb
              obtain ⟨_, _, e⟩ := List.mem_map.mp hb
              exact e.symm
            rw [e2] at r
            exact r
end
end Sw
namespace Sw
open PySem PySem.Spec PyProof.Rows L2
open Evl (Ex Ex.refl Ex.trans Ex.new Ex.mut ex_l ex_t ex_rd fresh_back Ev EvL EvU EvT EvA RV RC RCL SpV SpL)
/-! ### steps in memory, the dict of free places -/
def castS (w : List Step) : List (Int × Int) := w.map fun s => ((s.1 : Int), (s.2 : Int))
theorem castS_len (w : List Step) : (castS w).length = w.length := List.length_map _
theorem castS_app (u v : List Step) : castS (u ++ v) = castS u ++ castS v := List.map_append
structure FreeG (f : Int → List Nat) (st : List (Int × Int)) (H : Hp) (d : Addr) (T : List (Int × Addr)) : Prop where
  at_ : H d = some (.dK (T.map fun t => ((Sum.inl t.1 : Key), V.ref t.2)))
  nk : (T.map (·.1)).Nodup
  na : (T.map (·.2)).Nodup
  in_ : ∀ t ∈ T, H t.2 = some (.lst (nats (f t.1)))
  all : ∀ x, IsEnd st x → ∃ t ∈ T, t.1 = x
/-- all stays but the dict's lists -/
def Kp (T : List (Int × Addr)) (H H' : Hp) : Prop := ∀ x o, H x = some o → (∀ t ∈ T, x ≠ t.2) → H' x = some o
theorem Kp.refl (T : List (Int × Addr)) (H : Hp) : Kp T H H := fun _ _ h _ => h
theorem Kp.trans {T : List (Int × Addr)} {H H1 H2 : Hp} (a : Kp T H H1) (b : Kp T H1 H2) : Kp T H H2 := fun x o h n => b x o (a x o h n) n
theorem Kp.of {T : List (Int × Addr)} {H H' : Hp} (e : Ex H H') : Kp T H H' := fun x o h _ => e x o h
theorem Kp.put {T : List (Int × Addr)} {H : Hp} {t : Int × Addr} {o : HO} (ht : t ∈ T) : Kp T H (upd H t.2 o) := fun x u h n => by
  rw [upd_ne (n t ht)]
  exact h
theorem Kp.mut {T : List (Int × Addr)} {H H' : Hp} {p : Addr} {o : HO} (k : Kp T H H') (h : H p = none) : Kp T H (upd H' p o) := fun x u hx n => by
  have : x ≠ p := fun e => by
    rw [e, h] at hx
    cases hx
  rw [upd_ne this]
  exact k x u hx n
theorem Kp.fresh {T : List (Int × Addr)} {H H' : Hp} {p : Addr} (k : Kp T H H') (h : H' p = none) (n : ∀ t ∈ T, p ≠ t.2) : H p = none := by
  cases e : H p with
  | none => rfl
  | some o =>
    have := k p o e n
    rw [h] at this
    cases this
theorem FreeG.ex {f : Int → List Nat} {st : List (Int × Int)} {H H' : Hp} {d : Addr} {T : List (Int × Addr)} (h : FreeG f st H d T) (e : Ex H H') : FreeG f st H' d T := ⟨e _ _ h.at_, h.nk, h.na, fun t m => e _ _ (h.in_ t m), h.all⟩
/-- what is no list, or was there no list of it -/
theorem FreeG.far {f : Int → List Nat} {st : List (Int × Int)} {H : Hp} {d : Addr} {T : List (Int × Addr)} (h : FreeG f st H d T) {x : Addr} (hx : ∀ xs, H x ≠ some (.lst xs)) : ∀ t ∈ T, x ≠ t.2 := fun t m e => hx _ (by rw [e]; exact h.in_ t m)
theorem FreeG.new {f : Int → List Nat} {st : List (Int × Int)} {H : Hp} {d : Addr} {T : List (Int × Addr)} (h : FreeG f st H d T) {x : Addr} (hx : H x = none) : ∀ t ∈ T, x ≠ t.2 := h.far fun xs => by
  rw [hx]
  exact fun z => nomatch z
theorem StonesAt.kp {f : Int → List Nat} {st su : List (Int × Int)} {H H' : Hp} {a d : Addr} {T : List (Int × Addr)} (hS : StonesAt H a su) (h : FreeG f st H d T) (n : ∀ t ∈ T, a ≠ t.2) (k : Kp T H H') : StonesAt H' a su := by
  obtain ⟨ts, h1, h2, h3⟩ := hS
  refine ⟨ts, k _ _ h1 n, h2, fun i t s e1 e2 => ?_⟩
  have q := h3 i t s e1 e2
  exact k _ _ q (h.far fun xs z => by rw [q] at z; cases z)
theorem FreeG.get {f : Int → List Nat} {st : List (Int × Int)} {H : Hp} {d : Addr} {T : List (Int × Addr)} (h : FreeG f st H d T) {x : Int} (hx : IsEnd st x) : ∃ t ∈ T, t.1 = x ∧ DGet H d (.int x) (some (.ref t.2)) := by
  obtain ⟨t, m, e⟩ := h.all x hx
  refine ⟨t, m, e, ?_⟩
  have v : valV (T.map fun t => ((Sum.inl t.1 : Key), V.ref t.2)) (Sum.inl x) = some (.ref t.2) := by
    have key : ∀ L : List (Int × Addr), (L.map (·.1)).Nodup → t ∈ L → valV (L.map fun t => ((Sum.inl t.1 : Key), V.ref t.2)) (Sum.inl x) = some (.ref t.2) := by
      intro L
      induction L with
      | nil => intro _ m; cases m
      | cons u L ih =>
        intro hn m
        obtain ⟨n1, n2⟩ := List.nodup_cons.mp hn
        rcases List.mem_cons.mp m with c | m
        · subst c
          unfold valV
          rw [List.map_cons, List.find?_cons]
          have c : decide ((((Sum.inl t.1 : Key), V.ref t.2) : Key × V).1 = Sum.inl x) = true := decide_eq_true (by rw [e])
          rw [c]
          rfl
        · have ne : u.1 ≠ x := fun c => n1 (by show u.1 ∈ _; rw [c, ← e]; exact List.mem_map.mpr ⟨t, m, rfl⟩)
          have := ih n2 m
          unfold valV at this ⊢
          rw [List.map_cons, List.find?_cons]
          have c : decide ((((Sum.inl u.1 : Key), V.ref u.2) : Key × V).1 = Sum.inl x) = false := decide_eq_false fun c => ne (Sum.inl.inj c)
          rw [c]
          exact this
    exact key T h.nk m
  have := DGet.k (k := Sum.inl x) h.at_
  rw [v] at this
  exact this
/-- one list is put anew -/
theorem FreeG.put {f g : Int → List Nat} {st : List (Int × Int)} {H : Hp} {d : Addr} {T : List (Int × Addr)} (h : FreeG f st H d T) {t : Int × Addr} (m : t ∈ T) (h1 : ∀ y, y ≠ t.1 → g y = f y) : FreeG g st (upd H t.2 (.lst (nats (g t.1)))) d T := by
  have nd : d ≠ t.2 := h.far (fun xs z => by rw [h.at_] at z; cases z) t m
  refine ⟨by rw [upd_ne nd]; exact h.at_, h.nk, h.na, fun u mu => ?_, h.all⟩
  by_cases c : u = t
  · rw [c, upd_same]
  · have inj : ∀ {L : List (Int × Addr)} {F : Int × Addr → Addr} , (L.map F).Nodup → u ∈ L → t ∈ L → F u = F t → u = t := by
      intro L F hn
      induction L with
      | nil => intro m; cases m
      | cons v L ih =>
        intro mu mt e
        obtain ⟨n1, n2⟩ := List.nodup_cons.mp hn
        rcases List.mem_cons.mp mu with c1 | mu
        · rcases List.mem_cons.mp mt with c2 | mt
          · rw [c1, c2]
          · exact absurd (List.mem_map.mpr ⟨t, mt, by rw [← e, c1]⟩) n1
        · rcases List.mem_cons.mp mt with c2 | mt
          · exact absurd (List.mem_map.mpr ⟨u, mu, by rw [e, c2]⟩) n1
          · exact ih n2 mu mt e
    have injk : ∀ {L : List (Int × Addr)}, (L.map (·.1)).Nodup → u ∈ L → t ∈ L → u.1 = t.1 → u = t := by
      intro L hn
      induction L with
      | nil => intro m; cases m
      | cons v L ih =>
        intro mu mt e
        obtain ⟨n1, n2⟩ := List.nodup_cons.mp hn
        rcases List.mem_cons.mp mu with c1 | mu
        · rcases List.mem_cons.mp mt with c2 | mt
          · rw [c1, c2]
          · exact absurd (List.mem_map.mpr ⟨t, mt, by rw [← e, c1]⟩) n1
        · rcases List.mem_cons.mp mt with c2 | mt
          · exact absurd (List.mem_map.mpr ⟨u, mu, by rw [e, c2]⟩) n1
          · exact ih n2 mu mt e
    have n1 : u.2 ≠ t.2 := fun e => c (inj h.na mu m e)
    have n2 : u.1 ≠ t.1 := fun e => c (injk h.nk mu m e)
    rw [upd_ne n1, h.in_ u mu, h1 _ n2]
theorem FreeG.is {f g : Int → List Nat} {st : List (Int × Int)} {H : Hp} {d : Addr} {T : List (Int × Addr)} (h : FreeG f st H d T) (e : ∀ x, f x = g x) : FreeG g st H d T := ⟨h.at_, h.nk, h.na, fun t m => by rw [← e]; exact h.in_ t m, h.all⟩
abbrev FreeAt (st : List (Int × Int)) (F : List Nat) (H : Hp) (d : Addr) (T : List (Int × Addr)) : Prop := FreeG (freeL st F) st H d T
def SpU (sp : Sp) (vs : List V) (H : Hp) (xs : List V) : Prop := ∀ H1, Ex H H1 → ∀ Q : VK, (∀ p H2, H1 p = none → Ex H1 H2 → H2 p = some (.tup xs) → Q (.ref p) H2) → ∀ E : XK, sp vs H1 Q E
end Sw
namespace Sw
open PySem PySem.Spec PyProof.Rows L2
open Evl (Ex Ex.refl Ex.trans Ex.new Ex.mut ex_l ex_t ex_rd fresh_back Ev EvL EvU EvT EvA RV RC RCL SpV SpL)
theorem flat_int2 (l : List Int) : (l.map V.int).all flatV = true := by
  rw [List.all_eq_true]
  intro v hv
  obtain ⟨k, _, e⟩ := List.mem_map.mp hv
  rw [← e]
  rfl
theorem inV_int2 (x : Int) (l : List Int) : inV (.int x) (l.map V.int) = decide (x ∈ l) := by
  unfold inV
  rw [List.any_map]
  refine Bool.eq_iff_iff.mpr ?_
  rw [List.any_eq_true, decide_eq_true_eq]
  constructor
  · rintro ⟨y, hy, e⟩
    have e : (y == x) = true := e
    rw [← eq_of_beq e]
    exact hy
  · intro h
    exact ⟨x, h, beq_self_eq_true x⟩
theorem atI_last {xs : List V} {v : V} {n : Nat} (hl : xs.length = n + 1) (h : xs[n]? = some v) : atI xs (-1) = some v := by
  unfold atI ixN
  rw [if_neg (by decide), if_pos (by omega), hl]
  show xs[((-1 : Int) + ((n + 1 : Nat) : Int)).toNat]? = some v
  rw [show ((-1 : Int) + ((n + 1 : Nat) : Int)).toNat = n from by omega]
  exact h
/-- a list of lists of steps -/
def ChainsAt (H : Hp) (q : Addr) (ps : List Addr) (cs : List (List Step)) : Prop := H q = some (.lst (ps.map V.ref)) ∧ ps.length = cs.length ∧ ∀ (i : Nat) (p : Addr) (c : List Step), ps[i]? = some p → cs[i]? = some c → StonesAt H p (castS c)
theorem ChainsAt.ex {H H' : Hp} {q : Addr} {ps : List Addr} {cs : List (List Step)} (h : ChainsAt H q ps cs) (e : Ex H H') : ChainsAt H' q ps cs := ⟨e _ _ h.1, h.2.1, fun i p c a b => (h.2.2 i p c a b).ex e⟩
/-- the chains one by one -/
def Chs (H : Hp) (ps : List Addr) (cs : List (List Step)) : Prop := ps.length = cs.length ∧ ∀ (i : Nat) (p : Addr) (c : List Step), ps[i]? = some p → cs[i]? = some c → StonesAt H p (castS c)
theorem Chs.nil (H : Hp) : Chs H [] [] := ⟨rfl, fun i p c e => by simp at e⟩
theorem Chs.ex {H H' : Hp} {ps : List Addr} {cs : List (List Step)} (h : Chs H ps cs) (e : Ex H H') : Chs H' ps cs := ⟨h.1, fun i p c a b => (h.2 i p c a b).ex e⟩
theorem Chs.kp {f : Int → List Nat} {st : List (Int × Int)} {H H' : Hp} {d : Addr} {T : List (Int × Addr)} {ps : List Addr} {cs : List (List Step)} (h : Chs H ps cs) (g : FreeG f st H d T) (n : ∀ p ∈ ps, ∀ t ∈ T, p ≠ t.2) (k : Kp T H H') : Chs H' ps cs :=
  ⟨h.1, fun i p c a b => (h.2 i p c a b).kp g (n p (List.mem_of_getElem? a)) k⟩
/-- another list is changed -/
theorem StonesAt.upd {H : Hp} {p x : Addr} {su : List (Int × Int)} {xs ys : List V} (h : StonesAt H p su) (hx : H x = some (.lst xs)) (n : p ≠ x) : StonesAt (upd H x (.lst ys)) p su := by
  obtain ⟨ts, h1, h2, h3⟩ := h
  refine ⟨ts, by rw [upd_ne n]; exact h1, h2, fun i t s a b => ?_⟩
  have q := h3 i t s a b
  rw [upd_ne fun e => by rw [e, hx] at q; cases q]
  exact q
theorem Chs.upd {H : Hp} {x : Addr} {ps : List Addr} {cs : List (List Step)} {xs ys : List V} (h : Chs H ps cs) (hx : H x = some (.lst xs)) (n : ∀ p ∈ ps, p ≠ x) : Chs (upd H x (.lst ys)) ps cs :=
  ⟨h.1, fun i p c a b => (h.2 i p c a b).upd hx (n p (List.mem_of_getElem? a))⟩
theorem Chs.app {H : Hp} {ps : List Addr} {cs : List (List Step)} {p : Addr} {c : List Step} (h : Chs H ps cs) (hp : StonesAt H p (castS c)) : Chs H (ps ++ [p]) (cs ++ [c]) := by
  refine ⟨by rw [List.length_append, List.length_append, h.1]; rfl, fun i p' c' a b => ?_⟩
  by_cases k : i < ps.length
  · rw [List.getElem?_append_left k] at a
    rw [List.getElem?_append_left (by have := h.1; omega)] at b
    exact h.2 i p' c' a b
  · rw [List.getElem?_append_right (by omega)] at a
    rw [List.getElem?_append_right (by have := h.1; omega), ← h.1] at b
    have z : i - ps.length = 0 := by
      have := (List.getElem?_eq_some_iff.mp a).1
      simp at this
      omega
    rw [z] at a b
    have a := Option.some.inj a
    have b := Option.some.inj b
    rw [← a, ← b]
    exact hp
theorem FreeG.upd {f : Int → List Nat} {st : List (Int × Int)} {H : Hp} {d x : Addr} {T : List (Int × Addr)} {xs ys : List V} (g : FreeG f st H d T) (hx : H x = some (.lst xs)) (n : ∀ t ∈ T, x ≠ t.2) : FreeG f st (upd H x (.lst ys)) d T :=
  ⟨by rw [upd_ne fun e => by have := g.at_; rw [e, hx] at this; cases this]; exact g.at_, g.nk, g.na, fun t m => by rw [upd_ne fun e => n t m e.symm]; exact g.in_ t m, g.all⟩
end Sw
namespace Sw
open PySem PySem.Spec PyProof.Rows L2
open Evl (Ex Ex.refl Ex.trans Ex.new Ex.mut ex_l ex_t ex_rd fresh_back Ev EvL EvU EvT EvA RV RC RCL SpV SpL)
section
variable {P : Program} {w : World} {K : PySem.W.Frag} {mg : Str → Option Value} {base : Heap}
/-! ### lying -/
theorem scLying : FnScope ["stone", "turned", "first", "second"] ["stone", "turned"] (defScope sLying) := ⟨rfl, rfl, rfl, by decide +kernel, rfl, by decide +kernel, by decide +kernel⟩
def spLying : Sp := fun vs H Q _ => ∃ (t : Addr) (x y b : Int), vs = [.ref t, .int b] ∧ H t = some (.tup [.int x, .int y]) ∧ ∀ p H2, H p = none → Ex H H2 → H2 p = some (.tup (if b = 0 then [.int x, .int y] else [.int y, .int x])) → Q (.ref p) H2
theorem ok_lying {f : Addr} {fd : FuncData} (F : Fun K "lying" "lying" sLying f fd) : FnOk P w K mg base CX0 1 f fd ["stone", "turned"] spLying := by
  refine F.ok scLying (fun vs H Q E h => ?_) (fun cdv A outer s H vs Q E hr h => ?_)
  · obtain ⟨t, x, y, b, rfl, _⟩ := h
    rfl
  · obtain ⟨t, x, y, b, rfl, ht, q⟩ := h
    refine ⟨_, pss_cons (ps_asg (pv 0) (pg_tup rfl (pgs_cons (pg_name (i := 2) scLying.nd rfl (.inl rfl)) (pgs_cons (pg_name (i := 3) scLying.nd rfl (.inl rfl)) pgs_nil))))
      (pss_one (ps_ret (pe_ifExp (pt_truth (pv 1) (fun _ => rfl)) (pe_tup (pa_cons (pv 3) (pa_cons (pv 2) pa_nil))) (pe_tup (pa_cons (pv 2) (pa_cons (pv 3) pa_nil)))))), ?_⟩
    refine ⟨_, rfl, t, [.int x, .int y], rfl, SqT.of ht, rfl, .int x, [.int y], rfl, .int y, [], rfl, rfl, ?_⟩
    refine ⟨_, rfl, (b != 0), rfl, ?_⟩
    by_cases c : b = 0
    · rw [show (b != 0) = false from by rw [c]; rfl]
      refine ⟨_, rfl, _, rfl, by show 2 ≤ sizeLine; decide, fun p np => q p _ np (Ex.new np) ?_⟩
      rw [upd_same, if_pos c]
    · rw [show (b != 0) = true from bne_iff_ne.mpr c]
      refine ⟨_, rfl, _, rfl, by show 2 ≤ sizeLine; decide, fun p np => q p _ np (Ex.new np) ?_⟩
      rw [upd_same, if_neg c]
/-! ### _lies -/
theorem scLies : FnScope ["stones", "step", "place", "turned"] ["stones", "step"] (defScope sLies) := ⟨rfl, rfl, rfl, by decide +kernel, rfl, by decide +kernel, by decide +kernel⟩
def spLies : Sp := fun vs H Q _ => ∃ (a t : Addr) (st : List (Int × Int)) (s : Step), vs = [.ref a, .ref t] ∧ StonesAt H a st ∧ H t = some (.tup [.int (s.1 : Int), .int (s.2 : Int)]) ∧ s.1 < st.length ∧ ∀ p H2, H p = none → Ex H H2 → H2 p = some (.tup [.int (lie st s).1, .int (lie st s).2]) → Q (.ref p) H2
theorem ok_lies {f fY : Addr} {fd fdY : FuncData} (F : Fun K "lies" "lies" sLies f fd)
    (GY : FnOk P w K mg base CX0 1 fY fdY ["stone", "turned"] spLying) (gY : mg "lying" = some (.ref fY)) (kY : PySem.W.keepIn K (.ref fY) = true) (bY : Binds K fdY ["stone", "turned"] []) : FnOk P w K mg base CX0 2 f fd ["stones", "step"] spLies := by
  refine F.ok scLies (fun vs H Q E h => ?_) (fun cdv A outer s H vs Q E hr h => ?_)
  · obtain ⟨a, t, st, s, rfl, _⟩ := h
    rfl
  · obtain ⟨a, t, st, s, rfl, hS, ht, hl, q⟩ := h
    refine ⟨_, pss_cons (ps_asg (pv 1) (pg_tup rfl (pgs_cons (pg_name (i := 2) scLies.nd rfl (.inl rfl)) (pgs_cons (pg_name (i := 3) scLies.nd rfl (.inl rfl)) pgs_nil))))
      (pss_one (ps_ret (pe_call GY hr (by rfl) gY kY bY .nil pass0 (pa_cons (pe_ix (r := rIxL K) ix_list (pv 0) (pv 2) (fun _ _ => rfl)) (pa_cons (pv 3) pa_nil))))), ?_⟩
    obtain ⟨ts, u, u1, u2, u3⟩ := hS.get hl
    refine ⟨_, rfl, t, _, rfl, SqT.of ht, rfl, .int (s.1 : Int), [.int (s.2 : Int)], rfl, .int (s.2 : Int), [], rfl, rfl, ?_⟩
    refine ⟨_, rfl, _, rfl, a, _, _, _, rfl, rfl, SqL.of u1, atI_nat u2, _, rfl, u, _, _, (s.2 : Int), rfl, u3, fun p H2 np e2 h2 => q p H2 np e2 ?_⟩
    rw [h2]
    unfold lie
    by_cases c : s.2 = 0
    · rw [if_pos c, if_pos (by omega)]
    · rw [if_neg c, if_neg (by omega)]
theorem pv_lies1 {a t : Addr} {st : List (Int × Int)} {s : Step} {σ : L2.St} {H : Hp} {E : XK} {i j : Nat} (h0 : σ[i]? = some (some (.ref a))) (h1 : σ[j]? = some (some (.ref t))) (hS : StonesAt H a st) (ht : H t = some (.tup [.int (s.1 : Int), .int (s.2 : Int)])) (hl : s.1 < st.length) :
    Ev (tOp (rIxT K) (tCall spLies [] E (tCons (tVar i) (tCons (tVar j) tNil))) (tC (.int 1))) σ H (.int (lie st s).2) := fun H1 e Q q =>
  ⟨_, h0, _, h1, a, t, st, s, rfl, hS.ex e, e _ _ ht, hl, fun p H2 np e2 h2 => ⟨p, _, 1, _, rfl, rfl, SqT.of h2, rfl, q H2 e2⟩⟩
/-! ### _taken -/
theorem scTaken : FnScope ["stones", "free", "number", "place", "stone", "end"] ["stones", "free", "number"] (defScope sTaken) := ⟨rfl, rfl, rfl, by decide +kernel, rfl, by decide +kernel, by decide +kernel⟩
def spTaken : Sp := fun vs H Q _ => ∃ (a d : Addr) (x : Int) (st : List (Int × Int)) (F : List Nat) (T : List (Int × Addr)) (p : Nat), vs = [.ref a, .ref d, .int x] ∧ StonesAt H a st ∧ FreeAt st F H d T ∧ (∀ t ∈ T, a ≠ t.2) ∧ F.Nodup ∧ (∀ q ∈ F, q < st.length) ∧
  F.find? (hasE st x) = some p ∧ ∀ q H', H q = none → Kp T H H' → FreeAt st (F.erase p) H' d T → H' q = some (.tup [.int ((stepOf st x p).1 : Int), .int ((stepOf st x p).2 : Int)]) → Q (.ref q) H'
theorem ok_taken {f : Addr} {fd : FuncData} (F : Fun K "_taken" "_taken" sTaken f fd) : FnOk P w K mg base CX0 1 f fd ["stones", "free", "number"] spTaken := by
  refine F.ok scTaken (fun vs H Q E h => ?_) (fun cdv A outer s H vs Q E hr h => ?_)
  · obtain ⟨a, d, x, st, F, T, p, rfl, _⟩ := h
    rfl
  · obtain ⟨a, d, x, st, F, T, p, rfl, hS, hF, na, hn, hlt, hp, q⟩ := h
    refine ⟨_, pss_cons (ps_set (i := 3) scTaken.nd rfl (.inl rfl) (pe_ix (r := rIxL K) ix_list (pe_dget (hu_of hr) (pv 1) (pv 2) (fun _ _ => rfl)) pe_int (fun _ _ => rfl)))
      (pss_cons (ps_set (i := 4) scTaken.nd rfl (.inl rfl) (pe_ix (r := rIxL K) ix_list (pv 0) (pv 3) (fun _ _ => rfl)))
      (pss_cons (ps_for PassesOwn.never rfl (pi_tup (pv 4)) (pg_name (i := 5) scTaken.nd rfl (.inl rfl))
        (pss_one (ps_expr (pe_bm PySem.F.plainAttrs_list PySem.F.slot_list_remove PySem.F.type_list_remove mt_remove (pe_dget (hu_of hr) (pv 1) (pv 5) (fun _ _ => rfl)) (pa_cons (pv 3) pa_nil)))))
      (pss_one (ps_ret (pe_tup (pa_cons (pv 3) (pa_cons (pe_ifExp (pt_cmpR op_eq (pe_ix (r := rIxT K) ix_tup (pv 4) pe_int (fun _ _ => rfl)) (pv 2) (nomark _)) pe_int pe_int) pa_nil))))))), ?_⟩
    have pm : p ∈ F := List.mem_of_find?_eq_some hp
    have pl : p < st.length := hlt p pm
    have pe : hasE st x p = true := List.find?_some hp
    have ends := st_ends pl
    have hx : IsEnd st x := by
      rcases hasE_iff.mp pe with e | e
      · rw [← e]; exact ends.1
      · rw [← e]; exact ends.2
    obtain ⟨t, tm, te, tg⟩ := hF.get hx
    have ht := hF.in_ t tm
    rw [te] at ht
    have h0 : (nats (freeL st F x))[0]? = some (.int (p : Int)) := nats_at (by rw [freeL_find]; exact hp)
    obtain ⟨ts, u, u1, u2, u3⟩ := hS.get pl
    refine ⟨_, rfl, _, rfl, d, _, rfl, tg, t.2, _, 0, _, rfl, rfl, SqL.of ht, atI_nat (j := 0) h0, ?_⟩
    refine ⟨_, rfl, _, rfl, a, _, _, _, rfl, rfl, SqL.of u1, atI_nat u2, ?_⟩
    have nu : ∀ t ∈ T, u ≠ t.2 := hF.far fun xs z => by
      rw [u3] at z
      cases z
    refine ⟨_, rfl, u, rfl, ⟨_, SqT.of u3⟩, for_tup (xs := [.int (sa st p), .int (sb st p)]) (fun i σ H' => Kp T H H' ∧ (∃ x5, σ = [some (.ref a), some (.ref d), some (.int x), some (.int (p : Int)), some (.ref u), x5]) ∧ FreeG (if i = 0 then freeL st F else if i = 1 then freeM st F p else freeL st (F.erase p)) st H' d T)
      ⟨Kp.refl T H, ⟨_, rfl⟩, hF⟩ (fun i σ H' _ h => SqT.of (h.1 _ _ u3 nu)) ?_ ?_⟩
    · rintro i y σ H1 hi ⟨k1, ⟨x5, rfl⟩, g1⟩
      cases i with
      | zero =>
        have hi := (Option.some.inj hi).symm
        subst hi
        rw [if_pos rfl] at g1
        obtain ⟨t1, m1, e1, d1⟩ := g1.get ends.1
        have l1 := g1.in_ t1 m1
        rw [e1] at l1
        obtain ⟨r1, r2⟩ := erase_first hn pm
        obtain ⟨j, j1, j2, j3⟩ := erase_ix (l := ofNats (freeL st F (sa st p))) (k := (p : Int)) (List.mem_map.mpr ⟨p, r1, rfl⟩)
        refine ⟨_, rfl, _, rfl, d, _, rfl, d1, .inl ⟨rfl, _, SqL.of l1⟩, _, rfl, t1.2, _, _, j, rfl, rfl, by rw [← nats_eq]; exact l1, j1, j2, ?_⟩
        rw [j3, show (ofNats (freeL st F (sa st p))).erase (p : Int) = ofNats (freeM st F p (sa st p)) from by unfold ofNats; rw [erase_nats, r2], ← nats_eq]
        refine ⟨k1.trans (Kp.put m1), ⟨_, rfl⟩, ?_⟩
        have := g1.put (g := freeM st F p) m1 fun y hy => freeM_same (by rw [← e1]; exact hy)
        rw [e1] at this
        exact this
      | succ i =>
        cases i with
        | zero =>
          have hi := (Option.some.inj hi).symm
          subst hi
          rw [if_neg (by decide), if_pos rfl] at g1
          obtain ⟨t1, m1, e1, d1⟩ := g1.get ends.2
          have l1 := g1.in_ t1 m1
          rw [e1] at l1
          obtain ⟨r1, r2, r3⟩ := erase_second (st := st) hn pm
          obtain ⟨j, j1, j2, j3⟩ := erase_ix (l := ofNats (freeM st F p (sb st p))) (k := (p : Int)) (List.mem_map.mpr ⟨p, r1, rfl⟩)
          refine ⟨_, rfl, _, rfl, d, _, rfl, d1, .inl ⟨rfl, _, SqL.of l1⟩, _, rfl, t1.2, _, _, j, rfl, rfl, by rw [← nats_eq]; exact l1, j1, j2, ?_⟩
          rw [j3, show (ofNats (freeM st F p (sb st p))).erase (p : Int) = ofNats (freeL st (F.erase p) (sb st p)) from by unfold ofNats; rw [erase_nats, r2], ← nats_eq]
          refine ⟨k1.trans (Kp.put m1), ⟨_, rfl⟩, ?_⟩
          have := g1.put (g := freeL st (F.erase p)) m1 fun y hy => (r3 y (by rw [← e1]; exact hy)).symm
          rw [e1] at this
          exact this
        | succ i => simp at hi
    · rintro σ H1 ⟨k1, ⟨x5, rfl⟩, g1⟩
      have g1 : FreeAt st (F.erase p) H1 d T := g1
      have u4 := k1 _ _ u3 nu
      refine ⟨_, rfl, _, rfl, u, _, 0, _, rfl, rfl, SqT.of u4, atI_nat (j := 0) rfl, _, rfl, rfl, decide (V.int (sa st p) = V.int x), rfl, ?_⟩
      have fin : ∀ b : Int, b = ((stepOf st x p).2 : Int) → ([V.int (p : Int), V.int b].length ≤ sizeLine ∧ ∀ z, H1 z = none → Q (.ref z) (upd H1 z (.tup [.int (p : Int), .int b]))) := fun b hb => by
        refine ⟨by show 2 ≤ sizeLine; decide, fun z nz => q z _ (k1.fresh nz (g1.new nz)) (k1.trans (Kp.of (Ex.new nz))) (g1.ex (Ex.new nz)) ?_⟩
        rw [upd_same, hb]
        rfl
      by_cases c : sa st p = x
      · rw [decide_eq_true (by rw [c])]
        refine iteT ?_
        exact fin 0 (by unfold stepOf; rw [if_pos c]; rfl)
      · rw [decide_eq_false (fun z => c (V.int.inj z))]
        refine iteF ?_
        exact fin 1 (by unfold stepOf; rw [if_neg c]; rfl)
end
end Sw
namespace Sw
open PySem PySem.Spec PyProof.Rows L2
open Evl (Ex Ex.refl Ex.trans Ex.new Ex.mut ex_l ex_t ex_rd fresh_back Ev EvL EvU EvT EvA RV RC RCL SpV SpL)
theorem bit_stepOf (st : List (Int × Int)) (x : Int) (p : Nat) : (stepOf st x p).2 ≤ 1 := by
  unfold stepOf
  dsimp only
  split <;> omega
theorem isEnd_lie {st : List (Int × Int)} {s : Step} (h : s.1 < st.length) : IsEnd st (lie st s).1 ∧ IsEnd st (lie st s).2 := by
  have := st_ends h
  unfold lie
  split
  · exact this
  · exact ⟨this.2, this.1⟩
section
variable {P : Program} {w : World} {K : PySem.W.Frag} {mg : Str → Option Value} {base : Heap}
theorem scWalk : FnScope ["stones", "free", "number", "walk", "step"] ["stones", "free", "number"] (defScope sWalk) := ⟨rfl, rfl, rfl, by decide +kernel, rfl, by decide +kernel, by decide +kernel⟩
def spWalk : Sp := fun vs H Q _ => ∃ (a d : Addr) (x : Int) (st : List (Int × Int)) (F : List Nat) (T : List (Int × Addr)), vs = [.ref a, .ref d, .int x] ∧ StonesAt H a st ∧ FreeAt st F H d T ∧ (∀ t ∈ T, a ≠ t.2) ∧ F.Nodup ∧ (∀ q ∈ F, q < st.length) ∧ F.length ≤ 60 ∧ IsEnd st x ∧
  ∀ q H', H q = none → Kp T H H' → FreeAt st (walkF st F x).2.1 H' d T → StonesAt H' q (castS (walkF st F x).1) → Q (.ref q) H'
theorem ok_walk {f fT fL : Addr} {fd fdT fdL : FuncData} (F : Fun K "_walk" "_walk" sWalk f fd)
    (GT : FnOk P w K mg base CX0 1 fT fdT ["stones", "free", "number"] spTaken) (gT : mg "_taken" = some (.ref fT)) (kT : PySem.W.keepIn K (.ref fT) = true) (bT : Binds K fdT ["stones", "free", "number"] [])
    (GL : FnOk P w K mg base CX0 2 fL fdL ["stones", "step"] spLies) (gL : mg "lies" = some (.ref fL)) (kL : PySem.W.keepIn K (.ref fL) = true) (bL : Binds K fdL ["stones", "step"] []) : FnOk P w K mg base CX0 3 f fd ["stones", "free", "number"] spWalk := by
  refine F.ok scWalk (fun vs H Q E h => ?_) (fun cdv A outer s H vs Q E hr h => ?_)
  · obtain ⟨a, d, x, st, F, T, rfl, _⟩ := h
    rfl
  · obtain ⟨a, d, x, st, F, T, rfl, hS, hF, na, hn, hlt, hl, hx, q⟩ := h
    have hr1 : Room 1 _ := hr.mono (by decide)
    refine ⟨_, pss_cons (ps_set (i := 3) scWalk.nd rfl (.inl rfl) (pe_lst pa_nil))
      (pss_cons (ps_while PassesOwn.never (pt_truth (pe_dget (hu_of hr) (pv 1) (pv 2) (fun _ _ => rfl)) (fun _ => rfl))
        (pss_cons (ps_set (i := 4) scWalk.nd rfl (.inl rfl) (pe_call GT hr1 (by rfl) gT kT bT .nil pass0 (pa_cons (pv 0) (pa_cons (pv 1) (pa_cons (pv 2) pa_nil)))))
        (pss_cons (ps_expr (pe_bm PySem.F.plainAttrs_list PySem.F.slot_list_append PySem.F.type_list_append mt_append (pv 3) (pa_cons (pv 4) pa_nil)))
        (pss_one (ps_set (i := 2) scWalk.nd rfl (.inl rfl) (pe_ix (r := rIxT K) ix_tup (pe_call GL hr (by rfl) gL kL bL .nil pass0 (pa_cons (pv 0) (pa_cons (pv 4) pa_nil))) pe_int (fun _ _ => rfl)))))))
      (pss_one (ps_ret (pv 3)))), ?_⟩
    refine ⟨Nat.zero_le _, fun wp nwp => ?_⟩
    have e0 : Ex H (upd H wp (.lst [])) := Ex.new nwp
    have nw : ∀ t ∈ T, wp ≠ t.2 := hF.new nwp
    refine ⟨fun m σ H' => ∃ (F1 : List Nat) (x1 : Int) (done : List Step) (x4 : Option V), σ = [some (.ref a), some (.ref d), some (.int x1), some (.ref wp), x4] ∧ m = F1.length ∧ Kp T H H' ∧ FreeAt st F1 H' d T ∧ StonesAt H' wp (castS done) ∧ F1.Nodup ∧ (∀ q ∈ F1, q < st.length) ∧ IsEnd st x1 ∧
        done.length + F1.length = F.length ∧ walkF st F x = (done ++ (walkF st F1 x1).1, (walkF st F1 x1).2),
      ⟨_, F, x, [], _, rfl, rfl, Kp.of e0, hF.ex e0, stones_nil upd_same, hn, hlt, hx, Nat.zero_add _, rfl⟩, fun m σ H1 hW => ?_⟩
    obtain ⟨F1, x1, done, x4, rfl, rfl, k1, g1, hw1, hn1, hlt1, hx1, hlen, hwk⟩ := hW
    have hS1 := hS.kp hF na k1
    obtain ⟨t, tm, te, tg⟩ := g1.get hx1
    have ht := g1.in_ t tm
    rw [te] at ht
    refine ⟨_, rfl, _, rfl, d, _, rfl, tg, (!(nats (freeL st F1 x1)).isEmpty), .inl ⟨_, SqL.of ht, rfl⟩, ?_⟩
    cases hf : F1.find? (hasE st x1) with
    | none =>
      rw [freeL_nil hf]
      refine iteF ?_
      rw [walk_none hf, List.append_nil] at hwk
      refine ⟨_, rfl, q wp H1 nwp k1 ?_ ?_⟩
      · rw [hwk]
        exact g1
      · rw [hwk]
        exact hw1
    | some p =>
      have ne : (!(nats (freeL st F1 x1)).isEmpty) = true := by
        have e := freeL_find st x1 F1
        rw [hf] at e
        cases h : freeL st F1 x1 with
        | nil =>
          rw [h] at e
          cases e
        | cons b l => rfl
      rw [ne]
      refine iteT ?_
      have pm : p ∈ F1 := List.mem_of_find?_eq_some hf
      have pl : (stepOf st x1 p).1 < st.length := hlt1 p pm
      refine ⟨fun σ H' => ∃ m', m' < F1.length ∧ ∃ (F2 : List Nat) (x1 : Int) (done : List Step) (x4 : Option V), σ = [some (.ref a), some (.ref d), some (.int x1), some (.ref wp), x4] ∧ m' = F2.length ∧ Kp T H H' ∧ FreeAt st F2 H' d T ∧ StonesAt H' wp (castS done) ∧ F2.Nodup ∧ (∀ q ∈ F2, q < st.length) ∧ IsEnd st x1 ∧
        done.length + F2.length = F.length ∧ walkF st F x = (done ++ (walkF st F2 x1).1, (walkF st F2 x1).2), fun σ' H' h => h, ?_⟩
      refine ⟨_, rfl, _, rfl, _, rfl, a, d, x1, st, F1, T, p, rfl, hS1, g1, na, hn1, hlt1, hf, fun z H2 nz k2 g2 hz => ?_⟩
      have hS2 := hS1.kp g1 na k2
      obtain ⟨ts, w1, w2, w3⟩ := hw1.kp g1 nw k2
      have zw : wp ≠ z := fun e => by
        rw [← e, w1] at hz
        cases hz
      have zT : ∀ t ∈ T, z ≠ t.2 := g1.new nz
      refine ⟨_, rfl, .inl ⟨rfl, _, SqL.of w1⟩, _, rfl, wp, _, _, rfl, rfl, w1, by rw [List.length_map, w2, castS_len]; exact small1000 (by omega), ?_⟩
      have kz : Kp T H H2 := k1.trans k2
      have k3 : Kp T H (upd H2 wp (.lst (ts.map V.ref ++ [.ref z]))) := kz.mut nwp
      have up : ∀ y o, H2 y = some o → y ≠ wp → (upd H2 wp (.lst (ts.map V.ref ++ [.ref z]))) y = some o := fun y o h n => by
        rw [upd_ne n]
        exact h
      have g3 : FreeAt st (F1.erase p) (upd H2 wp (.lst (ts.map V.ref ++ [.ref z]))) d T := ⟨up _ _ g2.at_ (fun e => by
        have := g2.at_
        rw [e, w1] at this
        cases this), g2.nk, g2.na, fun t m => up _ _ (g2.in_ t m) fun e => nw t m e.symm, g2.all⟩
      have hS3 : StonesAt (upd H2 wp (.lst (ts.map V.ref ++ [.ref z]))) a st := hS.kp hF na k3
      have hz3 := up z _ hz fun e => zw e.symm
      have hw3 : StonesAt (upd H2 wp (.lst (ts.map V.ref ++ [.ref z]))) wp (castS (done ++ [stepOf st x1 p])) := by
        refine ⟨ts ++ [z], by rw [upd_same, List.map_append]; rfl, by rw [List.length_append, castS_len, List.length_append, w2, castS_len]; rfl, fun i t s g1 g2 => ?_⟩
        rw [castS_app] at g2
        by_cases c : i < ts.length
        · rw [List.getElem?_append_left c] at g1
          rw [List.getElem?_append_left (by omega)] at g2
          have h := w3 i t s g1 g2
          exact up _ _ h fun e => by
            rw [e, w1] at h
            cases h
        · rw [List.getElem?_append_right (by omega)] at g1
          rw [List.getElem?_append_right (by omega), ← w2] at g2
          have zz : i - ts.length = 0 := by
            have := (List.getElem?_eq_some_iff.mp g1).1
            simp at this
            omega
          rw [zz] at g1 g2
          have g1 := Option.some.inj g1
          have g2 := Option.some.inj g2
          rw [← g1, ← g2]
          exact hz3
      generalize upd H2 wp (.lst (ts.map V.ref ++ [.ref z])) = H3 at k3 g3 hS3 hz3 hw3 ⊢
      refine pv_lies1 (σ := [some (.ref a), some (.ref d), some (.int x1), some (.ref wp), some (.ref z)]) (i := 0) (j := 4) rfl rfl hS3 hz3 pl H3 (Ex.refl H3) _ fun H4 e4 => ?_
      have ln : (F1.erase p).length + 1 = F1.length := by
        rw [List.length_erase_of_mem pm]
        have := List.length_pos_of_mem pm
        omega
      refine ⟨(F1.erase p).length, by omega, F1.erase p, (lie st (stepOf st x1 p)).2, done ++ [stepOf st x1 p], _, rfl, rfl, k3.trans (Kp.of e4), g3.ex e4, hw3.ex e4, hn1.erase _, fun q hq => hlt1 q (List.mem_of_mem_erase hq), (isEnd_lie pl).2, by rw [List.length_append]; show done.length + 1 + _ = _; omega, ?_⟩
      rw [hwk, walk_some hf, List.append_assoc]
      rfl
end
end Sw
namespace Sw
open PySem PySem.Spec PyProof.Rows L2
open Evl (Ex Ex.refl Ex.trans Ex.new Ex.mut ex_l ex_t ex_rd fresh_back Ev EvL EvU EvT EvA RV RC RCL SpV SpL)
theorem walks_skip {st : List (Int × Int)} {x : Int} {xs en : List Int} {F : List Nat} (c : x ∈ en) : walksF st (x :: xs) en F = walksF st xs en F := by
  conv => lhs; unfold walksF
  rw [if_pos c]
theorem walks_go {st : List (Int × Int)} {x : Int} {xs en : List Int} {F : List Nat} (c : x ∉ en) : walksF st (x :: xs) en F = ((walkF st F x).1 :: (walksF st xs (en ++ [(walkF st F x).2.2]) (walkF st F x).2.1).1, (walksF st xs (en ++ [(walkF st F x).2.2]) (walkF st F x).2.1).2) := by
  conv => lhs; unfold walksF
  rw [if_neg c]
section
variable {P : Program} {w : World} {K : PySem.W.Frag} {mg : Str → Option Value} {base : Heap}
theorem scWalks : FnScope ["stones", "free", "starts", "walks", "ended", "number", "walk"] ["stones", "free", "starts"] (defScope sWalks) := ⟨rfl, rfl, rfl, by decide +kernel, rfl, by decide +kernel, by decide +kernel⟩
def spWalks : Sp := fun vs H Q _ => ∃ (a d sl : Addr) (xs : List Int) (st : List (Int × Int)) (F : List Nat) (T : List (Int × Addr)), vs = [.ref a, .ref d, .ref sl] ∧ StonesAt H a st ∧ FreeAt st F H d T ∧ (∀ t ∈ T, a ≠ t.2) ∧ F.Nodup ∧ (∀ q ∈ F, q < st.length) ∧ F.length ≤ 60 ∧
  H sl = some (.lst (xs.map V.int)) ∧ (∀ t ∈ T, sl ≠ t.2) ∧ xs.length ≤ 1000 ∧ (∀ x ∈ xs, IsEnd st x) ∧ (∀ v ∈ (walksF st xs [] F).1, v ≠ []) ∧
  ∀ q ps H', H q = none → Kp T H H' → FreeAt st (walksF st xs [] F).2 H' d T → H' q = some (.lst (ps.map V.ref)) → Chs H' ps (walksF st xs [] F).1 → (∀ p ∈ ps, H p = none) → Q (.ref q) H'
theorem ok_walks {f fW fL : Addr} {fd fdW fdL : FuncData} (F : Fun K "_walks" "_walks" sWalks f fd)
    (GW : FnOk P w K mg base CX0 3 fW fdW ["stones", "free", "number"] spWalk) (gW : mg "_walk" = some (.ref fW)) (kW : PySem.W.keepIn K (.ref fW) = true) (bW : Binds K fdW ["stones", "free", "number"] [])
    (GL : FnOk P w K mg base CX0 2 fL fdL ["stones", "step"] spLies) (gL : mg "lies" = some (.ref fL)) (kL : PySem.W.keepIn K (.ref fL) = true) (bL : Binds K fdL ["stones", "step"] []) : FnOk P w K mg base CX0 4 f fd ["stones", "free", "starts"] spWalks := by
  refine F.ok scWalks (fun vs H Q E h => ?_) (fun cdv A outer s H vs Q E hr h => ?_)
  · obtain ⟨a, d, sl, xs, st, F, T, rfl, _⟩ := h
    rfl
  · obtain ⟨a, d, sl, xs, st, F, T, rfl, hS, hF, na, hn, hlt, hl, hsl, nsl, hxl, hxe, hne, q⟩ := h
    have hr2 : Room 2 _ := hr.mono (by decide)
    refine ⟨_, pss_cons (ps_set (i := 3) scWalks.nd rfl (.inl rfl) (pe_lst pa_nil))
      (pss_cons (ps_set (i := 4) scWalks.nd rfl (.inl rfl) (pe_lst pa_nil))
      (pss_cons (ps_for PassesOwn.never rfl (pi_list (pv 2)) (pg_name (i := 5) scWalks.nd rfl (.inl rfl))
        (pss_one (ps_if (pt_cmpR (r := rIn K true) op_notIn_seq (pv 5) (pv 4) (by rfl))
          (pss_cons (ps_set (i := 6) scWalks.nd rfl (.inl rfl) (pe_call GW hr (by rfl) gW kW bW .nil pass0 (pa_cons (pv 0) (pa_cons (pv 1) (pa_cons (pv 5) pa_nil)))))
          (pss_cons (ps_expr (pe_bm PySem.F.plainAttrs_list PySem.F.slot_list_append PySem.F.type_list_append mt_append (pv 4) (pa_cons (pe_ix (r := rIxT K) ix_tup (pe_call GL hr2 (by rfl) gL kL bL .nil pass0 (pa_cons (pv 0) (pa_cons (pe_ix (r := rIxL K) ix_list (pv 6) (pe_un un_neg pe_int) (fun _ _ => rfl)) pa_nil))) pe_int (fun _ _ => rfl)) pa_nil)))
          (pss_one (ps_expr (pe_bm PySem.F.plainAttrs_list PySem.F.slot_list_append PySem.F.type_list_append mt_append (pv 3) (pa_cons (pv 6) pa_nil)))))) pss_nil)))
      (pss_one (ps_ret (pv 3))))), ?_⟩
    refine ⟨Nat.zero_le _, fun wl nwl => ⟨Nat.zero_le _, fun el nel => ?_⟩⟩
    have e1 : Ex H (upd H wl (.lst [])) := Ex.new nwl
    have wle : wl ≠ el := ne_of_none upd_same nel
    have nel0 : H el = none := fresh_back e1 nel
    have e2 : Ex H (upd (upd H wl (.lst [])) el (.lst [])) := e1.trans (Ex.new nel)
    have hwl0 : (upd (upd H wl (.lst [])) el (.lst [])) wl = some (.lst []) := by rw [upd_ne wle]; exact upd_same
    have hel0 : (upd (upd H wl (.lst [])) el (.lst [])) el = some (.lst []) := upd_same
    have twl : ∀ t ∈ T, wl ≠ t.2 := hF.new nwl
    have tel : ∀ t ∈ T, el ≠ t.2 := hF.new nel0
    generalize upd (upd H wl (.lst [])) el (.lst []) = H0 at e2 hwl0 hel0 ⊢
    refine Evl.q_forL (K := K) (a := sl) (xs := xs.map V.int) (Evl.ev_var rfl) (SqL.of (e2 _ _ hsl)) (fun i σ H' => ∃ (F1 : List Nat) (en : List Int) (ws : List (List Step)) (ps : List Addr) (x5 x6 : Option V), σ = [some (.ref a), some (.ref d), some (.ref sl), some (.ref wl), some (.ref el), x5, x6] ∧ Kp T H H' ∧ FreeAt st F1 H' d T ∧
        H' wl = some (.lst (ps.map V.ref)) ∧ H' el = some (.lst (en.map V.int)) ∧ Chs H' ps ws ∧ (∀ p ∈ ps, H p = none ∧ p ≠ wl ∧ p ≠ el) ∧ F1.Nodup ∧ (∀ q ∈ F1, q < st.length) ∧ F1.length ≤ 60 ∧ en.length ≤ i ∧ ws.length ≤ i ∧
        walksF st xs [] F = (ws ++ (walksF st (xs.drop i) en F1).1, (walksF st (xs.drop i) en F1).2))
      (fun H1 e => ⟨F, [], [], [], _, _, rfl, Kp.of (e2.trans e), hF.ex (e2.trans e), e _ _ hwl0, e _ _ hel0, Chs.nil _, fun p hp => (nomatch hp), hn, hlt, hl, Nat.le_refl _, Nat.le_refl _, rfl⟩)
      (fun i σ' H' _ h => by obtain ⟨_, _, _, _, _, _, _, k, _⟩ := h; exact SqL.of (k _ _ hsl nsl)) ?_ ?_
    · rintro i y σ' H1 hi ⟨F1, en, ws, ps, x5, x6, rfl, k1, g1, hwl, hel, hc, hps, hn1, hlt1, hl1, hen, hws, hwk⟩
      rw [List.getElem?_map] at hi
      obtain ⟨x, hx, rfl⟩ := Option.map_eq_some_iff.mp hi
      have il : i < xs.length := (List.getElem?_eq_some_iff.mp hx).1
      have dr : xs.drop i = x :: xs.drop (i + 1) := by
        rw [List.drop_eq_getElem_cons il]
        congr 1
        have := List.getElem?_eq_getElem il
        rw [hx] at this
        exact (Option.some.inj this).symm
      rw [dr] at hwk
      have hS1 := hS.kp hF na k1
      refine ⟨_, rfl, _, rfl, el, en.map V.int, rfl, .inl (SqL.of hel), rfl, flat_int2 en, _, rfl, ?_⟩
      rw [if_pos rfl, inV_int2]
      by_cases c : x ∈ en
      · rw [decide_eq_true c]
        refine iteF ?_
        rw [walks_skip c] at hwk
        exact ⟨F1, en, ws, ps, _, _, rfl, k1, g1, hwl, hel, hc, hps, hn1, hlt1, hl1, by omega, by omega, hwk⟩
      · rw [decide_eq_false c]
        refine iteT ?_
        rw [walks_go c] at hwk
        have ok := walk_ok st _ F1 x rfl
        have wne : (walkF st F1 x).1 ≠ [] := hne _ (by rw [hwk]; exact List.mem_append.mpr (.inr List.mem_cons_self))
        refine ⟨_, rfl, _, rfl, _, rfl, a, d, x, st, F1, T, rfl, hS1, g1, na, hn1, hlt1, hl1, hxe x (List.mem_of_getElem? hx), fun wp H2 nwp k2 g2 hw => ?_⟩
        have twp : ∀ t ∈ T, wp ≠ t.2 := g1.new nwp
        have wpl : wp ≠ wl := fun e => by rw [e, hwl] at nwp; cases nwp
        have wpe : wp ≠ el := fun e => by rw [e, hel] at nwp; cases nwp
        have hS2 := hS1.kp g1 na k2
        have hwl2 := k2 _ _ hwl twl
        have hel2 := k2 _ _ hel tel
        have tps : ∀ p ∈ ps, ∀ t ∈ T, p ≠ t.2 := fun p hp => hF.new (hps p hp).1
        have hc2 := hc.kp g1 tps k2
        obtain ⟨ts, w1, w2, w3⟩ := id hw
        -- the last step
        have ll : (walkF st F1 x).1.length = ((walkF st F1 x).1.length - 1) + 1 := by
          have := List.length_pos_iff.mpr wne
          omega
        rw [castS_len] at w2
        have il2 : (walkF st F1 x).1.length - 1 < ts.length := by omega
        have ht := w3 _ _ ((((walkF st F1 x).1.getLast wne).1 : Int), (((walkF st F1 x).1.getLast wne).2 : Int)) (List.getElem?_eq_getElem il2) (by
          unfold castS
          rw [List.getElem?_map, ← List.getLast?_eq_getElem?, List.getLast?_eq_some_getLast wne]
          rfl)
        have lp : ((walkF st F1 x).1.getLast wne).1 < st.length := hlt1 _ (ok.perm.mem_iff.mp (List.mem_append.mpr (.inl (List.mem_map.mpr ⟨_, List.getLast_mem wne, rfl⟩))))
        have lst := Tr.last wne ok.tr
        refine ⟨_, rfl, .inl ⟨rfl, _, SqL.of hel2⟩, _, rfl, _, rfl, _, rfl, wp, _, _, .ref ts[(walkF st F1 x).1.length - 1], rfl, rfl, SqL.of w1, atI_last (n := (walkF st F1 x).1.length - 1) (by rw [List.length_map, w2]; exact ll) (by rw [List.getElem?_map, List.getElem?_eq_getElem il2]; rfl),
          a, _, st, (walkF st F1 x).1.getLast wne, rfl, hS2, ht, lp, fun z H3 nz e3 hz => ?_⟩
        refine ⟨z, _, 1, _, rfl, rfl, SqT.of hz, rfl, el, _, _, rfl, rfl, e3 _ _ hel2, by rw [List.length_map]; exact small1000 (by omega), ?_⟩
        rw [lst]
        have hel3 := e3 _ _ hel2
        have hwl3 := e3 _ _ hwl2
        have ne3 : wl ≠ el := wle
        have hwl4 : (upd H3 el (.lst (en.map V.int ++ [.int (walkF st F1 x).2.2]))) wl = some (.lst (ps.map V.ref)) := by rw [upd_ne ne3]; exact hwl3
        have hel4 : (upd H3 el (.lst (en.map V.int ++ [.int (walkF st F1 x).2.2]))) el = some (.lst ((en ++ [(walkF st F1 x).2.2]).map V.int)) := by rw [upd_same, List.map_append]; rfl
        have hc4 : Chs (upd H3 el (.lst (en.map V.int ++ [.int (walkF st F1 x).2.2]))) (ps ++ [wp]) (ws ++ [(walkF st F1 x).1]) := ((hc2.ex e3).app (hw.ex e3)).upd hel3 fun p hp => by
          rcases List.mem_append.mp hp with hp | hp
          · exact (hps p hp).2.2
          · rw [List.mem_singleton.mp hp]
            exact wpe
        have g4 : FreeAt st (walkF st F1 x).2.1 (upd H3 el (.lst (en.map V.int ++ [.int (walkF st F1 x).2.2]))) d T := (g2.ex e3).upd hel3 tel
        have k4 : Kp T H (upd H3 el (.lst (en.map V.int ++ [.int (walkF st F1 x).2.2]))) := ((k1.trans k2).trans (Kp.of e3)).mut nel0
        generalize upd H3 el (.lst (en.map V.int ++ [.int (walkF st F1 x).2.2])) = H4 at hwl4 hel4 hc4 g4 k4 ⊢
        refine ⟨_, rfl, .inl ⟨rfl, _, SqL.of hwl4⟩, _, rfl, wl, _, _, rfl, rfl, hwl4, by rw [List.length_map, hc.1]; exact small1000 (by omega), ?_⟩
        have hps4 : ∀ p ∈ ps ++ [wp], H p = none ∧ p ≠ wl ∧ p ≠ el := fun p hp => by
          rcases List.mem_append.mp hp with hp | hp
          · exact hps p hp
          · rw [List.mem_singleton.mp hp]
            exact ⟨k1.fresh nwp twp, wpl, wpe⟩
        refine ⟨(walkF st F1 x).2.1, en ++ [(walkF st F1 x).2.2], ws ++ [(walkF st F1 x).1], ps ++ [wp], _, _, rfl, k4.mut nwl, g4.upd hwl4 twl, by rw [upd_same, List.map_append]; rfl, by rw [upd_ne (fun e => wle e.symm)]; exact hel4, hc4.upd hwl4 fun p hp => (hps4 p hp).2.1, hps4,
          hn1.sublist ok.sub, fun q hq => hlt1 q (ok.sub.subset hq), Nat.le_trans ok.sub.length_le hl1, by rw [List.length_append]; show en.length + 1 ≤ _; omega, by rw [List.length_append]; show ws.length + 1 ≤ _; omega, ?_⟩
        rw [hwk, List.append_assoc]
        rfl
    · rintro σ' H1 ⟨F1, en, ws, ps, x5, x6, rfl, k1, g1, hwl, hel, hc, hps, hn1, hlt1, hl1, hen, hws, hwk⟩
      rw [List.length_map, List.drop_length] at hwk
      have hwk : walksF st xs [] F = (ws ++ [], F1) := hwk
      rw [List.append_nil] at hwk
      rw [hwk] at q
      exact ⟨_, rfl, q wl ps H1 nwl k1 g1 hwl hc fun p hp => (hps p hp).1⟩
end
end Sw
namespace Sw
open PySem PySem.Spec PyProof.Rows L2
open Evl (Ex Ex.refl Ex.trans Ex.new Ex.mut ex_l ex_t ex_rd fresh_back Ev EvL EvU EvT EvA RV RC RCL SpV SpL)
/-- let in between -/
theorem splice_stones {H : Hp} {ch b : Addr} {su sv : List (Int × Int)} {n : Nat} {xs ys : List V} (h : StonesAt H ch su) (k : StonesAt H b sv) (hn : n ≤ su.length) (hx : H ch = some (.lst xs)) (hy : H b = some (.lst ys)) :
    StonesAt (upd H ch (.lst (xs.take n ++ ys ++ xs.drop n))) ch (su.take n ++ sv ++ su.drop n) ∧ xs.length = su.length ∧ ys.length = sv.length := by
  obtain ⟨ts, t1, t2, t3⟩ := h
  obtain ⟨us, u1, u2, u3⟩ := k
  rw [t1] at hx
  rw [u1] at hy
  cases hx
  cases hy
  refine ⟨⟨ts.take n ++ us ++ ts.drop n, by rw [upd_same, List.map_append, List.map_append, List.map_take, List.map_drop], by rw [List.length_append, List.length_append, List.length_append, List.length_append, List.length_take, List.length_take, List.length_drop, List.length_drop, t2, u2], fun i t s a c => ?_⟩, by rw [List.length_map, t2], by rw [List.length_map, u2]⟩
  have key : H t = some (.tup [.int s.1, .int s.2]) := by
    have l1 : (ts.take n).length = n := by rw [List.length_take]; omega
    have l2 : (su.take n).length = n := by rw [List.length_take]; omega
    rw [List.append_assoc] at a c
    by_cases c1 : i < n
    · rw [List.getElem?_append_left (by omega), List.getElem?_take, if_pos c1] at a
      rw [List.getElem?_append_left (by omega), List.getElem?_take, if_pos c1] at c
      exact t3 i t s a c
    · rw [List.getElem?_append_right (by omega), l1] at a
      rw [List.getElem?_append_right (by omega), l2] at c
      by_cases c2 : i - n < us.length
      · rw [List.getElem?_append_left c2] at a
        rw [List.getElem?_append_left (by omega)] at c
        exact u3 _ t s a c
      · rw [List.getElem?_append_right (by omega), List.getElem?_drop] at a
        rw [List.getElem?_append_right (by omega), List.getElem?_drop, ← u2] at c
        exact t3 _ t s a c
  rw [upd_ne fun e => by rw [e, t1] at key; cases key]
  exact key
theorem pv_lies0 {st : List (Int × Int)} {a t ch : Addr} {s : Step} {σ : L2.St} {H : Hp} {E : XK} {xs : List V} {n : Nat} {K : PySem.W.Frag} (h0 : σ[0]? = some (some (.ref a))) (h3 : σ[3]? = some (some (.ref ch))) (h4 : σ[4]? = some (some (.int (n : Int)))) (hc : H ch = some (.lst xs)) (hx : xs[n]? = some (.ref t))
    (hS : StonesAt H a st) (ht : H t = some (.tup [.int (s.1 : Int), .int (s.2 : Int)])) (hl : s.1 < st.length) :
    Ev (tOp (rIxT K) (tCall spLies [] E (tCons (tVar 0) (tCons (tOp (rIxL K) (tVar 3) (tVar 4)) tNil))) (tC (.int 0))) σ H (.int (lie st s).1) := fun H1 e Q q =>
  ⟨_, h0, _, h3, _, h4, ch, _, _, _, rfl, rfl, SqL.of (e _ _ hc), atI_nat hx, a, t, st, s, rfl, hS.ex e, e _ _ ht, hl, fun p H2 np e2 h2 => ⟨p, _, 0, _, rfl, rfl, SqT.of h2, rfl, q H2 e2⟩⟩
section
variable {P : Program} {w : World} {K : PySem.W.Frag} {mg : Str → Option Value} {base : Heap}
theorem scFilled : FnScope ["stones", "free", "walk", "chain", "at", "number"] ["stones", "free", "walk"] (defScope sFilled) := ⟨rfl, rfl, rfl, by decide +kernel, rfl, by decide +kernel, by decide +kernel⟩
def spFilled : Sp := fun vs H Q _ => ∃ (a d wl : Addr) (c : List Step) (st : List (Int × Int)) (F : List Nat) (T : List (Int × Addr)), vs = [.ref a, .ref d, .ref wl] ∧ StonesAt H a st ∧ FreeAt st F H d T ∧ (∀ t ∈ T, a ≠ t.2) ∧ F.Nodup ∧ (∀ q ∈ F, q < st.length) ∧
  StonesAt H wl (castS c) ∧ (∀ s ∈ c, s.1 < st.length) ∧ F.length ≤ 60 ∧ c.length + F.length ≤ 200 ∧
  ∀ q H', H q = none → Kp T H H' → FreeAt st (fillF st F c).2 H' d T → StonesAt H' q (castS (fillF st F c).1) → Q (.ref q) H'
theorem ok_filled {f fW fL : Addr} {fd fdW fdL : FuncData} (F : Fun K "_filled" "_filled" sFilled f fd) (mLi : mg "list" = none) (mL : mg "len" = none)
    (GW : FnOk P w K mg base CX0 3 fW fdW ["stones", "free", "number"] spWalk) (gW : mg "_walk" = some (.ref fW)) (kW : PySem.W.keepIn K (.ref fW) = true) (bW : Binds K fdW ["stones", "free", "number"] [])
    (GL : FnOk P w K mg base CX0 2 fL fdL ["stones", "step"] spLies) (gL : mg "lies" = some (.ref fL)) (kL : PySem.W.keepIn K (.ref fL) = true) (bL : Binds K fdL ["stones", "step"] []) : FnOk P w K mg base CX0 4 f fd ["stones", "free", "walk"] spFilled := by
  refine F.ok scFilled (fun vs H Q E h => ?_) (fun cdv A outer s H vs Q E hr h => ?_)
  · obtain ⟨a, d, wl, c, st, F, T, rfl, _⟩ := h
    rfl
  · obtain ⟨a, d, wl, c, st, F, T, rfl, hS, hF, na, hn, hlt, hw, hcl, hl, hsz, q⟩ := h
    have hr2 : Room 2 _ := hr.mono (by decide)
    refine ⟨_, pss_cons (ps_set (i := 3) scFilled.nd rfl (.inl rfl) (pe_callTy call_list_of (by rfl) mLi PyProof.Rows.boot_list (pa_cons (pv 2) pa_nil)))
      (pss_cons (ps_set (i := 4) scFilled.nd rfl (.inl rfl) pe_int)
      (pss_cons (ps_while PassesOwn.never (pt_cmpR op_lt (pv 4) (pe_callB (r := Evl.rLenS K) call_len_seq (by rfl) mL boot_len (pa_cons (pv 3) pa_nil)) (nomark _))
        (pss_cons (ps_set (i := 5) scFilled.nd rfl (.inl rfl) (pe_ix (r := rIxT K) ix_tup (pe_call GL hr2 (by rfl) gL kL bL .nil pass0 (pa_cons (pv 0) (pa_cons (pe_ix (r := rIxL K) ix_list (pv 3) (pv 4) (fun _ _ => rfl)) pa_nil))) pe_int (fun _ _ => rfl)))
        (pss_cons (ps_asg (pe_call GW hr (by rfl) gW kW bW .nil pass0 (pa_cons (pv 0) (pa_cons (pv 1) (pa_cons (pv 5) pa_nil)))) (pg_slc (pv 3) (po_some (pv 4)) (po_some (pv 4))))
        (pss_one (ps_aug (i := 4) scFilled.nd rfl (.inl rfl) pe_int ip_add)))))
      (pss_one (ps_ret (pv 3))))), ?_⟩
    obtain ⟨ts, t1, t2, t3⟩ := id hw
    refine ⟨_, rfl, wl, _, rfl, .inl (SqL.of t1), fun ch nch => ?_⟩
    have e0 : Ex H (upd H ch (.lst (ts.map V.ref))) := Ex.new nch
    have tch : ∀ t ∈ T, ch ≠ t.2 := hF.new nch
    have hc0 : StonesAt (upd H ch (.lst (ts.map V.ref))) ch (castS c) := ⟨ts, upd_same, t2, fun i t s a b => e0 _ _ (t3 i t s a b)⟩
    refine ⟨fun m σ H' => ∃ (F1 : List Nat) (done c1 : List Step) (x5 : Option V), σ = [some (.ref a), some (.ref d), some (.ref wl), some (.ref ch), some (.int (done.length : Int)), x5] ∧ m = c1.length + 2 * F1.length ∧ Kp T H H' ∧ FreeAt st F1 H' d T ∧ StonesAt H' ch (castS (done ++ c1)) ∧ F1.Nodup ∧ (∀ q ∈ F1, q < st.length) ∧ (∀ s ∈ c1, s.1 < st.length) ∧ F1.length ≤ 60 ∧
        done.length + c1.length + F1.length ≤ 200 ∧ fillF st F c = (done ++ (fillF st F1 c1).1, (fillF st F1 c1).2),
      ⟨_, F, [], c, _, rfl, rfl, Kp.of e0, hF.ex e0, hc0, hn, hlt, hcl, hl, by show 0 + _ + _ ≤ _; omega, rfl⟩, fun m σ H1 hW => ?_⟩
    obtain ⟨F1, done, c1, x5, rfl, rfl, k1, g1, hc1, hn1, hlt1, hcl1, hl1, hsz1, hfl⟩ := hW
    have hS1 := hS.kp hF na k1
    obtain ⟨us, u1, u2, u3⟩ := id hc1
    rw [castS_len, List.length_append] at u2
    refine ⟨_, rfl, _, rfl, ch, _, rfl, .inl (SqL.of u1), _, _, rfl, rfl, _, rfl, ?_⟩
    cases c1 with
    | nil =>
      rw [decide_eq_false (by rw [List.length_map, u2]; show ¬ (_ < _); rw [List.length_nil]; omega)]
      refine iteF ?_
      rw [fill_nil, List.append_nil] at hfl
      rw [List.append_nil] at hc1
      rw [hfl] at q
      exact ⟨_, rfl, q ch H1 nch k1 g1 hc1⟩
    | cons s c0 =>
      rw [decide_eq_true (by rw [List.length_map, u2, List.length_cons]; omega)]
      refine iteT ?_
      have sl := hcl1 s List.mem_cons_self
      have ok := walk_ok st _ F1 (lie st s).1 rfl
      have wl' := walk_len st F1 (lie st s).1
      obtain ⟨u, dd, hd⟩ : ∃ u d, (walkF st F1 (lie st s).1).1 ++ s :: c0 = u :: d := by
        cases h : (walkF st F1 (lie st s).1).1 with
        | nil => exact ⟨s, c0, rfl⟩
        | cons v w => exact ⟨v, w ++ s :: c0, rfl⟩
      rw [fill_cons hd] at hfl
      have iu : done.length < us.length := by
        rw [u2, List.length_cons]
        omega
      have ht := u3 done.length _ ((s.1 : Int), (s.2 : Int)) (List.getElem?_eq_getElem iu) (by
        unfold castS
        rw [List.getElem?_map, List.getElem?_append_right (Nat.le_refl _), Nat.sub_self]
        rfl)
      refine ⟨fun σ H' => ∃ m', m' < (s :: c0).length + 2 * F1.length ∧ ∃ (F1 : List Nat) (done c1 : List Step) (x5 : Option V), σ = [some (.ref a), some (.ref d), some (.ref wl), some (.ref ch), some (.int (done.length : Int)), x5] ∧ m' = c1.length + 2 * F1.length ∧ Kp T H H' ∧ FreeAt st F1 H' d T ∧ StonesAt H' ch (castS (done ++ c1)) ∧ F1.Nodup ∧ (∀ q ∈ F1, q < st.length) ∧ (∀ s ∈ c1, s.1 < st.length) ∧ F1.length ≤ 60 ∧
        done.length + c1.length + F1.length ≤ 200 ∧ fillF st F c = (done ++ (fillF st F1 c1).1, (fillF st F1 c1).2), fun σ' H' h => h, ?_⟩
      refine pv_lies0 (K := K) (σ := [some (.ref a), some (.ref d), some (.ref wl), some (.ref ch), some (.int (done.length : Int)), x5]) rfl rfl rfl u1 (by rw [List.getElem?_map, List.getElem?_eq_getElem iu]; rfl) hS1 ht sl H1 (Ex.refl H1) _ fun H2 e2 => ?_
      refine ⟨_, rfl, _, rfl, _, rfl, a, d, (lie st s).1, st, F1, T, rfl, hS1.ex e2, g1.ex e2, na, hn1, hlt1, hl1, (isEnd_lie sl).1, fun wp H3 nwp k3 g3 hwp => ?_⟩
      have hch2 : StonesAt H2 ch (castS (done ++ s :: c0)) := hc1.ex e2
      have hch3 := hch2.kp (g1.ex e2) tch k3
      obtain ⟨vs, v1, v2, v3⟩ := id hwp
      obtain ⟨zs, z1, z2, z3⟩ := id hch3
      have sp := splice_stones hch3 hwp (n := done.length) (by rw [castS_len, List.length_append]; omega) z1 v1
      have cw : ch ≠ wp := fun e => by
        rw [← e, e2 _ _ u1] at nwp
        cases nwp
      refine ⟨_, rfl, _, rfl, (done.length : Int), rfl, _, rfl, (done.length : Int), rfl, ch, wp, _, _, (done.length : Int), (done.length : Int), rfl, rfl, rfl, rfl, z1, v1, cw, by omega, Int.le_refl _, ?_, ?_, ?_⟩
      · rw [sp.2.1, castS_len, List.length_append]
        omega
      · rw [sp.2.1, sp.2.2, castS_len, castS_len, List.length_append]
        exact Evl.sz_of (by omega)
      · rw [Int.toNat_natCast]
        have eqs : (castS (done ++ s :: c0)).take done.length ++ castS (walkF st F1 (lie st s).1).1 ++ (castS (done ++ s :: c0)).drop done.length = castS ((done ++ [u]) ++ dd) := by
          have l0 : (castS done).length = done.length := castS_len _
          rw [castS_app, ← l0, List.take_left', List.drop_left', ← castS_app, ← castS_app, List.append_assoc, hd, List.append_assoc]
          · rfl
          · rfl
          · rfl
        rw [eqs] at sp
        have dl : dd.length = (walkF st F1 (lie st s).1).1.length + c0.length := by
          have := congrArg List.length hd
          simp only [List.length_append, List.length_cons] at this
          omega
        refine ⟨_, rfl, _, _, rfl, rfl, dd.length + 2 * (walkF st F1 (lie st s).1).2.1.length, by rw [List.length_cons]; omega, (walkF st F1 (lie st s).1).2.1, done ++ [u], dd, some (.int (lie st s).1), ?_, rfl, ((k1.trans (Kp.of e2)).trans k3).mut nch, g3.upd z1 tch, sp.1, hn1.sublist ok.sub, fun q hq => hlt1 q (ok.sub.subset hq), fun t ht => ?_, by omega, ?_, ?_⟩
        · rw [show ((done ++ [u]).length : Int) = (done.length : Int) + 1 from by rw [List.length_append]; rfl]
          rfl
        · have m : t ∈ (walkF st F1 (lie st s).1).1 ++ s :: c0 := by
            rw [hd]
            exact List.mem_cons.mpr (.inr ht)
          rcases List.mem_append.mp m with m | m
          · exact hlt1 _ (ok.perm.mem_iff.mp (List.mem_append.mpr (.inl (List.mem_map.mpr ⟨t, m, rfl⟩))))
          · exact hcl1 t m
        · rw [List.length_append]
          rw [List.length_cons] at hsz1
          show done.length + 1 + dd.length + _ ≤ _
          omega
        · rw [hfl, List.append_assoc]
          rfl
end
end Sw
namespace Sw
open PySem PySem.Spec PyProof.Rows L2
open Evl (Ex Ex.refl Ex.trans Ex.new Ex.mut ex_l ex_t ex_rd fresh_back Ev EvL EvU EvT EvA RV RC RCL SpV SpL)
theorem walks_perm {st : List (Int × Int)} : ∀ (xs en : List Int) (F : List Nat), (plcs (walksF st xs en F).1 ++ (walksF st xs en F).2).Perm F ∧ (walksF st xs en F).2.Sublist F
  | [], en, F => ⟨List.Perm.refl _, List.Sublist.refl _⟩
  | x :: xs, en, F => by
    by_cases c : x ∈ en
    · rw [walks_skip c]
      exact walks_perm xs en F
    · rw [walks_go c]
      have w := walk_ok st _ F x rfl
      obtain ⟨h1, h2⟩ := walks_perm (st := st) xs (en ++ [(walkF st F x).2.2]) (walkF st F x).2.1
      refine ⟨?_, h2.trans w.sub⟩
      show ((plc (walkF st F x).1 ++ plcs _) ++ _).Perm F
      rw [List.append_assoc]
      exact (h1.append_left _).trans w.perm
theorem fill_sub {st : List (Int × Int)} : ∀ (n : Nat) (F : List Nat) (c : List Step), c.length + 2 * F.length = n → (fillF st F c).2.Sublist F
  | n, F, [], _ => by
    rw [fill_nil]
    exact List.Sublist.refl _
  | n, F, s :: c, hn => by
    have w := walk_ok st _ F (lie st s).1 rfl
    have wl := walk_len st F (lie st s).1
    obtain ⟨u, d, hd⟩ : ∃ u d, (walkF st F (lie st s).1).1 ++ s :: c = u :: d := by
      cases h : (walkF st F (lie st s).1).1 with
      | nil => exact ⟨s, c, rfl⟩
      | cons v w => exact ⟨v, w ++ s :: c, rfl⟩
    rw [fill_cons hd]
    have dl : d.length = (walkF st F (lie st s).1).1.length + c.length := by
      have := congrArg List.length hd
      simp only [List.length_append, List.length_cons] at this
      omega
    have hlt : d.length + 2 * (walkF st F (lie st s).1).2.1.length < n := by
      rw [← hn, List.length_cons]
      omega
    exact (fill_sub _ (walkF st F (lie st s).1).2.1 d rfl).trans w.sub
  termination_by n => n
theorem plc_len (c : List Step) : (plc c).length = c.length := List.length_map _
theorem plcs_mem {cs : List (List Step)} {c : List Step} (h : c ∈ cs) : (∀ s ∈ c, s.1 ∈ plcs cs) ∧ c.length ≤ (plcs cs).length := by
  refine ⟨fun s hs => List.mem_flatMap.mpr ⟨c, h, List.mem_map.mpr ⟨s, hs, rfl⟩⟩, ?_⟩
  obtain ⟨u, v, rfl⟩ := List.append_of_mem h
  unfold plcs
  rw [List.flatMap_append, List.flatMap_cons, List.length_append, List.length_append, plc_len]
  omega
section
variable {P : Program} {w : World} {K : PySem.W.Frag} {mg : Str → Option Value} {base : Heap}
theorem scGLaid : FnScope ["stones", "free", "starts", "walks", "walk"] ["stones", "free", "starts"] (defScope sGLaid) := ⟨rfl, rfl, rfl, by decide +kernel, rfl, by decide +kernel, by decide +kernel⟩
def spGLaid : Sp := fun vs H Q _ => ∃ (a d sl : Addr) (xs : List Int) (st : List (Int × Int)) (F : List Nat) (T : List (Int × Addr)), vs = [.ref a, .ref d, .ref sl] ∧ StonesAt H a st ∧ FreeAt st F H d T ∧ (∀ t ∈ T, a ≠ t.2) ∧ F.Nodup ∧ (∀ q ∈ F, q < st.length) ∧ F.length ≤ 60 ∧
  H sl = some (.lst (xs.map V.int)) ∧ (∀ t ∈ T, sl ≠ t.2) ∧ xs.length ≤ 1000 ∧ (∀ x ∈ xs, IsEnd st x) ∧ (∀ v ∈ (walksF st xs [] F).1, v ≠ []) ∧
  ∀ q ps H', H q = none → Kp T H H' → FreeAt st (groupF st F xs).2 H' d T → H' q = some (.lst (ps.map V.ref)) → Chs H' ps (groupF st F xs).1 → (∀ p ∈ ps, H p = none) → Q (.ref q) H'
theorem ok_glaid {f fW fL : Addr} {fd fdW fdL : FuncData} (F : Fun K "_group_laid" "_group_laid" sGLaid f fd)
    (GW : FnOk P w K mg base CX0 4 fW fdW ["stones", "free", "starts"] spWalks) (gW : mg "_walks" = some (.ref fW)) (kW : PySem.W.keepIn K (.ref fW) = true) (bW : Binds K fdW ["stones", "free", "starts"] [])
    (GL : FnOk P w K mg base CX0 4 fL fdL ["stones", "free", "walk"] spFilled) (gL : mg "_filled" = some (.ref fL)) (kL : PySem.W.keepIn K (.ref fL) = true) (bL : Binds K fdL ["stones", "free", "walk"] []) : FnOk P w K mg base CX0 5 f fd ["stones", "free", "starts"] spGLaid := by
  refine F.ok scGLaid (fun vs H Q E h => ?_) (fun cdv A outer s H vs Q E hr h => ?_)
  · obtain ⟨a, d, sl, xs, st, F, T, rfl, _⟩ := h
    rfl
  · obtain ⟨a, d, sl, xs, st, F, T, rfl, hS, hF, na, hn, hlt, hl, hsl, nsl, hxl, hxe, hne, q⟩ := h
    refine ⟨_, pss_cons (ps_set (i := 3) scGLaid.nd rfl (.inl rfl) (pe_call GW hr (by rfl) gW kW bW .nil pass0 (pa_cons (pv 0) (pa_cons (pv 1) (pa_cons (pv 2) pa_nil)))))
      (pss_one (ps_ret (pe_lc (own := [("walk", 4)]) (g := gName 4) (tt := tYes) rfl scGLaid.nd (pi_list (pv 3)) (blkOk_by (own := [("walk", 4)]) (N := ["stones", "free", "starts", "walks", "walk"]) (sc := defScope sGLaid) (by decide +kernel))
        (fun _ _ _ _ _ => pg_name (i := 4) scGLaid.nd rfl (Or.inl rfl)) (fun _ _ _ _ _ => pts_nil)
        (fun _ _ _ _ _ => pe_call GL hr (by rfl) gL kL bL .nil pass0 (pa_cons (pv 0) (pa_cons (pv 1) (pa_cons (pv 4) pa_nil))))))), ?_⟩
    refine ⟨_, rfl, _, rfl, _, rfl, a, d, sl, xs, st, F, T, rfl, hS, hF, na, hn, hlt, hl, hsl, nsl, hxl, hxe, hne, fun wl wps H1 nwl k1 g1 hwl hws nwps => ?_⟩
    obtain ⟨wp, wsub⟩ := walks_perm (st := st) xs [] F
    have twl : ∀ t ∈ T, wl ≠ t.2 := hF.new nwl
    have twps : ∀ p ∈ wps, ∀ t ∈ T, p ≠ t.2 := fun p hp => hF.new (nwps p hp)
    have hS1 := hS.kp hF na k1
    have wpl : (plcs (walksF st xs [] F).1).length + (walksF st xs [] F).2.length ≤ 60 := by
      have := wp.length_eq
      rw [List.length_append] at this
      omega
    have wlt : ∀ c ∈ (walksF st xs [] F).1, (∀ s ∈ c, s.1 < st.length) ∧ c.length ≤ 60 := fun c hc => by
      obtain ⟨h1, h2⟩ := plcs_mem hc
      exact ⟨fun s hs => hlt _ (wp.mem_iff.mp (List.mem_append.mpr (.inl (h1 s hs)))), by omega⟩
    unfold groupF at q
    have hn0 := hn.sublist wsub
    have hlt0 : ∀ q ∈ (walksF st xs [] F).2, q < st.length := fun q hq => hlt q (wsub.subset hq)
    have hl0 : (walksF st xs [] F).2.length ≤ 60 := by omega
    have wll : (walksF st xs [] F).1.length ≤ 60 := by
      have : ∀ cs : List (List Step), (∀ c ∈ cs, c ≠ []) → cs.length ≤ (plcs cs).length := fun cs => by
        induction cs with
        | nil => exact fun _ => Nat.le_refl _
        | cons c cs ih =>
          intro h
          have ih := ih fun c hc => h c (List.mem_cons.mpr (.inr hc))
          have := List.length_pos_iff.mpr (h c List.mem_cons_self)
          unfold plcs at *
          rw [List.flatMap_cons, List.length_append, plc_len, List.length_cons]
          omega
      have := this _ hne
      omega
    generalize (walksF st xs [] F).1 = ws at hws wlt q wll
    generalize (walksF st xs [] F).2 = F0 at g1 q hn0 hlt0 hl0
    refine ⟨_, rfl, wl, rfl, ⟨_, SqL.of hwl⟩, fun D nD => ?_⟩
    have tD : ∀ t ∈ T, D ≠ t.2 := g1.new nD
    have nD0 : H D = none := k1.fresh nD tD
    have wD : ∀ p ∈ wps, p ≠ D := fun p hp => by
      obtain ⟨i, hi⟩ := List.mem_iff_getElem?.mp hp
      have il : i < ws.length := by
        rw [← hws.1]
        exact (List.getElem?_eq_some_iff.mp hi).1
      obtain ⟨ts, h1, _⟩ := hws.2 i p _ hi (List.getElem?_eq_getElem il)
      exact fun e => by
        rw [e, nD] at h1
        cases h1
    refine lc_list (xs := wps.map V.ref) (fun k H' => ∃ (F1 : List Nat) (cs : List (List Step)) (ps : List Addr), Kp T H1 H' ∧ FreeAt st F1 H' d T ∧ H' D = some (.lst (ps.map V.ref)) ∧ Chs H' ps cs ∧ (∀ p ∈ ps, H p = none ∧ p ≠ D) ∧ F1.Sublist F0 ∧ cs.length ≤ k ∧ fillsF st ws F0 = (cs ++ (fillsF st (ws.drop k) F1).1, (fillsF st (ws.drop k) F1).2))
      ⟨F0, [], [], Kp.of (Ex.new nD), g1.ex (Ex.new nD), upd_same, Chs.nil _, fun p hp => (nomatch hp), List.Sublist.refl _, Nat.le_refl _, rfl⟩ (fun i H' _ h => by obtain ⟨_, _, _, k, _⟩ := h; exact SqL.of (k _ _ hwl twl)) ?_ ?_
    · rintro k y H2 hk ⟨F1, cs, ps, k2, g2, hD, hc, hps, hsub, hcl, hfl⟩
      rw [List.getElem?_map] at hk
      obtain ⟨p, hp, rfl⟩ := Option.map_eq_some_iff.mp hk
      have pm := List.mem_of_getElem? hp
      have kl : k < ws.length := by
        rw [← hws.1]
        exact (List.getElem?_eq_some_iff.mp hp).1
      have hw := hws.2 k p _ hp (List.getElem?_eq_getElem kl)
      have wm := wlt _ (List.getElem_mem kl)
      rw [List.drop_eq_getElem_cons kl] at hfl
      refine ⟨rfl, ?_⟩
      unfold tYes
      dsimp only
      rw [if_pos rfl]
      have hl1 : F1.length ≤ 60 := Nat.le_trans hsub.length_le hl0
      refine ⟨_, rfl, _, rfl, _, rfl, a, d, p, ws[k], st, F1, T, rfl, hS1.kp g1 na k2, g2, na, hn0.sublist hsub, fun q hq => hlt0 q (hsub.subset hq), hw.kp g1 (twps p pm) k2, wm.1, hl1, by omega, fun z H3 nz k3 g3 hz => ?_⟩
      have tz : ∀ t ∈ T, z ≠ t.2 := g2.new nz
      have zD : z ≠ D := fun e => by rw [e, hD] at nz; cases nz
      have hD3 := k3 _ _ hD tD
      have tps : ∀ p ∈ ps, ∀ t ∈ T, p ≠ t.2 := fun p hp => hF.new (hps p hp).1
      have nz0 : H z = none := k1.fresh (k2.fresh nz tz) tz
      have hps2 : ∀ p ∈ ps ++ [z], H p = none ∧ p ≠ D := fun p hp => by
        rcases List.mem_append.mp hp with hp | hp
        · exact hps p hp
        · rw [List.mem_singleton.mp hp]
          exact ⟨nz0, zD⟩
      refine ⟨_, hD3, by rw [List.length_map, hc.1]; exact small1000 (by omega), (fillF st F1 ws[k]).2, cs ++ [(fillF st F1 ws[k]).1], ps ++ [z], (k2.trans k3).mut nD, g3.upd hD3 tD, by rw [upd_same, List.map_append]; rfl, ((hc.kp g2 tps k3).app hz).upd hD3 fun p hp => (hps2 p hp).2, hps2, (fill_sub _ F1 ws[k] rfl).trans hsub, by rw [List.length_append]; show cs.length + 1 ≤ _; omega, ?_⟩
      rw [hfl, List.append_assoc]
      rfl
    · rintro H2 ⟨F1, cs, ps, k2, g2, hD, hc, hps, hsub, hcl, hfl⟩
      have e : fillsF st ws F0 = (cs ++ [], F1) := by
        rw [hfl, List.length_map, hws.1, List.drop_length]
        rfl
      rw [List.append_nil] at e
      rw [e] at q
      exact q D ps H2 nD0 (k1.trans k2) g2 hD hc fun p hp => (hps p hp).1
end
end Sw
namespace Sw
open PySem PySem.Spec PyProof.Rows L2
open Evl (Ex Ex.refl Ex.trans Ex.new Ex.mut ex_l ex_t ex_rd fresh_back Ev EvL EvU EvT EvA RV RC RCL SpV SpL)
theorem valT {T : List (Int × Addr)} {x : Int} : (∀ t, t ∈ T → t.1 ≠ x) → valV (T.map fun t => ((Sum.inl t.1 : Key), V.ref t.2)) (Sum.inl x) = none := by
  intro h
  unfold valV
  rw [List.find?_eq_none.mpr]
  · rfl
  · intro kv hk
    obtain ⟨t, ht, rfl⟩ := List.mem_map.mp hk
    rw [decide_eq_true_eq]
    exact fun e => h t ht (Sum.inl.inj e)
/-- the dict as far as it has come -/
structure PlcAt (H H' : Hp) (f : Int → List Nat) (su : List (Int × Int)) (d : Addr) (T : List (Int × Addr)) : Prop where
  ex : Ex H H'
  nd : H d = none
  fr : FreeG f su H' d T
  new : ∀ t ∈ T, H t.2 = none
  off : ∀ x, (∀ t ∈ T, t.1 ≠ x) → f x = []
theorem isEnd_snoc2 {su : List (Int × Int)} {x y : Int} : IsEnd (su ++ [(x, x)]) y ↔ IsEnd su y ∨ y = x := by
  rw [isEnd_snoc]
  exact ⟨fun h => h.elim .inl fun h => .inr (h.elim id id), fun h => h.elim .inl fun h => .inr (.inl h)⟩
/-- free.setdefault(x, []).append(i) -/
theorem PlcAt.add {K : PySem.W.Frag} {H H' : Hp} {f g : Int → List Nat} {su : List (Int × Int)} {d : Addr} {T : List (Int × Addr)} (h : PlcAt H H' f su d T) {x : Int} {i : Nat} (hg : ∀ y, g y = if y = x then f x ++ [i] else f y) (hz : (f x).length ≤ 200) (hT : T.length ≤ 200) {Q : VK}
    (q : ∀ T' H2, PlcAt H H2 g (su ++ [(x, x)]) d T' → T'.length ≤ T.length + 1 → Q .non H2) {ty : TE} {σ : L2.St} {j k : Nat} (hd : σ[j]? = some (some (.ref d))) (hx : Ev ty σ H' (.int x)) (hi : σ[k]? = some (some (.int (i : Int)))) :
    tBM K "list" rAppend (tDSetd (tVar j) ty (tLst tNil)) (tCons (tVar k) tNil) σ H' Q := by
  refine ⟨_, hd, d, rfl, .inl ⟨_, .inl h.fr.at_⟩, hx H' (Ex.refl H') _ fun H2 e2 => ⟨Nat.zero_le _, fun p np => ?_⟩⟩
  have fr2 := h.fr.ex e2
  have ex2 := h.ex.trans e2
  have e3 : Ex H2 (upd H2 p (.lst [])) := Ex.new np
  have np0 : H p = none := fresh_back ex2 np
  have e13 := e2.trans e3
  have pl : ∀ t ∈ T, t.2 ≠ d := fun t m e => by
    have a := h.fr.in_ t m
    rw [e, h.fr.at_] at a
    cases a
  refine ⟨_, Sum.inl x, e3 _ _ fr2.at_, rfl, by rw [List.length_map]; exact small1000 (by omega), fun v hv => ?_, fun hv => ?_⟩
  · by_cases c : ∃ t ∈ T, t.1 = x
    · obtain ⟨t, tm, te⟩ := c
      have v2 : valV (T.map fun t => ((Sum.inl t.1 : Key), V.ref t.2)) (Sum.inl x) = some (.ref t.2) := by
        have fr' : FreeG f (su ++ [(x, x)]) H' d T := ⟨h.fr.at_, h.fr.nk, h.fr.na, h.fr.in_, fun y hy => by
          rcases isEnd_snoc2.mp hy with hy | hy
          · exact h.fr.all y hy
          · exact ⟨t, tm, by rw [te, hy]⟩⟩
        obtain ⟨t', tm', te', tg⟩ := fr'.get (x := x) (isEnd_snoc2.mpr (.inr rfl))
        have same : t' = t := by
          have inj : ∀ {L : List (Int × Addr)}, (L.map (·.1)).Nodup → t' ∈ L → t ∈ L → t'.1 = t.1 → t' = t := by
            intro L hn
            induction L with
            | nil => intro m; cases m
            | cons v L ih =>
              intro mu mt e
              obtain ⟨n1, n2⟩ := List.nodup_cons.mp hn
              rcases List.mem_cons.mp mu with c1 | mu
              · rcases List.mem_cons.mp mt with c2 | mt
                · rw [c1, c2]
                · exact absurd (List.mem_map.mpr ⟨t, mt, by rw [← e, c1]⟩) n1
              · rcases List.mem_cons.mp mt with c2 | mt
                · exact absurd (List.mem_map.mpr ⟨t', mu, by rw [e, c2]⟩) n1
                · exact ih n2 mu mt e
          exact inj h.fr.nk tm' tm (te'.trans te.symm)
        rw [same] at tg
        rcases tg with ⟨kvs, k, r1, r2, r3⟩ | ⟨kvs, k, b, r1, r2, _⟩
        · have r2 : k = Sum.inl x := by
            cases k with
            | inl z =>
              have : V.int x = V.int z := r2
              rw [V.int.inj this]
            | inr z =>
              have : V.int x = V.str z := r2
              cases this
          subst r2
          rcases r1 with r1 | r1
          · rw [h.fr.at_] at r1
            cases r1
            exact r3.symm
          · obtain ⟨u, r1⟩ := r1
            rw [h.fr.at_] at r1
            cases r1
        · cases r2
      have ev : v = .ref t.2 := Option.some.inj (hv.symm.trans v2)
      subst ev
      have l3 := e3 _ _ (fr2.in_ t tm)
      rw [te] at l3
      refine ⟨.inl ⟨rfl, _, SqL.of l3⟩, _, hi, ?_⟩
      refine ⟨t.2, _, _, rfl, rfl, l3, by rw [nats_len]; exact small1000 (by omega), ?_⟩
      have fr4 : FreeG f su (upd H2 p (.lst [])) d T := fr2.ex e3
      have nf : nats (f x) ++ [V.int (i : Int)] = nats (g t.1) := by
        rw [te, hg, if_pos rfl]
        unfold nats
        rw [List.map_append]
        rfl
      rw [nf]
      refine q T _ ⟨Ex.mut (ex2.trans e3) (h.new t tm), h.nd, ?_, h.new, fun y hy => ?_⟩ (Nat.le_succ _)
      · have := fr4.put (g := g) tm fun y hy => by rw [hg, if_neg (by rw [← te]; exact hy)]
        exact ⟨this.at_, this.nk, this.na, this.in_, fun y hy => by
          rcases isEnd_snoc2.mp hy with hy | hy
          · exact this.all y hy
          · exact ⟨t, tm, by rw [te, hy]⟩⟩
      · rw [hg, if_neg fun e => hy t tm (by rw [te, e])]
        exact h.off y hy
    · rw [valT fun t tm te => c ⟨t, tm, te⟩] at hv
      cases hv
  · have c : ∀ t ∈ T, t.1 ≠ x := fun t tm te => by
      have fr' : FreeG f (su ++ [(x, x)]) H' d T := ⟨h.fr.at_, h.fr.nk, h.fr.na, h.fr.in_, fun y hy => by
        rcases isEnd_snoc2.mp hy with hy | hy
        · exact h.fr.all y hy
        · exact ⟨t, tm, by rw [te, hy]⟩⟩
      unfold valV at hv
      have hv := Option.map_eq_none_iff.mp hv
      have := List.find?_eq_none.mp hv _ (List.mem_map.mpr ⟨t, tm, rfl⟩)
      rw [decide_eq_true_eq] at this
      exact this (by rw [te])
    have f0 := h.off x c
    have pd : p ≠ d := fun z => by
      rw [z, fr2.at_] at np
      cases np
    have pT : ∀ t ∈ T, t.2 ≠ p := fun t tm e => by
      have := fr2.in_ t tm
      rw [e, np] at this
      cases this
    have k0 : putK (T.map fun t => ((Sum.inl t.1 : Key), V.ref t.2)) (Sum.inl x) (.ref p) = (T ++ [(x, p)]).map fun t => ((Sum.inl t.1 : Key), V.ref t.2) := by
      rw [putK_new _ hv, List.map_append]
      rfl
    rw [k0]
    refine ⟨.inl ⟨rfl, _, SqL.of (by rw [upd_ne pd, upd_same])⟩, ?_⟩
    have l5 : (upd (upd H2 p (.lst [])) d (.dK ((T ++ [(x, p)]).map fun t => ((Sum.inl t.1 : Key), V.ref t.2)))) p = some (.lst []) := by rw [upd_ne pd, upd_same]
    refine ⟨_, hi, p, [], _, rfl, rfl, l5, by decide, ?_⟩
    have gx : g x = [i] := by
      rw [hg, if_pos rfl, f0]
      rfl
    refine q (T ++ [(x, p)]) _ ⟨Ex.mut (Ex.mut (ex2.trans e3) h.nd) np0, h.nd, ⟨by rw [upd_ne fun z => pd z.symm, upd_same], ?_, ?_, fun t m => ?_, fun y hy => ?_⟩, fun t m => ?_, fun y hy => ?_⟩ (by rw [List.length_append]; exact Nat.le_refl _)
    · rw [List.map_append]
      refine List.nodup_append.mpr ⟨h.fr.nk, by simp, fun a ha b hb e => ?_⟩
      obtain ⟨t, tm, te⟩ := List.mem_map.mp ha
      rw [List.mem_singleton.mp hb] at e
      exact c t tm (te.trans e)
    · rw [List.map_append]
      refine List.nodup_append.mpr ⟨h.fr.na, by simp, fun a ha b hb e => ?_⟩
      obtain ⟨t, tm, te⟩ := List.mem_map.mp ha
      rw [List.mem_singleton.mp hb] at e
      exact pT t tm (te.trans e)
    · rcases List.mem_append.mp m with m | m
      · rw [upd_ne (pT t m), upd_ne (pl t m), upd_ne (pT t m), fr2.in_ t m, hg, if_neg (c t m)]
      · rw [List.mem_singleton.mp m]
        show (upd _ p _) p = _
        rw [upd_same, gx]
        rfl
    · rcases isEnd_snoc2.mp hy with hy | hy
      · obtain ⟨t, tm, te⟩ := h.fr.all y hy
        exact ⟨t, List.mem_append.mpr (.inl tm), te⟩
      · exact ⟨_, List.mem_append.mpr (.inr (List.mem_singleton.mpr rfl)), hy.symm⟩
    · rcases List.mem_append.mp m with m | m
      · exact h.new t m
      · rw [List.mem_singleton.mp m]
        exact np0
    · rw [hg, if_neg fun e => hy (x, p) (List.mem_append.mpr (.inr (List.mem_singleton.mpr rfl))) e.symm]
      exact h.off y fun t m => hy t (List.mem_append.mpr (.inl m))
section
variable {P : Program} {w : World} {K : PySem.W.Frag} {mg : Str → Option Value} {base : Heap}
/-! ### _places_by_number -/
def occA (st : List (Int × Int)) (i : Nat) (x : Int) : List Nat := freeL st (List.range i) x ++ if x = sa st i then [i] else []
theorem occA_next (st : List (Int × Int)) (i : Nat) (y : Int) : freeL st (List.range (i + 1)) y = if y = sb st i then occA st i (sb st i) ++ [i] else occA st i y := by
  rw [List.range_succ, freeL_snoc]
  unfold occA occ
  by_cases c : y = sb st i
  · rw [if_pos c, if_pos c.symm, c]
    by_cases d : sb st i = sa st i
    · rw [if_pos d, if_pos d.symm, List.append_assoc]
    · rw [if_neg d, if_neg fun z => d z.symm]
      rw [List.append_nil]
      rfl
  · rw [if_neg c, if_neg (show ¬ sb st i = y from fun z => c z.symm), List.append_nil]
    by_cases d : y = sa st i
    · rw [if_pos d, if_pos d.symm]
    · rw [if_neg d, if_neg (show ¬ sa st i = y from fun z => d z.symm)]
theorem occA_at (st : List (Int × Int)) (i : Nat) (y : Int) : occA st i y = if y = sa st i then freeL st (List.range i) (sa st i) ++ [i] else freeL st (List.range i) y := by
  unfold occA
  by_cases c : y = sa st i
  · rw [if_pos c, if_pos c, c]
  · rw [if_neg c, if_neg c, List.append_nil]
theorem isEnd_take {st : List (Int × Int)} {i : Nat} (h : i < st.length) {x : Int} : IsEnd (st.take (i + 1)) x ↔ IsEnd (st.take i ++ [(sa st i, sa st i)] ++ [(sb st i, sb st i)]) x := by
  rw [isEnd_snoc2, isEnd_snoc2, List.take_add_one, st_at h, Option.toList_some, isEnd_snoc]
  exact ⟨fun h => h.elim (fun h => .inl (.inl h)) fun h => h.elim (fun h => .inl (.inr h)) .inr, fun h => h.elim (fun h => h.elim .inl fun h => .inr (.inl h)) fun h => .inr (.inr h)⟩
theorem PlcAt.is {H H' : Hp} {f g : Int → List Nat} {su sv : List (Int × Int)} {d : Addr} {T : List (Int × Addr)} (h : PlcAt H H' f su d T) (e : ∀ x, f x = g x) (k : ∀ x, IsEnd sv x → IsEnd su x) : PlcAt H H' g sv d T :=
  ⟨h.ex, h.nd, ⟨h.fr.at_, h.fr.nk, h.fr.na, fun t m => by rw [← e]; exact h.fr.in_ t m, fun x hx => h.fr.all x (k x hx)⟩, h.new, fun x hx => by rw [← e]; exact h.off x hx⟩
theorem PlcAt.ex2 {H H' H'' : Hp} {f : Int → List Nat} {su : List (Int × Int)} {d : Addr} {T : List (Int × Addr)} (h : PlcAt H H' f su d T) (e : Ex H' H'') : PlcAt H H'' f su d T := ⟨h.ex.trans e, h.nd, h.fr.ex e, h.new, h.off⟩
theorem scPlaces : FnScope ["stones", "free", "place", "stone", "number"] ["stones"] (defScope sPlaces) := ⟨rfl, rfl, rfl, by decide +kernel, rfl, by decide +kernel, by decide +kernel⟩
def spPlaces : Sp := fun vs H Q _ => ∃ (a : Addr) (st : List (Int × Int)), vs = [.ref a] ∧ StonesAt H a st ∧ st.length ≤ 60 ∧ ∀ d T H', H d = none → Ex H H' → FreeAt st (List.range st.length) H' d T → (∀ t ∈ T, H t.2 = none) → Q (.ref d) H'
theorem ok_places {f : Addr} {fd : FuncData} (F : Fun K "_places_by_number" "_places_by_number" sPlaces f fd) (mE : mg "enumerate" = none) : FnOk P w K mg base CX0 1 f fd ["stones"] spPlaces := by
  refine F.ok scPlaces (fun vs H Q E h => ?_) (fun cdv A outer s H vs Q E hr h => ?_)
  · obtain ⟨a, st, rfl, _⟩ := h
    rfl
  · obtain ⟨a, st, rfl, hS, hl, q⟩ := h
    refine ⟨_, pss_cons (ps_set (i := 1) scPlaces.nd rfl (.inl rfl) pe_dnewK)
      (pss_cons (ps_for PassesOwn.never rfl (pi_enum (by rfl) mE (pa_cons (pv 0) pa_nil)) (pg_tup rfl (pgs_cons (pg_name (i := 2) scPlaces.nd rfl (.inl rfl)) (pgs_cons (pg_name (i := 3) scPlaces.nd rfl (.inl rfl)) pgs_nil)))
        (pss_one (ps_for PassesOwn.never rfl (pi_tup (pv 3)) (pg_name (i := 4) scPlaces.nd rfl (.inl rfl))
          (pss_one (ps_expr (pe_bm PySem.F.plainAttrs_list PySem.F.slot_list_append PySem.F.type_list_append mt_append (pe_dsetd (pv 1) (pv 4) (pe_lst pa_nil) ⟨rfl, rfl, rfl, rfl⟩) (pa_cons (pv 2) pa_nil)))))))
      (pss_one (ps_ret (pv 1)))), ?_⟩
    obtain ⟨ts, t1, t2, t3⟩ := id hS
    refine fun d nd => ?_
    have e0 : Ex H (upd H d (.dK [])) := Ex.new nd
    refine ⟨_, rfl, a, _, rfl, SqL.of (e0 _ _ t1), for_it (walk_enum (xs := ts.map V.ref)) (fun i σ H' => ∃ (T : List (Int × Addr)) (x2 x3 x4 : Option V), σ = [some (.ref a), some (.ref d), x2, x3, x4] ∧ PlcAt H H' (freeL st (List.range i)) (st.take i) d T ∧ T.length ≤ 2 * i)
      ⟨[], _, _, _, rfl, ⟨e0, nd, ⟨upd_same, List.nodup_nil, List.nodup_nil, fun t m => (nomatch m), fun x hx => by obtain ⟨s, hs, _⟩ := hx; cases hs⟩, fun t m => (nomatch m), fun x _ => rfl⟩, Nat.le_refl _⟩ (fun i σ H' _ h => by obtain ⟨_, _, _, _, _, g, _⟩ := h; exact SqL.of (g.ex _ _ t1)) ?_ ?_⟩
    · rintro i x σ H3 H4 hi ⟨T, x2, x3, x4, rfl, g, hT⟩ ⟨Tp, p, s, rfl, nT, rfl, hp, hs⟩
      have hp : p = .int (i : Int) := (Option.some.inj hp).symm
      subst hp
      have hs : (ts.map V.ref)[i]? = some s := hs
      rw [List.getElem?_map] at hs
      obtain ⟨t, ht, rfl⟩ := Option.map_eq_some_iff.mp hs
      have hit : i < st.length := by
        rw [← t2]
        exact (List.getElem?_eq_some_iff.mp ht).1
      have htt := t3 i t _ ht (st_at hit)
      have e4 : Ex H3 (upd H3 Tp (.tup [.int (i : Int), .ref t])) := Ex.new nT
      refine ⟨Tp, [.int (i : Int), .ref t], rfl, SqT.of upd_same, rfl, .int (i : Int), [.ref t], rfl, .ref t, [], rfl, rfl, ?_⟩
      have g4 := g.ex2 e4
      generalize upd H3 Tp (.tup [.int (i : Int), .ref t]) = H4 at e4 g4
      have ll : ∀ y, (freeL st (List.range i) y).length ≤ 2 * i := fun y => by
        have := freeL_len st y (List.range i)
        rwa [List.length_range] at this
      refine ⟨_, rfl, t, rfl, ⟨_, SqT.of (g4.ex _ _ htt)⟩, for_tup (xs := [.int (sa st i), .int (sb st i)]) (fun j σ H' => ∃ (T : List (Int × Addr)) (x4 : Option V), σ = [some (.ref a), some (.ref d), some (.int (i : Int)), some (.ref t), x4] ∧
          PlcAt H H' (if j = 0 then freeL st (List.range i) else if j = 1 then occA st i else freeL st (List.range (i + 1))) (if j = 0 then st.take i else if j = 1 then st.take i ++ [(sa st i, sa st i)] else st.take (i + 1)) d T ∧ T.length ≤ 2 * i + j)
        ⟨T, _, rfl, g4, hT⟩ (fun j σ H' _ h => by obtain ⟨_, _, _, g, _⟩ := h; exact SqT.of (g.ex _ _ htt)) ?_ ?_⟩
      · rintro j y σ H5 hj ⟨T5, x4, rfl, g5, hT5⟩
        cases j with
        | zero =>
          have hj := (Option.some.inj hj).symm
          subst hj
          have g5 : PlcAt H H5 (freeL st (List.range i)) (st.take i) d T5 := g5
          refine g5.add (K := K) (g := occA st i) (x := sa st i) (i := i) (occA_at st i) (by have := ll (sa st i); omega) (by omega) (fun T6 H6 g6 h6 => ⟨T6, _, rfl, g6, by omega⟩) rfl (Evl.ev_var rfl) rfl
        | succ j =>
          cases j with
          | zero =>
            have hj := (Option.some.inj hj).symm
            subst hj
            have g5 : PlcAt H H5 (occA st i) (st.take i ++ [(sa st i, sa st i)]) d T5 := g5
            have l2 : (occA st i (sb st i)).length ≤ 200 := by
              have := ll (sb st i)
              unfold occA
              rw [List.length_append]
              split
              · show _ + 1 ≤ _; omega
              · show _ + 0 ≤ _; omega
            refine g5.add (K := K) (g := freeL st (List.range (i + 1))) (x := sb st i) (i := i) (occA_next st i) l2 (by omega) (fun T6 H6 g6 h6 => ⟨T6, _, rfl, g6.is (fun _ => rfl) fun x hx => (isEnd_take hit).mp hx, by omega⟩) rfl (Evl.ev_var rfl) rfl
          | succ j => simp at hj
      · rintro σ H5 ⟨T5, x4, rfl, g5, hT5⟩
        have g5 : PlcAt H H5 (freeL st (List.range (i + 1))) (st.take (i + 1)) d T5 := g5
        exact ⟨T5, _, _, _, rfl, g5, hT5⟩
    · rintro σ H3 ⟨T, x2, x3, x4, rfl, g, hT⟩
      rw [List.length_map, t2, List.take_length] at g
      exact ⟨_, rfl, q d T H3 g.nd g.ex g.fr g.new⟩
end
end Sw
namespace Sw
open PySem PySem.Spec PyProof.Rows L2
open Evl (Ex Ex.refl Ex.trans Ex.new Ex.mut ex_l ex_t ex_rd fresh_back Ev EvL EvU EvT EvA RV RC RCL SpV SpL)
theorem Chs.both {H : Hp} {ps qs : List Addr} {cs ds : List (List Step)} (h : Chs H ps cs) (k : Chs H qs ds) : Chs H (ps ++ qs) (cs ++ ds) := by
  refine ⟨by rw [List.length_append, List.length_append, h.1, k.1], fun i p c a b => ?_⟩
  by_cases l : i < ps.length
  · rw [List.getElem?_append_left l] at a
    rw [List.getElem?_append_left (by have := h.1; omega)] at b
    exact h.2 i p c a b
  · rw [List.getElem?_append_right (by omega)] at a
    rw [List.getElem?_append_right (by have := h.1; omega), ← h.1] at b
    exact k.2 _ p c a b
/-- behind i groups -/
def LaidAt (st : List (Int × Int)) (d ll : Addr) (H H2 : Hp) (T : List (Int × Addr)) (i : Nat) (H' : Hp) : Prop := ∃ (F1 : List Nat) (cs : List (List Step)) (ps : List Addr), Kp T H2 H' ∧ FreeAt st F1 H' d T ∧
  H' ll = some (.lst (ps.map V.ref)) ∧ Chs H' ps cs ∧ (∀ p ∈ ps, (H p = none ∧ p ≠ ll) ∧ ∀ t ∈ T, p ≠ t.2) ∧ F1.Nodup ∧ (∀ q ∈ F1, q < st.length) ∧ F1.length ≤ 60 ∧ (∀ g ∈ (grps st).drop i, ∀ p ∈ g, p ∈ F1) ∧ cs.length + F1.length ≤ 200 ∧ (laidG st (grps st) (List.range st.length)).1 = cs ++ (laidG st ((grps st).drop i) F1).1
section
variable {P : Program} {w : World} {K : PySem.W.Frag} {mg : Str → Option Value} {base : Heap}
theorem scLaid : FnScope ["stones", "explained", "free", "laying", "group", "odd", "starts"] ["stones"] (defScope sLaid) := ⟨rfl, rfl, rfl, by decide +kernel, rfl, by decide +kernel, by decide +kernel⟩
def spLaid : Sp := fun vs H Q _ => ∃ (a : Addr) (st : List (Int × Int)), vs = [.ref a] ∧ StonesAt H a st ∧ Good st ∧ ∀ q ps H', H q = none → Ex H H' → H' q = some (.lst (ps.map V.ref)) → Chs H' ps (laidF st) → (∀ p ∈ ps, H p = none ∧ p ≠ q) → Q (.ref q) H'
theorem ok_laid {f fW fP fG : Addr} {fd fdW fdP fdG : FuncData} (F : Fun K "laid" "laid" sLaid f fd)
    (GW : FnOk P w K mg base CX0 6 fW fdW ["stones"] spWhy) (gW : mg "why" = some (.ref fW)) (kW : PySem.W.keepIn K (.ref fW) = true) (bW : Binds K fdW ["stones"] [])
    (GP : FnOk P w K mg base CX0 1 fP fdP ["stones"] spPlaces) (gP : mg "_places_by_number" = some (.ref fP)) (kP : PySem.W.keepIn K (.ref fP) = true) (bP : Binds K fdP ["stones"] [])
    (GG : FnOk P w K mg base CX0 5 fG fdG ["stones", "free", "starts"] spGLaid) (gG : mg "_group_laid" = some (.ref fG)) (kG : PySem.W.keepIn K (.ref fG) = true) (bG : Binds K fdG ["stones", "free", "starts"] []) : FnOk P w K mg base CX0 7 f fd ["stones"] spLaid := by
  refine F.ok scLaid (fun vs H Q E h => ?_) (fun cdv A outer s H vs Q E hr h => ?_)
  · obtain ⟨a, st, rfl, _⟩ := h
    rfl
  · obtain ⟨a, st, rfl, hS, hG, q⟩ := h
    have hr1 : Room 1 _ := hr.mono (by decide)
    have hr5 : Room 5 _ := hr.mono (by decide)
    refine ⟨_, pss_cons (ps_set (i := 1) scLaid.nd rfl (.inl rfl) (pe_call GW hr (by rfl) gW kW bW .nil pass0 (pa_cons (pv 0) pa_nil)))
      (pss_cons (ps_set (i := 2) scLaid.nd rfl (.inl rfl) (pe_call GP hr1 (by rfl) gP kP bP .nil pass0 (pa_cons (pv 0) pa_nil)))
      (pss_cons (ps_set (i := 3) scLaid.nd rfl (.inl rfl) (pe_lst pa_nil))
      (pss_cons (ps_for PassesOwn.never rfl (pi_list (pv 1)) (pg_tup rfl (pgs_cons (pg_name (i := 4) scLaid.nd rfl (.inl rfl)) (pgs_cons (pg_name (i := 5) scLaid.nd rfl (.inl rfl)) pgs_nil)))
        (pss_cons (ps_set (i := 6) scLaid.nd rfl (.inl rfl) (pe_orT (pv 5) (pe_one (pe_lst (pa_cons (pe_ix (r := rIxT K) ix_tup (pe_ix (r := rIxL K) ix_list (pv 0) (pe_ix (r := rIxL K) ix_list (pv 4) pe_int (fun _ _ => rfl)) (fun _ _ => rfl)) pe_int (fun _ _ => rfl)) pa_nil)))))
        (pss_one (ps_expr (pe_bm PySem.F.plainAttrs_list PySem.F.slot_list_extend PySem.F.type_list_extend mt_extend (pv 3) (pa_cons (pe_call GG hr5 (by rfl) gG kG bG .nil pass0 (pa_cons (pv 0) (pa_cons (pv 2) (pa_cons (pv 6) pa_nil)))) pa_nil))))))
      (pss_one (ps_ret (pv 3)))))), ?_⟩
    refine ⟨_, rfl, a, st, rfl, hS, hG, fun ep W H1 e1 nw => ?_⟩
    have hl := hG.1
    have hS1 := hS.ex e1
    refine ⟨_, rfl, a, st, rfl, hS1, hl, fun d T H2 nd e2 g2 nT => ?_⟩
    have hS2 := hS1.ex e2
    refine ⟨Nat.zero_le _, fun ll nll => ?_⟩
    have tll : ∀ t ∈ T, ll ≠ t.2 := g2.new nll
    have nll0 : H ll = none := fresh_back (e1.trans e2) nll
    -- what was there before the dict is not of its lists
    have far : ∀ x o, H1 x = some o → ∀ t ∈ T, x ≠ t.2 := fun x o h t m e => by
      rw [e, nT t m] at h
      cases h
    have na : ∀ t ∈ T, a ≠ t.2 := by
      obtain ⟨ts, t1, _⟩ := hS1
      exact far _ _ t1
    have gsz := grps_size st
    have Wl : W.length = (grps st).length := by
      rw [← nw.gs, List.length_map]
    have stay : ∀ {H' : Hp}, Kp T H2 H' → ∀ x o, H1 x = some o → H' x = some o := fun k x o h => k x o (e2 _ _ h) (far x o h)
    refine Evl.q_forL (K := K) (a := ep) (xs := W.map fun e => V.ref e.t) (Evl.ev_var rfl) (SqL.of ((e2.trans (Ex.new nll)) _ _ nw.at_)) (fun i σ H' => LaidAt st d ll H H2 T i H' ∧ ∃ x4 x5 x6, σ = [some (.ref a), some (.ref ep), some (.ref d), some (.ref ll), x4, x5, x6])
      (fun H3 e3 => ⟨⟨List.range st.length, [], [], Kp.of ((Ex.new nll).trans e3), (g2.ex (Ex.new nll)).ex e3, e3 _ _ upd_same, Chs.nil _, fun p hp => (nomatch hp), List.nodup_range, fun q hq => List.mem_range.mp hq, by rw [List.length_range]; exact hl,
        fun g hg p hp => List.mem_range.mpr (grps_lt st g hg p hp), by rw [List.length_range]; show 0 + _ ≤ _; omega, rfl⟩, _, _, _, rfl⟩)
      (fun i σ' H' _ h => by obtain ⟨⟨_, _, _, k, _⟩, _⟩ := h; exact SqL.of (stay k _ _ nw.at_)) ?_ ?_
    · rintro i y σ' H3 hi ⟨⟨F1, cs, ps, k3, g3, hll, hc, hps, hn, hlt, hl1, hgs, hsz, hld⟩, x4, x5, x6, rfl⟩
      rw [List.getElem?_map] at hi
      obtain ⟨e, he, rfl⟩ := Option.map_eq_some_iff.mp hi
      have il : i < W.length := (List.getElem?_eq_some_iff.mp he).1
      have ig : i < (grps st).length := by omega
      have eg : (grps st)[i] = e.l := by
        have h1 : (grps st)[i]? = some e.l := by
          rw [← nw.gs, List.getElem?_map, he]
          rfl
        rw [List.getElem?_eq_getElem ig] at h1
        exact Option.some.inj h1
      have dr : (grps st).drop i = e.l :: (grps st).drop (i + 1) := by
        rw [List.drop_eq_getElem_cons ig, eg]
      have gm : e.l ∈ grps st := by
        rw [← eg]
        exact List.getElem_mem ig
      rw [dr] at hgs hld
      obtain ⟨_, _, m1, m2, m3⟩ := nw.in_ e (List.mem_of_getElem? he)
      have r1 := stay k3 _ _ m1
      have r2 := stay k3 _ _ m2
      have r3 := stay k3 _ _ m3
      obtain ⟨se, sl, h0, gt, eh, lh⟩ := starts_end gm
      have gl := gsz.2 _ gm
      have hs := hgs e.l List.mem_cons_self
      have ws := group_ws gm hlt hn hs
      have ok := group_ok gm hlt hn hs
      have hS3 := hS2.kp g2 na k3
      have E1 : ∀ {H' : Hp}, Kp T H2 H' → Ex H1 H' := fun k x o h => stay k x o h
      refine ⟨e.t, [.ref e.g, .ref e.o], rfl, SqT.of r1, rfl, .ref e.g, [.ref e.o], rfl, .ref e.o, [], rfl, rfl, ?_⟩
      -- behind the starts
      have fin : ∀ (sp : Addr) (H4 : Hp), Ex H3 H4 → H4 sp = some (.lst ((startsF st e.l).map V.int)) → (∀ t ∈ T, sp ≠ t.2) → ∀ N : Hp → Prop, (∀ H', LaidAt st d ll H H2 T (i + 1) H' → N H') → ∀ E : XK, spGLaid [.ref a, .ref d, .ref sp] H4 (fun v H5 => rExtend (.ref ll) [v] H5 fun _ H6 => N H6) E := by
        intro sp H4 e4 hsp tsp N hN E
        have k4 : Kp T H2 H4 := k3.trans (Kp.of e4)
        have EH : Ex H H4 := e1.trans fun x o h => stay k4 x o h
        refine ⟨a, d, sp, startsF st e.l, st, F1, T, rfl, hS3.ex e4, g3.ex e4, na, hn, hlt, hl1, hsp, tsp, by omega, se, ws, fun z zs H5 nz k5 g5 hz hzc nzs => ?_⟩
        have hll5 := k5 _ _ (e4 _ _ hll) tll
        have zl : z ≠ ll := fun c => by
          rw [c, e4 _ _ hll] at nz
          cases nz
        have tps : ∀ p ∈ ps, ∀ t ∈ T, p ≠ t.2 := fun p hp => (hps p hp).2
        have gone : (groupF st F1 (startsF st e.l)).1.length + (groupF st F1 (startsF st e.l)).2.length ≤ F1.length := by
          have h1 := ok.perm.length_eq
          rw [List.length_append] at h1
          have h2 : (groupF st F1 (startsF st e.l)).1.length ≤ (plcs (groupF st F1 (startsF st e.l)).1).length := by
            have key : ∀ l : List (List Step), (∀ c ∈ l, c ≠ []) → l.length ≤ (plcs l).length := fun l => by
              induction l with
              | nil => exact fun _ => Nat.le_refl _
              | cons c l ih =>
                intro h
                have ih := ih fun c hc => h c (List.mem_cons.mpr (.inr hc))
                have := List.length_pos_iff.mpr (h c List.mem_cons_self)
                unfold plcs at *
                rw [List.flatMap_cons, List.length_append, plc_len, List.length_cons]
                omega
            exact key _ fun c hc => (ok.tr c hc).1
          omega
        refine ⟨ll, z, _, _, rfl, rfl, hll5, hz, by rw [List.length_map, List.length_map, hc.1, hzc.1]; exact Evl.sz_of (by omega), hN _ ⟨(groupF st F1 (startsF st e.l)).2, cs ++ (groupF st F1 (startsF st e.l)).1, ps ++ zs, (k4.trans k5).mut nll, g5.upd hll5 tll, by rw [upd_same, List.map_append], ?_, ?_, hn.sublist ok.sub, fun q hq => hlt q (ok.sub.subset hq), Nat.le_trans ok.sub.length_le hl1, fun g hg p hp => ?_, by rw [List.length_append]; omega, ?_⟩⟩
        · refine (((hc.ex e4).kp (g3.ex e4) tps k5).both hzc).upd hll5 fun p hp => ?_
          rcases List.mem_append.mp hp with hp | hp
          · exact (hps p hp).1.2
          · have n4 := nzs p hp
            exact fun c => by rw [c, e4 _ _ hll] at n4; cases n4
        · intro p hp
          rcases List.mem_append.mp hp with hp | hp
          · exact hps p hp
          · have n4 := nzs p hp
            exact ⟨⟨fresh_back EH n4, fun c => by rw [c, e4 _ _ hll] at n4; cases n4⟩, (g3.ex e4).new n4⟩
        · refine (ok.out p (hgs g (List.mem_cons.mpr (.inr hg)) p hp)).mpr fun m => ?_
          have ap := grps_apart st
          have ap2 := ap.sublist (List.drop_sublist i (grps st))
          rw [dr] at ap2
          exact (List.pairwise_cons.mp ap2).1 g hg p m hp
        · rw [hld]
          show cs ++ ((groupF st F1 (startsF st e.l)).1 ++ _) = _
          rw [List.append_assoc]
      refine ⟨_, rfl, ?_⟩
      by_cases c : odds st e.l = []
      · refine ⟨false, .inl ⟨_, SqL.of r3, by rw [c]; rfl⟩, ?_⟩
        refine iteF ?_
        obtain ⟨ts, u, u1, u2, u3⟩ := hS3.get lh
        have hh : (nats e.l)[0]? = some (.int (h0 : Int)) := nats_at (by rw [eh]; rfl)
        refine ⟨_, rfl, _, rfl, e.g, _, 0, _, rfl, rfl, SqL.of r2, atI_nat (j := 0) hh, a, _, _, _, rfl, rfl, SqL.of u1, atI_nat u2, u, _, 0, _, rfl, rfl, SqT.of u3, rfl, by show 1 ≤ sizeLine; decide, fun p np => ?_⟩
        have e4 : Ex H3 (upd H3 p (.lst [.int (sa st h0)])) := Ex.new np
        have so : startsF st e.l = [sa st h0] := by
          unfold startsF
          rw [if_pos c, eh]
          rfl
        have hp : (upd H3 p (.lst [.int (sa st h0)])) p = some (.lst ((startsF st e.l).map V.int)) := by
          rw [upd_same, so]
          rfl
        have tp := g3.new np
        generalize upd H3 p (.lst [.int (sa st h0)]) = H4 at e4 hp ⊢
        refine ⟨_, rfl, .inl ⟨rfl, _, SqL.of (e4 _ _ hll)⟩, _, rfl, _, rfl, _, rfl, ?_⟩
        exact fin p H4 e4 hp tp _ (fun H' p => ⟨p, _, _, _, rfl⟩) E
      · refine ⟨true, .inl ⟨_, SqL.of r3, by cases h : odds st e.l with | nil => exact absurd h c | cons x l => rfl⟩, ?_⟩
        refine iteT ?_
        have so : startsF st e.l = odds st e.l := by
          unfold startsF
          rw [if_neg c]
        refine ⟨_, rfl, .inl ⟨rfl, _, SqL.of hll⟩, _, rfl, _, rfl, _, rfl, ?_⟩
        exact fin e.o H3 (Ex.refl H3) (by rw [so]; exact r3) (far _ _ m3) _ (fun H' p => ⟨p, _, _, _, rfl⟩) E
    · rintro σ' H3 ⟨⟨F1, cs, ps, k3, g3, hll, hc, hps, hn, hlt, hl1, hgs, hsz, hld⟩, x4, x5, x6, rfl⟩
      rw [List.length_map, Wl, List.drop_length] at hld
      have hld : laidF st = cs ++ [] := hld
      rw [List.append_nil] at hld
      refine ⟨_, rfl, q ll ps H3 nll0 (e1.trans fun x o h => stay k3 x o h) hll ?_ fun p hp => (hps p hp).1⟩
      rw [hld]
      exact hc
end
end Sw
namespace Sw
open PySem PySem.Spec PyProof.Rows L2
open Evl (Ex Ex.refl Ex.trans Ex.new Ex.mut ex_l ex_t ex_rd fresh_back Ev EvL EvU EvT EvA RV RC RCL SpV SpL)
section
variable {P : Program} {w : World} {K : PySem.W.Frag} {mg : Str → Option Value} {base : Heap}
variable {σ : L2.St} {H : Hp} {ta tb te : TE}
/-! ### what the law looks with -/
theorem ev_isI {x : V} {d : PyData} {T : String} {b : Bool} (h : Ev te σ H x) (hx : Dt H x d) (hk : PySem.W.kitOne K (.type (kindOf d)) (.type T) = some b) : Ev (tCB (rIsi K) (tCons te (tCons (tC (.ty T)) tNil))) σ H (.bl b) :=
  Evl.ev_cb (Evl.ea_cons h (Evl.ea_cons Evl.ev_c Evl.ea_nil)) (rc_isi (.ty T) (fun H1 e => (Dt.ex e d _ hx).ty) hk)
theorem et_isNil {i : Nat} {a : Addr} {st : List (Int × Int)} (h : σ[i]? = some (some (.ref a))) (hS : StonesAt H a st) (hl : st.length ≤ 1000) : EvT (tTest (tOp (rEqD K) (tVar i) (tLst tNil))) σ H (decide (st = [])) := fun H1 e Q q => by
  refine ⟨_, h, Nat.zero_le _, fun p np => ⟨dStones st, dStones [], Dt.dp _ _ ((hS.ex e).ex (Ex.new np)).dt, Dt.dp _ _ (stones_nil upd_same).dt, (lay_stones st hl).shaped (by decide), (lay_stones [] (by decide)).shaped (by decide), _, rfl, ?_⟩⟩
  rw [eqv_stones]
  exact q _ (Ex.new np)
/-- a list that is empty is not unlike [] -/
theorem et_neNil (h : EvL te σ H []) : EvT (tTest (tOp (rNeD K) te (tLst tNil))) σ H false := Evl.et_test (Evl.ev_opLL h (Evl.el_lst Evl.ea_nil (Nat.zero_le _)) fun p q H1 hp hq _ H2 e Q k => by
  refine ⟨dInts [], dInts [], Dt.dp _ _ (dt_ints (ns := []) (e _ _ hp)), Dt.dp _ _ (dt_ints (ns := []) (e _ _ hq)), (lay_ints _ (by decide)).shaped (by decide), (lay_ints _ (by decide)).shaped (by decide), ?_⟩
  rw [eqv_dInts]
  exact k H2 (Ex.refl H2))
/-! ### _law_lies -/
theorem scLLies : FnScope ["_law_stones_here", "_law_step", "_law_stone"] ["_law_stones_here", "_law_step"] (defScope sLLies) := ⟨rfl, rfl, rfl, by decide +kernel, rfl, by decide +kernel, by decide +kernel⟩
def spLLies : Sp := fun vs H Q _ => ∃ (a t : Addr) (st : List (Int × Int)) (s : Step), vs = [.ref a, .ref t] ∧ StonesAt H a st ∧ H t = some (.tup [.int (s.1 : Int), .int (s.2 : Int)]) ∧ s.1 < st.length ∧ s.2 ≤ 1 ∧ ∀ z H2, Ex H H2 → H2 z = some (.tup [.int (lie st s).1, .int (lie st s).2]) → Q (.ref z) H2
theorem ok_llies {f : Addr} {fd : FuncData} (F : Fun K "_law_lies" "_law_lies" sLLies f fd) : FnOk P w K mg base CX0 1 f fd ["_law_stones_here", "_law_step"] spLLies := by
  refine F.ok scLLies (fun vs H Q E h => ?_) (fun cdv A outer s H vs Q E hr h => ?_)
  · obtain ⟨a, t, st, s, rfl, _⟩ := h
    rfl
  · obtain ⟨a, t, st, s, rfl, hS, ht, hl, hb, q⟩ := h
    refine ⟨_, pss_cons (ps_set (i := 2) scLLies.nd rfl (.inl rfl) (pe_ix (r := rIxL K) ix_list (pv 0) (pe_ix (r := rIxT K) ix_tup (pv 1) pe_int (fun _ _ => rfl)) (fun _ _ => rfl)))
      (pss_one (ps_ret (pe_ix (r := rIxL K) ix_list (pe_lst (pa_cons (pv 2) (pa_cons (te := tRevT K (tVar 2)) (pe_revT (pv 2)) pa_nil))) (pe_ix (r := rIxT K) ix_tup (pv 1) pe_int (fun _ _ => rfl)) (fun _ _ => rfl)))), ?_⟩
    obtain ⟨ts, u, u1, u2, u3⟩ := hS.get hl
    refine ⟨_, rfl, _, rfl, t, _, 0, _, rfl, rfl, SqT.of ht, rfl, a, _, _, _, rfl, rfl, SqL.of u1, atI_nat u2, ?_⟩
    refine ⟨_, rfl, _, rfl, u, _, _, rfl, SqT.of u3, fun p np => ⟨by show 2 ≤ sizeLine; decide, fun l nl => ?_⟩⟩
    have e1 : Ex H (upd H p (.tup [.int (sb st s.1), .int (sa st s.1)])) := Ex.new np
    have hp : (upd H p (.tup [.int (sb st s.1), .int (sa st s.1)])) p = some (.tup [.int (sb st s.1), .int (sa st s.1)]) := upd_same
    have e2 : Ex (upd H p (.tup [.int (sb st s.1), .int (sa st s.1)])) (upd (upd H p (.tup [.int (sb st s.1), .int (sa st s.1)])) l (.lst [.ref u, .ref p])) := Ex.new nl
    have hl2 : (upd (upd H p (.tup [.int (sb st s.1), .int (sa st s.1)])) l (.lst [.ref u, .ref p])) l = some (.lst [.ref u, .ref p]) := upd_same
    have e3 := e1.trans e2
    have hp2 := e2 _ _ hp
    have hu2 := e3 _ _ u3
    generalize upd (upd H p (.tup [.int (sb st s.1), .int (sa st s.1)])) l (.lst [.ref u, .ref p]) = H2 at e3 hl2 hp2 hu2 ⊢
    refine ⟨_, rfl, t, _, 1, _, rfl, rfl, SqT.of (e3 _ _ ht), rfl, ?_⟩
    have lz : lie st s = if s.2 = 0 then (sa st s.1, sb st s.1) else (sb st s.1, sa st s.1) := rfl
    rcases (show s.2 = 0 ∨ s.2 = 1 by omega) with c | c
    · rw [if_pos c] at lz
      refine ⟨l, _, _, .ref u, rfl, rfl, SqL.of hl2, by rw [c]; rfl, q u H2 e3 ?_⟩
      rw [lz]
      exact hu2
    · rw [if_neg (by omega)] at lz
      refine ⟨l, _, _, .ref p, rfl, rfl, SqL.of hl2, by rw [c]; rfl, q p H2 e3 ?_⟩
      rw [lz]
      exact hp2
theorem ev_llies {E : XK} {a t : Addr} {st : List (Int × Int)} {s : Step} {k v : Int} (h : Ev ta σ H (.ref a)) (h2 : Ev tb σ H (.ref t)) (hS : StonesAt H a st) (ht : H t = some (.tup [.int (s.1 : Int), .int (s.2 : Int)])) (hl : s.1 < st.length) (hb : s.2 ≤ 1)
    (hv : atI [V.int (lie st s).1, V.int (lie st s).2] k = some (.int v)) : Ev (tOp (rIxT K) (tCall spLLies [] E (tCons ta (tCons tb tNil))) (tC (.int k))) σ H (.int v) := fun H1 e Q q =>
  h H1 e _ fun H2 e2 => h2 H2 (e.trans e2) _ fun H3 e3 => ⟨a, t, st, s, rfl, hS.ex ((e.trans e2).trans e3), ((e.trans e2).trans e3) _ _ ht, hl, hb, fun z H4 e4 hz => ⟨z, _, k, _, rfl, rfl, SqT.of hz, hv, q H4 ((e2.trans e3).trans e4)⟩⟩
theorem step_at {H : Hp} {c : Addr} {u : List Step} (h : StonesAt H c (castS u)) {i : Nat} {s : Step} (hi : u[i]? = some s) : ∃ (ts : List Addr) (t : Addr), H c = some (.lst (ts.map V.ref)) ∧ ts.length = u.length ∧ (ts.map V.ref)[i]? = some (.ref t) ∧ H t = some (.tup [.int (s.1 : Int), .int (s.2 : Int)]) := by
  obtain ⟨ts, h1, h2, h3⟩ := h
  rw [castS_len] at h2
  have il : i < ts.length := by
    rw [h2]
    exact (List.getElem?_eq_some_iff.mp hi).1
  refine ⟨ts, ts[i], h1, h2, by rw [List.getElem?_map, List.getElem?_eq_getElem il]; rfl, h3 i _ ((s.1 : Int), (s.2 : Int)) (List.getElem?_eq_getElem il) ?_⟩
  unfold castS
  rw [List.getElem?_map, hi]
  rfl
end
end Sw
namespace Sw
open PySem PySem.Spec PyProof.Rows L2
open Evl (Ex Ex.refl Ex.trans Ex.new Ex.mut ex_l ex_t ex_rd fresh_back Ev EvL EvU EvT EvA RV RC RCL SpV SpL)
section
variable {P : Program} {w : World} {K : PySem.W.Frag} {mg : Str → Option Value} {base : Heap}
variable {σ : L2.St} {H : Hp} {ta tb te : TE}
/-! ### _law_closed -/
theorem scLClosed : FnScope ["_law_stones_here", "_law_chain_here"] ["_law_stones_here", "_law_chain_here"] (defScope sLClosed) := ⟨rfl, rfl, rfl, by decide +kernel, rfl, by decide +kernel, by decide +kernel⟩
def spLClosed : Sp := fun vs H Q _ => ∃ (a c : Addr) (st : List (Int × Int)) (u : List Step) (x y : Int), vs = [.ref a, .ref c] ∧ StonesAt H a st ∧ StonesAt H c (castS u) ∧ u ≠ [] ∧ (∀ s ∈ u, s.1 < st.length ∧ s.2 ≤ 1) ∧ Tr st x u y ∧ Evl.RetV (.bl (decide (y = x))) H Q
theorem ok_lclosed {f fL : Addr} {fd fdL : FuncData} (F : Fun K "_law_closed" "_law_closed" sLClosed f fd)
    (GL : FnOk P w K mg base CX0 1 fL fdL ["_law_stones_here", "_law_step"] spLLies) (gL : mg "_law_lies" = some (.ref fL)) (kL : PySem.W.keepIn K (.ref fL) = true) (bL : Binds K fdL ["_law_stones_here", "_law_step"] []) : FnOk P w K mg base CX0 2 f fd ["_law_stones_here", "_law_chain_here"] spLClosed := by
  refine F.ok scLClosed (fun vs H Q E h => ?_) (fun cdv A outer s H vs Q E hr h => ?_)
  · obtain ⟨a, c, st, u, x, y, rfl, _⟩ := h
    rfl
  · obtain ⟨a, c, st, u, x, y, rfl, hS, hc, hne, hu, ht, q⟩ := h
    refine ⟨_, pss_one (ps_ret (pe_cmpR op_eq (pe_ix (r := rIxT K) ix_tup (pe_call GL hr (by rfl) gL kL bL .nil pass0 (pa_cons (pv 0) (pa_cons (pe_ix (r := rIxL K) ix_list (pv 1) (pe_un un_neg pe_int) (fun _ _ => rfl)) pa_nil))) pe_int (fun _ _ => rfl))
      (pe_ix (r := rIxT K) ix_tup (pe_call GL hr (by rfl) gL kL bL .nil pass0 (pa_cons (pv 0) (pa_cons (pe_ix (r := rIxL K) ix_list (pv 1) pe_int (fun _ _ => rfl)) pa_nil))) pe_int (fun _ _ => rfl)) (nomark _))), ?_⟩
    obtain ⟨s0, r0, e0⟩ : ∃ s r, u = s :: r := by
      cases u with
      | nil => exact absurd rfl hne
      | cons s r => exact ⟨s, r, rfl⟩
    have hx : (lie st s0).1 = x := by
      rw [e0] at ht
      exact ht.1
    have hy := Tr.last hne ht
    have m0 : s0 ∈ u := by rw [e0]; exact List.mem_cons_self
    have ml := List.getLast_mem hne
    obtain ⟨ts, t0, c1, c2, c3, c4⟩ := step_at hc (i := 0) (s := s0) (by rw [e0]; rfl)
    have ll : u.length = (u.length - 1) + 1 := by
      have := List.length_pos_iff.mpr hne
      omega
    obtain ⟨ts', t1, d1, d2, d3, d4⟩ := step_at hc (i := u.length - 1) (s := u.getLast hne) (by rw [← List.getLast?_eq_getElem?, List.getLast?_eq_some_getLast hne])
    refine Evl.s_ret (v := .bl (decide (y = x))) ?_ q
    have z := Evl.ev_op (H := H) (r := rEq) (x := .int y) (y := .int x) (σ := [some (.ref a), some (.ref c)])
      (ev_llies (K := K) (E := E) (st := st) (s := u.getLast hne) (k := 1) (v := y) (Evl.ev_var (i := 0) rfl) (Evl.ev_op (Evl.ev_var (i := 1) rfl) (Evl.ev_un Evl.ev_c Evl.ru_neg) (Evl.rv_ixL (K := K) (SqL.of d1) (atI_last (n := u.length - 1) (by rw [List.length_map, d2]; exact ll) d3))) hS d4 (hu _ ml).1 (hu _ ml).2 (by rw [hy]; rfl))
      (ev_llies (K := K) (E := E) (st := st) (s := s0) (k := 0) (v := x) (Evl.ev_var (i := 0) rfl) (Evl.ev_op (Evl.ev_var (i := 1) rfl) Evl.ev_c (Evl.rv_ixL (K := K) (i := 0) (SqL.of c1) (atI_nat (j := 0) c3))) hS c4 (hu _ m0).1 (hu _ m0).2 (by rw [hx]; rfl)) (Evl.rv_eq rfl)
    refine Evl.ev_is z ?_
    rw [show (decide (V.int y = V.int x)) = decide (y = x) from by
      refine Bool.eq_iff_iff.mpr ?_
      rw [decide_eq_true_eq, decide_eq_true_eq]
      exact ⟨fun h => V.int.inj h, fun h => by rw [h]⟩]
end
end Sw
namespace Sw
open PySem PySem.Spec PyProof.Rows L2
open Evl (Ex Ex.refl Ex.trans Ex.new Ex.mut ex_l ex_t ex_rd fresh_back Ev EvL EvU EvT EvA RV RC RCL SpV SpL)
theorem Tr.link {st : List (Int × Int)} : ∀ {x y : Int} {u : List Step} {i : Nat} {s t : Step}, Tr st x u y → u[i]? = some s → u[i + 1]? = some t → (lie st s).2 = (lie st t).1
  | x, y, [], i, s, t, _, h, _ => by simp at h
  | x, y, [r], i, s, t, _, _, k => by simp at k
  | x, y, r :: v :: u, 0, s, t, h, h1, h2 => by
    have h1 := Option.some.inj h1
    have h2 := Option.some.inj h2
    rw [← h1, ← h2]
    exact h.2.1.symm
  | x, y, r :: v :: u, i + 1, s, t, h, h1, h2 => Tr.link (u := v :: u) (i := i) h.2 h1 h2
section
variable {P : Program} {w : World} {K : PySem.W.Frag} {mg : Str → Option Value} {base : Heap}
variable {σ : L2.St} {H : Hp} {ta tb te : TE}
theorem ev_lenT {t : Addr} {xs : List V} (h : Ev te σ H (.ref t)) (ht : H t = some (.tup xs)) : Ev (tCB (Evl.rLenS K) (tCons te tNil)) σ H (.int (xs.length : Int)) := fun H1 e Q q =>
  h H1 e _ fun H2 e2 => ⟨t, xs, rfl, .inr (SqT.of ((e.trans e2) _ _ ht)), q H2 e2⟩
theorem dt_step {t : Addr} {x y : Int} (ht : H t = some (.tup [.int x, .int y])) : Dt H (.ref t) (.tuple [.int x, .int y]) := .tup ht (.cons (.int _) (.cons (.int _) .nil))
theorem et_sameI {x : Int} (h : Ev ta σ H (.int x)) (k : Ev tb σ H (.int x)) : EvT (tTest (tOp rNe ta tb)) σ H false := Evl.et_is (Evl.et_test (Evl.ev_op h k (Evl.rv_ne rfl))) (by rw [decide_eq_true rfl]; rfl)
theorem kit_ii : PySem.W.kitOne K (.type (kindOf (.int 0))) (.type "int") = some true := kit_ty (by decide +kernel)
theorem scLChain : FnScope ["_law_stones_here", "_law_chain_here", "_law_step", "_law_one", "_law_lie", "_law_k"] ["_law_stones_here", "_law_chain_here"] (defScope sLChain) := ⟨rfl, rfl, rfl, by decide +kernel, rfl, by decide +kernel, by decide +kernel⟩
def spLChain : Sp := fun vs H Q _ => ∃ (a c : Addr) (st : List (Int × Int)) (u : List Step) (x y : Int), vs = [.ref a, .ref c] ∧ StonesAt H a st ∧ StonesAt H c (castS u) ∧ u ≠ [] ∧ (∀ s ∈ u, s.1 < st.length ∧ s.2 ≤ 1) ∧ Tr st x u y ∧ st.length ≤ 60 ∧ u.length ≤ 60 ∧ Evl.RetV (.bl true) H Q
theorem ok_lchain {f fL : Addr} {fd fdL : FuncData} (F : Fun K "_law_chain" "_law_chain" sLChain f fd) (mI : mg "isinstance" = none) (mLi : mg "list" = none) (mT : mg "tuple" = none) (mN : mg "int" = none) (mB : mg "bool" = none) (mL : mg "len" = none) (mR : mg "range" = none)
    (GL : FnOk P w K mg base CX0 1 fL fdL ["_law_stones_here", "_law_step"] spLLies) (gL : mg "_law_lies" = some (.ref fL)) (kL : PySem.W.keepIn K (.ref fL) = true) (bL : Binds K fdL ["_law_stones_here", "_law_step"] []) : FnOk P w K mg base CX0 2 f fd ["_law_stones_here", "_law_chain_here"] spLChain := by
  refine F.ok scLChain (fun vs H Q E h => ?_) (fun cdv A outer s H vs Q E hr h => ?_)
  · obtain ⟨a, c, st, u, x, y, rfl, _⟩ := h
    rfl
  · obtain ⟨a, c, st, u, x, y, rfl, hS, hc, hne, hu, ht, hl, hul, q⟩ := h
    refine ⟨_, pss_cons (ps_if (PW.pt (pw_or (pt_not (pt_val (pe_callB call_isi (by rfl) mI (by decide +kernel) (pa_cons (pv 1) (pa_cons (pe_bltn (v := .ty "list") (by rfl) mLi (by decide +kernel) rfl) pa_nil))))) (pw_or1 (pt_cmpR (op_eqD hr.units) (pv 1) (pe_lst pa_nil) (nomark _))))) (pss_one ps_never) pss_nil)
      (pss_cons (ps_for PassesOwn.never rfl (pi_list (pv 1)) (pg_name (i := 2) scLChain.nd rfl (.inl rfl))
        (pss_cons (ps_if (PW.pt (pw_or (pt_not (pt_val (pe_callB call_isi (by rfl) mI (by decide +kernel) (pa_cons (pv 2) (pa_cons (pe_bltn (v := .ty "tuple") (by rfl) mT (by decide +kernel) rfl) pa_nil))))) (pw_or1 (pt_cmpR op_ne (pe_callB (r := Evl.rLenS K) call_len_seq (by rfl) mL boot_len (pa_cons (pv 2) pa_nil)) pe_int (nomark _))))) (pss_one ps_never) pss_nil)
        (pss_cons (ps_if (pt_cmpR (op_neD hr.units) (pe_lc (own := [("_law_one", 3)]) (g := gName 3) (tt := tNot (tB (tCB (rIsi K) (tCons (tVar 3) (tCons (tC (.ty "int")) tNil))))) rfl scLChain.nd (pi_tup (pv 2))
            (blkOk_by (own := [("_law_one", 3)]) (N := ["_law_stones_here", "_law_chain_here", "_law_step", "_law_one", "_law_lie", "_law_k"]) (sc := defScope sLChain) (by decide +kernel))
            (fun _ _ _ _ _ => pg_name (i := 3) scLChain.nd rfl (Or.inl rfl)) (fun _ _ _ _ _ => pts_one (pt_not (pt_val (pe_callB (r := rIsi K) call_isi (by rfl) mI (by decide +kernel) (pa_cons (pv 3) (pa_cons (pe_bltn (v := .ty "int") (by rfl) mN (by decide +kernel) rfl) pa_nil)))))) (fun _ _ _ _ _ => pv 3)) (pe_lst pa_nil) (nomark _)) (pss_one ps_never) pss_nil)
        (pss_cons (ps_if (PW.pt (pw_or (pt_val (pe_callB call_isi (by rfl) mI (by decide +kernel) (pa_cons (pe_ix (r := rIxT K) ix_tup (pv 2) pe_int (fun _ _ => rfl)) (pa_cons (pe_bltn (v := .ty "bool") (by rfl) mB (by decide +kernel) rfl) pa_nil)))) (pw_or1 (pt_val (pe_callB call_isi (by rfl) mI (by decide +kernel) (pa_cons (pe_ix (r := rIxT K) ix_tup (pv 2) pe_int (fun _ _ => rfl)) (pa_cons (pe_bltn (v := .ty "bool") (by rfl) mB (by decide +kernel) rfl) pa_nil))))))) (pss_one ps_never) pss_nil)
        (pss_cons (ps_if (pt_not (pt_chain op_le op_lt pe_int (pe_ix (r := rIxT K) ix_tup (pv 2) pe_int (fun _ _ => rfl)) (pe_callB (r := Evl.rLenS K) call_len_seq (by rfl) mL boot_len (pa_cons (pv 0) pa_nil)))) (pss_one ps_never) pss_nil)
        (pss_one (ps_if (pt_cmpR (r := rIn K true) op_notIn_seq (pe_ix (r := rIxT K) ix_tup (pv 2) pe_int (fun _ _ => rfl)) (pe_lst (pa_cons pe_int (pa_cons pe_int pa_nil))) (by rfl)) (pss_one ps_never) pss_nil)))))))
      (pss_cons (ps_setLc (i := 4) (own := [("_law_step", 2)]) (g := gName 2) (tt := tYes) rfl scLChain.nd rfl rfl (sw_true rfl rfl rfl (by decide +kernel)) (pi_list (pv 1))
          (blkOk_by (own := [("_law_step", 2)]) (N := ["_law_stones_here", "_law_chain_here", "_law_step", "_law_one", "_law_lie", "_law_k"]) (sc := defScope sLChain) (by decide +kernel))
          (fun _ _ _ _ _ => pg_name (i := 2) scLChain.nd rfl (Or.inl rfl)) (fun _ _ _ _ _ => pts_nil) (fun _ _ _ _ _ => pe_call GL hr (by rfl) gL kL bL .nil pass0 (pa_cons (pv 0) (pa_cons (pv 2) pa_nil))))
      (pss_cons (ps_for PassesOwn.never rfl (pi_range2 (by rfl) mR (pa_cons pe_int (pa_cons (pe_callB (r := Evl.rLenS K) call_len_seq (by rfl) mL boot_len (pa_cons (pv 4) pa_nil)) pa_nil))) (pg_name (i := 5) scLChain.nd rfl (.inl rfl))
        (pss_one (ps_if (pt_cmpR op_ne (pe_ix (r := rIxT K) ix_tup (pe_ix (r := rIxL K) ix_list (pv 4) (pe_op op_sub (pv 5) pe_int) (fun _ _ => rfl)) pe_int (fun _ _ => rfl)) (pe_ix (r := rIxT K) ix_tup (pe_ix (r := rIxL K) ix_list (pv 4) (pv 5) (fun _ _ => rfl)) pe_int (fun _ _ => rfl)) (nomark _)) (pss_one ps_never) pss_nil)))
      (pss_one (ps_ret pe_bl))))), ?_⟩
    have cl : (castS u).length ≤ 1000 := by rw [castS_len]; omega
    have cne : castS u ≠ [] := fun e => by
      have := congrArg List.length e
      rw [castS_len] at this
      exact hne (List.eq_nil_of_length_eq_zero this)
    obtain ⟨ts, c1, c2, c3⟩ := id hc
    rw [castS_len] at c2
    refine Evl.q_when (b := false) (Evl.et_or (a := false) (b := false) (Evl.et_not (a := true) (Evl.et_B (ev_isI (d := dStones (castS u)) (Evl.ev_var rfl) hc.dt (kit_list _)))) fun _ => Evl.et_is (et_isNil rfl hc cl) (decide_eq_false cne)) (fun h => nomatch h) fun _ H1 e1 => ?_
    refine Evl.q_forL (K := K) (a := c) (xs := ts.map V.ref) (Evl.ev_var rfl) (SqL.of (e1 _ _ c1)) (fun i σ H' => Ex H H' ∧ ∃ x2, σ = [some (.ref a), some (.ref c), x2, none, none, none]) (fun H2 e2 => ⟨e1.trans e2, _, rfl⟩) (fun i σ' H' _ h => SqL.of (h.1 _ _ c1)) ?_ ?_
    · rintro i z σ' H2 hi ⟨e2, x2, rfl⟩
      rw [List.getElem?_map] at hi
      obtain ⟨t, htt, rfl⟩ := Option.map_eq_some_iff.mp hi
      have il : i < u.length := by
        rw [← c2]
        exact (List.getElem?_eq_some_iff.mp htt).1
      obtain ⟨sl, sb⟩ := hu _ (List.getElem_mem il)
      have h2 := e2 _ _ (c3 i t ((u[i].1 : Int), (u[i].2 : Int)) htt (by unfold castS; rw [List.getElem?_map, List.getElem?_eq_getElem il]; rfl))
      have hS2 := hS.ex e2
      generalize u[i] = s at h2 sl sb
      refine Evl.q_when (b := false) (Evl.et_or (a := false) (b := false) (Evl.et_not (a := true) (Evl.et_B (ev_isI (Evl.ev_var rfl) (dt_step h2) (kit_tuple _)))) fun _ => et_sameI (x := 2) (ev_lenT (Evl.ev_var rfl) h2) Evl.ev_c) (fun h => nomatch h) fun _ H3 e3 => ?_
      have h3 := e3 _ _ h2
      refine Evl.q_when (b := false) (et_neNil fun H4 e4 Q qq => ⟨_, rfl, t, rfl, ⟨_, SqT.of (e4 _ _ h3)⟩, fun D nD => ?_⟩) (fun h => nomatch h) fun _ H4 e4 => ?_
      · have h4 := e4 _ _ h3
        refine lc_tup (xs := [.int (s.1 : Int), .int (s.2 : Int)]) (fun _ H' => Ex H4 H' ∧ H' D = some (.lst [])) ⟨Ex.new nD, upd_same⟩ (fun i H' _ h => SqT.of (h.1 _ _ h4)) (fun i x H' hi h => ⟨rfl, ?_⟩) (fun H' h => qq D H' nD h.1 h.2)
        obtain ⟨k, rfl⟩ : ∃ k : Int, x = .int k := by
          cases i with
          | zero => exact ⟨_, (Option.some.inj hi).symm⟩
          | succ i =>
            cases i with
            | zero => exact ⟨_, (Option.some.inj hi).symm⟩
            | succ i => simp at hi
        refine Evl.et_not (a := true) (Evl.et_B (ev_isI (d := .int k) (Evl.ev_var rfl) (.int k) (kit_ii (K := K)))) H' (Ex.refl H') _ fun H5 e5 => ?_
        refine iteF ?_
        exact ⟨h.1.trans e5, e5 _ _ h.2⟩
      have h4 := e4 _ _ h3
      refine Evl.q_when (b := false) (Evl.et_or (a := false) (b := false) (Evl.et_B (ev_isI (d := .int (s.1 : Int)) (Evl.ev_op (Evl.ev_var rfl) Evl.ev_c (Evl.rv_ixT (SqT.of h4) (atI_nat (j := 0) rfl))) (.int _) (kit_bool _))) fun _ => Evl.et_B (ev_isI (d := .int (s.2 : Int)) (Evl.ev_op (Evl.ev_var rfl) Evl.ev_c (Evl.rv_ixT (SqT.of h4) (atI_nat (j := 1) rfl))) (.int _) (kit_bool _))) (fun h => nomatch h) fun _ H5 e5 => ?_
      have h5 := e5 _ _ h4
      have hS5 := hS2.ex ((e3.trans e4).trans e5)
      obtain ⟨vs, v1, v2, v3⟩ := id hS5
      refine ⟨_, rfl, t, _, 0, _, rfl, rfl, SqT.of h5, atI_nat (j := 0) rfl, _, _, rfl, rfl, _, rfl, ?_⟩
      rw [decide_eq_true (show (0 : Int) ≤ (s.1 : Int) by omega)]
      refine iteT ?_
      refine ⟨_, rfl, a, _, rfl, .inl (SqL.of v1), _, _, rfl, rfl, _, rfl, ?_⟩
      rw [decide_eq_true (show (s.1 : Int) < ((vs.map V.ref).length : Int) by rw [List.length_map, v2]; omega)]
      refine iteF ?_
      refine Evl.s_when (b := false) (Evl.et_is (Evl.et_test (Evl.ev_opL (xs := [.int 0, .int 1]) (Evl.ev_op (Evl.ev_var rfl) Evl.ev_c (Evl.rv_ixT (K := K) (SqT.of h5) (atI_nat (j := 1) rfl))) (Evl.el_lst (Evl.ea_cons Evl.ev_c (Evl.ea_cons Evl.ev_c Evl.ea_nil)) (by show 2 ≤ _; decide)) fun p H6 hp _ => Evl.rv_niL (SqL.of hp) rfl rfl)) ?_) (fun h => nomatch h) fun _ H6 e6 => ⟨(((e2.trans e3).trans e4).trans e5).trans e6, _, rfl⟩
      rcases (show s.2 = 0 ∨ s.2 = 1 by omega) with c | c
      · rw [c]; rfl
      · rw [c]; rfl
    · rintro σ' H2 ⟨e2, x2, rfl⟩
      have hS2 := hS.ex e2
      have c12 := e2 _ _ c1
      refine ⟨_, rfl, c, rfl, ⟨_, SqL.of c12⟩, fun D nD => ?_⟩
      refine lc_list (xs := ts.map V.ref) (fun k H' => ∃ zs : List Addr, Ex H2 H' ∧ H' D = some (.lst (zs.map V.ref)) ∧ zs.length = k ∧ ∀ (i : Nat) (z : Addr) (s : Step), zs[i]? = some z → u[i]? = some s → z ≠ D ∧ H' z = some (.tup [.int (lie st s).1, .int (lie st s).2]))
        ⟨[], Ex.new nD, upd_same, rfl, fun i z s e => by simp at e⟩ (fun i H' _ h => by obtain ⟨_, e, _⟩ := h; exact SqL.of (e _ _ c12)) ?_ ?_
      · rintro k v H3 hk ⟨zs, e3, hD, hzs, hin⟩
        rw [List.getElem?_map] at hk
        obtain ⟨t, htt, rfl⟩ := Option.map_eq_some_iff.mp hk
        have il : k < u.length := by
          rw [← c2]
          exact (List.getElem?_eq_some_iff.mp htt).1
        obtain ⟨sl, sb⟩ := hu _ (List.getElem_mem il)
        have h3 := (e2.trans e3) _ _ (c3 k t ((u[k].1 : Int), (u[k].2 : Int)) htt (by unfold castS; rw [List.getElem?_map, List.getElem?_eq_getElem il]; rfl))
        refine ⟨rfl, ?_⟩
        unfold tYes
        dsimp only
        rw [if_pos rfl]
        refine ⟨_, rfl, _, rfl, a, t, st, u[k], rfl, hS2.ex e3, h3, sl, sb, fun z H4 e4 hz => ?_⟩
        have hD4 := e4 _ _ hD
        have zD : z ≠ D := fun e => by
          rw [e, hD4] at hz
          cases hz
        refine ⟨_, hD4, by rw [List.length_map, hzs]; exact small1000 (by omega), zs ++ [z], Ex.mut (e3.trans e4) nD, by rw [upd_same, List.map_append]; rfl, by rw [List.length_append, hzs]; rfl, fun i z' s' g1 g2 => ?_⟩
        by_cases j : i < zs.length
        · rw [List.getElem?_append_left j] at g1
          obtain ⟨n1, n2⟩ := hin i z' s' g1 g2
          exact ⟨n1, by rw [upd_ne n1]; exact e4 _ _ n2⟩
        · rw [List.getElem?_append_right (by omega)] at g1
          have zz : i - zs.length = 0 := by
            have := (List.getElem?_eq_some_iff.mp g1).1
            simp at this
            omega
          rw [zz] at g1
          have g1 : z = z' := Option.some.inj g1
          have ik : i = k := by omega
          rw [ik, List.getElem?_eq_getElem il] at g2
          have g2 := Option.some.inj g2
          rw [← g1, ← g2]
          exact ⟨zD, by rw [upd_ne zD]; exact hz⟩
      · rintro H3 ⟨zs, e3, hD, hzs, hin⟩
        rw [List.length_map, c2] at hzs
        refine Evl.q_forR2 (lo := 1) (n := (u.length : Int)) (Evl.ea_cons Evl.ev_c (Evl.ea_cons (Evl.ev_is (Evl.ev_len (K := K) (Evl.ev_var rfl) (SqL.of hD)) (by rw [List.length_map, hzs])) Evl.ea_nil)) (by omega) (fun i σ H' => Ex H3 H' ∧ ∃ x5, σ = [some (.ref a), some (.ref c), x2, none, some (.ref D), x5]) (fun H4 e4 => ⟨e4, _, rfl⟩) ?_ ?_
        · rintro i σ' H4 hi ⟨e4, x5, rfl⟩
          have i1 : i < zs.length := by omega
          have i2 : i + 1 < zs.length := by omega
          have u1 : i < u.length := by omega
          have u2 : i + 1 < u.length := by omega
          have hD4 := e4 _ _ hD
          have p1 := e4 _ _ (hin i _ _ (List.getElem?_eq_getElem i1) (List.getElem?_eq_getElem u1)).2
          have p2 := e4 _ _ (hin (i + 1) _ _ (List.getElem?_eq_getElem i2) (List.getElem?_eq_getElem u2)).2
          have lk := ht.link (List.getElem?_eq_getElem u1) (List.getElem?_eq_getElem u2)
          have q1 : (zs.map V.ref)[i]? = some (.ref zs[i]) := by rw [List.getElem?_map, List.getElem?_eq_getElem i1]; rfl
          have q2 : (zs.map V.ref)[i + 1]? = some (.ref zs[i + 1]) := by rw [List.getElem?_map, List.getElem?_eq_getElem i2]; rfl
          refine Evl.s_when (b := false) (et_sameI (x := (lie st u[i]).2)
            (Evl.ev_op (Evl.ev_op (Evl.ev_var rfl) (Evl.ev_is (w := .int (i : Int)) (Evl.ev_op (Evl.ev_var rfl) Evl.ev_c Evl.rv_I0) (by show V.int _ = _; rw [show (1 : Int) + (i : Int) - 1 = (i : Int) by omega])) (Evl.rv_ixL (K := K) (SqL.of hD4) (atI_nat q1))) Evl.ev_c (Evl.rv_ixT (K := K) (SqT.of p1) (atI_nat (j := 1) rfl)))
            (Evl.ev_op (Evl.ev_op (Evl.ev_var rfl) (Evl.ev_is (w := .int ((i + 1 : Nat) : Int)) (Evl.ev_var rfl) (by show V.int _ = _; rw [show (1 : Int) + (i : Int) = ((i + 1 : Nat) : Int) by omega])) (Evl.rv_ixL (K := K) (SqL.of hD4) (atI_nat q2))) Evl.ev_c (by rw [lk]; exact Evl.rv_ixT (K := K) (SqT.of p2) (atI_nat (j := 0) rfl))))
            (fun h => nomatch h) fun _ H5 e5 => ⟨e4.trans e5, _, rfl⟩
        · rintro σ' H4 ⟨e4, x5, rfl⟩
          exact q H4 ((e2.trans e3).trans e4)
end
end Sw
namespace Sw
open PySem PySem.Spec PyProof.Rows L2
open Evl (Ex Ex.refl Ex.trans Ex.new Ex.mut ex_l ex_t ex_rd fresh_back Ev EvL EvU EvT EvA RV RC RCL SpV SpL)
/-- a laying as plain data -/
def dLaying (cs : List (List Step)) : PyData := .list (cs.map fun c => dStones (castS c))
theorem Chs.dt {H : Hp} {q : Addr} {ps : List Addr} {cs : List (List Step)} (hq : H q = some (.lst (ps.map V.ref))) (h : Chs H ps cs) : Dt H (.ref q) (dLaying cs) := by
  refine .lst hq (DtAll.of (by rw [List.length_map, List.length_map, h.1]) fun i v d e1 e2 => ?_)
  rw [List.getElem?_map] at e1 e2
  obtain ⟨p, hp, rfl⟩ := Option.map_eq_some_iff.mp e1
  obtain ⟨c, hc, rfl⟩ := Option.map_eq_some_iff.mp e2
  exact (h.2 i p c hp hc).dt
theorem lay_laying {cs : List (List Step)} (h1 : cs.length ≤ 1000) (h2 : ∀ c ∈ cs, c.length ≤ 1000) : Lay 3 (dLaying cs) := Lay.lst (by rw [List.length_map]; exact h1) fun d hd => by
  obtain ⟨c, hc, e⟩ := List.mem_map.mp hd
  rw [← e]
  exact lay_stones _ (by rw [castS_len]; exact h2 c hc)
theorem given_none (n : Nat) (v : Nat → V) : Evl.given n (fun _ => false) v = [] := by
  unfold Evl.given
  rw [List.filter_eq_nil_iff.mpr fun _ _ => Bool.false_ne_true]
  rfl
theorem et_yes {σ : L2.St} {H : Hp} : EvT tYes σ H true := fun H1 _ Q q => q H1 (Ex.refl H1)
theorem plcs_len : ∀ {cs : List (List Step)}, (∀ c ∈ cs, c ≠ []) → cs.length ≤ (plcs cs).length
  | [], _ => Nat.le_refl _
  | c :: cs, h => by
    have ih := plcs_len (cs := cs) fun c hc => h c (List.mem_cons.mpr (.inr hc))
    have := List.length_pos_iff.mpr (h c List.mem_cons_self)
    unfold plcs at *
    rw [List.flatMap_cons, List.length_append, List.length_cons]
    have : (plc c).length = c.length := List.length_map _
    omega
theorem plcs_mem2 {cs : List (List Step)} {c : List Step} (h : c ∈ cs) : c.length ≤ (plcs cs).length := by
  obtain ⟨u, v, rfl⟩ := List.append_of_mem h
  unfold plcs
  have : (plc c).length = c.length := List.length_map _
  rw [List.flatMap_append, List.flatMap_cons, List.length_append, List.length_append]
  omega
theorem IsLay.len {st : List (Int × Int)} {cs : List (List Step)} (h : IsLay st cs) : cs.length ≤ st.length ∧ ∀ c ∈ cs, c.length ≤ st.length := by
  have e := h.perm.length_eq
  rw [List.length_range] at e
  exact ⟨by have := plcs_len fun c hc => (h.tr c hc).1; omega, fun c hc => by have := plcs_mem2 hc; omega⟩
section
variable {P : Program} {w : World} {K : PySem.W.Frag} {mg : Str → Option Value} {base : Heap}
theorem pv_lchain {a p : Addr} {st : List (Int × Int)} {c : List Step} {H : Hp} (hS : StonesAt H a st) (hp : StonesAt H p (castS c)) (hne : c ≠ []) (hc : ∀ s ∈ c, s.1 < st.length ∧ s.2 ≤ 1) (ht : ∃ x y, Tr st x c y) (hl : st.length ≤ 60) (hul : c.length ≤ 60) : SpV spLChain [.ref a, .ref p] H (.bl true) := fun H1 e Q q _ => by
  obtain ⟨x, y, ht⟩ := ht
  exact ⟨a, p, st, c, x, y, rfl, hS.ex e, hp.ex e, hne, hc, ht, hl, hul, q⟩
theorem scLIs : FnScope ["_law_stones_here", "_law_thing", "_law_chain_here", "_law_places", "_law_step"] ["_law_stones_here", "_law_thing"] (defScope sLIs) := ⟨rfl, rfl, rfl, by decide +kernel, rfl, by decide +kernel, by decide +kernel⟩
def spLIs : Sp := fun vs H Q _ => ∃ (a q : Addr) (st : List (Int × Int)) (ps : List Addr) (cs : List (List Step)), vs = [.ref a, .ref q] ∧ StonesAt H a st ∧ H q = some (.lst (ps.map V.ref)) ∧ Chs H ps cs ∧ IsLay st cs ∧ st.length ≤ 60 ∧ Evl.RetV (.bl true) H Q
theorem ok_lis {f fC : Addr} {fd fdC : FuncData} (F : Fun K "_law_is_laying" "_law_is_laying" sLIs f fd) (mI : mg "isinstance" = none) (mLi : mg "list" = none) (mL : mg "len" = none) (mR : mg "range" = none) (mSo : mg "sorted" = none)
    (GC : FnOk P w K mg base CX0 2 fC fdC ["_law_stones_here", "_law_chain_here"] spLChain) (gC : mg "_law_chain" = some (.ref fC)) (kC : PySem.W.keepIn K (.ref fC) = true) (bC : Binds K fdC ["_law_stones_here", "_law_chain_here"] []) : FnOk P w K mg base CX0 3 f fd ["_law_stones_here", "_law_thing"] spLIs := by
  refine F.ok scLIs (fun vs H Q E h => ?_) (fun cdv A outer s H vs Q E hr h => ?_)
  · obtain ⟨a, q, st, ps, cs, rfl, _⟩ := h
    rfl
  · obtain ⟨a, qa, st, ps, cs, rfl, hS, hq, hc, hI, hl, q⟩ := h
    refine ⟨_, pss_cons (ps_if (pt_not (pt_val (pe_callB call_isi (by rfl) mI (by decide +kernel) (pa_cons (pv 1) (pa_cons (pe_bltn (v := .ty "list") (by rfl) mLi (by decide +kernel) rfl) pa_nil))))) (pss_one ps_never) pss_nil)
      (pss_cons (ps_if (pt_cmpR (op_neD hr.units) (pe_lc (own := [("_law_chain_here", 2)]) (g := gName 2) (tt := tNot (tB (tCall spLChain [] E0 (tCons (tVar 0) (tCons (tVar 2) tNil))))) rfl scLIs.nd (pi_list (pv 1))
          (blkOk_by (own := [("_law_chain_here", 2)]) (N := ["_law_stones_here", "_law_thing", "_law_chain_here", "_law_places", "_law_step"]) (sc := defScope sLIs) (by decide +kernel))
          (fun _ _ _ _ _ => pg_name (i := 2) scLIs.nd rfl (Or.inl rfl)) (fun _ _ _ _ _ => pts_one (pt_not (pt_val (pe_call GC hr (by rfl) gC kC bC .nil pass0 (pa_cons (pv 0) (pa_cons (pv 2) pa_nil)))))) (fun _ _ _ _ _ => pv 2)) (pe_lst pa_nil) (nomark _)) (pss_one ps_never) pss_nil)
      (pss_cons (ps_set (i := 3) scLIs.nd rfl (.inl rfl) (pe_lst pa_nil))
      (pss_cons (ps_for PassesOwn.never rfl (pi_list (pv 1)) (pg_name (i := 2) scLIs.nd rfl (.inl rfl))
        (pss_one (ps_set (i := 3) scLIs.nd rfl (.inl rfl) (pe_op op_cat (pv 3) (pe_lc (own := [("_law_step", 4)]) (g := gName 4) (tt := tYes) rfl scLIs.nd (pi_list (pv 2))
          (blkOk_by (own := [("_law_step", 4)]) (N := ["_law_stones_here", "_law_thing", "_law_chain_here", "_law_places", "_law_step"]) (sc := defScope sLIs) (by decide +kernel))
          (fun _ _ _ _ _ => pg_name (i := 4) scLIs.nd rfl (Or.inl rfl)) (fun _ _ _ _ _ => pts_nil) (fun _ _ _ _ _ => pe_ix (r := rIxT K) ix_tup (pv 4) pe_int (fun _ _ => rfl)))))))
      (pss_one (ps_ret (pe_cmpR (op_eqD hr.units) (pe_callB cr_sortedI (by rfl) mSo PyProof.Rows.boot_sorted (pa_cons (pv 3) pa_nil)) (pe_listRg rfl (by rfl) mLi (prg_1 (by rfl) mR (pe_callB call_len_seq (by rfl) mL boot_len (pa_cons (pv 0) pa_nil)))) (nomark _))))))), ?_⟩
    obtain ⟨l1, l2⟩ := hI.len
    have pl : (plcs cs).length ≤ 60 := by
      have := hI.perm.length_eq
      rw [List.length_range] at this
      omega
    refine Evl.q_when (b := false) (Evl.et_not (a := true) (Evl.et_B (ev_isI (d := dLaying cs) (Evl.ev_var rfl) (hc.dt hq) (kit_list _)))) (fun h => nomatch h) fun _ H1 e1 => ?_
    have hq1 := e1 _ _ hq
    refine Evl.q_when (b := false) (et_neNil ?_) (fun h => nomatch h) fun _ H2 e2 => ?_
    · have := Evl.el_lcL (K := K) (σ := [some (.ref a), some (.ref qa), none, none, none]) (H := H1) (j := 2) (vs := [2]) (te := tVar 2) (t := tNot (tB (tCall spLChain [] E0 (tCons (tVar 0) (tCons (tVar 2) tNil))))) (xs := ps.map V.ref) (fun _ => false) (fun _ => .non) (Evl.ev_var (i := 1) rfl) (SqL.of hq1) (by rw [List.length_map, hc.1]; omega) (fun _ => rfl)
        (fun i x H3 e3 hx => by
          rw [List.getElem?_map] at hx
          obtain ⟨p, hp, rfl⟩ := Option.map_eq_some_iff.mp hx
          have il : i < cs.length := by
            rw [← hc.1]
            exact (List.getElem?_eq_some_iff.mp hp).1
          have cm := List.getElem_mem il
          obtain ⟨t1, t2, t3⟩ := hI.tr _ cm
          exact Evl.et_not (a := true) (Evl.et_B (Evl.ev_call (Evl.ea_cons (Evl.ev_var rfl) (Evl.ea_cons (Evl.ev_var rfl) Evl.ea_nil)) (pv_lchain (hS.ex (e1.trans e3)) ((hc.2 i p _ hp (List.getElem?_eq_getElem il)).ex (e1.trans e3)) t1 t2 t3 hl (by have := l2 _ cm; omega)))))
        (fun i x H3 _ _ h => nomatch h)
      rw [given_none] at this
      exact this
    have e12 := e1.trans e2
    refine ⟨Nat.zero_le _, fun u0 nu0 => ?_⟩
    have e03 : Ex H (upd H2 u0 (.lst [])) := e12.trans (Ex.new nu0)
    refine Evl.q_forL (K := K) (a := qa) (xs := ps.map V.ref) (Evl.ev_var rfl) (SqL.of (e03 _ _ hq)) (fun i σ H' => Ex H H' ∧ ∃ u x2, σ = [some (.ref a), some (.ref qa), x2, some (.ref u), none] ∧ H' u = some (.lst (nats (plcs (cs.take i)))))
      (fun H3 e3 => ⟨e03.trans e3, u0, _, rfl, e3 _ _ upd_same⟩) (fun i σ' H' _ h => SqL.of (h.1 _ _ hq)) ?_ ?_
    · rintro i y σ' H3 hi ⟨e3, u, x2, rfl, hu⟩
      rw [List.getElem?_map] at hi
      obtain ⟨p, hp, rfl⟩ := Option.map_eq_some_iff.mp hi
      have il : i < cs.length := by
        rw [← hc.1]
        exact (List.getElem?_eq_some_iff.mp hp).1
      have cm := List.getElem_mem il
      have hcp := (hc.2 i p _ hp (List.getElem?_eq_getElem il)).ex e3
      have cl := l2 _ cm
      have ct : cs.take (i + 1) = cs.take i ++ [cs[i]] := by
        rw [List.take_add_one, List.getElem?_eq_getElem il]
        rfl
      obtain ⟨ts, t1, t2, t3⟩ := id hcp
      rw [castS_len] at t2
      have lc := Evl.el_lcL (K := K) (σ := [some (.ref a), some (.ref qa), some (.ref p), some (.ref u), none]) (H := H3) (j := 4) (vs := [4]) (te := tOp (rIxT K) (tVar 4) (tC (.int 0))) (t := tYes) (xs := ts.map V.ref) (fun _ => true) (fun j => .int (((plc cs[i]).getD j 0 : Nat) : Int)) (Evl.ev_var (i := 2) rfl) (SqL.of t1) (by rw [List.length_map, t2]; omega) (fun _ => rfl) (fun _ _ _ _ _ => et_yes)
        (fun j x H4 e4 hx _ => by
          rw [List.getElem?_map] at hx
          obtain ⟨t, htt, rfl⟩ := Option.map_eq_some_iff.mp hx
          have jl : j < cs[i].length := by
            rw [← t2]
            exact (List.getElem?_eq_some_iff.mp htt).1
          have h := e4 _ _ (t3 j t ((cs[i][j].1 : Int), (cs[i][j].2 : Int)) htt (by unfold castS; rw [List.getElem?_map, List.getElem?_eq_getElem jl]; rfl))
          exact Evl.ev_op (Evl.ev_var rfl) Evl.ev_c (Evl.rv_ixT (SqT.of h) (by
            refine (atI_nat (j := 0) rfl).trans ?_
            rw [List.getD_eq_getElem?_getD]
            unfold plc
            rw [List.getElem?_map, List.getElem?_eq_getElem jl]
            rfl)))
      have gv : Evl.given (ts.map V.ref).length (fun _ => true) (fun j => V.int (((plc cs[i]).getD j 0 : Nat) : Int)) = nats (plc cs[i]) := by
        have pl : (ts.map V.ref).length = (plc cs[i]).length := by
          unfold plc
          rw [List.length_map, List.length_map, t2]
        rw [pl]
        unfold nats
        exact given_list _ _ _ fun j b hb => by
          rw [List.getD_eq_getElem?_getD, hb]
          rfl
      rw [gv] at lc
      refine ⟨_, rfl, lc H3 (Ex.refl H3) _ fun v H4 nv e4 hv => ?_⟩
      have sz : (plcs (cs.take i)).length + (plc cs[i]).length ≤ 60 := by
        have h1 : (plcs (cs.take (i + 1))).length ≤ (plcs cs).length := by
          have : cs = cs.take (i + 1) ++ cs.drop (i + 1) := (List.take_append_drop _ _).symm
          unfold plcs
          rw [congrArg (List.flatMap plc) this, List.flatMap_append, List.length_append]
          omega
        rw [ct] at h1
        unfold plcs at *
        rw [List.flatMap_append, List.length_append] at h1
        have : (List.flatMap plc [cs[i]]).length = (plc cs[i]).length := by
          rw [List.flatMap_cons, List.flatMap_nil, List.append_nil]
        omega
      refine ⟨u, v, _, _, rfl, rfl, e4 _ _ hu, hv, by rw [nats_len, nats_len]; exact Evl.sz_of (by omega), fun z nz => ⟨(e3.trans e4).trans (Ex.new nz), z, _, rfl, ?_⟩⟩
      rw [upd_same, ct]
      unfold plcs nats
      rw [List.flatMap_append, List.map_append, List.flatMap_cons, List.flatMap_nil, List.append_nil]
    · rintro σ' H3 ⟨e3, u, x2, rfl, hu⟩
      rw [List.length_map, hc.1, List.take_length] at hu
      obtain ⟨ts, t1, t2, t3⟩ := id hS
      refine ⟨_, rfl, u, ofNats (plcs cs), rfl, SqL.of (by rw [← nats_eq]; exact hu), fun ms z hp hs nz => ?_⟩
      have e4 : Ex H3 (upd H3 z (.lst (ms.map V.int))) := Ex.new nz
      have hz : (upd H3 z (.lst (ms.map V.int))) z = some (.lst (ms.map V.int)) := upd_same
      generalize upd H3 z (.lst (ms.map V.int)) = H4 at e4 hz
      refine ⟨_, rfl, a, _, rfl, .inl (SqL.of ((e3.trans e4) _ _ t1)), _, rfl, .of_le (by omega) (by rw [List.length_map]; omega) (by omega) (by omega), fun r nr => ?_⟩
      rw [List.length_map, t2, rgV_nats]
      have e5 : Ex H4 (upd H4 r (.lst (nats (List.range st.length)))) := Ex.new nr
      have hr' : (upd H4 r (.lst (nats (List.range st.length)))) r = some (.lst ((ofNats (List.range st.length)).map V.int)) := by rw [upd_same, nats_eq]
      have me : ms = ofNats (List.range st.length) := by
        refine perm_sorted_eq (hp.trans ?_) hs ?_
        · unfold ofNats
          exact hI.perm.map _
        · unfold ofNats
          refine List.pairwise_map.mpr (List.pairwise_lt_range.imp fun h => ?_)
          omega
      refine ⟨dInts ms, dInts (ofNats (List.range st.length)), Dt.dp _ _ (dt_ints (e5 _ _ hz)), Dt.dp _ _ (dt_ints hr'), (lay_ints _ (by rw [me]; unfold ofNats; rw [List.length_map, List.length_range]; omega)).shaped (by decide), (lay_ints _ (by unfold ofNats; rw [List.length_map, List.length_range]; omega)).shaped (by decide), ?_⟩
      rw [eqv_dInts, decide_eq_true me]
      exact q _ ((e3.trans e4).trans e5)
end
end Sw
namespace Sw
open PySem PySem.Spec PyProof.Rows L2
open Evl (Ex Ex.refl Ex.trans Ex.new Ex.mut ex_l ex_t ex_rd fresh_back Ev EvL EvU EvT EvA RV RC RCL SpV SpL)
section
variable {P : Program} {w : World} {K : PySem.W.Frag} {mg : Str → Option Value} {base : Heap}
theorem scCopy : FnScope ["_law_thing", "_law_one"] ["_law_thing"] (defScope sLCopy) := ⟨rfl, rfl, rfl, by decide +kernel, rfl, by decide +kernel, by decide +kernel⟩
def spCopyT : Sp := fun vs H Q _ => ∃ (t : Addr) (x y : Int), vs = [.ref t] ∧ H t = some (.tup [.int x, .int y]) ∧ Evl.RetV (.ref t) H Q
def spCopyC : Sp := fun vs H Q _ => ∃ (p : Addr) (su : List (Int × Int)), vs = [.ref p] ∧ StonesAt H p su ∧ su.length ≤ 1000 ∧ ∀ z H', H z = none → Ex H H' → StonesAt H' z su → Q (.ref z) H'
def spCopyF : Sp := fun vs H Q _ => ∃ (q : Addr) (ps : List Addr) (cs : List (List Step)), vs = [.ref q] ∧ H q = some (.lst (ps.map V.ref)) ∧ Chs H ps cs ∧ cs.length ≤ 100 ∧ (∀ c ∈ cs, c.length ≤ 100) ∧ ∀ z zs H', H z = none → Ex H H' → H' z = some (.lst (zs.map V.ref)) → Chs H' zs cs → (∀ p ∈ zs, H p = none) → Q (.ref z) H'
theorem copy_t {f : Addr} {fd : FuncData} (F : Fun K "_law_copy" "_law_copy" sLCopy f fd) (mI : mg "isinstance" = none) (mLi : mg "list" = none) : FnOk P w K mg base CX0 1 f fd ["_law_thing"] spCopyT := by
  refine F.ok scCopy (fun vs H Q E h => ?_) (fun cdv A outer s H vs Q E hr h => ?_)
  · obtain ⟨t, x, y, rfl, _⟩ := h
    rfl
  · obtain ⟨t, x, y, rfl, ht, q⟩ := h
    refine ⟨_, pss_cons (ps_if (pt_val (pe_callB call_isi (by rfl) mI (by decide +kernel) (pa_cons (pv 0) (pa_cons (pe_bltn (v := .ty "list") (by rfl) mLi (by decide +kernel) rfl) pa_nil)))) (pss_one ps_never) pss_nil)
      (pss_one (ps_ret (pv 0))), ?_⟩
    refine Evl.q_when (b := false) (Evl.et_B (ev_isI (Evl.ev_var rfl) (dt_step ht) (kit_list _))) (fun h => nomatch h) fun _ H1 e1 => ⟨_, rfl, q H1 e1⟩
theorem copy_c {f : Addr} {fd : FuncData} (F : Fun K "_law_copy" "_law_copy" sLCopy f fd) (mI : mg "isinstance" = none) (mLi : mg "list" = none)
    (GC : FnOk P w K mg base CX0 1 f fd ["_law_thing"] spCopyT) (gC : mg "_law_copy" = some (.ref f)) (kC : PySem.W.keepIn K (.ref f) = true) (bC : Binds K fd ["_law_thing"] []) : FnOk P w K mg base CX0 2 f fd ["_law_thing"] spCopyC := by
  refine F.ok scCopy (fun vs H Q E h => ?_) (fun cdv A outer s H vs Q E hr h => ?_)
  · obtain ⟨p, su, rfl, _⟩ := h
    rfl
  · obtain ⟨p, su, rfl, hp, hl, q⟩ := h
    refine ⟨_, pss_cons (ps_if (pt_val (pe_callB call_isi (by rfl) mI (by decide +kernel) (pa_cons (pv 0) (pa_cons (pe_bltn (v := .ty "list") (by rfl) mLi (by decide +kernel) rfl) pa_nil))))
        (pss_one (ps_ret (pe_lc (own := [("_law_one", 1)]) (g := gName 1) (tt := tYes) rfl scCopy.nd (pi_list (pv 0)) (blkOk_by (own := [("_law_one", 1)]) (N := ["_law_thing", "_law_one"]) (sc := defScope sLCopy) (by decide +kernel))
          (fun _ _ _ _ _ => pg_name (i := 1) scCopy.nd rfl (Or.inl rfl)) (fun _ _ _ _ _ => pts_nil) (fun _ _ _ _ _ => pe_call GC hr (by rfl) gC kC bC .nil pass0 (pa_cons (pv 1) pa_nil))))) pss_nil)
      (pss_one ps_never), ?_⟩
    refine Evl.q_when (b := true) (Evl.et_B (ev_isI (Evl.ev_var rfl) hp.dt (kit_list _))) (fun _ H1 e1 => ?_) (fun h => nomatch h)
    obtain ⟨ts, t1, t2, t3⟩ := id hp
    have lc := Evl.el_lcL (K := K) (σ := [some (.ref p), none]) (H := H1) (j := 1) (vs := [1]) (te := tCall spCopyT [] E0 (tCons (tVar 1) tNil)) (t := tYes) (xs := ts.map V.ref) (fun _ => true) (fun i => .ref (ts.getD i 0)) (Evl.ev_var (i := 0) rfl) (SqL.of (e1 _ _ t1)) (by rw [List.length_map, t2]; omega) (fun _ => rfl) (fun _ _ _ _ _ => et_yes)
      (fun i x H2 e2 hx _ => by
        rw [List.getElem?_map] at hx
        obtain ⟨t, ht, rfl⟩ := Option.map_eq_some_iff.mp hx
        have il : i < su.length := by
          rw [← t2]
          exact (List.getElem?_eq_some_iff.mp ht).1
        have h := (e1.trans e2) _ _ (t3 i t _ ht (List.getElem?_eq_getElem il))
        have ge : ts.getD i 0 = t := by rw [List.getD_eq_getElem?_getD, ht]; rfl
        rw [ge]
        exact Evl.ev_call (Evl.ea_cons (Evl.ev_var rfl) Evl.ea_nil) fun H3 e3 Q qq _ => ⟨t, _, _, rfl, e3 _ _ h, qq⟩)
    have gv : Evl.given (ts.map V.ref).length (fun _ => true) (fun i => V.ref (ts.getD i 0)) = ts.map V.ref := by
      rw [List.length_map]
      exact given_list ts _ _ fun j b hb => by rw [List.getD_eq_getElem?_getD, hb]; rfl
    rw [gv] at lc
    refine lc H1 (Ex.refl H1) _ fun z H2 nz e2 hz => q z H2 (fresh_back e1 nz) (e1.trans e2) ⟨ts, hz, t2, fun i t s a b => (e1.trans e2) _ _ (t3 i t s a b)⟩
theorem copy_f {f : Addr} {fd : FuncData} (F : Fun K "_law_copy" "_law_copy" sLCopy f fd) (mI : mg "isinstance" = none) (mLi : mg "list" = none)
    (GC : FnOk P w K mg base CX0 2 f fd ["_law_thing"] spCopyC) (gC : mg "_law_copy" = some (.ref f)) (kC : PySem.W.keepIn K (.ref f) = true) (bC : Binds K fd ["_law_thing"] []) : FnOk P w K mg base CX0 3 f fd ["_law_thing"] spCopyF := by
  refine F.ok scCopy (fun vs H Q E h => ?_) (fun cdv A outer s H vs Q E hr h => ?_)
  · obtain ⟨p, ps, cs, rfl, _⟩ := h
    rfl
  · obtain ⟨qa, ps, cs, rfl, hq, hc, hl, hcl, q⟩ := h
    refine ⟨_, pss_cons (ps_if (pt_val (pe_callB call_isi (by rfl) mI (by decide +kernel) (pa_cons (pv 0) (pa_cons (pe_bltn (v := .ty "list") (by rfl) mLi (by decide +kernel) rfl) pa_nil))))
        (pss_one (ps_ret (pe_lc (own := [("_law_one", 1)]) (g := gName 1) (tt := tYes) rfl scCopy.nd (pi_list (pv 0)) (blkOk_by (own := [("_law_one", 1)]) (N := ["_law_thing", "_law_one"]) (sc := defScope sLCopy) (by decide +kernel))
          (fun _ _ _ _ _ => pg_name (i := 1) scCopy.nd rfl (Or.inl rfl)) (fun _ _ _ _ _ => pts_nil) (fun _ _ _ _ _ => pe_call GC hr (by rfl) gC kC bC .nil pass0 (pa_cons (pv 1) pa_nil))))) pss_nil)
      (pss_one ps_never), ?_⟩
    refine Evl.q_when (b := true) (Evl.et_B (ev_isI (d := dLaying cs) (Evl.ev_var rfl) (hc.dt hq) (kit_list _))) (fun _ H1 e1 => ?_) (fun h => nomatch h)
    have hq1 := e1 _ _ hq
    refine ⟨_, rfl, qa, rfl, ⟨_, SqL.of hq1⟩, fun D nD => ?_⟩
    refine lc_list (xs := ps.map V.ref) (fun k H' => ∃ zs : List Addr, Ex H1 H' ∧ H' D = some (.lst (zs.map V.ref)) ∧ Chs H' zs (cs.take k) ∧ ∀ p ∈ zs, H1 p = none ∧ p ≠ D)
      ⟨[], Ex.new nD, upd_same, Chs.nil _, fun p hp => nomatch hp⟩ (fun i H' _ h => by obtain ⟨_, e, _⟩ := h; exact SqL.of (e _ _ hq1)) ?_ ?_
    · rintro k x H2 hk ⟨zs, e2, hD, hzs, hin⟩
      rw [List.getElem?_map] at hk
      obtain ⟨p, hp, rfl⟩ := Option.map_eq_some_iff.mp hk
      have il : k < cs.length := by
        rw [← hc.1]
        exact (List.getElem?_eq_some_iff.mp hp).1
      refine ⟨rfl, ?_⟩
      unfold tYes
      dsimp only
      rw [if_pos rfl]
      refine ⟨_, rfl, p, castS cs[k], rfl, (hc.2 k p _ hp (List.getElem?_eq_getElem il)).ex (e1.trans e2), by rw [castS_len]; have := hcl _ (List.getElem_mem il); omega, fun z H3 nz e3 hz => ?_⟩
      have hD3 := e3 _ _ hD
      have zD : z ≠ D := fun e => by rw [e, hD] at nz; cases nz
      have ct : cs.take (k + 1) = cs.take k ++ [cs[k]] := by
        rw [List.take_add_one, List.getElem?_eq_getElem il]
        rfl
      have hin2 : ∀ p ∈ zs ++ [z], H1 p = none ∧ p ≠ D := fun p hp => by
        rcases List.mem_append.mp hp with hp | hp
        · exact hin p hp
        · rw [List.mem_singleton.mp hp]
          exact ⟨fresh_back e2 nz, zD⟩
      have zl : zs.length ≤ 100 := by
        rw [hzs.1, List.length_take]
        omega
      refine ⟨_, hD3, by rw [List.length_map]; exact small1000 (by omega), zs ++ [z], Ex.mut (e2.trans e3) nD, by rw [upd_same, List.map_append]; rfl, ?_, hin2⟩
      rw [ct]
      exact ((hzs.ex e3).app hz).upd hD3 fun p hp => (hin2 p hp).2
    · rintro H2 ⟨zs, e2, hD, hzs, hin⟩
      rw [List.length_map, hc.1, List.take_length] at hzs
      exact q D zs H2 (fresh_back e1 nD) (e1.trans e2) hD hzs fun p hp => fresh_back e1 (hin p hp).1
end
end Sw
namespace Sw
open PySem PySem.Spec PyProof.Rows L2
open Evl (Ex Ex.refl Ex.trans Ex.new Ex.mut ex_l ex_t ex_rd fresh_back Ev EvL EvU EvT EvA RV RC RCL SpV SpL)
theorem LaidOk.isLay {st : List (Int × Int)} {cs : List (List Step)} (h : LaidOk st cs) : IsLay st cs := ⟨fun c hc => by
  obtain ⟨h1, g, hg, h2, x, y, h3, _⟩ := h.tr c hc
  exact ⟨h1, fun s hs => ⟨grps_lt st g hg _ (h2 s hs).2, (h2 s hs).1⟩, x, y, h3⟩, h.perm⟩
theorem grp_eq {st : List (Int × Int)} {g h : List Nat} (hg : g ∈ grps st) (hh : h ∈ grps st) {p : Nat} (m : p ∈ g) (n : p ∈ h) : g = h := by
  obtain ⟨a, _, _, e1⟩ := grp_is hg
  obtain ⟨b, _, _, e2⟩ := grp_is hh
  rw [e1] at m
  rw [e2] at n
  have h1 := of_decide_eq_true (List.mem_filter.mp m).2
  have h2 := of_decide_eq_true (List.mem_filter.mp n).2
  rw [e1, e2]
  refine List.filter_congr fun q _ => ?_
  rw [← h1, ← h2]
theorem given_mem {n : Nat} {f : Nat → Bool} {v : Nat → V} {x : V} (h : x ∈ Evl.given n f v) : ∃ i, i < n ∧ f i = true ∧ x = v i := by
  unfold Evl.given at h
  obtain ⟨i, hi, e⟩ := List.mem_map.mp h
  obtain ⟨h1, h2⟩ := List.mem_filter.mp hi
  exact ⟨i, List.mem_range.mp h1, h2, e.symm⟩
theorem inV_nats (p : Nat) (l : List Nat) : inV (.int (p : Int)) (nats l) = decide (p ∈ l) := by
  rw [nats_eq, inV_int2]
  refine Bool.eq_iff_iff.mpr ?_
  rw [decide_eq_true_eq, decide_eq_true_eq]
  unfold ofNats
  constructor
  · intro h
    obtain ⟨q, hq, e⟩ := List.mem_map.mp h
    have : q = p := by omega
    rw [← this]
    exact hq
  · intro h
    exact List.mem_map.mpr ⟨p, h, rfl⟩
theorem flat_nats (l : List Nat) : (nats l).all flatV = true := by
  rw [nats_eq]
  exact flat_int2 _
section
variable {P : Program} {w : World} {K : PySem.W.Frag} {mg : Str → Option Value} {base : Heap}
theorem pv_lfew {a : Addr} {st : List (Int × Int)} {H : Hp} (hS : StonesAt H a st) (hl : st.length ≤ 60) : SpV spLFew [.ref a] H (.int ((few st : Nat) : Int)) := fun H1 e Q q _ => ⟨a, st, rfl, hS.ex e, hl, q⟩
theorem pv_lis {a qa : Addr} {st : List (Int × Int)} {ps : List Addr} {cs : List (List Step)} {H : Hp} (hS : StonesAt H a st) (hq : H qa = some (.lst (ps.map V.ref))) (hc : Chs H ps cs) (hI : IsLay st cs) (hl : st.length ≤ 60) : SpV spLIs [.ref a, .ref qa] H (.bl true) :=
  fun H1 e Q q _ => ⟨a, qa, st, ps, cs, rfl, hS.ex e, e _ _ hq, hc.ex e, hI, hl, q⟩
theorem pl_odd {a g : Addr} {st : List (Int × Int)} {l : List Nat} {H : Hp} (hS : StonesAt H a st) (hg : H g = some (.lst (nats l))) (hlt : ∀ p ∈ l, p < st.length) (hl : l.length ≤ 60) : SpL (spOdd K) [.ref a, .ref g] H ((odds st l).map V.int) :=
  fun H1 e Q q _ => ⟨a, g, st, l, rfl, hS.ex e, e _ _ hg, hlt, by omega, fun o H2 no e2 ho => q o H2 no e2 ho⟩
theorem pv_lclosed {a p : Addr} {st : List (Int × Int)} {c : List Step} {x y : Int} {H : Hp} (hS : StonesAt H a st) (hp : StonesAt H p (castS c)) (hne : c ≠ []) (hc : ∀ s ∈ c, s.1 < st.length ∧ s.2 ≤ 1) (ht : Tr st x c y) : SpV spLClosed [.ref a, .ref p] H (.bl (decide (y = x))) :=
  fun H1 e Q q _ => ⟨a, p, st, c, x, y, rfl, hS.ex e, hp.ex e, hne, hc, ht, q⟩
theorem scLRight : FnScope ["_law_stones_here", "_law_found", "_law_group", "_law_here", "_law_chain_here", "_law_even", "_law_kept"] ["_law_stones_here"] (defScope sLRight) := ⟨rfl, rfl, rfl, by decide +kernel, rfl, by decide +kernel, by decide +kernel⟩
def spLRight : Sp := fun vs H Q _ => ∃ (a : Addr) (st : List (Int × Int)), vs = [.ref a] ∧ StonesAt H a st ∧ Good st ∧ Evl.RetV (.bl true) H Q
theorem ok_lright {f fD fI fF fG fO fC fK fA : Addr} {fd fdD fdI fdF fdG fdO fdC fdK fdA : FuncData} (F : Fun K "_law_right" "_law_right" sLRight f fd) (mL : mg "len" = none)
    (GD : FnOk P w K mg base CX0 7 fD fdD ["stones"] spLaid) (gD : mg "laid" = some (.ref fD)) (kD : PySem.W.keepIn K (.ref fD) = true) (bD : Binds K fdD ["stones"] [])
    (GI : FnOk P w K mg base CX0 3 fI fdI ["_law_stones_here", "_law_thing"] spLIs) (gI : mg "_law_is_laying" = some (.ref fI)) (kI : PySem.W.keepIn K (.ref fI) = true) (bI : Binds K fdI ["_law_stones_here", "_law_thing"] [])
    (GF : FnOk P w K mg base CX0 2 fF fdF ["_law_stones_here"] spLFew) (gF : mg "_law_fewest" = some (.ref fF)) (kF : PySem.W.keepIn K (.ref fF) = true) (bF : Binds K fdF ["_law_stones_here"] [])
    (GG : FnOk P w K mg base CX0 1 fG fdG ["_law_stones_here"] spLGroups) (gG : mg "_law_groups" = some (.ref fG)) (kG : PySem.W.keepIn K (.ref fG) = true) (bG : Binds K fdG ["_law_stones_here"] [])
    (GO : FnOk P w K mg base CX0 1 fO fdO ["_law_stones_here", "_law_group"] (spOdd K)) (gO : mg "_law_odd" = some (.ref fO)) (kO : PySem.W.keepIn K (.ref fO) = true) (bO : Binds K fdO ["_law_stones_here", "_law_group"] [])
    (GC : FnOk P w K mg base CX0 2 fC fdC ["_law_stones_here", "_law_chain_here"] spLClosed) (gC : mg "_law_closed" = some (.ref fC)) (kC : PySem.W.keepIn K (.ref fC) = true) (bC : Binds K fdC ["_law_stones_here", "_law_chain_here"] [])
    (GK : FnOk P w K mg base CX0 3 fK fdK ["_law_thing"] spCopyF) (gK : mg "_law_copy" = some (.ref fK)) (kK : PySem.W.keepIn K (.ref fK) = true) (bK : Binds K fdK ["_law_thing"] [])
    (GA : FnOk P w K mg base CX0 4 fA fdA ["_law_found", "_law_due"] (spAlike 3)) (gA : mg "_law_alike" = some (.ref fA)) (kA : PySem.W.keepIn K (.ref fA) = true) (bA : Binds K fdA ["_law_found", "_law_due"] []) : FnOk P w K mg base CX0 8 f fd ["_law_stones_here"] spLRight := by
  refine F.ok scLRight (fun vs H Q E h => ?_) (fun cdv A outer s H vs Q E hr h => ?_)
  · obtain ⟨a, st, rfl, _⟩ := h
    rfl
  · obtain ⟨a, st, rfl, hS, hG, q⟩ := h
    have hr1 : Room 1 _ := hr.mono (by decide)
    have hr2 : Room 2 _ := hr.mono (by decide)
    have hr3 : Room 3 _ := hr.mono (by decide)
    have hr4 : Room 4 _ := hr.mono (by decide)
    refine ⟨_, pss_cons (ps_set (i := 1) scLRight.nd rfl (.inl rfl) (pe_call GD hr (by rfl) gD kD bD .nil pass0 (pa_cons (pv 0) pa_nil)))
      (pss_cons (ps_if (PW.pt (pw_or (pt_not (pt_val (pe_call GI hr3 (by rfl) gI kI bI .nil pass0 (pa_cons (pv 0) (pa_cons (pv 1) pa_nil))))) (pw_or1 (pt_cmpR op_ne (pe_callB (r := Evl.rLenS K) call_len_seq (by rfl) mL boot_len (pa_cons (pv 1) pa_nil)) (pe_call GF hr2 (by rfl) gF kF bF .nil pass0 (pa_cons (pv 0) pa_nil)) (nomark _))))) (pss_one ps_never) pss_nil)
      (pss_cons (ps_for PassesOwn.never rfl (pi_list (pe_call GG hr1 (by rfl) gG kG bG .nil pass0 (pa_cons (pv 0) pa_nil))) (pg_name (i := 2) scLRight.nd rfl (.inr rfl))
        (pss_cons (ps_setLc (i := 3) (own := [("_law_chain_here", 4)]) (g := gName 4) (tt := tTest (tOp (rIn K false) (tOp (rIxT K) (tOp (rIxL K) (tVar 4) (tC (.int 0))) (tC (.int 0))) (tVar 2))) rfl scLRight.nd rfl rfl (sw_true rfl rfl rfl (by decide +kernel)) (pi_list (pv 1))
            (blkOk_by (own := [("_law_chain_here", 4)]) (N := ["_law_stones_here", "_law_found", "_law_group", "_law_here", "_law_chain_here", "_law_even", "_law_kept"]) (sc := defScope sLRight) (by decide +kernel))
            (fun _ _ _ _ _ => pg_name (i := 4) scLRight.nd rfl (Or.inl rfl)) (fun _ _ _ _ _ => pts_one (pt_cmpR (r := rIn K false) op_in_seq (pe_ix (r := rIxT K) ix_tup (pe_ix (r := rIxL K) ix_list (pv 4) pe_int (fun _ _ => rfl)) pe_int (fun _ _ => rfl)) (pv 2) (by rfl))) (fun _ _ _ _ _ => pv 4))
        (pss_cons (ps_set (i := 5) scLRight.nd rfl (.inr rfl) (pe_cmpR (op_eqD hr.units) (pe_call GO hr1 (by rfl) gO kO bO .nil pass0 (pa_cons (pv 0) (pa_cons (pv 2) pa_nil))) (pe_lst pa_nil) (nomark _)))
        (pss_one (ps_if (pt_cmpR (op_neD hr.units) (pe_lc (own := [("_law_chain_here", 4)]) (g := gName 4) (tt := tTest (tOp rNe (tCall spLClosed [] E0 (tCons (tVar 0) (tCons (tVar 4) tNil))) (tVar 5))) rfl scLRight.nd (pi_list (pv 3))
            (blkOk_by (own := [("_law_chain_here", 4)]) (N := ["_law_stones_here", "_law_found", "_law_group", "_law_here", "_law_chain_here", "_law_even", "_law_kept"]) (sc := defScope sLRight) (by decide +kernel))
            (fun _ _ _ _ _ => pg_name (i := 4) scLRight.nd rfl (Or.inl rfl)) (fun _ _ _ _ _ => pts_one (pt_cmpR op_ne (pe_call GC hr2 (by rfl) gC kC bC .nil pass0 (pa_cons (pv 0) (pa_cons (pv 4) pa_nil))) (pv 5) (by rfl))) (fun _ _ _ _ _ => pv 4)) (pe_lst pa_nil) (nomark _)) (pss_one ps_never) pss_nil)))))
      (pss_cons (ps_set (i := 6) scLRight.nd rfl (.inl rfl) (pe_call GK hr3 (by rfl) gK kK bK .nil pass0 (pa_cons (pv 1) pa_nil)))
      (pss_cons (ps_for PassesOwn.never rfl (pi_list (pv 1)) (pg_name (i := 4) scLRight.nd rfl (.inl rfl))
        (pss_one (ps_expr (pe_bm PySem.F.plainAttrs_list PySem.F.slot_list_append PySem.F.type_list_append mt_append (pv 4) (pa_cons (pe_tup (pa_cons pe_int (pa_cons pe_int pa_nil))) pa_nil)))))
      (pss_cons (ps_expr (pe_bm PySem.F.plainAttrs_list PySem.F.slot_list_append PySem.F.type_list_append mt_append (pv 1) (pa_cons (pe_lst pa_nil) pa_nil)))
      (pss_one (ps_ret (pe_call GA hr4 (by rfl) gA kA bA .nil pass0 (pa_cons (pe_call GD hr (by rfl) gD kD bD .nil pass0 (pa_cons (pv 0) pa_nil)) (pa_cons (pv 6) pa_nil)))))))))), ?_⟩
    have hl := hG.1
    have lo := laid_ok st
    have hI := lo.isLay
    obtain ⟨l1, l2⟩ := hI.len
    have lay : Lay 3 (dLaying (laidF st)) := lay_laying (by omega) fun c hc => by have := l2 c hc; omega
    refine q_call ⟨_, rfl, a, st, rfl, hS, hG, fun qa ps H1 nq e1 hq hc hps => ?_⟩
    generalize hcs : laidF st = cs at lo hI l1 l2 lay hc
    have hS1 := hS.ex e1
    refine Evl.q_when (b := false) (Evl.et_or (a := false) (b := false) (Evl.et_not (a := true) (Evl.et_B (Evl.ev_call (Evl.ea_cons (Evl.ev_var rfl) (Evl.ea_cons (Evl.ev_var rfl) Evl.ea_nil)) (pv_lis hS1 hq hc hI hl)))) fun _ => et_sameI (x := ((few st : Nat) : Int)) (Evl.ev_is (Evl.ev_len (K := K) (Evl.ev_var rfl) (SqL.of hq)) (by rw [List.length_map, hc.1, lo.len])) (Evl.ev_call (Evl.ea_cons (Evl.ev_var rfl) Evl.ea_nil) (pv_lfew hS1 hl))) (fun h => nomatch h) fun _ H2 e2 => ?_
    have hS2 := hS1.ex e2
    have hq2 := e2 _ _ hq
    have hc2 := hc.ex e2
    refine ⟨_, rfl, a, st, rfl, hS2, hl, fun gp T H3 e3 n3 hT => ⟨gp, rfl, ⟨_, SqL.of n3.at_⟩, ?_⟩⟩
    have e23 := e2.trans e3
    refine for_list (K := K) (a := gp) (xs := T.map fun t => V.ref t.1) (fun i σ H' => Ex H3 H' ∧ ∃ x2 x3 x4 x5, σ = [some (.ref a), some (.ref qa), x2, x3, x4, x5, none])
      ⟨Ex.refl H3, _, _, _, _, rfl⟩ (fun i σ H' _ h => SqL.of (h.1 _ _ n3.at_)) ?_ ?_
    · rintro i v σ H4 hi ⟨e4, x2, x3, x4, x5, rfl⟩
      rw [List.getElem?_map] at hi
      obtain ⟨t, ht, rfl⟩ := Option.map_eq_some_iff.mp hi
      have htm := n3.in_ t (List.mem_of_getElem? ht)
      have hgm : t.2 ∈ grps st := by
        rw [← hT]
        exact List.mem_map.mpr ⟨t, List.mem_of_getElem? ht, rfl⟩
      have hg4 := e4 _ _ htm.2.2
      have gl := (grps_size st).2 _ hgm
      have hq4 := (e3.trans e4) _ _ hq2
      have hc4 := hc2.ex (e3.trans e4)
      have hS4 := hS2.ex (e3.trans e4)
      generalize t.2 = g at hgm hg4 gl
      -- the chains of the group
      have hd : ∀ j, j < cs.length → ∃ (s : Step) (c' : List Step), cs.getD j [] = s :: c' ∧ cs.getD j [] ∈ cs := fun j jl => by
        have e : cs.getD j [] = cs[j] := by rw [List.getD_eq_getElem?_getD, List.getElem?_eq_getElem jl]; rfl
        have m := List.getElem_mem jl
        rw [e]
        have := (hI.tr _ m).1
        cases h : cs[j] with
        | nil => exact absurd h this
        | cons s c' => exact ⟨s, c', rfl, by rw [← h]; exact m⟩
      refine Evl.q_asgL (xs := Evl.given ps.length (fun j => decide (((cs.getD j []).headD (0, 0)).1 ∈ g)) (fun j => .ref (ps.getD j 0))) ?_ fun hp H5 nhp e5 hhp => ?_
      · have := Evl.el_lcL (K := K) (σ := [some (.ref a), some (.ref qa), some (.ref t.1), x3, x4, x5, none]) (H := H4) (j := 4) (vs := [4]) (te := tVar 4) (t := tTest (tOp (rIn K false) (tOp (rIxT K) (tOp (rIxL K) (tVar 4) (tC (.int 0))) (tC (.int 0))) (tVar 2))) (xs := ps.map V.ref)
          (fun j => decide (((cs.getD j []).headD (0, 0)).1 ∈ g)) (fun j => .ref (ps.getD j 0)) (Evl.ev_var (i := 1) rfl) (SqL.of hq4) (by rw [List.length_map, hc.1]; omega) (fun _ => rfl)
          (fun j x H5 e5 hx => by
            rw [List.getElem?_map] at hx
            obtain ⟨p, hp, rfl⟩ := Option.map_eq_some_iff.mp hx
            have jl : j < cs.length := by
              rw [← hc.1]
              exact (List.getElem?_eq_some_iff.mp hp).1
            obtain ⟨s, c', ec, mc⟩ := hd j jl
            have hpc := (hc4.ex e5).2 j p (s :: c') hp (by rw [← ec, List.getD_eq_getElem?_getD, List.getElem?_eq_getElem jl]; rfl)
            obtain ⟨ts, t0, c1, c2, c3, c4⟩ := step_at hpc (i := 0) (s := s) rfl
            refine Evl.et_is (Evl.et_test (Evl.ev_op (Evl.ev_op (Evl.ev_op (Evl.ev_var rfl) Evl.ev_c (Evl.rv_ixL (K := K) (SqL.of c1) (atI_nat (j := 0) c3))) Evl.ev_c (Evl.rv_ixT (K := K) (SqT.of c4) (atI_nat (j := 0) rfl))) (Evl.ev_var rfl) (Evl.rv_isL (K := K) (SqL.of (e5 _ _ hg4)) rfl (flat_nats g)))) ?_
            rw [inV_nats, ec]
            rfl)
          (fun j x H5 e5 hx _ => by
            rw [List.getElem?_map] at hx
            obtain ⟨p, hp, rfl⟩ := Option.map_eq_some_iff.mp hx
            have ge : ps.getD j 0 = p := by rw [List.getD_eq_getElem?_getD, hp]; rfl
            rw [ge]
            exact Evl.ev_var rfl)
        rw [List.length_map] at this
        exact this
      have hS5 := hS4.ex e5
      have hg5 := e5 _ _ hg4
      have hc5 := hc4.ex e5
      refine Evl.q_asg (v := .bl (decide (odds st g = []))) ?_ fun H6 e6 => ?_
      · refine Evl.ev_opLL (xs := (odds st g).map V.int) (ys := []) (Evl.el_call (Evl.ea_cons (Evl.ev_var rfl) (Evl.ea_cons (Evl.ev_var rfl) Evl.ea_nil)) (pl_odd hS5 hg5 (grps_lt st g hgm) (by omega))) (Evl.el_lst Evl.ea_nil (Nat.zero_le _)) fun p r H6 hp hr _ H7 e Q k => ?_
        have os := odds_size st g
        refine ⟨dInts (odds st g), dInts [], Dt.dp _ _ (dt_ints (e _ _ hp)), Dt.dp _ _ (dt_ints (ns := []) (e _ _ hr)), (lay_ints _ (by omega)).shaped (by decide), (lay_ints _ (by decide)).shaped (by decide), ?_⟩
        rw [eqv_dInts]
        exact k H7 (Ex.refl H7)
      have hhp6 := e6 _ _ hhp
      refine Evl.s_when (b := false) (et_neNil ?_) (fun h => nomatch h) fun _ H7 e7 => ⟨((e4.trans e5).trans e6).trans e7, _, _, _, _, rfl⟩
      have := Evl.el_lcL (K := K) (σ := [some (.ref a), some (.ref qa), some (.ref t.1), some (.ref hp), x4, some (.bl (decide (odds st g = []))), none]) (H := H6) (j := 4) (vs := [4]) (te := tVar 4) (t := tTest (tOp rNe (tCall spLClosed [] E0 (tCons (tVar 0) (tCons (tVar 4) tNil))) (tVar 5))) (xs := Evl.given ps.length (fun j => decide (((cs.getD j []).headD (0, 0)).1 ∈ g)) (fun j => .ref (ps.getD j 0)))
        (fun _ => false) (fun _ => .non) (Evl.ev_var (i := 3) rfl) (SqL.of hhp6) (by have := Evl.given_len ps.length (fun j => decide (((cs.getD j []).headD (0, 0)).1 ∈ g)) (fun j => .ref (ps.getD j 0)); have := hc.1; omega) (fun _ => rfl)
        (fun j x H7 e7 hx => by
          obtain ⟨k, kl, fk, rfl⟩ := given_mem (List.mem_of_getElem? hx)
          have kc : k < cs.length := by rw [← hc.1]; exact kl
          obtain ⟨s, c', ec, mc⟩ := hd k kc
          have gp : ps[k]? = some (ps.getD k 0) := by rw [List.getD_eq_getElem?_getD, List.getElem?_eq_getElem kl]; rfl
          have gc : cs[k]? = some (cs.getD k []) := by rw [List.getD_eq_getElem?_getD, List.getElem?_eq_getElem kc]; rfl
          have hpc := (hc5.ex (e6.trans e7)).2 k _ _ gp gc
          obtain ⟨h1, g', hg', h2, x, y, h3, h4⟩ := lo.tr _ mc
          have hv := hI.tr _ mc
          have fk := of_decide_eq_true fk
          have same : g' = g := grp_eq hg' hgm (p := s.1) (h2 s (by rw [ec]; exact List.mem_cons_self)).2 (by rw [ec] at fk; exact fk)
          rw [same] at h4
          refine Evl.et_is (Evl.et_test (Evl.ev_op (Evl.ev_call (Evl.ea_cons (Evl.ev_var rfl) (Evl.ea_cons (Evl.ev_var rfl) Evl.ea_nil)) (pv_lclosed (hS5.ex (e6.trans e7)) hpc hv.1 hv.2.1 h3)) (Evl.ev_var rfl) (Evl.rv_ne rfl))) ?_
          have : decide (y = x) = decide (odds st g = []) := by
            refine Bool.eq_iff_iff.mpr ?_
            rw [decide_eq_true_eq, decide_eq_true_eq]
            exact ⟨fun e => h4.mp e.symm, fun e => (h4.mpr e).symm⟩
          rw [this, decide_eq_true rfl]
          rfl)
        (fun j x H7 _ _ h => nomatch h)
      rw [given_none] at this
      exact this
    · rintro σ H4 ⟨e4, x2, x3, x4, x5, rfl⟩
      have e14 : Ex H1 H4 := e23.trans e4
      have hq4 := e14 _ _ hq
      have hc4 := hc.ex e14
      refine ⟨_, rfl, qa, ps, cs, rfl, hq4, hc4, by omega, fun c hc => by have := l2 c hc; omega, fun kz kzs H5 nk e5 hk hkc hkn => ?_⟩
      have e05 : Ex H H5 := (e1.trans e14).trans e5
      have hq5 := e5 _ _ hq4
      -- the chains' lists
      have pl : ∀ p ∈ ps, ∃ xs, H4 p = some (.lst xs) ∧ xs.length ≤ 60 := fun p hp => by
        obtain ⟨j, hj⟩ := List.mem_iff_getElem?.mp hp
        have jl : j < cs.length := by
          rw [← hc.1]
          exact (List.getElem?_eq_some_iff.mp hj).1
        obtain ⟨ts, t1, t2, t3⟩ := hc4.2 j p _ hj (List.getElem?_eq_getElem jl)
        exact ⟨_, t1, by rw [List.length_map, t2, castS_len]; have := l2 _ (List.getElem_mem jl); omega⟩
      have kp : ∀ p ∈ ps, kz ≠ p := fun p hp e => by
        obtain ⟨xs, h, _⟩ := pl p hp
        rw [← e, nk] at h
        cases h
      have kq : kz ≠ qa := fun e => by rw [e, hq4] at nk; cases nk
      have zp : ∀ z ∈ kzs, ∀ p ∈ ps, z ≠ p := fun z hz p hp e => by
        obtain ⟨xs, h, _⟩ := pl p hp
        have := hkn z hz
        rw [e, h] at this
        cases this
      have zq : ∀ z ∈ kzs, z ≠ qa := fun z hz e => by
        have := hkn z hz
        rw [e, hq4] at this
        cases this
      refine Evl.q_forL (K := K) (a := qa) (xs := ps.map V.ref) (Evl.ev_var rfl) (SqL.of hq5) (fun i σ H' => Ex H H' ∧ (∃ x4, σ = [some (.ref a), some (.ref qa), x2, x3, x4, x5, some (.ref kz)]) ∧ H' qa = some (.lst (ps.map V.ref)) ∧ H' kz = some (.lst (kzs.map V.ref)) ∧ Chs H' kzs cs ∧ ∀ p ∈ ps, ∃ xs, H' p = some (.lst xs) ∧ xs.length ≤ 60 + i)
        (fun H6 e6 => ⟨e05.trans e6, ⟨_, rfl⟩, e6 _ _ hq5, e6 _ _ hk, hkc.ex e6, fun p hp => by obtain ⟨xs, h, hl⟩ := pl p hp; exact ⟨xs, (e5.trans e6) _ _ h, hl⟩⟩) (fun i σ' H' _ h => SqL.of h.2.2.1) ?_ ?_
      · rintro i v σ' H6 hi ⟨e6, ⟨x4, rfl⟩, q6, k6, c6, p6⟩
        rw [List.getElem?_map] at hi
        obtain ⟨p, hp, rfl⟩ := Option.map_eq_some_iff.mp hi
        have pm := List.mem_of_getElem? hp
        have il : i < ps.length := (List.getElem?_eq_some_iff.mp hp).1
        obtain ⟨xs, hx, xl⟩ := p6 p pm
        refine ⟨_, rfl, .inl ⟨rfl, _, SqL.of hx⟩, by show 2 ≤ sizeLine; decide, fun t nt => ?_⟩
        have e7 : Ex H6 (upd H6 t (.tup [.int 0, .int 0])) := Ex.new nt
        have hx7 := e7 _ _ hx
        have pn := hps p pm
        have hcl := hc.1
        refine ⟨p, xs, _, rfl, rfl, hx7, small1000 (by omega), Ex.mut (e6.trans e7) pn.1, ⟨_, rfl⟩, by rw [upd_ne (fun e => pn.2 e.symm)]; exact e7 _ _ q6, by rw [upd_ne (kp p pm)]; exact e7 _ _ k6, (c6.ex e7).upd hx7 fun z hz => zp z hz p pm, fun r hr => ?_⟩
        by_cases c : r = p
        · rw [c, upd_same]
          exact ⟨_, rfl, by rw [List.length_append]; show xs.length + 1 ≤ _; omega⟩
        · obtain ⟨ys, hy, yl⟩ := p6 r hr
          exact ⟨ys, by rw [upd_ne c]; exact e7 _ _ hy, by omega⟩
      · rintro σ' H6 ⟨e6, ⟨x4, rfl⟩, q6, k6, c6, p6⟩
        refine ⟨_, rfl, .inl ⟨rfl, _, SqL.of q6⟩, Nat.zero_le _, fun l nl => ?_⟩
        have e7 : Ex H6 (upd H6 l (.lst [])) := Ex.new nl
        have q7 := e7 _ _ q6
        refine ⟨qa, _, _, rfl, rfl, q7, by rw [List.length_map, hc.1]; exact small1000 (by omega), ?_⟩
        have e8 : Ex H (upd (upd H6 l (.lst [])) qa (.lst (ps.map V.ref ++ [.ref l]))) := Ex.mut (e6.trans e7) nq
        have k8 : (upd (upd H6 l (.lst [])) qa (.lst (ps.map V.ref ++ [.ref l]))) kz = some (.lst (kzs.map V.ref)) := by rw [upd_ne kq]; exact e7 _ _ k6
        have c8 : Chs (upd (upd H6 l (.lst [])) qa (.lst (ps.map V.ref ++ [.ref l]))) kzs cs := (c6.ex e7).upd q7 zq
        generalize upd (upd H6 l (.lst [])) qa (.lst (ps.map V.ref ++ [.ref l])) = H8 at e8 k8 c8 ⊢
        refine ⟨_, rfl, a, st, rfl, hS.ex e8, hG, fun q2 ps2 H9 nq2 e9 hq2 hc2 hps2 => ?_⟩
        rw [hcs] at hc2
        exact ⟨_, rfl, .ref q2, .ref kz, dLaying cs, rfl, hc2.dt hq2, (c8.ex e9).dt (e9 _ _ k8), lay, fun H10 e10 => q H10 (e8.trans (e9.trans e10))⟩
end
end Sw
namespace Sw
open PySem PySem.Spec PyProof.Rows L2
open Evl (Ex Ex.refl Ex.trans Ex.new Ex.mut ex_l ex_t ex_rd fresh_back Ev EvL EvU EvT EvA RV RC RCL SpV SpL)
section
variable {P : Program} {w : World} {K : PySem.W.Frag} {mg : Str → Option Value} {base : Heap}
theorem good_nil : Good [] := ⟨Nat.zero_le _, fun s h => nomatch h⟩
theorem pv_right {a : Addr} {st : List (Int × Int)} {H : Hp} (hS : StonesAt H a st) (hG : Good st) : SpV spLRight [.ref a] H (.bl true) := fun H1 e Q q _ => ⟨a, st, rfl, hS.ex e, hG, q⟩
theorem rv_modP {H : Hp} {i j : Int} (h : 0 < j) : RV rModP (.int i) (.int j) H (.int (i % j)) := Evl.rv_I (C := fun _ j => 0 < j) (g := fun i j => .int (i % j)) h
theorem rv_divP {H : Hp} {i j : Int} (h : CDiv i j) : RV (rI CDiv fun i j => .int (i / j)) (.int i) (.int j) H (.int (i / j)) := Evl.rv_I (g := fun i j => .int (i / j)) h
theorem scLaw : FnScope ["_law_script", "_law_stones_here", "_law_cell_here", "_law_at", "_law_some", "_law_twice"] ["_law_script"] (defScope sLaw) := ⟨rfl, rfl, rfl, by decide +kernel, rfl, by decide +kernel, by decide +kernel⟩
def spLaw (K : PySem.W.Frag) : Sp := fun vs H Q _ => ∃ (a : Addr) (ns : List Int), vs = [.ref a] ∧ SqL K H a (ns.map V.int) ∧ ns.length ≤ 63 ∧ ∀ H', Q (.bl true) H'
theorem ok_law {f fS fC fR fD : Addr} {fd fdS fdC fdR fdD : FuncData} (F : Fun K "law" "law" sLaw f fd) (mL : mg "len" = none)
    (GS : FnOk P w K mg base CX0 2 fS fdS ["_law_script"] (spStones K)) (gS : mg "_law_stones" = some (.ref fS)) (kS : PySem.W.keepIn K (.ref fS) = true) (bS : Binds K fdS ["_law_script"] [])
    (GC : FnOk P w K mg base CX0 1 fC fdC ["_law_script", "_law_k"] (spCellS K)) (gC : mg "_law_cell" = some (.ref fC)) (kC : PySem.W.keepIn K (.ref fC) = true) (bC : Binds K fdC ["_law_script", "_law_k"] [])
    (GR : FnOk P w K mg base CX0 8 fR fdR ["_law_stones_here"] spLRight) (gR : mg "_law_right" = some (.ref fR)) (kR : PySem.W.keepIn K (.ref fR) = true) (bR : Binds K fdR ["_law_stones_here"] [])
    (GD : FnOk P w K mg base CX0 7 fD fdD ["stones"] spLaid) (gD : mg "laid" = some (.ref fD)) (kD : PySem.W.keepIn K (.ref fD) = true) (bD : Binds K fdD ["stones"] []) : FnOk P w K mg base CX0 9 f fd ["_law_script"] (spLaw K) := by
  refine F.ok scLaw (fun vs H Q E h => ?_) (fun cdv A outer s H vs Q E hr h => ?_)
  · obtain ⟨a, ns, rfl, _⟩ := h
    rfl
  · obtain ⟨a, ns, rfl, hS, hl, q⟩ := h
    have hr1 : Room 1 _ := hr.mono (by decide)
    have hr2 : Room 2 _ := hr.mono (by decide)
    have hr7 : Room 7 _ := hr.mono (by decide)
    refine ⟨_, pss_cons (ps_set (i := 1) scLaw.nd rfl (.inl rfl) (pe_call GS hr2 (by rfl) gS kS bS .nil pass0 (pa_cons (pv 0) pa_nil)))
      (pss_cons (ps_set (i := 2) scLaw.nd rfl (.inl rfl) (pe_call GC hr1 (by rfl) gC kC bC .nil pass0 (pa_cons (pv 0) (pa_cons pe_int pa_nil))))
      (pss_cons (ps_set (i := 3) scLaw.nd rfl (.inl rfl) (pe_op (r := rModP) op_mod (pv 2) (pe_op op_add (pe_callB (r := Evl.rLenS K) call_len_seq (by rfl) mL boot_len (pa_cons (pv 1) pa_nil)) pe_int)))
      (pss_cons (ps_set (i := 4) scLaw.nd rfl (.inl rfl) (pe_op op_cat (pe_slice sl_list (pv 1) po_none (po_some (pv 3))) (pe_slice sl_list (pv 1) (po_some (pe_op op_add (pe_op op_add (pv 3) pe_int) (pe_op (r := rModP) op_mod (pe_op op_fdiv (pv 2) pe_int) pe_int))) po_none)))
      (pss_cons (ps_set (i := 5) scLaw.nd rfl (.inl rfl) (pe_slice sl_list (pe_op op_cat (pv 4) (pv 4)) po_none (po_some pe_int)))
      (pss_one (ps_ret (pe_and (pe_call GR hr (by rfl) gR kR bR .nil pass0 (pa_cons (pv 1) pa_nil)) (pe_and (pe_call GR hr (by rfl) gR kR bR .nil pass0 (pa_cons (pv 4) pa_nil)) (pe_and (pe_call GR hr (by rfl) gR kR bR .nil pass0 (pa_cons (pv 5) pa_nil))
        (pe_one (pe_cmpR (op_eqD hr.units) (pe_call GD hr7 (by rfl) gD kD bD .nil pass0 (pa_cons (pe_lst pa_nil) pa_nil)) (pe_lst pa_nil) (nomark _)))))))))))), ?_⟩
    refine q_call ⟨_, rfl, a, ns, rfl, hS, hl, fun sp st H1 e1 np hG hSt => ?_⟩
    have hN := ex_l (K := K) e1 hS
    have hG1 := hG.1
    refine Evl.q_asg (v := .int (cellF ns 300)) (Evl.ev_call (Evl.ea_cons (Evl.ev_var rfl) (Evl.ea_cons Evl.ev_c Evl.ea_nil)) (pv_cell hN hl)) fun H2 e2 => ?_
    have c0 := cellF_0 ns 300
    generalize cellF ns 300 = c at c0
    have hS2 := hSt.ex e2
    have k1 := Int.emod_nonneg c (show ((st.length : Int) + 1) ≠ 0 by omega)
    have hk : c % ((st.length : Int) + 1) = (((c % ((st.length : Int) + 1)).toNat : Nat) : Int) := by omega
    refine Evl.q_asg (v := .int (((c % ((st.length : Int) + 1)).toNat : Nat) : Int)) (Evl.ev_is (Evl.ev_op (Evl.ev_var rfl) (Evl.ev_op (ev_lenSt rfl hS2) Evl.ev_c Evl.rv_I0) (rv_modP (by omega))) (by rw [← hk])) fun H3 e3 => ?_
    generalize (c % ((st.length : Int) + 1)).toNat = k at hk
    have hS3 := hS2.ex e3
    have j1 := Int.emod_nonneg (c / 100) (show (9 : Int) ≠ 0 by decide)
    have hj : (k : Int) + 1 + c / 100 % 9 = ((k + 1 + (c / 100 % 9).toNat : Nat) : Int) := by omega
    refine q_st (st := st.take k ++ st.drop (k + 1 + (c / 100 % 9).toNat)) (es_cat (es_take (n := k) (es_var rfl hS3) Evl.eo_none (Evl.eo_some (Evl.ev_var rfl))) (es_drop (n := k + 1 + (c / 100 % 9).toNat) (es_var rfl hS3) (Evl.eo_some (Evl.ev_is (Evl.ev_op (Evl.ev_op (Evl.ev_var rfl) Evl.ev_c Evl.rv_I0) (Evl.ev_op (Evl.ev_op (Evl.ev_var rfl) Evl.ev_c (rv_divP ⟨by decide, by decide⟩)) Evl.ev_c (rv_modP (by decide))) Evl.rv_I0) (by rw [hj]))) Evl.eo_none) (by rw [List.length_take, List.length_drop]; omega)) fun s2 H4 e4 hT => ?_
    generalize hsm : st.take k ++ st.drop (k + 1 + (c / 100 % 9).toNat) = sm at hT
    have hGs : Good sm := by
      rw [← hsm]
      refine ⟨by rw [List.length_append, List.length_take, List.length_drop]; omega, fun s m => ?_⟩
      rcases List.mem_append.mp m with m | m
      · exact hG.2 s (List.mem_of_mem_take m)
      · exact hG.2 s (List.mem_of_mem_drop m)
    have hGs1 := hGs.1
    refine q_st (st := (sm ++ sm).take 60) (es_take (n := 60) (es_cat (es_var rfl hT) (es_var rfl hT) (by omega)) Evl.eo_none (Evl.eo_some Evl.ev_c)) fun s3 H5 e5 hU => ?_
    have hGt : Good ((sm ++ sm).take 60) := by
      refine ⟨by rw [List.length_take]; omega, fun s m => ?_⟩
      rcases List.mem_append.mp (List.mem_of_mem_take m) with m | m
      · exact hGs.2 s m
      · exact hGs.2 s m
    have hS5 := (hS3.ex e4).ex e5
    have hT5 := hT.ex e5
    refine Evl.s_ret (v := .bl (true && (true && (true && true)))) (Evl.ev_andV (a := true) (b := true && (true && true)) ?_ fun _ => Evl.ev_andV (a := true) (b := true && true) ?_ fun _ => Evl.ev_andV (a := true) (b := true) ?_ fun _ => ?_) fun H6 _ => q H6
    · exact Evl.ev_call (Evl.ea_cons (Evl.ev_var rfl) Evl.ea_nil) (pv_right hS5 hG)
    · exact Evl.ev_call (Evl.ea_cons (Evl.ev_var rfl) Evl.ea_nil) (pv_right hT5 hGs)
    · exact Evl.ev_call (Evl.ea_cons (Evl.ev_var rfl) Evl.ea_nil) (pv_right hU hGt)
    · intro H6 e6 Q qq
      refine ⟨Nat.zero_le _, fun z nz => ?_⟩
      refine ⟨z, [], rfl, stones_nil upd_same, good_nil, fun r rs H7 nr e7 hr hc _ => ⟨Nat.zero_le _, fun y ny => ?_⟩⟩
      have er : rs = [] := List.eq_nil_of_length_eq_zero hc.1
      subst er
      refine ⟨dInts [], dInts [], Dt.dp _ _ (dt_ints (ns := []) (by rw [upd_ne (ne_of_none hr ny)]; exact hr)), Dt.dp _ _ (dt_ints (ns := []) upd_same), (lay_ints _ (by decide)).shaped (by decide), (lay_ints _ (by decide)).shaped (by decide), ?_⟩
      rw [eqv_dInts]
      exact qq _ ((Ex.new nz).trans (e7.trans (Ex.new ny)))
end
end Sw
namespace Sw
open PySem PySem.Spec PyProof.Rows L2
/-! ### what the top has written -/
theorem all_mk {l : PySem.W.OpenLaw} {w : World} {K : PySem.W.Frag} {h : Heap} {mg : Str → Option Value} {fa f1 f2 f3 f4 f5 f6 f7 f8 f9 f10 f11 f12 f13 f14 f15 f16 f17 f18 f19 f20 f21 f22 f23 f24 f25 f26 f27 f28 f29 f30 : Addr} (X : K.In h) (G : h.Ns mainGlobals mg) (hfa : mg "law" = some (.ref fa))
    {od1 an1 od2 an2 od3 an3 od4 an4 od5 an5 od6 an6 od7 an7 od8 an8 od9 an9 od10 an10 od11 an11 od12 an12 od13 an13 od14 an14 od15 an15 od16 an16 od17 an17 od18 an18 od19 an19 od20 an20 od21 an21 od22 an22 od23 an23 od24 an24 od25 an25 od26 an26 od27 an27 od28 an28 od29 an29 od30 an30 : Option Addr} {sl1 sl2 sl3 sl4 sl5 sl6 sl7 sl8 sl9 sl10 sl11 sl12 sl13 sl14 sl15 sl16 sl17 sl18 sl19 sl20 sl21 sl22 sl23 sl24 sl25 sl26 sl27 sl28 sl29 sl30 : Array (Option Value)} {oc1 kV1 dc1 pm1 cd1 ct1 oc2 kV2 dc2 pm2 cd2 ct2 oc3 kV3 dc3 pm3 cd3 ct3 oc4 kV4 dc4 pm4 cd4 ct4 oc5 kV5 dc5 pm5 cd5 ct5 oc6 kV6 dc6 pm6 cd6 ct6 oc7 kV7 dc7 pm7 cd7 ct7 oc8 kV8 dc8 pm8 cd8 ct8 oc9 kV9 dc9 pm9 cd9 ct9 oc10 kV10 dc10 pm10 cd10 ct10 oc11 kV11 dc11 pm11 cd11 ct11 oc12 kV12 dc12 pm12 cd12 ct12 oc13 kV13 dc13 pm13 cd13 ct13 oc14 kV14 dc14 pm14 cd14 ct14 oc15 kV15 dc15 pm15 cd15 ct15 oc16 kV16 dc16 pm16 cd16 ct16 oc17 kV17 dc17 pm17 cd17 ct17 oc18 kV18 dc18 pm18 cd18 ct18 oc19 kV19 dc19 pm19 cd19 ct19 oc20 kV20 dc20 pm20 cd20 ct20 oc21 kV21 dc21 pm21 cd21 ct21 oc22 kV22 dc22 pm22 cd22 ct22 oc23 kV23 dc23 pm23 cd23 ct23 oc24 kV24 dc24 pm24 cd24 ct24 oc25 kV25 dc25 pm25 cd25 ct25 oc26 kV26 dc26 pm26 cd26 ct26 oc27 kV27 dc27 pm27 cd27 ct27 oc28 kV28 dc28 pm28 cd28 ct28 oc29 kV29 dc29 pm29 cd29 ct29 oc30 kV30 dc30 pm30 cd30 ct30 : Value} {tk0 tk1 : Tok}
    (a1 : PySem.W.nsIn K mainGlobals "is_number" = some (some (.ref f1))) (l1 : K.lookup f1 = some ⟨oc1, od1, .func (PySem.W.fnOf "is_number" "is_number" (defArgs sNum) (defBody sNum) (defScope sNum) .none kV1 dc1 pm1 an1 cd1 ct1), sl1⟩) (c1 : PySem.W.codeIn K cd1 "is_number" = true) (k1 : PySem.W.keepIn K (.ref f1) = true)
    (a2 : PySem.W.nsIn K mainGlobals "is_stone" = some (some (.ref f2))) (l2 : K.lookup f2 = some ⟨oc2, od2, .func (PySem.W.fnOf "is_stone" "is_stone" (defArgs sStone) (defBody sStone) (defScope sStone) .none kV2 dc2 pm2 an2 cd2 ct2), sl2⟩) (c2 : PySem.W.codeIn K cd2 "is_stone" = true) (k2 : PySem.W.keepIn K (.ref f2) = true)
    (a3 : PySem.W.nsIn K mainGlobals "are_stones" = some (some (.ref f3))) (l3 : K.lookup f3 = some ⟨oc3, od3, .func (PySem.W.fnOf "are_stones" "are_stones" (defArgs sAre) (defBody sAre) (defScope sAre) .none kV3 dc3 pm3 an3 cd3 ct3), sl3⟩) (c3 : PySem.W.codeIn K cd3 "are_stones" = true) (k3 : PySem.W.keepIn K (.ref f3) = true)
    (a4 : PySem.W.nsIn K mainGlobals "need_stones" = some (some (.ref f4))) (l4 : K.lookup f4 = some ⟨oc4, od4, .func (PySem.W.fnOf "need_stones" "need_stones" (defArgs sNeed) (defBody sNeed) (defScope sNeed) .none kV4 dc4 pm4 an4 cd4 ct4), sl4⟩) (c4 : PySem.W.codeIn K cd4 "need_stones" = true) (k4 : PySem.W.keepIn K (.ref f4) = true)
    (a5 : PySem.W.nsIn K mainGlobals "lying" = some (some (.ref f5))) (l5 : K.lookup f5 = some ⟨oc5, od5, .func (PySem.W.fnOf "lying" "lying" (defArgs sLying) (defBody sLying) (defScope sLying) .none kV5 dc5 pm5 an5 cd5 ct5), sl5⟩) (c5 : PySem.W.codeIn K cd5 "lying" = true) (k5 : PySem.W.keepIn K (.ref f5) = true)
    (a6 : PySem.W.nsIn K mainGlobals "_labels" = some (some (.ref f6))) (l6 : K.lookup f6 = some ⟨oc6, od6, .func (PySem.W.fnOf "_labels" "_labels" (defArgs sLabels) (defBody sLabels) (defScope sLabels) .none kV6 dc6 pm6 an6 cd6 ct6), sl6⟩) (c6 : PySem.W.codeIn K cd6 "_labels" = true) (k6 : PySem.W.keepIn K (.ref f6) = true)
    (a7 : PySem.W.nsIn K mainGlobals "groups" = some (some (.ref f7))) (l7 : K.lookup f7 = some ⟨oc7, od7, .func (PySem.W.fnOf "groups" "groups" (defArgs sGroups) (defBody sGroups) (defScope sGroups) .none kV7 dc7 pm7 an7 cd7 ct7), sl7⟩) (c7 : PySem.W.codeIn K cd7 "groups" = true) (k7 : PySem.W.keepIn K (.ref f7) = true)
    (a8 : PySem.W.nsIn K mainGlobals "odd_ends" = some (some (.ref f8))) (l8 : K.lookup f8 = some ⟨oc8, od8, .func (PySem.W.fnOf "odd_ends" "odd_ends" (defArgs sOddE) (defBody sOddE) (defScope sOddE) .none kV8 dc8 pm8 an8 cd8 ct8), sl8⟩) (c8 : PySem.W.codeIn K cd8 "odd_ends" = true) (k8 : PySem.W.keepIn K (.ref f8) = true)
    (a9 : PySem.W.nsIn K mainGlobals "why" = some (some (.ref f9))) (l9 : K.lookup f9 = some ⟨oc9, od9, .func (PySem.W.fnOf "why" "why" (defArgs sWhy) (defBody sWhy) (defScope sWhy) .none kV9 dc9 pm9 an9 cd9 ct9), sl9⟩) (c9 : PySem.W.codeIn K cd9 "why" = true) (k9 : PySem.W.keepIn K (.ref f9) = true)
    (a10 : PySem.W.nsIn K mainGlobals "_places_by_number" = some (some (.ref f10))) (l10 : K.lookup f10 = some ⟨oc10, od10, .func (PySem.W.fnOf "_places_by_number" "_places_by_number" (defArgs sPlaces) (defBody sPlaces) (defScope sPlaces) .none kV10 dc10 pm10 an10 cd10 ct10), sl10⟩) (c10 : PySem.W.codeIn K cd10 "_places_by_number" = true) (k10 : PySem.W.keepIn K (.ref f10) = true)
    (a11 : PySem.W.nsIn K mainGlobals "lies" = some (some (.ref f11))) (l11 : K.lookup f11 = some ⟨oc11, od11, .func (PySem.W.fnOf "lies" "lies" (defArgs sLies) (defBody sLies) (defScope sLies) .none kV11 dc11 pm11 an11 cd11 ct11), sl11⟩) (c11 : PySem.W.codeIn K cd11 "lies" = true) (k11 : PySem.W.keepIn K (.ref f11) = true)
    (a12 : PySem.W.nsIn K mainGlobals "_taken" = some (some (.ref f12))) (l12 : K.lookup f12 = some ⟨oc12, od12, .func (PySem.W.fnOf "_taken" "_taken" (defArgs sTaken) (defBody sTaken) (defScope sTaken) .none kV12 dc12 pm12 an12 cd12 ct12), sl12⟩) (c12 : PySem.W.codeIn K cd12 "_taken" = true) (k12 : PySem.W.keepIn K (.ref f12) = true)
    (a13 : PySem.W.nsIn K mainGlobals "_walk" = some (some (.ref f13))) (l13 : K.lookup f13 = some ⟨oc13, od13, .func (PySem.W.fnOf "_walk" "_walk" (defArgs sWalk) (defBody sWalk) (defScope sWalk) .none kV13 dc13 pm13 an13 cd13 ct13), sl13⟩) (c13 : PySem.W.codeIn K cd13 "_walk" = true) (k13 : PySem.W.keepIn K (.ref f13) = true)
    (a14 : PySem.W.nsIn K mainGlobals "_walks" = some (some (.ref f14))) (l14 : K.lookup f14 = some ⟨oc14, od14, .func (PySem.W.fnOf "_walks" "_walks" (defArgs sWalks) (defBody sWalks) (defScope sWalks) .none kV14 dc14 pm14 an14 cd14 ct14), sl14⟩) (c14 : PySem.W.codeIn K cd14 "_walks" = true) (k14 : PySem.W.keepIn K (.ref f14) = true)
    (a15 : PySem.W.nsIn K mainGlobals "_filled" = some (some (.ref f15))) (l15 : K.lookup f15 = some ⟨oc15, od15, .func (PySem.W.fnOf "_filled" "_filled" (defArgs sFilled) (defBody sFilled) (defScope sFilled) .none kV15 dc15 pm15 an15 cd15 ct15), sl15⟩) (c15 : PySem.W.codeIn K cd15 "_filled" = true) (k15 : PySem.W.keepIn K (.ref f15) = true)
    (a16 : PySem.W.nsIn K mainGlobals "_group_laid" = some (some (.ref f16))) (l16 : K.lookup f16 = some ⟨oc16, od16, .func (PySem.W.fnOf "_group_laid" "_group_laid" (defArgs sGLaid) (defBody sGLaid) (defScope sGLaid) .none kV16 dc16 pm16 an16 cd16 ct16), sl16⟩) (c16 : PySem.W.codeIn K cd16 "_group_laid" = true) (k16 : PySem.W.keepIn K (.ref f16) = true)
    (a17 : PySem.W.nsIn K mainGlobals "laid" = some (some (.ref f17))) (l17 : K.lookup f17 = some ⟨oc17, od17, .func (PySem.W.fnOf "laid" "laid" (defArgs sLaid) (defBody sLaid) (defScope sLaid) .none kV17 dc17 pm17 an17 cd17 ct17), sl17⟩) (c17 : PySem.W.codeIn K cd17 "laid" = true) (k17 : PySem.W.keepIn K (.ref f17) = true)
    (a18 : PySem.W.nsIn K mainGlobals "_law_cell" = some (some (.ref f18))) (l18 : K.lookup f18 = some ⟨oc18, od18, .func (PySem.W.fnOf "_law_cell" "_law_cell" (defArgs sCell) (defBody sCell) (defScope sCell) .none kV18 dc18 pm18 an18 cd18 ct18), sl18⟩) (c18 : PySem.W.codeIn K cd18 "_law_cell" = true) (k18 : PySem.W.keepIn K (.ref f18) = true)
    (a19 : PySem.W.nsIn K mainGlobals "_law_stones" = some (some (.ref f19))) (l19 : K.lookup f19 = some ⟨oc19, od19, .func (PySem.W.fnOf "_law_stones" "_law_stones" (defArgs sStones) (defBody sStones) (defScope sStones) .none kV19 dc19 pm19 an19 cd19 ct19), sl19⟩) (c19 : PySem.W.codeIn K cd19 "_law_stones" = true) (k19 : PySem.W.keepIn K (.ref f19) = true)
    (a20 : PySem.W.nsIn K mainGlobals "_law_groups" = some (some (.ref f20))) (l20 : K.lookup f20 = some ⟨oc20, od20, .func (PySem.W.fnOf "_law_groups" "_law_groups" (defArgs sLGroups) (defBody sLGroups) (defScope sLGroups) .none kV20 dc20 pm20 an20 cd20 ct20), sl20⟩) (c20 : PySem.W.codeIn K cd20 "_law_groups" = true) (k20 : PySem.W.keepIn K (.ref f20) = true)
    (a21 : PySem.W.nsIn K mainGlobals "_law_odd" = some (some (.ref f21))) (l21 : K.lookup f21 = some ⟨oc21, od21, .func (PySem.W.fnOf "_law_odd" "_law_odd" (defArgs sOdd) (defBody sOdd) (defScope sOdd) .none kV21 dc21 pm21 an21 cd21 ct21), sl21⟩) (c21 : PySem.W.codeIn K cd21 "_law_odd" = true) (k21 : PySem.W.keepIn K (.ref f21) = true)
    (a22 : PySem.W.nsIn K mainGlobals "_law_fewest" = some (some (.ref f22))) (l22 : K.lookup f22 = some ⟨oc22, od22, .func (PySem.W.fnOf "_law_fewest" "_law_fewest" (defArgs sLFew) (defBody sLFew) (defScope sLFew) .none kV22 dc22 pm22 an22 cd22 ct22), sl22⟩) (c22 : PySem.W.codeIn K cd22 "_law_fewest" = true) (k22 : PySem.W.keepIn K (.ref f22) = true)
    (a23 : PySem.W.nsIn K mainGlobals "_law_lies" = some (some (.ref f23))) (l23 : K.lookup f23 = some ⟨oc23, od23, .func (PySem.W.fnOf "_law_lies" "_law_lies" (defArgs sLLies) (defBody sLLies) (defScope sLLies) .none kV23 dc23 pm23 an23 cd23 ct23), sl23⟩) (c23 : PySem.W.codeIn K cd23 "_law_lies" = true) (k23 : PySem.W.keepIn K (.ref f23) = true)
    (a24 : PySem.W.nsIn K mainGlobals "_law_chain" = some (some (.ref f24))) (l24 : K.lookup f24 = some ⟨oc24, od24, .func (PySem.W.fnOf "_law_chain" "_law_chain" (defArgs sLChain) (defBody sLChain) (defScope sLChain) .none kV24 dc24 pm24 an24 cd24 ct24), sl24⟩) (c24 : PySem.W.codeIn K cd24 "_law_chain" = true) (k24 : PySem.W.keepIn K (.ref f24) = true)
    (a25 : PySem.W.nsIn K mainGlobals "_law_is_laying" = some (some (.ref f25))) (l25 : K.lookup f25 = some ⟨oc25, od25, .func (PySem.W.fnOf "_law_is_laying" "_law_is_laying" (defArgs sLIs) (defBody sLIs) (defScope sLIs) .none kV25 dc25 pm25 an25 cd25 ct25), sl25⟩) (c25 : PySem.W.codeIn K cd25 "_law_is_laying" = true) (k25 : PySem.W.keepIn K (.ref f25) = true)
    (a26 : PySem.W.nsIn K mainGlobals "_law_copy" = some (some (.ref f26))) (l26 : K.lookup f26 = some ⟨oc26, od26, .func (PySem.W.fnOf "_law_copy" "_law_copy" (defArgs sLCopy) (defBody sLCopy) (defScope sLCopy) .none kV26 dc26 pm26 an26 cd26 ct26), sl26⟩) (c26 : PySem.W.codeIn K cd26 "_law_copy" = true) (k26 : PySem.W.keepIn K (.ref f26) = true)
    (a27 : PySem.W.nsIn K mainGlobals "_law_alike" = some (some (.ref f27))) (l27 : K.lookup f27 = some ⟨oc27, od27, .func (PySem.W.fnOf "_law_alike" "_law_alike" (defArgs sAlike) (defBody sAlike) (defScope sAlike) .none kV27 dc27 pm27 an27 cd27 ct27), sl27⟩) (c27 : PySem.W.codeIn K cd27 "_law_alike" = true) (k27 : PySem.W.keepIn K (.ref f27) = true)
    (a28 : PySem.W.nsIn K mainGlobals "_law_closed" = some (some (.ref f28))) (l28 : K.lookup f28 = some ⟨oc28, od28, .func (PySem.W.fnOf "_law_closed" "_law_closed" (defArgs sLClosed) (defBody sLClosed) (defScope sLClosed) .none kV28 dc28 pm28 an28 cd28 ct28), sl28⟩) (c28 : PySem.W.codeIn K cd28 "_law_closed" = true) (k28 : PySem.W.keepIn K (.ref f28) = true)
    (a29 : PySem.W.nsIn K mainGlobals "_law_right" = some (some (.ref f29))) (l29 : K.lookup f29 = some ⟨oc29, od29, .func (PySem.W.fnOf "_law_right" "_law_right" (defArgs sLRight) (defBody sLRight) (defScope sLRight) .none kV29 dc29 pm29 an29 cd29 ct29), sl29⟩) (c29 : PySem.W.codeIn K cd29 "_law_right" = true) (k29 : PySem.W.keepIn K (.ref f29) = true)
    (a30 : PySem.W.nsIn K mainGlobals "law" = some (some (.ref f30))) (l30 : K.lookup f30 = some ⟨oc30, od30, .func (PySem.W.fnOf "law" "law" (defArgs sLaw) (defBody sLaw) (defScope sLaw) .none kV30 dc30 pm30 an30 cd30 ct30), sl30⟩) (c30 : PySem.W.codeIn K cd30 "law" = true) (k30 : PySem.W.keepIn K (.ref f30) = true)
    (z0 : PySem.W.nsIn K mainGlobals "isinstance" = some none)
    (z1 : PySem.W.nsIn K mainGlobals "bool" = some none)
    (z2 : PySem.W.nsIn K mainGlobals "int" = some none)
    (z3 : PySem.W.nsIn K mainGlobals "tuple" = some none)
    (z4 : PySem.W.nsIn K mainGlobals "list" = some none)
    (z5 : PySem.W.nsIn K mainGlobals "len" = some none)
    (z6 : PySem.W.nsIn K mainGlobals "all" = some none)
    (z7 : PySem.W.nsIn K mainGlobals "range" = some none)
    (z8 : PySem.W.nsIn K mainGlobals "max" = some none)
    (z9 : PySem.W.nsIn K mainGlobals "min" = some none)
    (z10 : PySem.W.nsIn K mainGlobals "sorted" = some none)
    (z11 : PySem.W.nsIn K mainGlobals "set" = some none)
    (z12 : PySem.W.nsIn K mainGlobals "enumerate" = some none)
    (q0 : PySem.W.nsIn K mainGlobals "HIGHEST_END" = some (some (.int 999999 tk0)))
    (q1 : PySem.W.nsIn K mainGlobals "MOST_STONES" = some (some (.int 60 tk1)))
    : ∃ fd : FuncData, (∀ (s : Shared) (v : Value), BindsTo s fd ⟨[v], []⟩ [("_law_script", v)]) ∧ ∀ base : Heap, K.In base → base.Ns mainGlobals mg → FnOk l.prog w K mg base CX0 9 fa fd ["_law_script"] (spLaw K) := by
  have e := hfa.symm.trans (PySem.W.mg_of X G a30)
  cases e
  have F1 := fun_mk (st := sNum) l1 c1 k1
  have g1 := PySem.W.mg_of X G a1
  have b1 := F1.binds (ps := ["thing", "highest"]) fun _ _ _ _ _ _ us hl => match us, hl with | [_, _], _ => rfl
  have F2 := fun_mk (st := sStone) l2 c2 k2
  have g2 := PySem.W.mg_of X G a2
  have b2 := F2.binds (ps := ["thing"]) fun _ _ _ _ _ _ us hl => match us, hl with | [_], _ => rfl
  have F3 := fun_mk (st := sAre) l3 c3 k3
  have g3 := PySem.W.mg_of X G a3
  have b3 := F3.binds (ps := ["thing"]) fun _ _ _ _ _ _ us hl => match us, hl with | [_], _ => rfl
  have F4 := fun_mk (st := sNeed) l4 c4 k4
  have g4 := PySem.W.mg_of X G a4
  have b4 := F4.binds (ps := ["thing"]) fun _ _ _ _ _ _ us hl => match us, hl with | [_], _ => rfl
  have F5 := fun_mk (st := sLying) l5 c5 k5
  have g5 := PySem.W.mg_of X G a5
  have b5 := F5.binds (ps := ["stone", "turned"]) fun _ _ _ _ _ _ us hl => match us, hl with | [_, _], _ => rfl
  have F6 := fun_mk (st := sLabels) l6 c6 k6
  have g6 := PySem.W.mg_of X G a6
  have b6 := F6.binds (ps := ["stones"]) fun _ _ _ _ _ _ us hl => match us, hl with | [_], _ => rfl
  have F7 := fun_mk (st := sGroups) l7 c7 k7
  have g7 := PySem.W.mg_of X G a7
  have b7 := F7.binds (ps := ["stones"]) fun _ _ _ _ _ _ us hl => match us, hl with | [_], _ => rfl
  have F8 := fun_mk (st := sOddE) l8 c8 k8
  have g8 := PySem.W.mg_of X G a8
  have b8 := F8.binds (ps := ["stones", "group"]) fun _ _ _ _ _ _ us hl => match us, hl with | [_, _], _ => rfl
  have F9 := fun_mk (st := sWhy) l9 c9 k9
  have g9 := PySem.W.mg_of X G a9
  have b9 := F9.binds (ps := ["stones"]) fun _ _ _ _ _ _ us hl => match us, hl with | [_], _ => rfl
  have F10 := fun_mk (st := sPlaces) l10 c10 k10
  have g10 := PySem.W.mg_of X G a10
  have b10 := F10.binds (ps := ["stones"]) fun _ _ _ _ _ _ us hl => match us, hl with | [_], _ => rfl
  have F11 := fun_mk (st := sLies) l11 c11 k11
  have g11 := PySem.W.mg_of X G a11
  have b11 := F11.binds (ps := ["stones", "step"]) fun _ _ _ _ _ _ us hl => match us, hl with | [_, _], _ => rfl
  have F12 := fun_mk (st := sTaken) l12 c12 k12
  have g12 := PySem.W.mg_of X G a12
  have b12 := F12.binds (ps := ["stones", "free", "number"]) fun _ _ _ _ _ _ us hl => match us, hl with | [_, _, _], _ => rfl
  have F13 := fun_mk (st := sWalk) l13 c13 k13
  have g13 := PySem.W.mg_of X G a13
  have b13 := F13.binds (ps := ["stones", "free", "number"]) fun _ _ _ _ _ _ us hl => match us, hl with | [_, _, _], _ => rfl
  have F14 := fun_mk (st := sWalks) l14 c14 k14
  have g14 := PySem.W.mg_of X G a14
  have b14 := F14.binds (ps := ["stones", "free", "starts"]) fun _ _ _ _ _ _ us hl => match us, hl with | [_, _, _], _ => rfl
  have F15 := fun_mk (st := sFilled) l15 c15 k15
  have g15 := PySem.W.mg_of X G a15
  have b15 := F15.binds (ps := ["stones", "free", "walk"]) fun _ _ _ _ _ _ us hl => match us, hl with | [_, _, _], _ => rfl
  have F16 := fun_mk (st := sGLaid) l16 c16 k16
  have g16 := PySem.W.mg_of X G a16
  have b16 := F16.binds (ps := ["stones", "free", "starts"]) fun _ _ _ _ _ _ us hl => match us, hl with | [_, _, _], _ => rfl
  have F17 := fun_mk (st := sLaid) l17 c17 k17
  have g17 := PySem.W.mg_of X G a17
  have b17 := F17.binds (ps := ["stones"]) fun _ _ _ _ _ _ us hl => match us, hl with | [_], _ => rfl
  have F18 := fun_mk (st := sCell) l18 c18 k18
  have g18 := PySem.W.mg_of X G a18
  have b18 := F18.binds (ps := ["_law_script", "_law_k"]) fun _ _ _ _ _ _ us hl => match us, hl with | [_, _], _ => rfl
  have F19 := fun_mk (st := sStones) l19 c19 k19
  have g19 := PySem.W.mg_of X G a19
  have b19 := F19.binds (ps := ["_law_script"]) fun _ _ _ _ _ _ us hl => match us, hl with | [_], _ => rfl
  have F20 := fun_mk (st := sLGroups) l20 c20 k20
  have g20 := PySem.W.mg_of X G a20
  have b20 := F20.binds (ps := ["_law_stones_here"]) fun _ _ _ _ _ _ us hl => match us, hl with | [_], _ => rfl
  have F21 := fun_mk (st := sOdd) l21 c21 k21
  have g21 := PySem.W.mg_of X G a21
  have b21 := F21.binds (ps := ["_law_stones_here", "_law_group"]) fun _ _ _ _ _ _ us hl => match us, hl with | [_, _], _ => rfl
  have F22 := fun_mk (st := sLFew) l22 c22 k22
  have g22 := PySem.W.mg_of X G a22
  have b22 := F22.binds (ps := ["_law_stones_here"]) fun _ _ _ _ _ _ us hl => match us, hl with | [_], _ => rfl
  have F23 := fun_mk (st := sLLies) l23 c23 k23
  have g23 := PySem.W.mg_of X G a23
  have b23 := F23.binds (ps := ["_law_stones_here", "_law_step"]) fun _ _ _ _ _ _ us hl => match us, hl with | [_, _], _ => rfl
  have F24 := fun_mk (st := sLChain) l24 c24 k24
  have g24 := PySem.W.mg_of X G a24
  have b24 := F24.binds (ps := ["_law_stones_here", "_law_chain_here"]) fun _ _ _ _ _ _ us hl => match us, hl with | [_, _], _ => rfl
  have F25 := fun_mk (st := sLIs) l25 c25 k25
  have g25 := PySem.W.mg_of X G a25
  have b25 := F25.binds (ps := ["_law_stones_here", "_law_thing"]) fun _ _ _ _ _ _ us hl => match us, hl with | [_, _], _ => rfl
  have F26 := fun_mk (st := sLCopy) l26 c26 k26
  have g26 := PySem.W.mg_of X G a26
  have b26 := F26.binds (ps := ["_law_thing"]) fun _ _ _ _ _ _ us hl => match us, hl with | [_], _ => rfl
  have F27 := fun_mk (st := sAlike) l27 c27 k27
  have g27 := PySem.W.mg_of X G a27
  have b27 := F27.binds (ps := ["_law_found", "_law_due"]) fun _ _ _ _ _ _ us hl => match us, hl with | [_, _], _ => rfl
  have F28 := fun_mk (st := sLClosed) l28 c28 k28
  have g28 := PySem.W.mg_of X G a28
  have b28 := F28.binds (ps := ["_law_stones_here", "_law_chain_here"]) fun _ _ _ _ _ _ us hl => match us, hl with | [_, _], _ => rfl
  have F29 := fun_mk (st := sLRight) l29 c29 k29
  have g29 := PySem.W.mg_of X G a29
  have b29 := F29.binds (ps := ["_law_stones_here"]) fun _ _ _ _ _ _ us hl => match us, hl with | [_], _ => rfl
  have F30 := fun_mk (st := sLaw) l30 c30 k30
  have g30 := PySem.W.mg_of X G a30
  have m_isinstance := PySem.W.mg_none_of X G z0
  have m_bool := PySem.W.mg_none_of X G z1
  have m_int := PySem.W.mg_none_of X G z2
  have m_tuple := PySem.W.mg_none_of X G z3
  have m_list := PySem.W.mg_none_of X G z4
  have m_len := PySem.W.mg_none_of X G z5
  have m_all := PySem.W.mg_none_of X G z6
  have m_range := PySem.W.mg_none_of X G z7
  have m_max := PySem.W.mg_none_of X G z8
  have m_min := PySem.W.mg_none_of X G z9
  have m_sorted := PySem.W.mg_none_of X G z10
  have m_set := PySem.W.mg_none_of X G z11
  have m_enumerate := PySem.W.mg_none_of X G z12
  have m_HIGHEST_END : ∃ t, mg "HIGHEST_END" = some (.int 999999 t) := ⟨_, PySem.W.mg_of X G q0⟩
  have m_MOST_STONES : ∃ t, mg "MOST_STONES" = some (.int 60 t) := ⟨_, PySem.W.mg_of X G q1⟩
  refine ⟨PySem.W.fnOf "law" "law" (defArgs sLaw) (defBody sLaw) (defScope sLaw) .none kV30 dc30 pm30 an30 cd30 ct30, fun s v => .of_eq rfl, fun base _ _ => ?_⟩
  have H1 := ok_num (P := l.prog) (w := w) (mg := mg) (base := base) F1 m_isinstance m_bool m_int
  have H2 := ok_stone (P := l.prog) (w := w) (mg := mg) (base := base) F2 m_isinstance m_tuple m_len m_HIGHEST_END H1 g1 k1 b1
  have H3 := ok_are (P := l.prog) (w := w) (mg := mg) (base := base) F3 m_isinstance m_list m_len m_all m_MOST_STONES H2 g2 k2 b2
  have H4 := ok_need (P := l.prog) (w := w) (mg := mg) (base := base) F4 H3 g3 k3 b3
  have H5 := ok_lying (P := l.prog) (w := w) (mg := mg) (base := base) F5
  have H6 := ok_labels (P := l.prog) (w := w) (mg := mg) (base := base) F6
  have H7 := ok_groups (P := l.prog) (w := w) (mg := mg) (base := base) F7 m_enumerate m_list H4 g4 k4 b4 H6 g6 k6 b6
  have H8 := ok_oddE (P := l.prog) (w := w) (mg := mg) (base := base) F8 m_len m_sorted H4 g4 k4 b4
  have H9 := ok_why (P := l.prog) (w := w) (mg := mg) (base := base) F9 H7 g7 k7 b7 H8 g8 k8 b8
  have H10 := ok_places (P := l.prog) (w := w) (mg := mg) (base := base) F10 m_enumerate
  have H11 := ok_lies (P := l.prog) (w := w) (mg := mg) (base := base) F11 H5 g5 k5 b5
  have H12 := ok_taken (P := l.prog) (w := w) (mg := mg) (base := base) F12
  have H13 := ok_walk (P := l.prog) (w := w) (mg := mg) (base := base) F13 H12 g12 k12 b12 H11 g11 k11 b11
  have H14 := ok_walks (P := l.prog) (w := w) (mg := mg) (base := base) F14 H13 g13 k13 b13 H11 g11 k11 b11
  have H15 := ok_filled (P := l.prog) (w := w) (mg := mg) (base := base) F15 m_list m_len H13 g13 k13 b13 H11 g11 k11 b11
  have H16 := ok_glaid (P := l.prog) (w := w) (mg := mg) (base := base) F16 H14 g14 k14 b14 H15 g15 k15 b15
  have H17 := ok_laid (P := l.prog) (w := w) (mg := mg) (base := base) F17 H9 g9 k9 b9 H10 g10 k10 b10 H16 g16 k16 b16
  have H18 := ok_cell (P := l.prog) (w := w) (mg := mg) (base := base) F18 m_len
  have H19 := ok_stones (P := l.prog) (w := w) (mg := mg) (base := base) F19 m_len m_range m_max m_min H18 g18 k18 b18
  have H20 := ok_lgroups (P := l.prog) (w := w) (mg := mg) (base := base) F20 m_len m_range m_list m_sorted
  have H21 := ok_odd (P := l.prog) (w := w) (mg := mg) (base := base) F21 m_sorted m_set m_list
  have H22 := ok_lfew (P := l.prog) (w := w) (mg := mg) (base := base) F22 m_max m_len H20 g20 k20 b20 H21 g21 k21 b21
  have H23 := ok_llies (P := l.prog) (w := w) (mg := mg) (base := base) F23
  have H24 := ok_lchain (P := l.prog) (w := w) (mg := mg) (base := base) F24 m_isinstance m_list m_tuple m_int m_bool m_len m_range H23 g23 k23 b23
  have H25 := ok_lis (P := l.prog) (w := w) (mg := mg) (base := base) F25 m_isinstance m_list m_len m_range m_sorted H24 g24 k24 b24
  have C1 := copy_t (P := l.prog) (w := w) (mg := mg) (base := base) F26 m_isinstance m_list
  have C2 := copy_c (P := l.prog) (w := w) (mg := mg) (base := base) F26 m_isinstance m_list C1 g26 k26 b26
  have C3 := copy_f (P := l.prog) (w := w) (mg := mg) (base := base) F26 m_isinstance m_list C2 g26 k26 b26
  have A0 := alike_leaf (P := l.prog) (w := w) (mg := mg) (base := base) F27 m_isinstance m_bool m_tuple m_list
  have A1 := alike_step (P := l.prog) (w := w) (mg := mg) (base := base) F27 m_isinstance m_bool m_tuple m_list m_len m_all m_range A0 g27 k27 b27
  have A2 := alike_step (P := l.prog) (w := w) (mg := mg) (base := base) F27 m_isinstance m_bool m_tuple m_list m_len m_all m_range A1 g27 k27 b27
  have A3 := alike_step (P := l.prog) (w := w) (mg := mg) (base := base) F27 m_isinstance m_bool m_tuple m_list m_len m_all m_range A2 g27 k27 b27
  have H28 := ok_lclosed (P := l.prog) (w := w) (mg := mg) (base := base) F28 H23 g23 k23 b23
  have H29 := ok_lright (P := l.prog) (w := w) (mg := mg) (base := base) F29 m_len H17 g17 k17 b17 H25 g25 k25 b25 H22 g22 k22 b22 H20 g20 k20 b20 H21 g21 k21 b21 H28 g28 k28 b28 C3 g26 k26 b26 A3 g27 k27 b27
  exact ok_law F30 m_len H19 g19 k19 b19 H18 g18 k18 b18 H29 g29 k29 b29 H17 g17 k17 b17
end Sw
open PySem PySem.W PyProof.Rows
set_option maxHeartbeats 0 in
theorem PySem.Challenge.cw_stonerow_k05_whole_laid_holds : PySem.Challenge.rw_stonerow_k05_whole_laid.Holds := by
  w_on; o_law; k_head; (case hw => w_witness2)
  k_fill
  refine L2.walk_of (l := PySem.Challenge.rw_stonerow_k05_whole_laid) (n := 63) (k := 9) (x := "_law_script") (CX := fun _ => L2.CX0) (sp := fun w => Sw.spLaw _) rfl (by decide) rfl ⟨rfl, by decide, by decide⟩ (fun w h Y => PySem.W.kIn_of Y) ?F (fun _ _ a ns hl _ hS => ⟨a, ns, rfl, hS, hl, fun _ => rfl⟩) (fun _ _ _ _ _ h => h)
  case F =>
    intro w mg fa h KX G hmg
    refine' Sw.all_mk KX G hmg ?a1 ?l1 ?c1 ?k1 ?a2 ?l2 ?c2 ?k2 ?a3 ?l3 ?c3 ?k3 ?a4 ?l4 ?c4 ?k4 ?a5 ?l5 ?c5 ?k5 ?a6 ?l6 ?c6 ?k6 ?a7 ?l7 ?c7 ?k7 ?a8 ?l8 ?c8 ?k8 ?a9 ?l9 ?c9 ?k9 ?a10 ?l10 ?c10 ?k10 ?a11 ?l11 ?c11 ?k11 ?a12 ?l12 ?c12 ?k12 ?a13 ?l13 ?c13 ?k13 ?a14 ?l14 ?c14 ?k14 ?a15 ?l15 ?c15 ?k15 ?a16 ?l16 ?c16 ?k16 ?a17 ?l17 ?c17 ?k17 ?a18 ?l18 ?c18 ?k18 ?a19 ?l19 ?c19 ?k19 ?a20 ?l20 ?c20 ?k20 ?a21 ?l21 ?c21 ?k21 ?a22 ?l22 ?c22 ?k22 ?a23 ?l23 ?c23 ?k23 ?a24 ?l24 ?c24 ?k24 ?a25 ?l25 ?c25 ?k25 ?a26 ?l26 ?c26 ?k26 ?a27 ?l27 ?c27 ?k27 ?a28 ?l28 ?c28 ?k28 ?a29 ?l29 ?c29 ?k29 ?a30 ?l30 ?c30 ?k30 ?z0 ?z1 ?z2 ?z3 ?z4 ?z5 ?z6 ?z7 ?z8 ?z9 ?z10 ?z11 ?z12 ?q0 ?q1
    (case a1 => k_is)
    (case l1 => k_is)
    (case c1 => k_is)
    (case k1 => k_is)
    (case a2 => k_is)
    (case l2 => k_is)
    (case c2 => k_is)
    (case k2 => k_is)
    (case a3 => k_is)
    (case l3 => k_is)
    (case c3 => k_is)
    (case k3 => k_is)
    (case a4 => k_is)
    (case l4 => k_is)
    (case c4 => k_is)
    (case k4 => k_is)
    (case a5 => k_is)
    (case l5 => k_is)
    (case c5 => k_is)
    (case k5 => k_is)
    (case a6 => k_is)
    (case l6 => k_is)
    (case c6 => k_is)
    (case k6 => k_is)
    (case a7 => k_is)
    (case l7 => k_is)
    (case c7 => k_is)
    (case k7 => k_is)
    (case a8 => k_is)
    (case l8 => k_is)
    (case c8 => k_is)
    (case k8 => k_is)
    (case a9 => k_is)
    (case l9 => k_is)
    (case c9 => k_is)
    (case k9 => k_is)
    (case a10 => k_is)
    (case l10 => k_is)
    (case c10 => k_is)
    (case k10 => k_is)
    (case a11 => k_is)
    (case l11 => k_is)
    (case c11 => k_is)
    (case k11 => k_is)
    (case a12 => k_is)
    (case l12 => k_is)
    (case c12 => k_is)
    (case k12 => k_is)
    (case a13 => k_is)
    (case l13 => k_is)
    (case c13 => k_is)
    (case k13 => k_is)
    (case a14 => k_is)
    (case l14 => k_is)
    (case c14 => k_is)
    (case k14 => k_is)
    (case a15 => k_is)
    (case l15 => k_is)
    (case c15 => k_is)
    (case k15 => k_is)
    (case a16 => k_is)
    (case l16 => k_is)
    (case c16 => k_is)
    (case k16 => k_is)
    (case a17 => k_is)
    (case l17 => k_is)
    (case c17 => k_is)
    (case k17 => k_is)
    (case a18 => k_is)
    (case l18 => k_is)
    (case c18 => k_is)
    (case k18 => k_is)
    (case a19 => k_is)
    (case l19 => k_is)
    (case c19 => k_is)
    (case k19 => k_is)
    (case a20 => k_is)
    (case l20 => k_is)
    (case c20 => k_is)
    (case k20 => k_is)
    (case a21 => k_is)
    (case l21 => k_is)
    (case c21 => k_is)
    (case k21 => k_is)
    (case a22 => k_is)
    (case l22 => k_is)
    (case c22 => k_is)
    (case k22 => k_is)
    (case a23 => k_is)
    (case l23 => k_is)
    (case c23 => k_is)
    (case k23 => k_is)
    (case a24 => k_is)
    (case l24 => k_is)
    (case c24 => k_is)
    (case k24 => k_is)
    (case a25 => k_is)
    (case l25 => k_is)
    (case c25 => k_is)
    (case k25 => k_is)
    (case a26 => k_is)
    (case l26 => k_is)
    (case c26 => k_is)
    (case k26 => k_is)
    (case a27 => k_is)
    (case l27 => k_is)
    (case c27 => k_is)
    (case k27 => k_is)
    (case a28 => k_is)
    (case l28 => k_is)
    (case c28 => k_is)
    (case k28 => k_is)
    (case a29 => k_is)
    (case l29 => k_is)
    (case c29 => k_is)
    (case k29 => k_is)
    (case a30 => k_is)
    (case l30 => k_is)
    (case c30 => k_is)
    (case k30 => k_is)
    (case z0 => k_is)
    (case z1 => k_is)
    (case z2 => k_is)
    (case z3 => k_is)
    (case z4 => k_is)
    (case z5 => k_is)
    (case z6 => k_is)
    (case z7 => k_is)
    (case z8 => k_is)
    (case z9 => k_is)
    (case z10 => k_is)
    (case z11 => k_is)
    (case z12 => k_is)
    (case q0 => k_is)
    (case q1 => k_is)
