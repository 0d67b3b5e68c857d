import PyProof.Rows.All
import Wide.All
import OpenK.AllK
import Wide.FinOn
import HandS.ForMost
import HandS.Evl
import HandS.IsInst
import HandS.Style
import HandS.Strs
import HandS.SetFor
import PyProof.FactsAll.bool_1
import HandS.Sort
import HandS.More
import HandS.Conv
import HandS.Steps
import HandS.DictComp
import HandS.SetKeys
import HandS.SortInts
import HandS.Flow
import HandS.LawCells
import HandS.Zip
import HandS.FStr
import HandS.Text
import HandS.ExcValue
import HandS.ExcIs
import HandS.ExcOwn
import KE.GoesRaise
import HandS.WordsExc
import PySem.Challenge.RW_stonerow_k09_table_refused
set_option Elab.async false
set_option linter.all false
set_option maxRecDepth 100000
namespace Sw
/-! ## numbers that hang together -/
inductive Conn (st : List (Int × Int)) : Int → Int → Prop
  | refl (x : Int) : Conn st x x
  | edge {a b : Int} : (a, b) ∈ st → Conn st a b
  | symm {x y : Int} : Conn st x y → Conn st y x
  | trans {x y z : Int} : Conn st x y → Conn st y z → Conn st x z

def IsEnd (st : List (Int × Int)) (x : Int) : Prop := ∃ s ∈ st, x = s.1 ∨ x = s.2

theorem Conn.mono {st st' : List (Int × Int)} (h : ∀ s ∈ st, s ∈ st') {x y : Int} (c : Conn st x y) : Conn st' x y := by
  induction c with
  | refl x => exact .refl x
  | edge e => exact .edge (h _ e)
  | symm _ ih => exact .symm ih
  | trans _ _ i1 i2 => exact .trans i1 i2

theorem Conn.isEnd {st : List (Int × Int)} {x y : Int} (c : Conn st x y) : x = y ∨ (IsEnd st x ∧ IsEnd st y) := by
  induction c with
  | refl x => exact .inl rfl
  | edge e => exact .inr ⟨⟨_, e, .inl rfl⟩, ⟨_, e, .inr rfl⟩⟩
  | symm _ ih =>
    rcases ih with h | ⟨h, h'⟩
    · exact .inl h.symm
    · exact .inr ⟨h', h⟩
  | trans _ _ i1 i2 =>
    rcases i1 with h | ⟨h, h'⟩
    · subst h
      exact i2
    · rcases i2 with k | ⟨_, k'⟩
      · subst k
        exact .inr ⟨h, h'⟩
      · exact .inr ⟨h, k'⟩

/-- how one stone more joins -/
theorem conn_snoc {st : List (Int × Int)} {a b x y : Int} : Conn (st ++ [(a, b)]) x y ↔ Conn st x y ∨ (Conn st x a ∧ Conn st b y) ∨ (Conn st x b ∧ Conn st a y) := by
  constructor
  · intro c
    induction c with
    | refl x => exact .inl (.refl x)
    | edge e =>
      rcases List.mem_append.mp e with h | h
      · exact .inl (.edge h)
      · have h := List.mem_singleton.mp h
        cases h
        exact .inr (.inl ⟨.refl _, .refl _⟩)
    | symm _ ih =>
      rcases ih with h | ⟨h, h'⟩ | ⟨h, h'⟩
      · exact .inl h.symm
      · exact .inr (.inr ⟨h'.symm, h.symm⟩)
      · exact .inr (.inl ⟨h'.symm, h.symm⟩)
    | trans _ _ i1 i2 =>
      rcases i1 with h | ⟨h, h'⟩ | ⟨h, h'⟩
      · rcases i2 with k | ⟨k, k'⟩ | ⟨k, k'⟩
        · exact .inl (h.trans k)
        · exact .inr (.inl ⟨h.trans k, k'⟩)
        · exact .inr (.inr ⟨h.trans k, k'⟩)
      · rcases i2 with k | ⟨k, k'⟩ | ⟨k, k'⟩
        · exact .inr (.inl ⟨h, h'.trans k⟩)
        · exact .inr (.inl ⟨h, k'⟩)
        · exact .inl (h.trans k')
      · rcases i2 with k | ⟨k, k'⟩ | ⟨k, k'⟩
        · exact .inr (.inr ⟨h, h'.trans k⟩)
        · exact .inl (h.trans k')
        · exact .inr (.inr ⟨h, k'⟩)
  · have up : ∀ {u v : Int}, Conn st u v → Conn (st ++ [(a, b)]) u v := fun c => c.mono fun s h => List.mem_append.mpr (.inl h)
    have e : Conn (st ++ [(a, b)]) a b := .edge (List.mem_append.mpr (.inr (List.mem_singleton.mpr rfl)))
    rintro (h | ⟨h, h'⟩ | ⟨h, h'⟩)
    · exact up h
    · exact (up h).trans (e.trans (up h'))
    · exact (up h).trans (e.symm.trans (up h'))

/-! ## the labels, as the program gives them -/
def look (l : List (Int × Int)) (x : Int) : Option Int := (l.find? fun p => decide (p.1 = x)).map (·.2)
def setd (l : List (Int × Int)) (x v : Int) : List (Int × Int) := if (look l x).isSome then l else l ++ [(x, v)]
def relab (o n : Int) (l : List (Int × Int)) : List (Int × Int) := l.map fun p => (p.1, if p.2 = o then n else p.2)
def labStep (l : List (Int × Int)) (s : Int × Int) : List (Int × Int) :=
  let l2 := setd (setd l s.1 s.1) s.2 s.2
  let o := (look l2 s.1).getD 0
  let n := (look l2 s.2).getD 0
  if o ≠ n then relab o n l2 else l2
def labOf (st : List (Int × Int)) : List (Int × Int) := st.foldl labStep []

theorem look_append (l r : List (Int × Int)) (x : Int) : look (l ++ r) x = (look l x).or (look r x) := by
  unfold look
  rw [List.find?_append]
  cases List.find? (fun p => decide (p.1 = x)) l <;> rfl
theorem look_cons (p : Int × Int) (l : List (Int × Int)) (x : Int) : look (p :: l) x = if p.1 = x then some p.2 else look l x := by
  unfold look
  rw [List.find?_cons]
  by_cases h : p.1 = x
  · rw [if_pos h, decide_eq_true h]
    rfl
  · rw [if_neg h, decide_eq_false h]
theorem look_nil (x : Int) : look [] x = none := rfl
theorem look_setd (l : List (Int × Int)) (x v y : Int) : look (setd l x v) y = if y = x then some ((look l x).getD v) else look l y := by
  unfold setd
  cases h : look l x with
  | some w =>
    show look l y = _
    by_cases e : y = x
    · rw [if_pos e, e, h]
      rfl
    · rw [if_neg e]
  | none =>
    show look (l ++ [(x, v)]) y = _
    rw [look_append, look_cons, look_nil]
    by_cases e : y = x
    · rw [if_pos e, e, h, if_pos rfl]
      rfl
    · rw [if_neg e, if_neg (fun z => e z.symm)]
      cases look l y <;> rfl
theorem look_relab (o n : Int) (l : List (Int × Int)) (x : Int) : look (relab o n l) x = (look l x).map fun m => if m = o then n else m := by
  induction l with
  | nil => rfl
  | cons p l ih =>
    show look ((p.1, if p.2 = o then n else p.2) :: relab o n l) x = _
    rw [look_cons, look_cons, ih]
    by_cases e : p.1 = x
    · rw [if_pos e, if_pos e]
      rfl
    · rw [if_neg e, if_neg e]

structure LabOk (pre l : List (Int × Int)) : Prop where
  key : ∀ x, (look l x).isSome = true ↔ IsEnd pre x
  to : ∀ x m, look l x = some m → Conn pre x m
  same : ∀ x y m k, look l x = some m → look l y = some k → Conn pre x y → m = k

theorem isEnd_snoc {pre : List (Int × Int)} {s : Int × Int} {x : Int} : IsEnd (pre ++ [s]) x ↔ IsEnd pre x ∨ x = s.1 ∨ x = s.2 := by
  constructor
  · rintro ⟨t, ht, e⟩
    rcases List.mem_append.mp ht with h | h
    · exact .inl ⟨t, h, e⟩
    · rw [List.mem_singleton.mp h] at e
      exact .inr e
  · rintro (⟨t, ht, e⟩ | e)
    · exact ⟨t, List.mem_append.mpr (.inl ht), e⟩
    · exact ⟨s, List.mem_append.mpr (.inr (List.mem_singleton.mpr rfl)), e⟩

theorem look_of_not {l : List (Int × Int)} {x : Int} (h : ¬ (look l x).isSome = true) : look l x = none := by
  cases e : look l x with
  | none => rfl
  | some m => rw [e] at h; exact absurd rfl h

/-- keys may lie beyond the ends: the extra set -/
structure LabX (pre : List (Int × Int)) (ex : Int → Prop) (l : List (Int × Int)) : Prop where
  key : ∀ x, (look l x).isSome = true ↔ IsEnd pre x ∨ ex x
  to : ∀ x m, look l x = some m → Conn pre x m
  same : ∀ x y m k, look l x = some m → look l y = some k → Conn pre x y → m = k
theorem LabX.setd {pre : List (Int × Int)} {ex : Int → Prop} {l : List (Int × Int)} (h : LabX pre ex l) (a : Int) : LabX pre (fun x => ex x ∨ x = a) (setd l a a) := by
  have hd : ∀ x m, look (Sw.setd l a a) x = some m → (look l x = some m) ∨ (x = a ∧ m = a ∧ look l a = none) := by
    intro x m e
    rw [look_setd] at e
    by_cases q : x = a
    · rw [if_pos q] at e
      cases ha : look l a with
      | none =>
        rw [ha] at e
        exact .inr ⟨q, (Option.some.inj e).symm, rfl⟩
      | some w =>
        rw [ha] at e
        left
        rw [q, ha]
        exact e
    · rw [if_neg q] at e
      exact .inl e
  have fresh : look l a = none → ∀ y, Conn pre a y → y = a := by
    intro hn y c
    have na : ¬ (IsEnd pre a ∨ ex a) := fun z => by
      have := (h.key a).mpr z
      rw [hn] at this
      cases this
    rcases c.isEnd with e | ⟨e, _⟩
    · exact e.symm
    · exact absurd (.inl e) na
  refine ⟨fun x => ?_, fun x m e => ?_, fun x y m k e1 e2 c => ?_⟩
  · rw [look_setd]
    by_cases q : x = a
    · rw [if_pos q]
      exact ⟨fun _ => .inr (.inr q), fun _ => rfl⟩
    · rw [if_neg q, h.key]
      constructor
      · rintro (z | z)
        · exact .inl z
        · exact .inr (.inl z)
      · rintro (z | z | z)
        · exact .inl z
        · exact .inr z
        · exact absurd z q
  · rcases hd x m e with z | ⟨rfl, rfl, _⟩
    · exact h.to x m z
    · exact .refl _
  · rcases hd x m e1 with z1 | ⟨rfl, rfl, n1⟩
    · rcases hd y k e2 with z2 | ⟨rfl, rfl, n2⟩
      · exact h.same x y m k z1 z2 c
      · have := fresh n2 x c.symm
        rw [this, n2] at z1
        cases z1
    · rcases hd y k e2 with z2 | ⟨rfl, rfl, n2⟩
      · have := fresh n1 y c
        rw [this, n1] at z2
        cases z2
      · rfl

theorem labStep_ok {pre l : List (Int × Int)} (h : LabOk pre l) (s : Int × Int) : LabOk (pre ++ [s]) (labStep l s) := by
  obtain ⟨a, b⟩ := s
  have h0 : LabX pre (fun _ => False) l := ⟨fun x => (h.key x).trans ⟨.inl, fun z => z.resolve_right id⟩, h.to, h.same⟩
  have h2 := (h0.setd a).setd b
  generalize el : setd (setd l a a) b b = l2 at h2
  have ka : (look l2 a).isSome = true := (h2.key a).mpr (.inr (.inl (.inr rfl)))
  have kb : (look l2 b).isSome = true := (h2.key b).mpr (.inr (.inr rfl))
  obtain ⟨o, eo⟩ := Option.isSome_iff_exists.mp ka
  obtain ⟨n, en⟩ := Option.isSome_iff_exists.mp kb
  have es : labStep l (a, b) = if o ≠ n then relab o n l2 else l2 := by
    show (if (look (setd (setd l a a) b b) a).getD 0 ≠ (look (setd (setd l a a) b b) b).getD 0 then relab ((look (setd (setd l a a) b b) a).getD 0) ((look (setd (setd l a a) b b) b).getD 0) (setd (setd l a a) b b) else setd (setd l a a) b b) = _
    rw [el, eo, en]
    rfl
  have up : ∀ {u v : Int}, Conn pre u v → Conn (pre ++ [(a, b)]) u v := fun c => c.mono fun s h => List.mem_append.mpr (.inl h)
  have eab : Conn (pre ++ [(a, b)]) a b := .edge (List.mem_append.mpr (.inr (List.mem_singleton.mpr rfl)))
  have lk : ∀ x, look (labStep l (a, b)) x = (look l2 x).map fun m => if m = o then n else m := by
    intro x
    rw [es]
    by_cases q : o = n
    · rw [if_neg (fun z => z q)]
      cases look l2 x with
      | none => rfl
      | some m =>
        show some m = some (if m = o then n else m)
        by_cases z : m = o
        · rw [if_pos z, z, q]
        · rw [if_neg z]
    · rw [if_pos q, look_relab]
  have ao : Conn pre a o := h2.to a o eo
  have bn : Conn pre b n := h2.to b n en
  refine ⟨fun x => ?_, fun x m e => ?_, fun x y m k e1 e2 c => ?_⟩
  · rw [lk, Option.isSome_map, h2.key, isEnd_snoc]
    constructor
    · rintro (z | (z | z) | z)
      · exact .inl z
      · exact z.elim
      · exact .inr (.inl z)
      · exact .inr (.inr z)
    · rintro (z | z | z)
      · exact .inl z
      · exact .inr (.inl (.inr z))
      · exact .inr (.inr z)
  · rw [lk] at e
    cases e1 : look l2 x with
    | none =>
      rw [e1] at e
      cases e
    | some m0 =>
      rw [e1] at e
      have e : (if m0 = o then n else m0) = m := Option.some.inj e
      have c0 := h2.to x m0 e1
      by_cases q : m0 = o
      · rw [if_pos q] at e
        rw [← e]
        rw [q] at c0
        exact (up c0).trans ((up ao).symm.trans (eab.trans (up bn)))
      · rw [if_neg q] at e
        rw [← e]
        exact up c0
  · rw [lk] at e1 e2
    cases f1 : look l2 x with
    | none =>
      rw [f1] at e1
      cases e1
    | some m0 =>
      cases f2 : look l2 y with
      | none =>
        rw [f2] at e2
        cases e2
      | some k0 =>
        rw [f1] at e1
        rw [f2] at e2
        have e1 : (if m0 = o then n else m0) = m := Option.some.inj e1
        have e2 : (if k0 = o then n else k0) = k := Option.some.inj e2
        rcases conn_snoc.mp c with c | ⟨c, c'⟩ | ⟨c, c'⟩
        · have q := h2.same x y m0 k0 f1 f2 c
          rw [← e1, ← e2, q]
        · have q1 := h2.same x a m0 o f1 eo c
          have q2 := h2.same b y n k0 en f2 c'
          rw [← e1, ← e2, q1, ← q2, if_pos rfl]
          by_cases z : n = o
          · rw [if_pos z]
          · rw [if_neg z]
        · have q1 := h2.same x b m0 n f1 en c
          have q2 := h2.same a y o k0 eo f2 c'
          rw [← e1, ← e2, q1, ← q2, if_pos rfl]
          by_cases z : n = o
          · rw [if_pos z]
          · rw [if_neg z]

theorem labFold_ok : ∀ (r pre l : List (Int × Int)), LabOk pre l → LabOk (pre ++ r) (r.foldl labStep l)
  | [], pre, l, h => by
    rw [List.append_nil]
    exact h
  | s :: r, pre, l, h => by
    have := labFold_ok r (pre ++ [s]) (labStep l s) (labStep_ok h s)
    rw [List.append_assoc] at this
    exact this
theorem labOk_nil : LabOk [] [] := by
  refine ⟨fun x => ⟨fun z => ?_, fun z => ?_⟩, fun x m e => ?_, fun x y m k e => ?_⟩
  · cases z
  · obtain ⟨s, hs, _⟩ := z
    cases hs
  · cases e
  · cases e
theorem labOf_ok (st : List (Int × Int)) : LabOk st (labOf st) := labFold_ok st [] [] labOk_nil

/-- the label of a number -/
def lab (st : List (Int × Int)) (x : Int) : Int := (look (labOf st) x).getD 0
theorem lab_iff {st : List (Int × Int)} {x y : Int} (hx : IsEnd st x) (hy : IsEnd st y) : lab st x = lab st y ↔ Conn st x y := by
  have L := labOf_ok st
  obtain ⟨m, em⟩ := Option.isSome_iff_exists.mp ((L.key x).mpr hx)
  obtain ⟨k, ek⟩ := Option.isSome_iff_exists.mp ((L.key y).mpr hy)
  unfold lab
  rw [em, ek]
  show m = k ↔ _
  constructor
  · intro e
    have c1 := L.to x m em
    have c2 := L.to y k ek
    rw [e] at c1
    exact c1.trans c2.symm
  · exact L.same x y m k em ek

/-- the length and the keys, for the dict -/
theorem setd_keys (l : List (Int × Int)) (x v : Int) (h : (l.map (·.1)).Nodup) : ((setd l x v).map (·.1)).Nodup := by
  unfold setd
  cases e : look l x with
  | some w => exact h
  | none =>
    show ((l ++ [(x, v)]).map (·.1)).Nodup
    rw [List.map_append]
    refine List.nodup_append.mpr ⟨h, by simp, fun a ha b hb => ?_⟩
    have hb : b = x := List.mem_singleton.mp hb
    intro q
    obtain ⟨p, hp, ep⟩ := List.mem_map.mp ha
    have := List.find?_eq_none.mp (Option.map_eq_none_iff.mp e) p hp
    exact this (decide_eq_true (ep.trans (q.trans hb)))
theorem setd_len (l : List (Int × Int)) (x v : Int) : (setd l x v).length ≤ l.length + 1 := by
  unfold setd
  split
  · omega
  · rw [List.length_append]
    exact Nat.le_refl _
theorem relab_keys (o n : Int) (l : List (Int × Int)) : (relab o n l).map (·.1) = l.map (·.1) := by
  unfold relab
  rw [List.map_map]
  rfl
end Sw
namespace Sw
theorem relab_len (o n : Int) (l : List (Int × Int)) : (relab o n l).length = l.length := List.length_map _
theorem labStep_len (l : List (Int × Int)) (s : Int × Int) : (labStep l s).length ≤ l.length + 2 := by
  have h1 := setd_len l s.1 s.1
  have h2 := setd_len (setd l s.1 s.1) s.2 s.2
  unfold labStep
  dsimp only
  split
  · rw [relab_len]
    omega
  · omega
theorem labStep_keys (l : List (Int × Int)) (s : Int × Int) (h : (l.map (·.1)).Nodup) : ((labStep l s).map (·.1)).Nodup := by
  have h2 := setd_keys _ s.2 s.2 (setd_keys l s.1 s.1 h)
  unfold labStep
  dsimp only
  split
  · rw [relab_keys]
    exact h2
  · exact h2
theorem labTake_ok (st : List (Int × Int)) : ∀ i, ((st.take i).foldl labStep []).length ≤ 2 * i ∧ (((st.take i).foldl labStep []).map (·.1)).Nodup
  | 0 => ⟨Nat.le_refl _, List.nodup_nil⟩
  | i + 1 => by
    obtain ⟨h1, h2⟩ := labTake_ok st i
    rw [List.take_add_one]
    cases e : st[i]? with
    | none =>
      rw [Option.toList_none, List.append_nil]
      exact ⟨by omega, h2⟩
    | some s =>
      show ((st.take i ++ [s]).foldl labStep []).length ≤ _ ∧ (((st.take i ++ [s]).foldl labStep []).map (·.1)).Nodup
      rw [List.foldl_append]
      exact ⟨Nat.le_trans (labStep_len _ s) (by omega), labStep_keys _ s h2⟩
theorem labTake_succ {st : List (Int × Int)} {i : Nat} {s : Int × Int} (h : st[i]? = some s) : (st.take (i + 1)).foldl labStep [] = labStep ((st.take i).foldl labStep []) s := by
  rw [List.take_add_one, h, Option.toList_some, List.foldl_append]
  rfl
/-- the label of the first number is as it was when the second is put in -/
theorem look_second (l : List (Int × Int)) (a b : Int) : (look (setd (setd l a a) b b) a).getD 0 = (look (setd l a a) a).getD 0 := by
  rw [look_setd]
  by_cases e : a = b
  · rw [if_pos e]
    subst e
    rw [look_setd, if_pos rfl]
    rfl
  · rw [if_neg e]
/-- a list grown by what it had not -/
theorem look_none {l : List (Int × Int)} {x : Int} (h : x ∉ l.map (·.1)) : look l x = none := by
  refine look_of_not fun z => ?_
  obtain ⟨m, hm⟩ := Option.isSome_iff_exists.mp z
  unfold look at hm
  obtain ⟨p, hp, _⟩ := Option.map_eq_some_iff.mp hm
  have h1 := List.mem_of_find?_eq_some hp
  have h2 := List.find?_some hp
  exact h (List.mem_map.mpr ⟨p, h1, of_decide_eq_true h2⟩)
end Sw
namespace Sw
theorem nodup_take {α : Type} {l : List α} {j : Nat} {x : α} (h : l.Nodup) (hx : l[j]? = some x) : x ∉ l.take j := by
  intro m
  obtain ⟨i, hi⟩ := List.mem_iff_getElem?.mp m
  rw [List.getElem?_take] at hi
  by_cases c : i < j
  · rw [if_pos c] at hi
    obtain ⟨h1, e1⟩ := List.getElem?_eq_some_iff.mp hi
    obtain ⟨h2, e2⟩ := List.getElem?_eq_some_iff.mp hx
    have := (List.getElem_inj h).mp (e1.trans e2.symm)
    omega
  · rw [if_neg c] at hi
    cases hi
theorem relab_at {o n : Int} {l : List (Int × Int)} {j : Nat} {p : Int × Int} (h : l[j]? = some p) : (relab o n l)[j]? = some (p.1, if p.2 = o then n else p.2) := by
  unfold relab
  rw [List.getElem?_map, h]
  rfl
theorem relab_take_look {o n : Int} {l : List (Int × Int)} {j : Nat} {p : Int × Int} (hn : (l.map (·.1)).Nodup) (h : l[j]? = some p) : look ((relab o n l).take j) p.1 = none := by
  refine look_none ?_
  rw [List.map_take, relab_keys]
  exact nodup_take hn (by rw [List.getElem?_map, h]; rfl)
end Sw
namespace Sw
/-! ## groups by a class function on places -/
/-- the groups of a rising list of places: the first of each class, then all of its class -/
def grpsL (c : Nat → Int) (l : List Nat) : List (List Nat) := (l.filter fun p => l.all fun q => decide (q < p → c q ≠ c p)).map fun p => l.filter fun q => decide (c q = c p)

/-- what the program's dict holds after the places ahead of i -/
def grpD (c : Nat → Int) (i : Nat) : List (Int × List Nat) :=
  ((List.range i).filter fun p => (List.range i).all fun q => decide (q < p → c q ≠ c p)).map fun p => (c p, (List.range i).filter fun q => decide (c q = c p))
theorem grpD_snd (c : Nat → Int) (i : Nat) : (grpD c i).map (·.2) = grpsL c (List.range i) := by
  unfold grpD grpsL
  rw [List.map_map]
  rfl
theorem grpD_zero (c : Nat → Int) : grpD c 0 = [] := rfl
theorem grpD_fst (c : Nat → Int) (i : Nat) : (grpD c i).map (·.1) = ((List.range i).filter fun p => (List.range i).all fun q => decide (q < p → c q ≠ c p)).map c := by
  unfold grpD
  rw [List.map_map]
  rfl
theorem first_range (c : Nat → Int) (i p : Nat) (hp : p < i) : ((List.range (i + 1)).all fun q => decide (q < p → c q ≠ c p)) = (List.range i).all fun q => decide (q < p → c q ≠ c p) := by
  rw [List.range_succ, List.all_append]
  have : ([i].all fun q => decide (q < p → c q ≠ c p)) = true := by
    rw [List.all_cons, List.all_nil, Bool.and_true]
    exact decide_eq_true fun h => absurd h (by omega)
  rw [this, Bool.and_true]
theorem firsts_succ (c : Nat → Int) (i : Nat) : ((List.range (i + 1)).filter fun p => (List.range (i + 1)).all fun q => decide (q < p → c q ≠ c p)) =
    ((List.range i).filter fun p => (List.range i).all fun q => decide (q < p → c q ≠ c p)) ++ if ((List.range i).all fun q => decide (c q ≠ c i)) = true then [i] else [] := by
  have e1 : ((List.range (i + 1)).filter fun p => (List.range (i + 1)).all fun q => decide (q < p → c q ≠ c p)) =
      ((List.range i).filter fun p => (List.range (i + 1)).all fun q => decide (q < p → c q ≠ c p)) ++ ([i].filter fun p => (List.range (i + 1)).all fun q => decide (q < p → c q ≠ c p)) := by
    rw [← List.filter_append, ← List.range_succ]
  rw [e1]
  congr 1
  · exact List.filter_congr fun p hp => first_range c i p (List.mem_range.mp hp)
  · have e2 : ((List.range (i + 1)).all fun q => decide (q < i → c q ≠ c i)) = (List.range i).all fun q => decide (c q ≠ c i) := by
      rw [List.range_succ, List.all_append]
      have : ([i].all fun q => decide (q < i → c q ≠ c i)) = true := by
        rw [List.all_cons, List.all_nil, Bool.and_true]
        exact decide_eq_true fun h => absurd h (by omega)
      rw [this, Bool.and_true]
      refine Bool.eq_iff_iff.mpr ?_
      rw [List.all_eq_true, List.all_eq_true]
      constructor
      · intro h q hq
        have := of_decide_eq_true (h q hq) (List.mem_range.mp hq)
        exact decide_eq_true this
      · intro h q hq
        exact decide_eq_true fun _ => of_decide_eq_true (h q hq)
    rw [List.filter_cons, e2]
    rfl
theorem class_succ (c : Nat → Int) (i : Nat) (k : Int) : ((List.range (i + 1)).filter fun q => decide (c q = k)) = ((List.range i).filter fun q => decide (c q = k)) ++ if c i = k then [i] else [] := by
  rw [List.range_succ, List.filter_append, List.filter_cons]
  by_cases h : c i = k
  · rw [if_pos h, if_pos (decide_eq_true h)]
    rfl
  · rw [if_neg h, if_neg (by rw [decide_eq_false h]; exact Bool.false_ne_true)]
    rfl
/-- a class that is met for the first time -/
theorem grpD_new (c : Nat → Int) (i : Nat) (h : ∀ q, q < i → c q ≠ c i) : grpD c (i + 1) = grpD c i ++ [(c i, [i])] := by
  unfold grpD
  rw [firsts_succ, if_pos (List.all_eq_true.mpr fun q hq => decide_eq_true (h q (List.mem_range.mp hq))), List.map_append]
  congr 1
  · refine List.map_congr_left fun p hp => ?_
    have hp := List.mem_range.mp (List.mem_filter.mp hp).1
    rw [class_succ, if_neg (fun z => h p hp z.symm), List.append_nil]
  · show [(c i, _)] = [(c i, [i])]
    rw [class_succ, if_pos rfl]
    have : ((List.range i).filter fun q => decide (c q = c i)) = [] := List.filter_eq_nil_iff.mpr fun q hq z => h q (List.mem_range.mp hq) (of_decide_eq_true z)
    rw [this]
    rfl
/-- a class that was met -/
theorem grpD_old (c : Nat → Int) (i : Nat) (h : ∃ q, q < i ∧ c q = c i) : grpD c (i + 1) = (grpD c i).map fun e => (e.1, if e.1 = c i then e.2 ++ [i] else e.2) := by
  unfold grpD
  obtain ⟨q, hq, e⟩ := h
  have hno : ¬ ((List.range i).all fun q => decide (c q ≠ c i)) = true := fun z => by
    have z2 : c q ≠ c i := of_decide_eq_true (List.all_eq_true.mp z q (List.mem_range.mpr hq))
    exact z2 e
  rw [firsts_succ, if_neg hno, List.append_nil, List.map_map]
  refine List.map_congr_left fun p hp => ?_
  show (c p, _) = (c p, if c p = c i then _ else _)
  rw [class_succ]
  by_cases z : c i = c p
  · rw [if_pos z, if_pos z.symm]
  · rw [if_neg z, if_neg (fun y => z y.symm), List.append_nil]
/-- which keys it holds -/
theorem exists_first (c : Nat → Int) (k : Int) : ∀ (n q : Nat), q ≤ n → c q = k → ∃ p, p ≤ q ∧ c p = k ∧ ∀ r, r < p → c r ≠ k
  | 0, q, hq, e => ⟨q, Nat.le_refl _, e, fun r hr => absurd hr (by omega)⟩
  | n + 1, q, hq, e => by
    by_cases h : ∃ r, r < q ∧ c r = k
    · obtain ⟨r, hr, er⟩ := h
      obtain ⟨p, hp, ep, fp⟩ := exists_first c k n r (by omega) er
      exact ⟨p, by omega, ep, fp⟩
    · exact ⟨q, Nat.le_refl _, e, fun r hr z => h ⟨r, hr, z⟩⟩
theorem grpD_key (c : Nat → Int) (i : Nat) (k : Int) : k ∈ (grpD c i).map (·.1) ↔ ∃ q, q < i ∧ c q = k := by
  rw [grpD_fst]
  constructor
  · intro h
    obtain ⟨p, hp, e⟩ := List.mem_map.mp h
    exact ⟨p, List.mem_range.mp (List.mem_filter.mp hp).1, e⟩
  · rintro ⟨q, hq, e⟩
    obtain ⟨p, hp, ep, fp⟩ := exists_first c k q q (Nat.le_refl _) e
    refine List.mem_map.mpr ⟨p, List.mem_filter.mpr ⟨List.mem_range.mpr (by omega), List.all_eq_true.mpr fun r _ => decide_eq_true fun hr => ?_⟩, ep⟩
    rw [ep]
    exact fp r hr
theorem grpD_len (c : Nat → Int) (i : Nat) : (grpD c i).length ≤ i := by
  unfold grpD
  rw [List.length_map]
  have h := List.length_filter_le (fun p => (List.range i).all fun q => decide (q < p → c q ≠ c p)) (List.range i)
  rw [List.length_range] at h
  exact h
theorem grpD_nodup (c : Nat → Int) : ∀ i, ((grpD c i).map (·.1)).Nodup
  | 0 => List.nodup_nil
  | i + 1 => by
    by_cases h : ∃ q, q < i ∧ c q = c i
    · rw [grpD_old c i h, List.map_map]
      exact grpD_nodup c i
    · have h' : ∀ q, q < i → c q ≠ c i := fun q hq e => h ⟨q, hq, e⟩
      rw [grpD_new c i h', List.map_append]
      refine List.nodup_append.mpr ⟨grpD_nodup c i, by simp, fun a ha b hb e => ?_⟩
      have hb : b = c i := List.mem_singleton.mp hb
      rw [e, hb] at ha
      obtain ⟨q, hq, z⟩ := (grpD_key c i (c i)).mp ha
      exact h' q hq z

/-! ## the same by walks: one class out of the list at a time -/
theorem grpsL_nil (c : Nat → Int) : grpsL c [] = [] := rfl
theorem grpsL_cons (c : Nat → Int) (p : Nat) (r : List Nat) (hs : (p :: r).Pairwise (· < ·)) :
    grpsL c (p :: r) = ((p :: r).filter fun q => decide (c q = c p)) :: grpsL c (r.filter fun q => decide (c q ≠ c p)) := by
  obtain ⟨h1, h2⟩ := List.pairwise_cons.mp hs
  unfold grpsL
  have f1 : ((p :: r).all fun q => decide (q < p → c q ≠ c p)) = true := by
    refine List.all_eq_true.mpr fun q hq => decide_eq_true fun hlt => ?_
    rcases List.mem_cons.mp hq with e | e
    · omega
    · have := h1 q e
      omega
  rw [List.filter_cons, if_pos f1, List.map_cons]
  congr 1
  have f2 : (r.filter fun q => (p :: r).all fun q' => decide (q' < q → c q' ≠ c q)) = ((r.filter fun q => decide (c q ≠ c p)).filter fun q => (r.filter fun q => decide (c q ≠ c p)).all fun q' => decide (q' < q → c q' ≠ c q)) := by
    rw [List.filter_filter]
    refine List.filter_congr fun q hq => ?_
    refine Bool.eq_iff_iff.mpr ?_
    rw [Bool.and_eq_true, List.all_eq_true, List.all_eq_true]
    constructor
    · intro h
      refine ⟨fun q' hq' => ?_, ?_⟩
      · exact h q' (List.mem_cons.mpr (.inr (List.mem_filter.mp hq').1))
      · have := of_decide_eq_true (h p List.mem_cons_self) (h1 q hq)
        exact decide_eq_true fun z => this z.symm
    · rintro ⟨h, h'⟩ q' hq'
      have h' := of_decide_eq_true h'
      refine decide_eq_true fun hlt => ?_
      rcases List.mem_cons.mp hq' with e | e
      · rw [e]
        exact fun z => h' z.symm
      · by_cases z : c q' = c p
        · rw [z]
          exact fun y => h' y.symm
        · exact of_decide_eq_true (h q' (List.mem_filter.mpr ⟨e, decide_eq_true z⟩)) hlt
  rw [f2]
  refine List.map_congr_left fun q hq => ?_
  have hq' := of_decide_eq_true (List.mem_filter.mp (List.mem_filter.mp hq).1).2
  rw [List.filter_cons, if_neg (by rw [decide_eq_false (fun z => hq' z.symm)]; exact Bool.false_ne_true), List.filter_filter]
  refine List.filter_congr fun x _ => ?_
  refine Bool.eq_iff_iff.mpr ?_
  rw [Bool.and_eq_true, decide_eq_true_eq, decide_eq_true_eq]
  exact ⟨fun z => ⟨z, by rw [z]; exact hq'⟩, fun z => z.1⟩

/-- each place of the list stands in just one of the groups -/
theorem grpsL_perm (c : Nat → Int) : ∀ (n : Nat) (l : List Nat), l.length ≤ n → l.Pairwise (· < ·) → (grpsL c l).flatten.Perm l
  | 0, [], _, _ => List.Perm.refl _
  | n + 1, [], _, _ => List.Perm.refl _
  | n + 1, p :: r, hn, hs => by
    rw [grpsL_cons c p r hs, List.flatten_cons]
    have h2 := (List.pairwise_cons.mp hs).2
    have ih := grpsL_perm c n (r.filter fun q => decide (c q ≠ c p)) (Nat.le_trans (List.length_filter_le _ _) (Nat.le_of_succ_le_succ hn)) (h2.filter _)
    refine (List.Perm.append_left _ ih).trans ?_
    have e : (r.filter fun q => decide (c q ≠ c p)) = (p :: r).filter fun q => !decide (c q = c p) := by
      rw [List.filter_cons, if_neg (by rw [decide_eq_true rfl]; exact Bool.false_ne_true)]
      refine List.filter_congr fun x _ => ?_
      by_cases z : c x = c p
      · rw [decide_eq_true z, decide_eq_false (fun y => y z)]
        rfl
      · rw [decide_eq_false z, decide_eq_true z]
        rfl
    rw [e]
    exact List.filter_append_perm _ _
end Sw
namespace Sw
/-! ## two rising lists of the same items -/
theorem perm_sorted_eq : ∀ {l m : List Int}, l.Perm m → l.Pairwise (· ≤ ·) → m.Pairwise (· ≤ ·) → l = m
  | [], m, h, _, _ => (List.nil_perm.mp h).symm
  | a :: l, [], h, _, _ => by
    have := h.length_eq
    simp at this
  | a :: l, b :: m, h, hl, hm => by
    obtain ⟨l1, l2⟩ := List.pairwise_cons.mp hl
    obtain ⟨m1, m2⟩ := List.pairwise_cons.mp hm
    have e : a = b := by
      have ha : a ∈ b :: m := h.mem_iff.mp List.mem_cons_self
      have hb : b ∈ a :: l := h.mem_iff.mpr List.mem_cons_self
      rcases List.mem_cons.mp ha with e | ha
      · exact e
      rcases List.mem_cons.mp hb with e | hb
      · exact e.symm
      have := m1 a ha
      have := l1 b hb
      omega
    subst e
    rw [perm_sorted_eq h.cons_inv l2 m2]
theorem sorted_ext {l m : List Int} (hl : l.Pairwise (· < ·)) (hm : m.Pairwise (· < ·)) (h : ∀ k, k ∈ l ↔ k ∈ m) : l = m := by
  have nd : ∀ {l : List Int}, l.Pairwise (· < ·) → l.Nodup := fun h => h.imp fun h => by omega
  have le : ∀ {l : List Int}, l.Pairwise (· < ·) → l.Pairwise (· ≤ ·) := fun h => h.imp fun h => by omega
  exact perm_sorted_eq ((List.perm_ext_iff_of_nodup (nd hl) (nd hm)).mpr h) (le hl) (le hm)
theorem nat_sorted_ext {l m : List Nat} (hl : l.Pairwise (· < ·)) (hm : m.Pairwise (· < ·)) (h : ∀ k, k ∈ l ↔ k ∈ m) : l = m := by
  have up : ∀ {l : List Nat}, l.Pairwise (· < ·) → (l.map fun n : Nat => (n : Int)).Pairwise (· < ·) := fun h => List.pairwise_map.mpr (h.imp fun h => by omega)
  have e := sorted_ext (up hl) (up hm) fun k => by
    rw [List.mem_map, List.mem_map]
    exact ⟨fun ⟨a, ha, e⟩ => ⟨a, (h a).mp ha, e⟩, fun ⟨a, ha, e⟩ => ⟨a, (h a).mpr ha, e⟩⟩
  exact (List.map_inj_right (f := fun n : Nat => (n : Int)) (fun a b (e : (a : Int) = b) => by omega)).mp e

/-! ## places and their stones -/
def sa (st : List (Int × Int)) (p : Nat) : Int := (st.getD p (0, 0)).1
def sb (st : List (Int × Int)) (p : Nat) : Int := (st.getD p (0, 0)).2
def cls (st : List (Int × Int)) (p : Nat) : Int := lab st (sa st p)
theorem st_at {st : List (Int × Int)} {p : Nat} (h : p < st.length) : st[p]? = some (sa st p, sb st p) := by
  unfold sa sb
  rw [List.getD_eq_getElem?_getD, List.getElem?_eq_getElem h]
  rfl
theorem st_mem {st : List (Int × Int)} {p : Nat} (h : p < st.length) : (sa st p, sb st p) ∈ st := List.mem_of_getElem? (st_at h)
theorem st_ends {st : List (Int × Int)} {p : Nat} (h : p < st.length) : IsEnd st (sa st p) ∧ IsEnd st (sb st p) := ⟨⟨_, st_mem h, .inl rfl⟩, ⟨_, st_mem h, .inr rfl⟩⟩
theorem conn_of_cls {st : List (Int × Int)} {p q : Nat} (hp : p < st.length) (hq : q < st.length) : cls st p = cls st q ↔ Conn st (sa st p) (sa st q) := lab_iff (st_ends hp).1 (st_ends hq).1
/-- the groups of the stones -/
def grps (st : List (Int × Int)) : List (List Nat) := grpsL (cls st) (List.range st.length)

/-! ## the law's walk: one group -/
def touch (st : List (Int × Int)) (ns : List Int) (q : Nat) : Bool := decide (sa st q ∈ ns) || decide (sb st q ∈ ns)
def endsOf (st : List (Int × Int)) (l : List Nat) : List Int := l.flatMap fun q => [sa st q, sb st q]
theorem mem_endsOf {st : List (Int × Int)} {l : List Nat} {x : Int} : x ∈ endsOf st l ↔ ∃ q ∈ l, x = sa st q ∨ x = sb st q := by
  unfold endsOf
  rw [List.mem_flatMap]
  constructor
  · rintro ⟨q, hq, h⟩
    refine ⟨q, hq, ?_⟩
    rcases List.mem_cons.mp h with h | h
    · exact .inl h
    · exact .inr (List.mem_singleton.mp h)
  · rintro ⟨q, hq, h⟩
    refine ⟨q, hq, ?_⟩
    rcases h with h | h
    · exact List.mem_cons.mpr (.inl h)
    · exact List.mem_cons.mpr (.inr (List.mem_singleton.mpr h))
theorem endsOf_append (st : List (Int × Int)) (l m : List Nat) : endsOf st (l ++ m) = endsOf st l ++ endsOf st m := List.flatMap_append

/-- a rising list of places that holds whole groups -/
structure Whole (st : List (Int × Int)) (l : List Nat) : Prop where
  up : l.Pairwise (· < ·)
  lt : ∀ q ∈ l, q < st.length
  all : ∀ q ∈ l, ∀ k, k < st.length → cls st k = cls st q → k ∈ l
theorem whole_range (st : List (Int × Int)) : Whole st (List.range st.length) :=
  ⟨List.pairwise_lt_range, fun _ h => List.mem_range.mp h, fun _ _ _ h _ => List.mem_range.mpr h⟩
theorem Whole.rest {st : List (Int × Int)} {p : Nat} {r : List Nat} (h : Whole st (p :: r)) : Whole st (r.filter fun q => decide (cls st q ≠ cls st p)) := by
  refine ⟨(List.pairwise_cons.mp h.up).2.filter _, fun q hq => h.lt q (List.mem_cons.mpr (.inr (List.mem_filter.mp hq).1)), fun q hq k hk e => ?_⟩
  obtain ⟨h1, h2⟩ := List.mem_filter.mp hq
  have h2 : cls st q ≠ cls st p := of_decide_eq_true h2
  have hm := h.all q (List.mem_cons.mpr (.inr h1)) k hk e
  rcases List.mem_cons.mp hm with z | z
  · rw [z] at e
    exact absurd e.symm h2
  · exact List.mem_filter.mpr ⟨z, decide_eq_true (by rw [e]; exact h2)⟩

/-- what the walk knows: the places of the group so far, those that are left -/
structure Walk1 (st : List (Int × Int)) (p : Nat) (r left group : List Nat) (ns : List Int) : Prop where
  left : left = r.filter fun q => decide (q ∉ group)
  nd : group.Nodup
  has : p ∈ group
  sub : ∀ q ∈ group, q ∈ p :: r ∧ cls st q = cls st p
  num : ∀ x, x ∈ ns ↔ x ∈ endsOf st group
theorem walk1_start {st : List (Int × Int)} {p : Nat} {r : List Nat} (h : Whole st (p :: r)) : Walk1 st p r r [p] [sa st p, sb st p] := by
  refine ⟨?_, by simp, List.mem_singleton.mpr rfl, fun q hq => ?_, fun x => Iff.rfl⟩
  · symm
    refine List.filter_eq_self.mpr fun q hq => decide_eq_true fun z => ?_
    have := (List.pairwise_cons.mp h.up).1 q hq
    have := List.mem_singleton.mp z
    omega
  · have e := List.mem_singleton.mp hq
    rw [e]
    exact ⟨List.mem_cons_self, rfl⟩
theorem cls_touch {st : List (Int × Int)} {q k : Nat} (hq : q < st.length) (hk : k < st.length) {x : Int} (e1 : x = sa st q ∨ x = sb st q) (e2 : x = sa st k ∨ x = sb st k) : cls st q = cls st k := by
  refine (conn_of_cls hq hk).mpr ?_
  have c1 : Conn st (sa st q) x := by
    rcases e1 with e | e
    · rw [e]
      exact .refl _
    · rw [e]
      exact .edge (st_mem hq)
  have c2 : Conn st (sa st k) x := by
    rcases e2 with e | e
    · rw [e]
      exact .refl _
    · rw [e]
      exact .edge (st_mem hk)
  exact c1.trans c2.symm
theorem touch_iff {st : List (Int × Int)} {ns : List Int} {q : Nat} : touch st ns q = true ↔ ∃ x, x ∈ ns ∧ (x = sa st q ∨ x = sb st q) := by
  unfold touch
  rw [Bool.or_eq_true, decide_eq_true_eq, decide_eq_true_eq]
  constructor
  · rintro (h | h)
    · exact ⟨_, h, .inl rfl⟩
    · exact ⟨_, h, .inr rfl⟩
  · rintro ⟨x, h, e | e⟩
    · rw [← e]
      exact .inl h
    · rw [← e]
      exact .inr h
theorem Walk1.turn {st : List (Int × Int)} {p : Nat} {r left group : List Nat} {ns ns' : List Int} (h : Whole st (p :: r)) (w : Walk1 st p r left group ns) (e : ns' = ns ++ endsOf st (left.filter (touch st ns))) :
    Walk1 st p r (left.filter fun q => decide (q ∉ left.filter (touch st ns))) (group ++ left.filter (touch st ns)) ns' := by
  have hleft : ∀ q, q ∈ left ↔ q ∈ r ∧ q ∉ group := fun q => by
    rw [w.left, List.mem_filter, decide_eq_true_eq]
  have ndr : r.Nodup := (List.pairwise_cons.mp h.up).2.imp fun h => by omega
  have ndl : left.Nodup := by
    rw [w.left]
    exact ndr.filter _
  refine ⟨?_, ?_, List.mem_append.mpr (.inl w.has), fun q hq => ?_, fun x => ?_⟩
  · rw [w.left, List.filter_filter]
    refine List.filter_congr fun q hq => ?_
    refine Bool.eq_iff_iff.mpr ?_
    rw [Bool.and_eq_true, decide_eq_true_eq, decide_eq_true_eq, decide_eq_true_eq, List.mem_append, not_or]
    exact And.comm
  · refine List.nodup_append.mpr ⟨w.nd, ndl.filter _, fun a ha b hb z => ?_⟩
    rw [z] at ha
    exact ((hleft b).mp (List.mem_filter.mp hb).1).2 ha
  · rcases List.mem_append.mp hq with hq | hq
    · exact w.sub q hq
    · obtain ⟨h1, h2⟩ := List.mem_filter.mp hq
      have hr := ((hleft q).mp h1).1
      refine ⟨List.mem_cons.mpr (.inr hr), ?_⟩
      obtain ⟨x, hx, ex⟩ := touch_iff.mp h2
      obtain ⟨k, hk, ek⟩ := mem_endsOf.mp ((w.num x).mp hx)
      obtain ⟨k1, k2⟩ := w.sub k hk
      rw [← k2]
      exact cls_touch (h.lt q (List.mem_cons.mpr (.inr hr))) (h.lt k k1) ex ek
  · rw [e, endsOf_append, List.mem_append, List.mem_append, w.num]
theorem Walk1.fin {st : List (Int × Int)} {p : Nat} {r left group : List Nat} {ns : List Int} (h : Whole st (p :: r)) (w : Walk1 st p r left group ns) (e : left.filter (touch st ns) = []) :
    (∀ q, q ∈ group ↔ q ∈ (p :: r).filter fun q => decide (cls st q = cls st p)) ∧ left = r.filter fun q => decide (cls st q ≠ cls st p) := by
  have hleft : ∀ q, q ∈ left ↔ q ∈ r ∧ q ∉ group := fun q => by
    rw [w.left, List.mem_filter, decide_eq_true_eq]
  have no : ∀ q ∈ left, touch st ns q = false := fun q hq => by
    cases z : touch st ns q with
    | false => rfl
    | true =>
      have : q ∈ left.filter (touch st ns) := List.mem_filter.mpr ⟨hq, z⟩
      rw [e] at this
      cases this
  -- a stone that touches the numbers lies in the group
  have key : ∀ k, k < st.length → touch st ns k = true → k ∈ group := by
    intro k hk t
    obtain ⟨x, hx, ex⟩ := touch_iff.mp t
    obtain ⟨q, hq, eq⟩ := mem_endsOf.mp ((w.num x).mp hx)
    obtain ⟨q1, q2⟩ := w.sub q hq
    have ck := cls_touch hk (h.lt q q1) ex eq
    have km := h.all q q1 k hk ck
    by_cases kg : k ∈ group
    · exact kg
    · rcases List.mem_cons.mp km with z | z
      · rw [z] at kg
        exact absurd w.has kg
      · have := no k ((hleft k).mpr ⟨z, kg⟩)
        rw [this] at t
        cases t
  have conn : ∀ {x y : Int}, Conn st x y → (x ∈ ns ↔ y ∈ ns) := by
    intro x y c
    induction c with
    | refl x => exact Iff.rfl
    | @edge a b he =>
      obtain ⟨k, hk⟩ := List.mem_iff_getElem?.mp he
      have kl : k < st.length := (List.getElem?_eq_some_iff.mp hk).1
      rw [st_at kl] at hk
      have hk := Option.some.inj hk
      have e1 : sa st k = a := congrArg Prod.fst hk
      have e2 : sb st k = b := congrArg Prod.snd hk
      constructor
      · intro ha
        have kg := key k kl (touch_iff.mpr ⟨a, ha, .inl e1.symm⟩)
        exact (w.num b).mpr (mem_endsOf.mpr ⟨k, kg, .inr e2.symm⟩)
      · intro hb
        have kg := key k kl (touch_iff.mpr ⟨b, hb, .inr e2.symm⟩)
        exact (w.num a).mpr (mem_endsOf.mpr ⟨k, kg, .inl e1.symm⟩)
    | symm _ ih => exact ih.symm
    | trans _ _ i1 i2 => exact i1.trans i2
  have grp : ∀ q, q ∈ group ↔ q ∈ (p :: r).filter fun q => decide (cls st q = cls st p) := by
    intro q
    rw [List.mem_filter, decide_eq_true_eq]
    constructor
    · exact w.sub q
    · rintro ⟨hq, ec⟩
      have hp := h.lt p List.mem_cons_self
      have hql := h.lt q hq
      have c := (conn_of_cls hql hp).mp ec
      have pin : sa st p ∈ ns := (w.num _).mpr (mem_endsOf.mpr ⟨p, w.has, .inl rfl⟩)
      exact key q hql (touch_iff.mpr ⟨_, (conn c).mpr pin, .inl rfl⟩)
  refine ⟨grp, ?_⟩
  rw [w.left]
  refine List.filter_congr fun q hq => ?_
  refine Bool.eq_iff_iff.mpr ?_
  rw [decide_eq_true_eq, decide_eq_true_eq, grp q, List.mem_filter, decide_eq_true_eq]
  constructor
  · intro z y
    exact z ⟨List.mem_cons.mpr (.inr hq), y⟩
  · intro z y
    exact z y.2
/-- the sorted group is the group -/
theorem Walk1.sorted {st : List (Int × Int)} {p : Nat} {r left group : List Nat} {ns : List Int} (h : Whole st (p :: r)) (w : Walk1 st p r left group ns) (e : left.filter (touch st ns) = []) {gs : List Int}
    (hp : gs.Perm (group.map fun n : Nat => (n : Int))) (hs : gs.Pairwise (· ≤ ·)) : gs = ((p :: r).filter fun q => decide (cls st q = cls st p)).map fun n : Nat => (n : Int) := by
  have g := (w.fin h e).1
  have u := h.up.filter fun q => decide (cls st q = cls st p)
  have pm : group.Perm ((p :: r).filter fun q => decide (cls st q = cls st p)) := (List.perm_ext_iff_of_nodup w.nd (u.imp fun h => by omega)).mpr g
  exact perm_sorted_eq (hp.trans (pm.map _)) hs (List.pairwise_map.mpr (u.imp fun h => by omega))
end Sw
namespace Sw
/-! ## numbers that stand an odd number of times -/
def IsOdd (E l : List Int) : Prop := l.Pairwise (· < ·) ∧ ∀ k, k ∈ l ↔ E.count k % 2 = 1
theorem IsOdd.uniq {E l m : List Int} (a : IsOdd E l) (b : IsOdd E m) : l = m := sorted_ext a.1 b.1 fun k => (a.2 k).trans (b.2 k).symm
def tog (x : Int) : List Int → List Int
  | [] => [x]
  | y :: l => if x < y then x :: y :: l else if x = y then l else y :: tog x l
def oddL (E : List Int) : List Int := E.foldr tog []
theorem tog_mem {x k : Int} : ∀ {l : List Int}, l.Pairwise (· < ·) → (k ∈ tog x l ↔ if k = x then x ∉ l else k ∈ l)
  | [], _ => by
    show k ∈ [x] ↔ _
    rw [List.mem_singleton]
    by_cases h : k = x
    · rw [if_pos h]
      exact ⟨fun _ z => (by cases z), fun _ => h⟩
    · rw [if_neg h]
      exact ⟨fun z => absurd z h, fun z => (by cases z)⟩
  | y :: l, hp => by
    obtain ⟨h1, h2⟩ := List.pairwise_cons.mp hp
    have ih := tog_mem (x := x) (k := k) h2
    unfold tog
    by_cases c1 : x < y
    · rw [if_pos c1]
      have nx : x ∉ y :: l := fun z => by
        rcases List.mem_cons.mp z with e | e
        · omega
        · have := h1 x e
          omega
      by_cases h : k = x
      · rw [if_pos h]
        exact ⟨fun _ => nx, fun _ => by rw [h]; exact List.mem_cons_self⟩
      · rw [if_neg h]
        exact ⟨fun z => (List.mem_cons.mp z).resolve_left h, fun z => List.mem_cons.mpr (.inr z)⟩
    · rw [if_neg c1]
      by_cases c2 : x = y
      · rw [if_pos c2]
        have nx : x ∉ l := fun z => by
          have := h1 x z
          omega
        by_cases h : k = x
        · rw [if_pos h]
          rw [h]
          exact ⟨fun z => absurd z nx, fun z => absurd (by rw [c2]; exact List.mem_cons_self) z⟩
        · rw [if_neg h]
          exact ⟨fun z => List.mem_cons.mpr (.inr z), fun z => (List.mem_cons.mp z).resolve_left (by omega)⟩
      · rw [if_neg c2, List.mem_cons, ih]
        by_cases h : k = x
        · rw [if_pos h, if_pos h, List.mem_cons]
          constructor
          · rintro (z | z)
            · omega
            · rintro (y' | y')
              · exact c2 y'
              · exact z y'
          · intro z
            exact .inr fun y' => z (.inr y')
        · rw [if_neg h, if_neg h, List.mem_cons]
theorem tog_up {x : Int} : ∀ {l : List Int}, l.Pairwise (· < ·) → (tog x l).Pairwise (· < ·)
  | [], _ => by
    show ([x] : List Int).Pairwise (· < ·)
    exact List.pairwise_singleton _ _
  | y :: l, hp => by
    obtain ⟨h1, h2⟩ := List.pairwise_cons.mp hp
    have ih := tog_up (x := x) h2
    unfold tog
    by_cases c1 : x < y
    · rw [if_pos c1]
      refine List.pairwise_cons.mpr ⟨fun z hz => ?_, hp⟩
      rcases List.mem_cons.mp hz with e | e
      · omega
      · have := h1 z e
        omega
    · rw [if_neg c1]
      by_cases c2 : x = y
      · rw [if_pos c2]
        exact h2
      · rw [if_neg c2]
        refine List.pairwise_cons.mpr ⟨fun z hz => ?_, ih⟩
        have := (tog_mem h2).mp hz
        by_cases e : z = x
        · omega
        · rw [if_neg e] at this
          exact h1 z this
theorem tog_len (x : Int) : ∀ (l : List Int), (tog x l).length % 2 = (l.length + 1) % 2
  | [] => rfl
  | y :: l => by
    have ih := tog_len x l
    unfold tog
    by_cases c1 : x < y
    · rw [if_pos c1]
      rfl
    · rw [if_neg c1]
      by_cases c2 : x = y
      · rw [if_pos c2, List.length_cons]
        omega
      · rw [if_neg c2, List.length_cons, List.length_cons]
        omega
theorem tog_size (x : Int) : ∀ (l : List Int), (tog x l).length ≤ l.length + 1 ∧ l.length ≤ (tog x l).length + 1
  | [] => ⟨Nat.le_refl _, Nat.zero_le _⟩
  | y :: l => by
    have ih := tog_size x l
    unfold tog
    by_cases c1 : x < y
    · rw [if_pos c1]
      simp only [List.length_cons]
      omega
    · rw [if_neg c1]
      by_cases c2 : x = y
      · rw [if_pos c2]
        simp only [List.length_cons]
        omega
      · rw [if_neg c2]
        simp only [List.length_cons]
        omega
theorem oddL_cons (x : Int) (E : List Int) : oddL (x :: E) = tog x (oddL E) := rfl
theorem oddL_ok : ∀ E : List Int, IsOdd E (oddL E)
  | [] => ⟨List.Pairwise.nil, fun k => ⟨fun z => (by cases z), fun z => by rw [List.count_nil] at z; omega⟩⟩
  | x :: E => by
    have ih := oddL_ok E
    refine ⟨tog_up ih.1, fun k => ?_⟩
    rw [oddL_cons, tog_mem ih.1, List.count_cons]
    by_cases h : k = x
    · rw [if_pos h, ih.2, if_pos (by rw [h]; exact beq_self_eq_true _), h]
      omega
    · rw [if_neg h, ih.2, if_neg (fun z => h (eq_of_beq z).symm)]
      exact Iff.rfl
theorem oddL_len : ∀ E : List Int, (oddL E).length % 2 = E.length % 2
  | [] => rfl
  | x :: E => by
    have := oddL_len E
    rw [oddL_cons, tog_len, List.length_cons]
    omega
theorem oddL_le : ∀ E : List Int, (oddL E).length ≤ E.length
  | [] => Nat.le_refl _
  | x :: E => by
    have := oddL_le E
    have := (tog_size x (oddL E)).1
    rw [oddL_cons, List.length_cons]
    omega
/-- from the sorted keys of the counts -/
theorem isOdd_filter {E ks : List Int} (hp : ks.Pairwise (· < ·)) (hk : ∀ k, k ∈ ks ↔ k ∈ E) : IsOdd E (ks.filter fun k => decide (E.count k % 2 = 1)) := by
  refine ⟨hp.filter _, fun k => ?_⟩
  rw [List.mem_filter, decide_eq_true_eq, hk]
  constructor
  · exact fun z => z.2
  · intro z
    refine ⟨?_, z⟩
    have : 0 < E.count k := by omega
    exact List.count_pos_iff.mp this
theorem isOdd_mem {E l : List Int} (hp : l.Pairwise (· < ·)) (hk : ∀ k, k ∈ l ↔ k ∈ E.filter fun k => decide (E.count k % 2 = 1)) : IsOdd E l := by
  refine ⟨hp, fun k => ?_⟩
  rw [hk, List.mem_filter, decide_eq_true_eq]
  constructor
  · exact fun z => z.2
  · intro z
    exact ⟨List.count_pos_iff.mp (by omega), z⟩
theorem endsOf_len (st : List (Int × Int)) : ∀ l : List Nat, (endsOf st l).length = 2 * l.length
  | [] => rfl
  | q :: l => by
    have := endsOf_len st l
    show (sa st q :: sb st q :: endsOf st l).length = _
    simp only [List.length_cons]
    omega
/-- the odd ends of the stones at these places -/
def odds (st : List (Int × Int)) (l : List Nat) : List Int := oddL (endsOf st l)
theorem odds_even (st : List (Int × Int)) (l : List Nat) : (odds st l).length % 2 = 0 := by
  unfold odds
  rw [oddL_len, endsOf_len]
  omega
theorem lt_of_le_nd : ∀ {l : List Int}, l.Pairwise (· ≤ ·) → l.Nodup → l.Pairwise (· < ·)
  | [], _, _ => List.Pairwise.nil
  | a :: l, h, n => by
    obtain ⟨h1, h2⟩ := List.pairwise_cons.mp h
    obtain ⟨n1, n2⟩ := List.nodup_cons.mp n
    refine List.pairwise_cons.mpr ⟨fun b hb => ?_, lt_of_le_nd h2 n2⟩
    have := h1 b hb
    have : a ≠ b := fun e => n1 (by rw [e]; exact hb)
    omega
/-- how many chains it takes -/
def few (st : List (Int × Int)) : Nat := ((grps st).map fun g => max 1 ((odds st g).length / 2)).sum
end Sw
namespace Sw
open PySem PySem.Spec PyProof.Rows L2
open Evl (Ex Ex.refl Ex.trans Ex.new Ex.mut ex_l ex_t ex_rd fresh_back Ev EvL EvU EvT EvA RV RC RCL SpV SpL)
section
variable {K : PySem.W.Frag} {σ : L2.St} {H H' : Hp} {ta tb te : TE} {t u : TT} {x y z v : V} {r : R2}
/-- a built-in's call over a new list -/
theorem ev_cbN {r : List V → Hp → VK → Prop} {xs : List V} (h : EvL te σ H xs) (hr : ∀ p H1, H1 p = some (.lst xs) → Ex H H1 → RC r [.ref p] H1 z) : Ev (tCB r (tCons te tNil)) σ H z := fun H1 e Q q =>
  h H1 e _ fun p H2 _ e2 hp => hr p H2 hp (e.trans e2) H2 (Ex.refl H2) Q fun H3 e3 => q H3 (e2.trans e3)
theorem el_cbN {r : List V → Hp → VK → Prop} {xs ys : List V} (h : EvL te σ H xs) (hr : ∀ p H1, H1 p = some (.lst xs) → Ex H H1 → RCL r [.ref p] H1 ys) : EvL (tCB r (tCons te tNil)) σ H ys := fun H1 e Q q =>
  h H1 e _ fun p H2 _ e2 hp => hr p H2 hp (e.trans e2) H2 (Ex.refl H2) Q fun l H3 h3 e3 hl => q l H3 (fresh_back e2 h3) (e2.trans e3) hl
theorem rc_all {p : Addr} {bs : List Bool} (h : H p = some (.lst (bs.map V.bl))) : RC (rAll K) [.ref p] H (.bl (bs.all id)) := fun H1 e Q q => ⟨p, bs, rfl, SqL.of (e _ _ h), q H1 (Ex.refl H1)⟩
theorem rc_isi {x c : V} {t u : Value} {b : Bool} (k : ClsV c u) (ty : ∀ H1, Ex H H1 → TyX K H1 x t) (e : PySem.W.kitOne K t u = some b) : RC (rIsi K) [x, c] H (.bl b) := fun H1 e1 Q q => ⟨x, c, t, u, b, rfl, k, ty H1 e1, e, q H1 (Ex.refl H1)⟩
theorem given_all (n : Nat) (v : Nat → V) : Evl.given n (fun _ => true) v = (List.range n).map v := by
  unfold Evl.given
  rw [List.filter_eq_self.mpr fun _ _ => rfl]
theorem given_list {α : Type} (l : List α) (v : Nat → V) (f : α → V) (h : ∀ i a, l[i]? = some a → v i = f a) : Evl.given l.length (fun _ => true) v = l.map f := by
  rw [given_all]
  refine List.ext_getElem (by rw [List.length_map, List.length_map, List.length_range]) fun i h1 h2 => ?_
  rw [List.length_map] at h2
  rw [List.getElem_map, List.getElem_map, List.getElem_range]
  exact h i _ (List.getElem?_eq_getElem h2)
theorem given_take {α : Type} (l : List α) (f : Nat → Bool) (v : Nat → V) (p : α → Bool) (g : α → V) (h : ∀ i a, l[i]? = some a → f i = p a ∧ (p a = true → v i = g a)) : ∀ n, n ≤ l.length → Evl.given n f v = ((l.take n).filter p).map g
  | 0, _ => rfl
  | n + 1, hn => by
    have ih := given_take l f v p g h n (by omega)
    have hlt : n < l.length := hn
    obtain ⟨h1, h2⟩ := h n _ (List.getElem?_eq_getElem hlt)
    rw [List.take_add_one, List.getElem?_eq_getElem hlt, List.filter_append, List.map_append, ← ih]
    cases hp : p l[n] with
    | true =>
      rw [Evl.given_yes (h1.trans hp), h2 hp]
      show _ = _ ++ ([l[n]].filter p).map g
      rw [List.filter_cons, if_pos hp]
      rfl
    | false =>
      rw [Evl.given_no (h1.trans hp)]
      show _ = _ ++ ([l[n]].filter p).map g
      rw [List.filter_cons, if_neg (by rw [hp]; exact Bool.false_ne_true)]
      show _ = _ ++ []
      rw [List.append_nil]
theorem given_filter {α : Type} (l : List α) (f : Nat → Bool) (v : Nat → V) (p : α → Bool) (g : α → V) (h : ∀ i a, l[i]? = some a → f i = p a ∧ (p a = true → v i = g a)) : Evl.given l.length f v = (l.filter p).map g := by
  rw [given_take l f v p g h l.length (Nat.le_refl _), List.take_length]
/-- a call whose first argument is a new list -/
theorem ev_callN {sp : Sp} {dvs vs : List V} {E : XK} {tr : TA} {xs : List V} (h : EvL te σ H xs) (ht : EvA tr σ H vs) (hs : ∀ p H1, H1 p = some (.lst xs) → Ex H H1 → SpV sp ((.ref p :: vs) ++ dvs) H1 z) : Ev (tCall sp dvs E (tCons te tr)) σ H z := fun H1 e Q q =>
  h H1 e _ fun p H2 _ e2 hp => ht H2 (e.trans e2) _ fun H3 e3 => hs p H3 (e3 _ _ hp) ((e.trans e2).trans e3) H3 (Ex.refl H3) Q (fun H4 e4 => q H4 ((e2.trans e3).trans e4)) E
theorem el_rev {a : Addr} {xs : List V} (h : Ev te σ H (.ref a)) (hx : SqL K H a xs) : EvL (tRevL K te) σ H xs.reverse := fun H1 e Q q =>
  h H1 e _ fun H2 e2 => ⟨a, xs, rfl, ex_l (e.trans e2) hx, fun p np => q p _ (fresh_back e2 np) (e2.trans (Ex.new np)) upd_same⟩
theorem q_call {sp : Sp} {dvs : List V} {E : XK} {ta : TA} {i : Nat} {tz : TS} {D : Ends} (h : ta σ H fun vs H1 => sp (vs ++ dvs) H1 (fun v H2 => tz D (σ.set i (some v)) H2) E) : tSeq (tAsg (tCall sp dvs E ta) (gName i)) tz D σ H := h
end
end Sw
namespace Sw
open PySem PySem.Spec PyProof.Rows L2
open Evl (Ex Ex.refl Ex.trans Ex.new Ex.mut ex_l ex_t ex_rd fresh_back Ev EvL EvU EvT EvA RV RC RCL SpV SpL)
/-! ### data in memory, all tracked -/
mutual
inductive Dt (H : Hp) : V → PyData → Prop
  | non : Dt H .non .none
  | bl (b : Bool) : Dt H (.bl b) (.bool b)
  | int (i : Int) : Dt H (.int i) (.int i)
  | str (x : Str) : Dt H (.str x) (.str x)
  | lst {a : Addr} {xs : List V} {ds : List PyData} : H a = some (.lst xs) → DtAll H xs ds → Dt H (.ref a) (.list ds)
  | tup {a : Addr} {xs : List V} {ds : List PyData} : H a = some (.tup xs) → DtAll H xs ds → Dt H (.ref a) (.tuple ds)
inductive DtAll (H : Hp) : List V → List PyData → Prop
  | nil : DtAll H [] []
  | cons {v : V} {vs : List V} {d : PyData} {ds : List PyData} : Dt H v d → DtAll H vs ds → DtAll H (v :: vs) (d :: ds)
end
mutual
theorem Dt.dp {K : PySem.W.Frag} {H : Hp} : ∀ (d : PyData) (v : V), Dt H v d → Dp K H v d
  | .none, _, .non => .non
  | .bool _, _, .bl b => .bl b
  | .int _, _, .int i => .int i
  | .str _, _, .str x => .str x
  | .list ds, _, .lst h t => .lst (SqL.of h) (DtAll.dp ds _ t)
  | .tuple ds, _, .tup h t => .tup (SqT.of h) (DtAll.dp ds _ t)
theorem DtAll.dp {K : PySem.W.Frag} {H : Hp} : ∀ (ds : List PyData) (vs : List V), DtAll H vs ds → DpAll K H vs ds
  | [], _, .nil => .nil
  | d :: ds, _, .cons h t => .cons (Dt.dp d _ h) (DtAll.dp ds _ t)
end
mutual
theorem Dt.ex {H H' : Hp} (e : Ex H H') : ∀ (d : PyData) (v : V), Dt H v d → Dt H' v d
  | .none, _, .non => .non
  | .bool _, _, .bl b => .bl b
  | .int _, _, .int i => .int i
  | .str _, _, .str x => .str x
  | .list ds, _, .lst h t => .lst (e _ _ h) (DtAll.ex e ds _ t)
  | .tuple ds, _, .tup h t => .tup (e _ _ h) (DtAll.ex e ds _ t)
theorem DtAll.ex {H H' : Hp} (e : Ex H H') : ∀ (ds : List PyData) (vs : List V), DtAll H vs ds → DtAll H' vs ds
  | [], _, .nil => .nil
  | d :: ds, _, .cons h t => .cons (Dt.ex e d _ h) (DtAll.ex e ds _ t)
end
theorem DtAll.len {H : Hp} : ∀ {vs : List V} {ds : List PyData}, DtAll H vs ds → vs.length = ds.length
  | [], [], .nil => rfl
  | _ :: _, _ :: _, .cons _ t => congrArg Nat.succ (DtAll.len t)
theorem DtAll.at {H : Hp} : ∀ {vs : List V} {ds : List PyData}, DtAll H vs ds → ∀ (i : Nat) (v : V), vs[i]? = some v → ∃ d, ds[i]? = some d ∧ Dt H v d
  | [], [], .nil, i, v, e => by simp at e
  | v0 :: vs, d0 :: ds, .cons h t, 0, v, e => by
    have e := Option.some.inj e
    subst e
    exact ⟨d0, rfl, h⟩
  | v0 :: vs, d0 :: ds, .cons h t, i + 1, v, e => DtAll.at t i v e
theorem DtAll.of {H : Hp} : ∀ {vs : List V} {ds : List PyData}, vs.length = ds.length → (∀ (i : Nat) (v : V) (d : PyData), vs[i]? = some v → ds[i]? = some d → Dt H v d) → DtAll H vs ds
  | [], [], _, _ => .nil
  | v0 :: vs, d0 :: ds, hl, h => .cons (h 0 v0 d0 rfl rfl) (DtAll.of (Nat.succ.inj hl) fun i v d e1 e2 => h (i + 1) v d e1 e2)
  | [], _ :: _, hl, _ => by simp at hl
  | _ :: _, [], hl, _ => by simp at hl
/-- of some depth, all can lie, nothing too long -/
def Lay : Nat → PyData → Prop
  | _, .none => True
  | _, .bool _ => True
  | _, .int _ => True
  | _, .str x => PyData.strOk x = true
  | n + 1, .list ds => ds.length ≤ 1000 ∧ ∀ d ∈ ds, Lay n d
  | n + 1, .tuple ds => ds.length ≤ 1000 ∧ ∀ d ∈ ds, Lay n d
  | _, _ => False
theorem layAll {n : Nat} : ∀ {ds : List PyData}, (∀ d ∈ ds, d.canLay0 = true ∧ d.depth ≤ n) → PyData.canLayAll0 ds = true ∧ PyData.depthAll ds ≤ n
  | [], _ => by
    simp only [PyData.canLayAll0, PyData.depthAll]
    exact ⟨trivial, Nat.zero_le _⟩
  | d :: ds, h => by
    obtain ⟨a, b⟩ := layAll fun d hd => h d (List.mem_cons.mpr (.inr hd))
    obtain ⟨c, e⟩ := h d List.mem_cons_self
    simp only [PyData.canLayAll0, PyData.depthAll]
    exact ⟨by rw [a, c]; rfl, by omega⟩
theorem Lay.can : ∀ {n : Nat} {d : PyData}, Lay n d → d.canLay0 = true ∧ d.depth ≤ n
  | n, .none, _ => ⟨by simp only [PyData.canLay0], by simp only [PyData.depth]; exact Nat.zero_le _⟩
  | n, .bool _, _ => ⟨by simp only [PyData.canLay0], by simp only [PyData.depth]; exact Nat.zero_le _⟩
  | n, .int _, _ => ⟨by simp only [PyData.canLay0], by simp only [PyData.depth]; exact Nat.zero_le _⟩
  | n, .str _, h => by
    simp only [Lay] at h
    exact ⟨by simp only [PyData.canLay0]; exact h, by simp only [PyData.depth]; exact Nat.zero_le _⟩
  | 0, .list _, h => by simp only [Lay] at h
  | 0, .tuple _, h => by simp only [Lay] at h
  | 0, .dict _, h => by simp only [Lay] at h
  | n + 1, .dict _, h => by simp only [Lay] at h
  | n + 1, .list ds, h => by
    simp only [Lay] at h
    obtain ⟨a, b⟩ := layAll fun d hd => Lay.can (h.2 d hd)
    exact ⟨by simp only [PyData.canLay0]; exact a, by simp only [PyData.depth]; omega⟩
  | n + 1, .tuple ds, h => by
    simp only [Lay] at h
    obtain ⟨a, b⟩ := layAll fun d hd => Lay.can (h.2 d hd)
    exact ⟨by simp only [PyData.canLay0]; exact a, by simp only [PyData.depth]; omega⟩
theorem Lay.shaped {n : Nat} {d : PyData} (h : Lay n d) (hn : n ≤ 64) : SeqAt.shaped d = true := by
  obtain ⟨a, b⟩ := h.can
  show (d.canLay0 && decide (d.depth ≤ 64)) = true
  rw [Bool.and_eq_true]
  exact ⟨a, decide_eq_true (Nat.le_trans b hn)⟩
theorem Lay.lst {n : Nat} {ds : List PyData} (hz : ds.length ≤ 1000) (h : ∀ d ∈ ds, Lay n d) : Lay (n + 1) (.list ds) := by
  simp only [Lay]
  exact ⟨hz, h⟩
theorem Lay.tup {n : Nat} {ds : List PyData} (hz : ds.length ≤ 1000) (h : ∀ d ∈ ds, Lay n d) : Lay (n + 1) (.tuple ds) := by
  simp only [Lay]
  exact ⟨hz, h⟩
theorem Lay.lst_inv {n : Nat} {ds : List PyData} (h : Lay (n + 1) (.list ds)) : ds.length ≤ 1000 ∧ ∀ d ∈ ds, Lay n d := by
  simp only [Lay] at h
  exact h
theorem Lay.tup_inv {n : Nat} {ds : List PyData} (h : Lay (n + 1) (.tuple ds)) : ds.length ≤ 1000 ∧ ∀ d ∈ ds, Lay n d := by
  simp only [Lay] at h
  exact h
theorem Lay.lst_pos {ds : List PyData} (h : Lay 0 (.list ds)) : False := by simp only [Lay] at h
theorem Lay.tup_pos {ds : List PyData} (h : Lay 0 (.tuple ds)) : False := by simp only [Lay] at h
theorem Lay.int (n : Nat) (i : Int) : Lay n (.int i) := by simp only [Lay]
theorem Lay.bool (n : Nat) (b : Bool) : Lay n (.bool b) := by simp only [Lay]
theorem Lay.mono : ∀ {n m : Nat} {d : PyData}, Lay n d → n ≤ m → Lay m d
  | _, _, .none, _, _ => by simp only [Lay]
  | _, _, .bool _, _, _ => by simp only [Lay]
  | _, _, .int _, _, _ => by simp only [Lay]
  | _, _, .str _, h, _ => by
    simp only [Lay] at h ⊢
    exact h
  | 0, _, .list _, h, _ => by simp only [Lay] at h
  | 0, _, .tuple _, h, _ => by simp only [Lay] at h
  | 0, _, .dict _, h, _ => by simp only [Lay] at h
  | n + 1, _, .dict _, h, _ => by simp only [Lay] at h
  | n + 1, 0, _, _, k => absurd k (by omega)
  | n + 1, m + 1, .list ds, h, k => by
    simp only [Lay] at h ⊢
    exact ⟨h.1, fun d hd => Lay.mono (h.2 d hd) (by omega)⟩
  | n + 1, m + 1, .tuple ds, h, k => by
    simp only [Lay] at h ⊢
    exact ⟨h.1, fun d hd => Lay.mono (h.2 d hd) (by omega)⟩
/-! ### plain data -/
def dInts (ns : List Int) : PyData := .list (ns.map PyData.int)
def dIntss (l : List (List Int)) : PyData := .list (l.map dInts)
def dPair (s : Int × Int) : PyData := .tuple [.int s.1, .int s.2]
def dStones (st : List (Int × Int)) : PyData := .list (st.map dPair)
theorem lay_ints (ns : List Int) (hz : ns.length ≤ 1000) : Lay 1 (dInts ns) := Lay.lst (by rw [List.length_map]; exact hz) fun d hd => by
  obtain ⟨i, _, e⟩ := List.mem_map.mp hd
  rw [← e]
  exact Lay.int _ _
theorem lay_intss (l : List (List Int)) (hz : l.length ≤ 1000) (hy : ∀ g ∈ l, g.length ≤ 1000) : Lay 2 (dIntss l) := Lay.lst (by rw [List.length_map]; exact hz) fun d hd => by
  obtain ⟨i, hi, e⟩ := List.mem_map.mp hd
  rw [← e]
  exact lay_ints _ (hy i hi)
theorem lay_pair (s : Int × Int) : Lay 1 (dPair s) := Lay.tup (by show 2 ≤ 1000; decide) fun d hd => by
  rcases List.mem_cons.mp hd with e | hd
  · rw [e]
    exact Lay.int _ _
  · rw [List.mem_singleton.mp hd]
    exact Lay.int _ _
theorem lay_stones (st : List (Int × Int)) (hz : st.length ≤ 1000) : Lay 2 (dStones st) := Lay.lst (by rw [List.length_map]; exact hz) fun d hd => by
  obtain ⟨i, _, e⟩ := List.mem_map.mp hd
  rw [← e]
  exact lay_pair _
theorem dt_intsAll {H : Hp} : ∀ ns : List Int, DtAll H (ns.map V.int) (ns.map PyData.int)
  | [] => .nil
  | n :: ns => .cons (.int n) (dt_intsAll ns)
theorem dt_ints {H : Hp} {a : Addr} {ns : List Int} (h : H a = some (.lst (ns.map V.int))) : Dt H (.ref a) (dInts ns) := .lst h (dt_intsAll ns)
theorem dp_ints {K : PySem.W.Frag} {H : Hp} {a : Addr} {ns : List Int} (h : SqL K H a (ns.map V.int)) : Dp K H (.ref a) (dInts ns) := .lst h (DtAll.dp _ _ (dt_intsAll ns))
theorem eqv_ints : ∀ ns ms : List Int, PyData.eqvAll (ns.map PyData.int) (ms.map PyData.int) = decide (ns = ms)
  | [], [] => by
    simp [PyData.eqvAll]
  | [], _ :: _ => by simp [PyData.eqvAll]
  | _ :: _, [] => by simp [PyData.eqvAll]
  | n :: ns, m :: ms => by
    rw [List.map_cons, List.map_cons, PyData.eqvAll, eqv_ints ns ms]
    simp only [PyData.eqv]
    refine Bool.eq_iff_iff.mpr ?_
    simp
theorem eqv_dInts (ns ms : List Int) : PyData.eqv (dInts ns) (dInts ms) = decide (ns = ms) := by
  unfold dInts
  rw [PyData.eqv]
  exact eqv_ints ns ms
theorem eqv_pair (s t : Int × Int) : PyData.eqv (dPair s) (dPair t) = decide (s = t) := by
  unfold dPair
  rw [PyData.eqv]
  refine Bool.eq_iff_iff.mpr ?_
  simp only [PyData.eqvAll, PyData.eqv]
  obtain ⟨a, b⟩ := s
  obtain ⟨c, d⟩ := t
  simp
theorem eqv_pairs : ∀ ns ms : List (Int × Int), PyData.eqvAll (ns.map dPair) (ms.map dPair) = decide (ns = ms)
  | [], [] => by
    simp [PyData.eqvAll]
  | [], _ :: _ => by simp [PyData.eqvAll]
  | _ :: _, [] => by simp [PyData.eqvAll]
  | n :: ns, m :: ms => by
    rw [List.map_cons, List.map_cons, PyData.eqvAll, eqv_pairs ns ms, eqv_pair]
    refine Bool.eq_iff_iff.mpr ?_
    simp
theorem eqv_stones (ns ms : List (Int × Int)) : PyData.eqv (dStones ns) (dStones ms) = decide (ns = ms) := by
  unfold dStones
  rw [PyData.eqv]
  exact eqv_pairs ns ms
theorem eqv_intss (ns ms : List (List Int)) : PyData.eqv (dIntss ns) (dIntss ms) = decide (ns = ms) := by
  unfold dIntss
  rw [PyData.eqv]
  induction ns generalizing ms with
  | nil => cases ms <;> simp [PyData.eqvAll]
  | cons n ns ih =>
    cases ms with
    | nil => simp [PyData.eqvAll]
    | cons m ms =>
      rw [List.map_cons, List.map_cons, PyData.eqvAll, ih ms, eqv_dInts]
      refine Bool.eq_iff_iff.mpr ?_
      simp
/-- the kind of a value that is data -/
def kindOf : PyData → String
  | .none => "NoneType"
  | .bool _ => "bool"
  | .int _ => "int"
  | .str _ => "str"
  | .list _ => "list"
  | .tuple _ => "tuple"
  | .dict _ => "dict"
theorem Dt.ty {K : PySem.W.Frag} {H : Hp} {v : V} {d : PyData} (h : Dt H v d) : TyX K H v (.type (kindOf d)) := by
  cases h with
  | non => exact .base .non
  | bl b => exact .base (.bl b)
  | int i => exact .base (.int i)
  | str x => exact .base (.str x)
  | lst h _ => exact .base (.lst h)
  | tup h _ => exact .base (.tup h)
def kinds : List String := ["NoneType", "bool", "int", "str", "list", "tuple", "dict"]
theorem kind_in (d : PyData) : kindOf d ∈ kinds := by cases d <;> simp [kindOf, kinds]
theorem kits : ∀ k ∈ kinds, kitB k "bool" = some (decide (k = "bool")) ∧ kitB k "tuple" = some (decide (k = "tuple")) ∧ kitB k "list" = some (decide (k = "list")) := by decide +kernel
theorem kit_bool {K : PySem.W.Frag} (d : PyData) : PySem.W.kitOne K (.type (kindOf d)) (.type "bool") = some (decide (kindOf d = "bool")) := kit_ty (kits _ (kind_in d)).1
theorem kit_tuple {K : PySem.W.Frag} (d : PyData) : PySem.W.kitOne K (.type (kindOf d)) (.type "tuple") = some (decide (kindOf d = "tuple")) := kit_ty (kits _ (kind_in d)).2.1
theorem kit_list {K : PySem.W.Frag} (d : PyData) : PySem.W.kitOne K (.type (kindOf d)) (.type "list") = some (decide (kindOf d = "list")) := kit_ty (kits _ (kind_in d)).2.2
end Sw
namespace Sw
open PySem PySem.Spec PyProof.Rows L2
open Evl (Ex Ex.refl Ex.trans Ex.new Ex.mut ex_l ex_t ex_rd fresh_back Ev EvL EvU EvT EvA RV RC RCL SpV SpL)
/-! ### stones in memory -/
def GoodS (s : Int × Int) : Prop := (0 ≤ s.1 ∧ s.1 ≤ 999999) ∧ 0 ≤ s.2 ∧ s.2 ≤ 999999
def Good (st : List (Int × Int)) : Prop := st.length ≤ 60 ∧ ∀ s ∈ st, GoodS s
def StonesAt (H : Hp) (a : Addr) (st : List (Int × Int)) : Prop := ∃ ts : List Addr, H a = some (.lst (ts.map V.ref)) ∧ ts.length = st.length ∧ ∀ (i : Nat) (t : Addr) (s : Int × Int), ts[i]? = some t → st[i]? = some s → H t = some (.tup [.int s.1, .int s.2])
theorem StonesAt.ex {H H' : Hp} {a : Addr} {st : List (Int × Int)} (h : StonesAt H a st) (e : Ex H H') : StonesAt H' a st := by
  obtain ⟨ts, h1, h2, h3⟩ := h
  exact ⟨ts, e _ _ h1, h2, fun i t s e1 e2 => e _ _ (h3 i t s e1 e2)⟩
theorem StonesAt.dt {H : Hp} {a : Addr} {st : List (Int × Int)} (h : StonesAt H a st) : Dt H (.ref a) (dStones st) := by
  obtain ⟨ts, h1, h2, h3⟩ := h
  refine .lst h1 (DtAll.of (by rw [List.length_map, List.length_map, h2]) fun i v d e1 e2 => ?_)
  rw [List.getElem?_map] at e1 e2
  obtain ⟨t, ht, rfl⟩ := Option.map_eq_some_iff.mp e1
  obtain ⟨s, hs, rfl⟩ := Option.map_eq_some_iff.mp e2
  exact .tup (h3 i t s ht hs) (.cons (.int _) (.cons (.int _) .nil))
theorem stones_nil {H : Hp} {a : Addr} (h : H a = some (.lst [])) : StonesAt H a [] := ⟨[], h, rfl, fun i t s e => by simp at e⟩
/-- a new tuple, put behind the others -/
theorem StonesAt.app {H : Hp} {a t : Addr} {st : List (Int × Int)} {s : Int × Int} {ts : List Addr} (h1 : H a = some (.lst (ts.map V.ref))) (h2 : ts.length = st.length)
    (h3 : ∀ (i : Nat) (t : Addr) (s : Int × Int), ts[i]? = some t → st[i]? = some s → H t = some (.tup [.int s.1, .int s.2])) (nt : H t = none) :
    StonesAt (upd (upd H t (.tup [.int s.1, .int s.2])) a (.lst (ts.map V.ref ++ [.ref t]))) a (st ++ [s]) := by
  have ta : t ≠ a := fun e => by
    rw [e, h1] at nt
    cases nt
  refine ⟨ts ++ [t], by rw [upd_same, List.map_append]; rfl, by rw [List.length_append, List.length_append, h2]; rfl, fun i t' s' e1 e2 => ?_⟩
  by_cases hi : i < ts.length
  · rw [List.getElem?_append_left hi] at e1
    rw [List.getElem?_append_left (by omega)] at e2
    have q := h3 i t' s' e1 e2
    have n1 : t' ≠ a := fun e => by
      rw [e, h1] at q
      cases q
    have n2 : t' ≠ t := fun e => by
      rw [e, nt] at q
      cases q
    rw [upd_ne n1, upd_ne n2]
    exact q
  · rw [List.getElem?_append_right (by omega)] at e1
    rw [List.getElem?_append_right (by omega)] at e2
    have z : i - ts.length = 0 := by
      have := (List.getElem?_eq_some_iff.mp e1).1
      simp at this
      omega
    have z2 : i - st.length = 0 := by omega
    rw [z] at e1
    rw [z2] at e2
    have e1 : t = t' := Option.some.inj e1
    have e2 : s = s' := Option.some.inj e2
    rw [← e1, ← e2, upd_ne ta, upd_same]
/-- a new tuple, put in the place of one -/
theorem StonesAt.put {H : Hp} {a t : Addr} {st : List (Int × Int)} {s : Int × Int} {ts : List Addr} {j : Nat} (h1 : H a = some (.lst (ts.map V.ref))) (h2 : ts.length = st.length)
    (h3 : ∀ (i : Nat) (t : Addr) (s : Int × Int), ts[i]? = some t → st[i]? = some s → H t = some (.tup [.int s.1, .int s.2])) (nt : H t = none) :
    StonesAt (upd (upd H t (.tup [.int s.1, .int s.2])) a (.lst ((ts.map V.ref).set j (.ref t)))) a (st.set j s) := by
  have ta : t ≠ a := fun e => by
    rw [e, h1] at nt
    cases nt
  refine ⟨ts.set j t, by rw [upd_same, List.map_set], by rw [List.length_set, List.length_set, h2], fun i t' s' e1 e2 => ?_⟩
  rw [List.getElem?_set] at e1 e2
  by_cases hi : j = i
  · subst hi
    rw [if_pos rfl] at e1 e2
    by_cases hl : j < ts.length
    · rw [if_pos hl] at e1
      rw [if_pos (by omega)] at e2
      have e1 : t = t' := Option.some.inj e1
      have e2 : s = s' := Option.some.inj e2
      rw [← e1, ← e2, upd_ne ta, upd_same]
    · rw [if_neg hl] at e1
      cases e1
  · rw [if_neg hi] at e1 e2
    have q := h3 i t' s' e1 e2
    have n1 : t' ≠ a := fun e => by
      rw [e, h1] at q
      cases q
    have n2 : t' ≠ t := fun e => by
      rw [e, nt] at q
      cases q
    rw [upd_ne n1, upd_ne n2]
    exact q
theorem goods_snoc {st : List (Int × Int)} {s : Int × Int} (h : ∀ s ∈ st, GoodS s) (g : GoodS s) : ∀ x ∈ st ++ [s], GoodS x := fun x hx => by
  rcases List.mem_append.mp hx with e | e
  · exact h x e
  · rw [List.mem_singleton.mp e]
    exact g
theorem goods_set {st : List (Int × Int)} {s : Int × Int} {j : Nat} (h : ∀ s ∈ st, GoodS s) (g : GoodS s) : ∀ x ∈ st.set j s, GoodS x := fun x hx => by
  rcases List.mem_or_eq_of_mem_set hx with e | e
  · exact h x e
  · rw [e]
    exact g
end Sw
set_option maxHeartbeats 3200000
namespace Sw
open PySem PySem.Spec PyProof.Rows L2
abbrev emptyS (w : World) : Obj := { cls := .type "set", dict := none, data := .set #[] 0 (.fresh 0 0 (!w.params.followText "set-order")) }
abbrev withS (w : World) (h : Heap) : Heap := h.push (emptyS w)
section
variable {P : Program} {w : World} {A : Around} {E : Value → Shared → Prop} {s : Shared}
/-- set(xs) of a list of ints -/
theorem set_of_ints {at_ : Addr} {us : Array Value} (zs : List Int) {Q : Value → Shared → Prop} (calm : A.handled = none) (hl : s.heap.IsList at_ us) (hi : IntsAre us.toList zs) (few : zs.length + 1 < scanBound)
    (q : ∀ (h' : Heap) (tk n : Nat), SetR w h' s.heap.objs.size (fun j => decide (j ∈ zs)) n → n ≤ zs.length → (∀ b o, s.heap.get? b = some o → h'.get? b = some o) → Q (.ref s.heap.objs.size) { s with heap := h', toks := tk }) :
    wpAny (model P w) A (call (.type "set") [.ref at_]) Q E s := by
  have usz : us.size = zs.length := by
    have z := IntsAre.length hi
    rw [Array.length_toList] at z
    exact z
  obtain ⟨c, tl, mro_⟩ := F.called_set.mro
  have made_ := F.called_set.made
  have sub_ := F.called_set.sub
  refine wpAny_call (codeAny_of_tree ?_)
  show wpAny _ _ (callAny (.type "set") _) _ _ _
  refine wpAny_pure ⟨Code.quiet_builtin _ (by decide +kernel), codeAny_builtin F.entry_type_call ?_⟩
  rw [Around.under_plain (weight_type_call_type "set" [.ref at_] []) rfl]
  have t1 := F.called_set.notType
  have t2 := F.called_set.canCreate
  have t3 := F.typeCall_set_1 (.ref at_)
  repeat (any_goals (first | assumption | wp_step))
  refine codeAny_mono (code_set_led1 (.ref at_) (E := E) (Q₁ := fun ob s1 => ob = .ref s.heap.objs.size ∧ s1 = { s with heap := withS w s.heap }) ⟨rfl, rfl⟩) fun r s1 hr => ?_
  cases r with
  | error e => exact hr
  | ok fl =>
    cases fl with
    | ret ob =>
      obtain ⟨rfl, rfl⟩ := hr
      have new : (withS w s.heap).get? s.heap.objs.size = some (emptyS w) := Heap.get?_push_size _ rfl
      have typ : Shared.TypeIs { s with heap := withS w s.heap } (.ref s.heap.objs.size) "set" := ⟨_, new, rfl⟩
      have i1 := F.called_set.init.lookup
      have i2 := F.called_set.init.bind (.ref s.heap.objs.size)
      repeat (any_goals (first | assumption | wp_step))
      refine codeAny_mono (codeAny_call_builtin (R := wants (fun r s2 => r = .none ∧ ∃ h' tk n, s2 = { s with heap := h', toks := tk } ∧ SetR w h' s.heap.objs.size (fun j => decide (j ∈ zs)) n ∧ n ≤ zs.length ∧
          (∀ b o, s.heap.get? b = some o → h'.get? b = some o)) E) F.called_set.init.plain F.entry_set_init (check_set_init_1 typ ?_)) fun r2 s2 hr2 => ?_
      · obtain ⟨ol, hol, hcl, nl, hdl⟩ := hl
        obtain ⟨ocls, odict, odata, oslots⟩ := ol
        simp only at hcl hdl
        subst hcl
        subst hdl
        have there : (withS w s.heap).get? at_ = some { cls := .type "list", dict := odict, data := .seq us nl, slots := oslots } := Heap.get?_push_of_some _ hol
        have n1 := F.sub_list_set
        have n2 := F.sub_list_frozenset
        have n3 : (Value.type "list" == Value.type "dict") = false := by decide
        have ls1 : (withS w s.heap).IsList at_ us := ⟨_, there, rfl, nl, rfl⟩
        unfold Builtin.«set.__init__» noKeywords Builtin.Frozenset.updateFrom
        generalize ePI : pyIter = PI
        wp_walk
        subst ePI
        refine wpAny_pyIter_list ls1 ?_
        refine wpAny_bind (wpAny_runValue ?_)
        have lt0 : at_ < s.heap.objs.size := Heap.lt_size hol
        have calm3 : A.in1.in1.in1.handled = none := by simp [calm]
        have apart : at_ ≠ (withS w s.heap).objs.size := by
          rw [Heap.size_push]
          exact Nat.ne_of_lt (Nat.lt_succ_of_lt lt0)
        have notIn : s.heap.objs.size ∉ [(withS w s.heap).objs.size, at_] := by
          rw [Heap.size_push]
          simp only [List.mem_cons, List.mem_singleton, List.not_mem_nil, or_false, not_or]
          exact ⟨Nat.ne_of_lt (Nat.lt_succ_self _), Nat.ne_of_gt lt0⟩
        have vals : ∀ (i : Nat) (v : Value), us[i]? = some v → ∃ k t, zs[i]? = some k ∧ v = .int k t := fun i v hv => by
          have lt1 : i < zs.length := by
            rw [← usz]
            exact (Array.getElem?_eq_some_iff.mp hv).1
          obtain ⟨t, e⟩ := PyProof.Rows.IntsAre.int_at hi i v (by rw [Array.getElem?_toList]; exact hv)
          refine ⟨zs[i], t, List.getElem?_eq_getElem lt1, ?_⟩
          rw [e, List.getD_eq_getElem?_getD, List.getElem?_eq_getElem lt1]
          all_goals rfl
        refine set_update_ints ((Walks.list calm3 _ at_ apart us).toS) s.heap.objs.size notIn zs usz few vals (us.size - 0) 0 _ (by omega) (Nat.zero_le _) ⟨⟨_, Heap.get?_push_size _ rfl, rfl, rfl⟩, (ls1.push _)⟩ ?a0 ?a1
        case a0 =>
          have g0 : ((withS w s.heap).push { cls := .type "list_iterator", data := .fields #[.ref at_, .int 0 0] }).get? s.heap.objs.size = some (emptyS w) := Heap.get?_push_of_some _ new
          exact ⟨0, Nat.le_refl 0, setR_new_at g0⟩
        case a1 =>
          intro s' n hm hn hS'
          obtain ⟨h', g2, d', tk', os'⟩ := s'
          have e1 : g2 = s.gens := hm.gens
          have e2 : d' = s.drawn := hm.drawn
          have e3 : os' = s.os := hm.os
          subst e1
          subst e2
          subst e3
          show wpAny _ _ _ _ _ _
          refine wpAny_pure ?_
          show wpAny _ _ (ret Value.none) _ _ _
          rw [usz] at hn
          refine wpAny_pure ⟨rfl, h', tk', n, rfl, hS', hn, fun b o e => ?_⟩
          have b0 : b < s.heap.objs.size := Heap.lt_size e
          have b1 : b ≠ s.heap.objs.size := Nat.ne_of_lt b0
          have b2 : b ≠ (withS w s.heap).objs.size := by
            rw [Heap.size_push]
            exact Nat.ne_of_lt (Nat.lt_succ_of_lt b0)
          exact hm.heap b o (by simp only [List.mem_cons, List.mem_singleton, List.not_mem_nil, or_false, not_or]; exact ⟨b1, b2⟩) (Heap.get?_push_of_some _ (Heap.get?_push_of_some _ e))
      · cases r2 with
        | error e => exact hr2
        | ok fl2 =>
          cases fl2 with
          | ret r =>
            obtain ⟨rfl, h', tk, n, rfl, hS', hn, k'⟩ := hr2
            repeat (any_goals (first | assumption | wp_step))
            exact q _ _ _ hS' hn k'
          | _ => exact hr2.elim
    | _ => exact hr.elim
end
section
variable {X : Cx}
/-- set(xs): at most 62 ints or so -/
def rSetI (K : PySem.W.Frag) (w : World) : List V → Hp → VK → Prop := fun xs H Q => ∃ (l : Addr) (zs : List Int), xs = [.ref l] ∧ SqL K H l (zs.map V.int) ∧ zs.length ≤ 1000 ∧
  ∀ (n : Nat) (p : Addr), n ≤ zs.length → H p = none → Q (.ref p) (upd H p (SetO w p (fun j => decide (j ∈ zs)) n))
theorem cr_setI (hc : X.calm = true) : CallR X (.type "set") (rSetI X.K X.w) := by
  intro pins s σ H xs us Q I r h
  obtain ⟨l, zs, rfl, hl, few, q⟩ := h
  rw [Vals.ref1 r]
  obtain ⟨its, rv, pl, hz⟩ := I.list hl
  have hi : IntsAre its.toArray.toList zs := by
    have := ints_of_vals rv
    simpa using this
  refine set_of_ints zs (I.ok.hd hc) pl.isList hi (by unfold scanBound; omega) fun h' tk n R hn k => ?_
  exact ⟨.ref _, upd H s.heap.objs.size (SetO X.w s.heap.objs.size (fun j => decide (j ∈ zs)) n), I.laid (t' := tk) k (Nat.le_refl _) (setO_new R), rfl, q n _ hn (I.hok.fresh (Nat.le_refl _))⟩
end
end Sw
set_option maxHeartbeats 3200000
namespace Sw
open PySem PySem.Spec PyProof.Rows L2
section
variable {X : Cx}
/-- list(o.values()) of a dict -/
def tListVals (td : TE) : TE := fun σ H Q => td σ H fun x H1 => ∃ a kvs, x = V.ref a ∧ H1 a = some (.dK kvs) ∧ ∀ p, H1 p = none → Q (.ref p) (upd H1 p (.lst (kvs.map (·.2))))
variable {o : Expr} {p pos apos mpos : Pos} {td : TE}
theorem pe_listVals (hc : X.calm = true) (hg : Gl X "list") (hm : X.mg "list" = none) (hd : PE X o td)
    (hb : attributeBase o "values" X.env (eval o X.env) = eval o X.env := by rfl) (hl : (apos.endLine == mpos.line) = true := by rfl)
    (na : starEach [Expr.Call (.Attribute o "values" apos) [] [] mpos] X.env = (false, eval (Expr.Call (.Attribute o "values" apos) [] [] mpos) X.env) :: starEach [] X.env := by rfl) :
    PE X (.Call (.Name "list" p) [.Call (.Attribute o "values" apos) [] [] mpos] [] pos) (tListVals td) := by
  refine ⟨fun pins s σ H Q I h => ?_⟩
  refine Call_ (ld_blt I hg hm PyProof.Rows.boot_list ?_)
  refine PyProof.Rows.callWith_type1 (PyProof.Rows.args_cons (wpAny_Call_method0_late hb hl (thn (hd.run pins s σ H _ I h) fun v s1 ⟨x, H1, I1, r1, a, kvs, ex, ha, q⟩ => ?_)) na) na rfl
  subst ex
  obtain rfl : v = Value.ref a := r1
  obtain ⟨z, lo, vs, rel, dof⟩ := dk_of I1.hok ha
  obtain ⟨ep, dat⟩ := dof.dictAt
  have dat' := dat
  obtain ⟨ob, es, ho, ex, hdat, hko, hpr, hnd⟩ := dat'
  refine ⟨"dict", "dict.values", F.plainAttrs_dict, F.slot_dict_values, F.type_dict_values, ⟨ob, ho, ex.1⟩, fun b e => ?_, Calls.callWith_builtin rfl (PySem.evalArgs_none ?_)⟩
  · cases e
    exact ⟨ob, ho, ex.2.1⟩
  refine call_meetsIn F.slot_dict_values ⟨ob, ho, ex.1⟩ F.entry_dict_values (F.args_dict_values_1 _) (meets_dict_values (mixKind X.prog X.w) a lo) ⟨⟨vs, dof⟩, ?_⟩
  refine PyProof.Rows.args_nil ?_
  have up : ∀ b u, s1.heap.get? b = some u → (s1.heap.push { cls := .type "dict_values", data := .fields #[.ref a] }).get? b = some u := fun b u e => Heap.get?_push_of_some _ e
  have dat1 : (s1.heap.push { cls := .type "dict_values", data := .fields #[.ref a] }).DictAt (mixKind X.prog X.w) a vs ep := dat.keep up
  refine PySem.W.kdl_call (s := { s1 with heap := s1.heap.push { cls := .type "dict_values", data := .fields #[.ref a] } }) (PySem.W.kdl_values (knd := mixKind X.prog X.w) (kvs := vs) (ep := ep) (r := s1.heap.objs.size) (d := a)) (I1.ok.hd hc) ⟨⟨_, Heap.get?_push_size _ rfl, rfl, rfl⟩, dat1⟩ (by rw [← rel.length]; exact z) fun h' tk acc c' hk hD hacc => ?_
  have hv : Vals (kvs.map (·.2)) acc.toList := by
    have el : (kvs.map (·.2)).length = acc.toList.length := by
      rw [List.length_map, rel.length]
      exact hacc.1.symm
    refine vals_of_at el fun j x u e1 e2 => ?_
    obtain ⟨k, hk2⟩ := hacc.2 j u (by rw [← Array.getElem?_toList]; exact e2)
    obtain ⟨x', h1, h2⟩ := KV.at' rel hk2
    rw [List.getElem?_map, h1] at e1
    have e1 := Option.some.inj e1
    rw [← e1]
    exact h2
  have hsz : (s1.heap.push { cls := .type "dict_values", data := .fields #[.ref a] }).objs.size = s1.heap.objs.size + 1 := Heap.size_push _ _
  refine ⟨.ref (s1.heap.push { cls := .type "dict_values", data := .fields #[.ref a] }).objs.size, upd H1 (s1.heap.push { cls := .type "dict_values", data := .fields #[.ref a] }).objs.size (.lst (kvs.map (·.2))), I1.laid (t' := tk) (fun b u e => hk b u (up b u e)) (by rw [hsz]; exact Nat.le_succ _) ?_, rfl, q _ (I1.hok.fresh (by rw [hsz]; exact Nat.le_succ _))⟩
  exact (show ObjOk X.prog X.w _ _ _ (.lst (kvs.map (·.2))) from ⟨by rw [List.length_map]; exact z, acc.toList, c', hv, by rw [Array.toArray_toList]; exact hD⟩)
end
end Sw
namespace Sw
open PySem PySem.Spec PyProof.Rows L2
open Evl (Ex Ex.refl Ex.trans Ex.new Ex.mut ex_l ex_t ex_rd fresh_back Ev EvL EvU EvT EvA RV RC RCL SpV SpL)
section
variable {P : Program} {w : World} {K : PySem.W.Frag} {mg : Str → Option Value} {base : Heap}
/-! ### things -/
def isInt : PyData → Bool
  | .int _ => true
  | _ => false
theorem kitI : ∀ k ∈ kinds, kitB k "int" = some (decide (k = "int") || decide (k = "bool")) := by decide +kernel
theorem kit_int (d : PyData) : PySem.W.kitOne K (.type (kindOf d)) (.type "int") = some (decide (kindOf d = "int") || decide (kindOf d = "bool")) := kit_ty (kitI _ (kind_in d))
theorem ev_isI {σ : L2.St} {H : Hp} {te : TE} {x : V} {d : PyData} {T : String} {b : Bool} (h : Ev te σ H x) (hx : Dt H x d) (hk : PySem.W.kitOne K (.type (kindOf d)) (.type T) = some b) : Ev (tCB (rIsi K) (tCons te (tCons (tC (.ty T)) tNil))) σ H (.bl b) :=
  Evl.ev_cb (Evl.ea_cons h (Evl.ea_cons Evl.ev_c Evl.ea_nil)) (rc_isi (.ty T) (fun H1 e => (Dt.ex e d _ hx).ty) hk)
theorem int_test (d : PyData) : (decide (kindOf d = "bool") || !(decide (kindOf d = "int") || decide (kindOf d = "bool"))) = !isInt d := by cases d <;> simp [kindOf, isInt]
theorem isInt_get {d : PyData} (h : (!isInt d) = false) : ∃ i, d = .int i := by cases d <;> first | exact ⟨_, rfl⟩ | cases h
theorem decV {x y : V} {P : Prop} [Decidable P] (h : x = y ↔ P) : V.bl (decide (x = y)) = .bl (decide P) := congrArg V.bl (Bool.eq_iff_iff.mpr (by rw [decide_eq_true_eq, decide_eq_true_eq]; exact h))
/-! ### pairs -/
def numB : PyData → Int → Bool
  | .int i, n => decide (0 ≤ i) && decide (i ≤ n)
  | _, _ => false
def isPair : PyData → Bool
  | .tuple [_, _] => true
  | _ => false
def stoneB : PyData → Bool
  | .tuple [x, y] => numB x 999999 && numB y 999999
  | _ => false
theorem isPair_get {d : PyData} (h : (!isPair d) = false) : ∃ x y, d = .tuple [x, y] := by
  unfold isPair at h
  split at h
  · exact ⟨_, _, rfl⟩
  · cases h
theorem dt_two {H : Hp} {v : V} {x y : PyData} (h : Dt H v (.tuple [x, y])) : ∃ (a : Addr) (u z : V), v = .ref a ∧ H a = some (.tup [u, z]) ∧ Dt H u x ∧ Dt H z y := by
  cases h with
  | tup ha hs =>
    cases hs with
    | cons h1 hs =>
      cases hs with
      | cons h2 hs =>
        cases hs
        exact ⟨_, _, _, rfl, ha, h1, h2⟩
theorem dt_tuple {H : Hp} {v : V} {ds : List PyData} (h : Dt H v (.tuple ds)) : ∃ (a : Addr) (xs : List V), v = .ref a ∧ H a = some (.tup xs) ∧ DtAll H xs ds := by
  cases h with
  | tup ha hs => exact ⟨_, _, rfl, ha, hs⟩
theorem dt_list {H : Hp} {v : V} {ds : List PyData} (h : Dt H v (.list ds)) : ∃ (a : Addr) (xs : List V), v = .ref a ∧ H a = some (.lst xs) ∧ DtAll H xs ds := by
  cases h with
  | lst ha hs => exact ⟨_, _, rfl, ha, hs⟩
theorem ev_lenT {σ : L2.St} {H : Hp} {te : TE} {t : Addr} {xs : List V} (h : Ev te σ H (.ref t)) (ht : H t = some (.tup xs)) : Ev (tCB (Evl.rLenS K) (tCons te tNil)) σ H (.int (xs.length : Int)) := fun H1 e Q q =>
  h H1 e _ fun H2 e2 => ⟨t, xs, rfl, .inr (SqT.of ((e.trans e2) _ _ ht)), q H2 e2⟩
theorem ev_neI {σ : L2.St} {H : Hp} {ta tb : TE} {x y : Int} (h : Ev ta σ H (.int x)) (k : Ev tb σ H (.int y)) : EvT (tTest (tOp rNe ta tb)) σ H (!decide (x = y)) := Evl.et_is (Evl.et_test (Evl.ev_op h k (Evl.rv_ne rfl))) (by
  congr 1
  exact V.bl.inj (decV ⟨fun h => V.int.inj h, fun h => by rw [h]⟩))
/-- not isinstance(thing, tuple) or len(thing) != 2 -/
theorem et_noPair {σ : L2.St} {H : Hp} {i : Nat} {v : V} {d : PyData} (h : σ[i]? = some (some v)) (hd : Dt H v d) : EvT (tOr (tNot (tB (tCB (rIsi K) (tCons (tVar i) (tCons (tC (.ty "tuple")) tNil))))) (tTest (tOp rNe (tCB (Evl.rLenS K) (tCons (tVar i) tNil)) (tC (.int 2))))) σ H (!isPair d) := by
  by_cases c : ∃ ds, d = .tuple ds
  · obtain ⟨ds, rfl⟩ := c
    obtain ⟨a, xs, rfl, ha, hs⟩ := dt_tuple hd
    refine Evl.et_is (Evl.et_or (a := false) (Evl.et_not (a := true) (Evl.et_B (ev_isI (Evl.ev_var h) hd (kit_tuple _)))) fun _ => ev_neI (ev_lenT (Evl.ev_var h) ha) Evl.ev_c) ?_
    have l := hs.len
    match ds, l with
    | [], l => rw [l]; rfl
    | [x], l => rw [l]; rfl
    | [x, y], l => rw [l]; rfl
    | x :: y :: z :: r, l =>
      rw [l]
      show (!decide (((r.length + 1 + 1 + 1 : Nat) : Int) = 2)) = true
      rw [decide_eq_false (by omega)]
      rfl
  · have k : kindOf d ≠ "tuple" := fun e => by cases d <;> first | exact c ⟨_, rfl⟩ | simp [kindOf] at e
    have z : isPair d = false := by
      unfold isPair
      split
      · exact absurd ⟨_, rfl⟩ c
      · rfl
    rw [z]
    exact Evl.et_is (Evl.et_or (a := true) (b := true) (Evl.et_is (Evl.et_not (Evl.et_B (ev_isI (Evl.ev_var h) hd (kit_tuple _)))) (by rw [decide_eq_false k]; rfl)) fun h => nomatch h) rfl
end
end Sw
namespace Sw
open PySem PySem.Spec PyProof.Rows L2
/-! ### the text by places -/
def topS (i : Nat) : Stmt := PySem.Challenge.pw_stonerow_k09_table_refused.main.body.getD i (.Pass ⟨0, 0, 0, 0⟩)
abbrev sNum : Stmt := topS 14
abbrev sStone : Stmt := topS 15
abbrev sNeed1 : Stmt := topS 16
abbrev sLying : Stmt := topS 17
abbrev sLies : Stmt := topS 18
abbrev sRow : Stmt := topS 19
abbrev s_fitting : Stmt := topS 23
abbrev sCell : Stmt := topS 25
abbrev sAlike : Stmt := topS 26
abbrev s_law_bad : Stmt := topS 27
abbrev s_law_word : Stmt := topS 28
abbrev s_law_asked : Stmt := topS 29
abbrev s_law_told : Stmt := topS 30
abbrev s_law_fits_there : Stmt := topS 31
abbrev s_law_wanted : Stmt := topS 32
abbrev s_law_table : Stmt := topS 33
abbrev s_law_state : Stmt := topS 34
abbrev sLaw : Stmt := topS 35
end Sw
namespace Sw
open PySem PySem.Spec PyProof.Rows L2
open Evl (Ex Ex.refl Ex.trans Ex.new Ex.mut ex_l ex_t ex_rd fresh_back Ev EvL EvU EvT EvA RV RC RCL SpV SpL)
section
variable {P : Program} {w : World} {K : PySem.W.Frag} {mg : Str → Option Value} {base : Heap}
/-! ### is_number -/
theorem scNum : FnScope ["thing", "highest"] ["thing", "highest"] (defScope sNum) := ⟨rfl, rfl, rfl, by decide +kernel, rfl, by decide +kernel, by decide +kernel⟩
def spNum : Sp := fun vs H Q _ => ∃ (v : V) (d : PyData) (n : Int), vs = [v, .int n] ∧ Dt H v d ∧ Evl.RetV (.bl (numB d n)) H Q
theorem ok_num {f : Addr} {fd : FuncData} (F : Fun K "is_number" "is_number" sNum f fd) (mI : mg "isinstance" = none) (mB : mg "bool" = none) (mN : mg "int" = none) : FnOk P w K mg base CX0 1 f fd ["thing", "highest"] spNum := by
  refine F.ok scNum (fun vs H Q E h => ?_) (fun cdv A outer s H vs Q E hr h => ?_)
  · obtain ⟨v, d, n, rfl, _⟩ := h
    rfl
  · obtain ⟨v, d, n, rfl, hd, q⟩ := h
    refine ⟨_, pss_cons (ps_if (PW.pt (pw_or (pt_val (pe_callB call_isi (by rfl) mI (by decide +kernel) (pa_cons (pv 0) (pa_cons (pe_bltn (v := .ty "bool") (by rfl) mB (by decide +kernel) rfl) pa_nil))))
        (pw_or1 (pt_not (pt_val (pe_callB call_isi (by rfl) mI (by decide +kernel) (pa_cons (pv 0) (pa_cons (pe_bltn (v := .ty "int") (by rfl) mN (by decide +kernel) rfl) pa_nil)))))))) 
        (pss_one (ps_ret pe_bl)) pss_nil)
      (pss_one (ps_ret (pe_chain op_le op_le pe_int (pv 0) (pv 1)))), ?_⟩
    refine Evl.q_when (b := !isInt d) (Evl.et_is (Evl.et_or (Evl.et_B (ev_isI (Evl.ev_var rfl) hd (kit_bool d))) fun _ => Evl.et_not (Evl.et_B (ev_isI (Evl.ev_var rfl) hd (kit_int d)))) (int_test d)) (fun hb H1 e1 => ?_) fun hb H1 e1 => ?_
    · have z : numB d n = false := by cases d <;> first | rfl | cases hb
      rw [z] at q
      exact q H1 e1
    · obtain ⟨i, rfl⟩ := isInt_get hb
      cases hd
      have q : Q (.bl (decide (0 ≤ i) && decide (i ≤ n))) H1 := q H1 e1
      refine ⟨_, rfl, _, _, rfl, rfl, _, rfl, ?_⟩
      by_cases h0 : 0 ≤ i
      · rw [decide_eq_true h0] at q ⊢
        refine iteT ?_
        exact ⟨_, rfl, _, _, rfl, rfl, q⟩
      · rw [decide_eq_false h0] at q ⊢
        exact iteF q
theorem num_in {i n : Int} (h0 : 0 ≤ i) (h1 : i ≤ n) : numB (.int i) n = true := by
  show (decide (0 ≤ i) && decide (i ≤ n)) = true
  rw [decide_eq_true h0, decide_eq_true h1]
  rfl
theorem pv_num {v : V} {d : PyData} {n : Int} {H : Hp} (hd : Dt H v d) : Evl.SpV spNum [v, .int n] H (.bl (numB d n)) := fun H1 e Q q _ => ⟨v, d, n, rfl, Dt.ex e d _ hd, q⟩
/-! ### is_stone -/
theorem scStone : FnScope ["thing"] ["thing"] (defScope sStone) := ⟨rfl, rfl, rfl, by decide +kernel, rfl, by decide +kernel, by decide +kernel⟩
def spStone : Sp := fun vs H Q _ => ∃ (v : V) (d : PyData), vs = [v] ∧ Dt H v d ∧ Evl.RetV (.bl (stoneB d)) H Q
theorem ok_stone {f fE : Addr} {fd fdE : FuncData} (F : Fun K "is_stone" "is_stone" sStone f fd) (mI : mg "isinstance" = none) (mT : mg "tuple" = none) (mL : mg "len" = none) (mH : ∃ t, mg "HIGHEST_END" = some (.int 999999 t))
    (GE : FnOk P w K mg base CX0 1 fE fdE ["thing", "highest"] spNum) (gE : mg "is_number" = some (.ref fE)) (kE : PySem.W.keepIn K (.ref fE) = true) (bE : Binds K fdE ["thing", "highest"] []) : FnOk P w K mg base CX0 2 f fd ["thing"] spStone := by
  obtain ⟨tH, mH⟩ := mH
  refine F.ok scStone (fun vs H Q E h => ?_) (fun cdv A outer s H vs Q E hr h => ?_)
  · obtain ⟨v, d, rfl, _⟩ := h
    rfl
  · obtain ⟨v, d, rfl, hd, q⟩ := h
    refine ⟨_, pss_cons (ps_if (PW.pt (pw_or (pt_not (pt_val (pe_callB call_isi (by rfl) mI (by decide +kernel) (pa_cons (pv 0) (pa_cons (pe_bltn (v := .ty "tuple") (by rfl) mT (by decide +kernel) rfl) pa_nil)))))
        (pw_or1 (pt_cmpR op_ne (pe_callB (r := Evl.rLenS K) call_len_seq (by rfl) mL boot_len (pa_cons (pv 0) pa_nil)) pe_int (nomark _))))) (pss_one (ps_ret pe_bl)) pss_nil)
      (pss_one (ps_ret (pe_and (pe_call GE hr (by rfl) gE kE bE .nil pass0 (pa_cons (pe_ix (r := rIxT K) ix_tup (pv 0) pe_int (fun _ _ => rfl)) (pa_cons (pe_glob (v := .int 999999) rfl mH ⟨_, rfl⟩) pa_nil)))
        (pe_one (pe_call GE hr (by rfl) gE kE bE .nil pass0 (pa_cons (pe_ix (r := rIxT K) ix_tup (pv 0) pe_int (fun _ _ => rfl)) (pa_cons (pe_glob (v := .int 999999) rfl mH ⟨_, rfl⟩) pa_nil))))))), ?_⟩
    refine Evl.q_when (b := !isPair d) (et_noPair rfl hd) (fun hb H1 e1 => ?_) fun hb H1 e1 => ?_
    · have z : stoneB d = false := by
        unfold stoneB
        split
        · cases hb
        · rfl
      rw [z] at q
      exact q H1 e1
    · obtain ⟨x, y, rfl⟩ := isPair_get hb
      obtain ⟨a, u, z, rfl, ha, hx, hy⟩ := dt_two (Dt.ex e1 _ _ hd)
      refine Evl.s_ret (v := .bl (numB x 999999 && numB y 999999)) ?_ fun H2 e2 => q H2 (e1.trans e2)
      exact Evl.ev_andV (Evl.ev_call (Evl.ea_cons (Evl.ev_op (Evl.ev_var rfl) Evl.ev_c (Evl.rv_ixT (SqT.of ha) (atI_nat (j := 0) rfl))) (Evl.ea_cons Evl.ev_c Evl.ea_nil)) (pv_num hx))
        fun _ => Evl.ev_call (Evl.ea_cons (Evl.ev_op (Evl.ev_var rfl) Evl.ev_c (Evl.rv_ixT (SqT.of ha) (atI_nat (j := 1) rfl))) (Evl.ea_cons Evl.ev_c Evl.ea_nil)) (pv_num hy)
theorem pv_stoneG {v : V} {d : PyData} {H : Hp} (hd : Dt H v d) : Evl.SpV spStone [v] H (.bl (stoneB d)) := fun H1 e Q q _ => ⟨v, d, rfl, Dt.ex e d _ hd, q⟩
theorem pv_stone {t : Addr} {a b : Int} {H : Hp} (ht : H t = some (.tup [.int a, .int b])) (ha : 0 ≤ a ∧ a ≤ 999999) (hb : 0 ≤ b ∧ b ≤ 999999) : Evl.SpV spStone [.ref t] H (.bl true) := fun H1 e Q q E => by
  have h := pv_stoneG (H := H) (d := .tuple [.int a, .int b]) (.tup ht (.cons (.int a) (.cons (.int b) .nil))) H1 e Q
  have z : stoneB (.tuple [.int a, .int b]) = true := by
    show (numB (.int a) 999999 && numB (.int b) 999999) = true
    rw [num_in ha.1 ha.2, num_in hb.1 hb.2]
    rfl
  rw [z] at h
  exact h q E
end
end Sw
set_option maxHeartbeats 3200000
namespace Sw
open PySem PySem.Spec PyProof.Rows L2
section
variable {prog : Program} {w : World} {A : Around} {E : Value → Shared → Prop} {s : Shared}
/-- the end of sorted: the gathered ints laid in a new list, and that one sorted -/
theorem sort_gathered {vs : List Value} {ns : List Int} {R : PySem.Fin → Shared → Prop} (hi : IntsAre vs ns) (hz : vs.length ≤ sizeLine)
    (h : ∀ (h' : Heap) (out : List Value) (zs : List Int) (c : Nat), (∀ b o, s.heap.get? b = some o → h'.get? b = some o) → h'.get? s.heap.objs.size = some (seqObj "list" out.toArray c) → IntsAre out zs → zs.Perm ns → zs.Pairwise (· ≤ ·) → R (.done (.ret (.ref s.heap.objs.size))) { s with heap := h' }) :
    wpAny (model prog w) A (newList vs >>= fun l => do let _ ← holding [l] (call (.builtin "list.sort") [l] []); ret l) R E s := by
  refine wpAny_bind (wpAny_newList ?_ hz)
  have hoL : (s.heap.push (seqObj "list" vs.toArray 0)).get? s.heap.objs.size = some (seqObj "list" vs.toArray 0) := Heap.get?_push_size _ rfl
  show wpAny _ _ _ _ _ { s with heap := s.heap.push (seqObj "list" vs.toArray 0) }
  refine wpAny_bind (wpAny_holding (wpAny_call_entry PyProof.Rows.slot_list_sort ⟨_, hoL, rfl⟩ PyProof.Rows.entry_list_sort
    (SrtO.list_sort_ord (s := { s with heap := s.heap.push (seqObj "list" vs.toArray 0) }) SrtO.swo_int hoL hz (fun h2 => SrtO.ints_sortable hi h2) fun out h1 h2 => ⟨_, rfl, ?_⟩) (PyProof.Rows.args_list_sort _)))
  obtain ⟨k1, k2, k3⟩ := SrtO.ints_out hi h1 h2
  obtain ⟨ep, he'⟩ := PyProof.Rows.sortedHeap_at (vs := vs) (out := out.toArray) hoL
  refine wpAny_pure (h _ out (out.map SrtO.iv) ep (fun b u e => ?_) he' k1 k2 k3)
  have hb : b < s.heap.objs.size := Heap.lt_size e
  rw [PyProof.Rows.sortedHeap_old (Nat.ne_of_lt hb) (by rw [size_push']; exact Nat.lt_succ_of_lt hb)]
  exact Heap.get?_push_of_some _ e
end
section
variable {X : Cx}
/-- sorted(d), a dict whose keys are ints, any number of them -/
def rSortedKeys : List V → Hp → VK → Prop := fun xs H Q => ∃ (a : Addr) (kvs : List (Key × V)) (ks : List Int), xs = [.ref a] ∧ Rd H a (.dK kvs) ∧ kvs.map (·.1) = ks.map Sum.inl ∧
  ∀ (ys : List Int) (p : Addr), ys.Perm ks → ys.Pairwise (· ≤ ·) → H p = none → Q (.ref p) (upd H p (.lst (ys.map V.int)))
theorem cr_sortedKeys (hc : X.calm = true) : CallR X (.builtin "sorted") rSortedKeys := by
  intro pins s σ H xs us Q I r q
  obtain ⟨a, kvs, ks, ex, hd, hks, q⟩ := q
  subst ex
  rw [Vals.ref1 r]
  obtain ⟨z, lo, vs, rel, dd⟩ := dk_rd I.hok hd
  obtain ⟨ep, hat⟩ := dd.dictAt
  have hkeys : vs.map (·.1) = ks.map Sum.inl := rel.keys.symm.trans hks
  have hl : vs.length = ks.length := by
    have e := congrArg List.length hkeys
    rw [List.length_map, List.length_map] at e
    exact e
  have hz : vs.length ≤ sizeLine := by
    rw [← rel.length]
    exact z
  refine Calls.call_function_entry PyProof.Rows.kind_sorted PyProof.Rows.plain_sorted PyProof.Rows.entry_sorted (PyProof.Rows.args_sorted1 _) ?_
  unfold Builtin.«sorted»
  refine wpAny_bind (m := checkCount "sorted" 1 1 _) (wpAny_pure ?_)
  refine wpAny_bind (PySem.W.kdu_collect (A := X.A.in1) (PySem.W.kdl_dict (knd := mixKind X.prog X.w) (kvs := vs) (ep := ep) lo) (I.ok.hd hc) hat hz fun h' tk acc hk hacc => ?_)
  have hal : acc.toList.length = ks.length := by
    rw [← hl]
    exact hacc.1
  have hS : IntsAre acc.toList ks := ints_each hal fun j v e => by
    obtain ⟨k, x, e1, e2⟩ := hacc.2 j v (by rw [← Array.getElem?_toList]; exact e)
    have e3 : (vs.map (·.1))[j]? = some k := by
      rw [List.getElem?_map, e1]
      rfl
    rw [hkeys, List.getElem?_map] at e3
    obtain ⟨y, e4, e5⟩ := Option.map_eq_some_iff.mp e3
    subst e5
    rcases keyIs_shape (show keyIs (Sum.inl y) v = true from e2) with ⟨i, t, ek, ev⟩ | ⟨z, t, ek, ev⟩
    · cases ek
      exact ⟨y, t, e4, ev⟩
    · cases ek
  have I1 : Inv X pins σ H { s with heap := h', toks := tk } := I.kept hk
  refine sort_gathered (s := { s with heap := h', toks := tk }) hS (by rw [hal, ← hl]; exact hz) fun h2 out zs c k2 hg hi hp hs => ?_
  have hlen : (zs.map V.int).length ≤ sizeLine := by
    rw [List.length_map, hp.length_eq, ← hl]
    exact hz
  exact ⟨_, rfl, .ref h'.objs.size, upd H h'.objs.size (.lst (zs.map V.int)), I1.laid (t' := tk) k2 (Nat.le_refl _) (show ObjOk X.prog X.w _ _ _ (.lst (zs.map V.int)) from ⟨hlen, out, c, vals_of_ints hi, hg⟩), rfl, q zs _ hp hs (I1.hok.fresh (Nat.le_refl _))⟩
/-- sorted(s), a set of ints, any number of them -/
def rSortedSetN (w : World) : List V → Hp → VK → Prop := fun vs H Q => ∃ (a : Addr) (S : Int → Bool) (n : Nat), vs = [V.ref a] ∧ H a = some (SetO w a S n) ∧
  ∀ (ns : List Int) (p : Addr), ns.Pairwise (· < ·) → (∀ k : Int, k ∈ ns ↔ S k = true) → H p = none → Q (.ref p) (upd H p (.lst (ns.map V.int)))
theorem cr_sortedSetN (hc : X.calm = true) : CallR X (.builtin "sorted") (rSortedSetN X.w) := by
  intro pins s σ H vs us Q I r h
  obtain ⟨a, S, n, rfl, ha, q⟩ := h
  obtain ⟨o, es, ep, t, ho, hex, hd, g, nd, hm, hb, hf, hn, hr, hl⟩ := setO_get I ha
  rw [Vals.ref1 r]
  refine Calls.call_function_entry kind_sorted plain_sorted entry_sorted (args_sorted1 _) ?_
  unfold Builtin.«sorted»
  refine wpAny_bind (m := checkCount "sorted" 1 1 _) (wpAny_pure ?_)
  refine wpAny_bind (collect_set (A := X.A.in1) (I.ok.hd hc) ⟨o, ho, hex.1, hd⟩ hf hb hr hl fun s1 vs k1 hz g1 o1 pm => ?_)
  have hvl : vs.length ≤ sizeLine := by
    rw [pm.length_eq, List.length_map, Array.length_toList]
    exact fits_of_scanBound hb
  have hI : IntsAre vs (vs.map Builtin.Re.reRawOf) := ints_of vs fun v hv => by
    obtain ⟨e, he, q⟩ := List.mem_map.mp (pm.mem_iff.mp hv)
    obtain ⟨k, tk, h1, _⟩ := g e he
    exact ⟨k, tk, by rw [← q]; exact h1⟩
  have pk : (vs.map Builtin.Re.reRawOf).Perm (es.toList.map keyOf) := by
    have q := pm.map Builtin.Re.reRawOf
    rw [List.map_map] at q
    exact q
  refine sort_gathered (s := s1) hI hvl fun h2 out zs c k2 hg hi hp hs => ?_
  have pn : zs.Perm (es.toList.map keyOf) := hp.trans pk
  have hlen : (zs.map V.int).length ≤ sizeLine := by
    rw [List.length_map, hp.length_eq, List.length_map]
    exact hvl
  have kk : ∀ b u, s.heap.get? b = some u → h2.get? b = some u := fun b u e => k2 b u (k1 b u e)
  have hfr : H s1.heap.objs.size = none := I.hok.fresh hz
  have J : Inv X pins σ (upd H s1.heap.objs.size (.lst (zs.map V.int))) { s with heap := h2, gens := s1.gens, drawn := s1.drawn, toks := s1.toks } :=
    I.call (ch := []) (Un.laid kk hz hfr) (I.hok.laid kk hz ⟨hlen, out, c, vals_of_ints hi, hg⟩) (by rw [g1]; exact I.bare) (fun _ z => nomatch z)
  have e : { s1 with heap := h2 } = { s with heap := h2, gens := s1.gens, drawn := s1.drawn, toks := s1.toks } := by
    cases s1
    cases s
    cases o1
    rfl
  refine ⟨_, rfl, ?_⟩
  rw [e]
  exact ⟨.ref s1.heap.objs.size, _, J, rfl, q zs _ (L2.lt_of_le_nodup zs hs (pn.nodup_iff.mpr nd)) (fun k => by rw [pn.mem_iff, ← hm k]) hfr⟩
end
end Sw
namespace Sw
open PySem PySem.Spec PyProof.Rows L2
open Evl (Ex Ex.refl Ex.trans Ex.new Ex.mut ex_l ex_t ex_rd fresh_back Ev EvL EvU EvT EvA RV RC RCL SpV SpL)
/-! ### places, lists of places -/
def nats (l : List Nat) : List V := l.map fun p : Nat => V.int (p : Int)
theorem nats_len (l : List Nat) : (nats l).length = l.length := by
  unfold nats
  rw [List.length_map]
theorem nats_at {l : List Nat} {i p : Nat} (h : l[i]? = some p) : (nats l)[i]? = some (.int (p : Int)) := by
  unfold nats
  rw [List.getElem?_map, h]
  rfl
theorem nats_inv {l : List Nat} {i : Nat} {y : V} (h : (nats l)[i]? = some y) : ∃ p : Nat, l[i]? = some p ∧ y = .int (p : Int) := by
  unfold nats at h
  rw [List.getElem?_map] at h
  obtain ⟨p, h1, h2⟩ := Option.map_eq_some_iff.mp h
  exact ⟨p, h1, h2.symm⟩
def ofNats (l : List Nat) : List Int := l.map fun p : Nat => (p : Int)
theorem nats_eq (l : List Nat) : nats l = (ofNats l).map V.int := by
  unfold nats ofNats
  rw [List.map_map]
  rfl
/-- a new list of new lists of places -/
structure NewLL (H H' : Hp) (p : Addr) (T : List (Addr × List Nat)) : Prop where
  np : H p = none
  at_ : H' p = some (.lst (T.map fun t => V.ref t.1))
  nd : (T.map (·.1)).Nodup
  in_ : ∀ t ∈ T, H t.1 = none ∧ t.1 ≠ p ∧ H' t.1 = some (.lst (nats t.2))
def dGroups (gs : List (List Nat)) : PyData := dIntss (gs.map ofNats)
theorem NewLL.dt {H H' : Hp} {p : Addr} {T : List (Addr × List Nat)} (h : NewLL H H' p T) : Dt H' (.ref p) (dGroups (T.map (·.2))) := by
  refine .lst h.at_ (DtAll.of (by rw [List.length_map, List.length_map, List.length_map, List.length_map]) fun i v d e1 e2 => ?_)
  rw [List.getElem?_map] at e1
  rw [List.getElem?_map, List.getElem?_map, List.getElem?_map] at e2
  obtain ⟨t, ht, rfl⟩ := Option.map_eq_some_iff.mp e1
  rw [ht] at e2
  have e2 := Option.some.inj e2
  rw [← e2]
  have q := (h.in_ t (List.mem_of_getElem? ht)).2.2
  rw [nats_eq] at q
  exact dt_ints q
theorem lay_groups {gs : List (List Nat)} (h1 : gs.length ≤ 1000) (h2 : ∀ g ∈ gs, g.length ≤ 1000) : Lay 2 (dGroups gs) := lay_intss _ (by rw [List.length_map]; exact h1) fun g hg => by
  obtain ⟨l, hl, e⟩ := List.mem_map.mp hg
  rw [← e]
  unfold ofNats
  rw [List.length_map]
  exact h2 l hl
/-- the sizes of groups -/
theorem grpsL_size (c : Nat → Int) (l : List Nat) : (grpsL c l).length ≤ l.length ∧ ∀ g ∈ grpsL c l, g.length ≤ l.length := by
  unfold grpsL
  refine ⟨by rw [List.length_map]; exact List.length_filter_le _ _, fun g hg => ?_⟩
  obtain ⟨p, _, e⟩ := List.mem_map.mp hg
  rw [← e]
  exact List.length_filter_le _ _
theorem grps_size (st : List (Int × Int)) : (grps st).length ≤ st.length ∧ ∀ g ∈ grps st, g.length ≤ st.length := by
  have h := grpsL_size (cls st) (List.range st.length)
  rw [List.length_range] at h
  exact h
theorem endsOf_take {st : List (Int × Int)} {ps : List Nat} {i p : Nat} (h : ps[i]? = some p) : endsOf st (ps.take (i + 1)) = endsOf st (ps.take i) ++ [sa st p, sb st p] := by
  rw [List.take_add_one, h, endsOf_append]
  rfl
end Sw
namespace Sw
open PySem PySem.Spec PyProof.Rows L2
open Evl (Ex Ex.refl Ex.trans Ex.new Ex.mut ex_l ex_t ex_rd fresh_back Ev EvL EvU EvT EvA RV RC RCL SpV SpL)
/-- a stone's tuple -/
theorem StonesAt.get {H : Hp} {a : Addr} {st : List (Int × Int)} (h : StonesAt H a st) {p : Nat} (hp : p < st.length) : ∃ (ts : List Addr) (t : Addr), H a = some (.lst (ts.map V.ref)) ∧ (ts.map V.ref)[p]? = some (.ref t) ∧ H t = some (.tup [.int (sa st p), .int (sb st p)]) := by
  obtain ⟨ts, h1, h2, h3⟩ := h
  have ht : p < ts.length := by omega
  refine ⟨ts, ts[p], h1, ?_, h3 p _ _ (List.getElem?_eq_getElem ht) (st_at hp)⟩
  rw [List.getElem?_map, List.getElem?_eq_getElem ht]
  rfl
end Sw
namespace Sw
open PySem PySem.Spec PyProof.Rows L2
open Evl (Ex Ex.refl Ex.trans Ex.new Ex.mut ex_l ex_t ex_rd fresh_back Ev EvL EvU EvT EvA RV RC RCL SpV SpL)
/-- a pair's tuple, its group's list, its odd ends' list, the group -/
structure WE where
  t : Addr
  g : Addr
  o : Addr
  l : List Nat
/-- a new list of new pairs of a new group and its new odd ends -/
structure NewWhy (st : List (Int × Int)) (H H' : Hp) (p : Addr) (T : List WE) : Prop where
  np : H p = none
  at_ : H' p = some (.lst (T.map fun e => V.ref e.t))
  in_ : ∀ e ∈ T, (H e.t = none ∧ H e.g = none ∧ H e.o = none) ∧ (p ≠ e.t ∧ p ≠ e.g ∧ p ≠ e.o) ∧ H' e.t = some (.tup [.ref e.g, .ref e.o]) ∧ H' e.g = some (.lst (nats e.l)) ∧ H' e.o = some (.lst ((odds st e.l).map V.int))
  ng : (T.map WE.g).Nodup
  no : (T.map WE.o).Nodup
  go : ∀ e ∈ T, ∀ f ∈ T, e.g ≠ f.o
  gs : T.map WE.l = grps st
def dWhy (st : List (Int × Int)) (gs : List (List Nat)) : PyData := .list (gs.map fun l => .tuple [dInts (ofNats l), dInts (odds st l)])
theorem NewWhy.dt {st : List (Int × Int)} {H H' : Hp} {p : Addr} {T : List WE} (h : NewWhy st H H' p T) : Dt H' (.ref p) (dWhy st (grps st)) := by
  rw [← h.gs]
  refine .lst h.at_ (DtAll.of (by rw [List.length_map, List.length_map, List.length_map]) fun i v d e1 e2 => ?_)
  rw [List.getElem?_map] at e1
  rw [List.getElem?_map, List.getElem?_map] at e2
  obtain ⟨t, ht, rfl⟩ := Option.map_eq_some_iff.mp e1
  rw [ht] at e2
  have e2 := Option.some.inj e2
  rw [← e2]
  obtain ⟨_, _, q1, q2, q3⟩ := h.in_ t (List.mem_of_getElem? ht)
  rw [nats_eq] at q2
  exact .tup q1 (.cons (dt_ints q2) (.cons (dt_ints q3) .nil))
theorem odds_size (st : List (Int × Int)) (l : List Nat) : (odds st l).length ≤ 2 * l.length := by
  have h := oddL_le (endsOf st l)
  rw [endsOf_len] at h
  exact h
theorem lay_why (st : List (Int × Int)) {gs : List (List Nat)} (h1 : gs.length ≤ 1000) (h2 : ∀ g ∈ gs, g.length ≤ 500) : Lay 3 (dWhy st gs) := Lay.lst (by rw [List.length_map]; exact h1) fun d hd => by
  obtain ⟨l, hl, e⟩ := List.mem_map.mp hd
  rw [← e]
  have a := h2 l hl
  have b := odds_size st l
  refine Lay.tup (by show 2 ≤ 1000; decide) fun d hd => ?_
  rcases List.mem_cons.mp hd with e | hd
  · rw [e]
    exact lay_ints _ (by unfold ofNats; rw [List.length_map]; omega)
  · rw [List.mem_singleton.mp hd]
    exact lay_ints _ (by omega)
theorem grps_lt (st : List (Int × Int)) : ∀ g ∈ grps st, ∀ p ∈ g, p < st.length := by
  intro g hg p hp
  unfold grps grpsL at hg
  obtain ⟨q, _, e⟩ := List.mem_map.mp hg
  rw [← e] at hp
  exact List.mem_range.mp (List.mem_filter.mp hp).1
/-- [(group, f(stones, group)) for group in g(stones)] -/
theorem why_comp {K : PySem.W.Frag} {σ : L2.St} {H : Hp} {tg : TE} {a : Addr} {i j : Nat} {vs : List Nat} {sp : Sp} {E : XK} {st : List (Int × Int)} {Q : VK}
    (h1 : ∀ x, ((wipe σ vs).set j (some x))[i]? = some (some (.ref a))) (h2 : ∀ x, ((wipe σ vs).set j (some x))[j]? = some (some x)) (h3 : ∀ x, wipe ((wipe σ vs).set j (some x)) vs = wipe σ vs)
    (hS : StonesAt H a st) (hl : st.length ≤ 60) (hg : ∀ Q : VK, (∀ p T H1, Ex H H1 → NewLL H H1 p T → T.map (·.2) = grps st → Q (.ref p) H1) → tg σ H Q)
    (hsp : ∀ H' g l, StonesAt H' a st → H' g = some (.lst (nats l)) → (∀ p ∈ l, p < st.length) → l.length ≤ 100 → SpL sp [.ref a, .ref g] H' ((odds st l).map V.int))
    (q : ∀ p T H', Ex H H' → NewWhy st H H' p T → Q (.ref p) H') :
    tLc (iList K tg) (gName j) tYes (tTup (tCons (tVar j) (tCons (tCall sp [] E (tCons (tVar i) (tCons (tVar j) tNil))) tNil))) vs σ H Q := by
  refine hg _ fun p T H1 e1 n1 hT => ⟨p, rfl, ⟨_, SqL.of n1.at_⟩, fun D nD => ?_⟩
  have hsz := (grps_size st)
  refine lc_list (xs := T.map fun t => V.ref t.1) (fun k H' => ∃ W : List WE, (W.map fun e => (e.g, e.l)) = T.take k ∧ Ex H1 H' ∧ H' D = some (.lst (W.map fun e => V.ref e.t)) ∧
      (∀ e ∈ W, H1 e.t = none ∧ H1 e.o = none ∧ D ≠ e.t ∧ D ≠ e.o ∧ H' e.t = some (.tup [.ref e.g, .ref e.o]) ∧ H' e.o = some (.lst ((odds st e.l).map V.int))) ∧ (W.map WE.o).Nodup)
    ⟨[], rfl, Ex.new nD, upd_same, fun e he => (nomatch he), List.nodup_nil⟩ (fun k H' _ ⟨_, _, e, _⟩ => SqL.of (e _ _ n1.at_)) ?_ ?_
  · rintro k x H2 hk ⟨W, hW, e2, hD, hin, hno⟩
    rw [List.getElem?_map] at hk
    obtain ⟨t, ht, rfl⟩ := Option.map_eq_some_iff.mp hk
    have htm := n1.in_ t (List.mem_of_getElem? ht)
    have hgm : t.2 ∈ grps st := by
      rw [← hT]
      exact List.mem_map.mpr ⟨t, List.mem_of_getElem? ht, rfl⟩
    have hg2 := e2 _ _ htm.2.2
    refine ⟨h3 _, ?_⟩
    unfold tYes
    dsimp only
    rw [if_pos rfl]
    refine ⟨_, h2 _, ?_⟩
    refine ⟨_, h1 _, _, h2 _, hsp H2 t.1 t.2 (hS.ex (e1.trans e2)) hg2 (grps_lt st _ hgm) (by have := hsz.2 _ hgm; omega) H2 (Ex.refl H2) _ (fun o H3 no e3 ho => ?_) _⟩
    refine ⟨by show 2 ≤ sizeLine; decide, fun u nu => ?_⟩
    have Do : D ≠ o := ne_of_none hD no
    have Du : D ≠ u := ne_of_none (e3 _ _ hD) nu
    have e4 : Ex H2 (upd H3 u (.tup [.ref t.1, .ref o])) := e3.trans (Ex.new nu)
    have wl : W.length ≤ k := by
      have h5 := congrArg List.length hW
      rw [List.length_map, List.length_take] at h5
      omega
    have tl : T.length ≤ 60 := by
      have h5 := congrArg List.length hT
      rw [List.length_map] at h5
      omega
    have kl : k < T.length := (List.getElem?_eq_some_iff.mp ht).1
    refine ⟨_, e4 _ _ hD, by rw [List.length_map]; exact small1000 (by omega), W ++ [⟨u, t.1, o, t.2⟩], ?_, ?_, ?_, fun e he => ?_, ?_⟩
    · rw [List.map_append, hW, List.take_add_one, ht]
      rfl
    · exact Ex.mut (e2.trans e4) nD
    · rw [upd_same, List.map_append]
      rfl
    · rcases List.mem_append.mp he with he | he
      · obtain ⟨a1, a2, a3, a4, a5, a6⟩ := hin e he
        refine ⟨a1, a2, a3, a4, ?_, ?_⟩
        · rw [upd_ne (fun z => a3 z.symm)]
          exact e4 _ _ a5
        · rw [upd_ne (fun z => a4 z.symm)]
          exact e4 _ _ a6
      · rw [List.mem_singleton.mp he]
        have ou : o ≠ u := ne_of_none ho nu
        refine ⟨fresh_back (e2.trans e3) nu, fresh_back e2 no, Du, Do, ?_, ?_⟩
        · show upd _ D _ u = _
          rw [upd_ne (fun z => Du z.symm), upd_same]
        · show upd _ D _ o = _
          rw [upd_ne (fun z => Do z.symm), upd_ne ou]
          exact ho
    · rw [List.map_append]
      refine List.nodup_append.mpr ⟨hno, by simp, fun x hx y hy z => ?_⟩
      obtain ⟨e, he, ee⟩ := List.mem_map.mp hx
      have hy : y = o := List.mem_singleton.mp hy
      have a6 := (hin e he).2.2.2.2.2
      rw [ee, z, hy, no] at a6
      cases a6
  · rintro H2 ⟨W, hW, e2, hD, hin, hno⟩
    rw [List.length_map, List.take_length] at hW
    have hWT : ∀ e ∈ W, (e.g, e.l) ∈ T := fun e he => by
      rw [← hW]
      exact List.mem_map.mpr ⟨e, he, rfl⟩
    refine q D W H2 (e1.trans e2) ⟨fresh_back e1 nD, hD, fun e he => ?_, ?_, hno, fun e he f hf z => ?_, ?_⟩
    · obtain ⟨a1, a2, a3, a4, a5, a6⟩ := hin e he
      have ht := n1.in_ _ (hWT e he)
      have Dg : D ≠ e.g := fun z => by
        have h5 : H1 e.g = _ := ht.2.2
        rw [← z, nD] at h5
        cases h5
      exact ⟨⟨fresh_back e1 a1, ht.1, fresh_back e1 a2⟩, ⟨a3, Dg, a4⟩, a5, e2 _ _ ht.2.2, a6⟩
    · have h5 : W.map WE.g = T.map (·.1) := by
        rw [← hW, List.map_map]
        rfl
      rw [h5]
      exact n1.nd
    · have h5 : H1 e.g = _ := (n1.in_ _ (hWT e he)).2.2
      rw [z, (hin f hf).2.1] at h5
      cases h5
    · rw [← hT, ← hW, List.map_map]
      rfl
theorem q_why {K : PySem.W.Frag} {σ : L2.St} {H : Hp} {tg : TE} {a : Addr} {i j k : Nat} {vs : List Nat} {sp : Sp} {E : XK} {st : List (Int × Int)} {tz : TS} {D : Ends}
    (h1 : ∀ x, ((wipe σ vs).set j (some x))[i]? = some (some (.ref a))) (h2 : ∀ x, ((wipe σ vs).set j (some x))[j]? = some (some x)) (h3 : ∀ x, wipe ((wipe σ vs).set j (some x)) vs = wipe σ vs)
    (hS : StonesAt H a st) (hl : st.length ≤ 60) (hg : ∀ Q : VK, (∀ p T H1, Ex H H1 → NewLL H H1 p T → T.map (·.2) = grps st → Q (.ref p) H1) → tg σ H Q)
    (hsp : ∀ H' g l, StonesAt H' a st → H' g = some (.lst (nats l)) → (∀ p ∈ l, p < st.length) → l.length ≤ 100 → SpL sp [.ref a, .ref g] H' ((odds st l).map V.int))
    (q : ∀ p T H', Ex H H' → NewWhy st H H' p T → tz D (σ.set k (some (.ref p))) H') :
    tSeq (tAsg (tLc (iList K tg) (gName j) tYes (tTup (tCons (tVar j) (tCons (tCall sp [] E (tCons (tVar i) (tCons (tVar j) tNil))) tNil))) vs) (gName k)) tz D σ H :=
  why_comp (Q := fun x H1 => tz D (σ.set k (some x)) H1) h1 h2 h3 hS hl hg hsp q
end Sw
namespace Sw
open PySem PySem.Spec PyProof.Rows L2
open Evl (Ex Ex.refl Ex.trans Ex.new Ex.mut ex_l ex_t ex_rd fresh_back Ev EvL EvU EvT EvA RV RC RCL SpV SpL)
section
variable {K : PySem.W.Frag} {σ : L2.St} {H H' : Hp} {ta tb te : TE} {st su : List (Int × Int)}
/-- what tells a list of stones, old or new -/
def EvSt (te : TE) (σ : L2.St) (H : Hp) (st : List (Int × Int)) : Prop := ∀ H1, Ex H H1 → ∀ Q : VK, (∀ p H2, Ex H1 H2 → StonesAt H2 p st → Q (.ref p) H2) → te σ H1 Q
theorem EvSt.mono (e : Ex H H') (h : EvSt te σ H st) : EvSt te σ H' st := fun H1 a Q q => h H1 (e.trans a) Q q
theorem EvSt.is (h : EvSt te σ H st) (e : st = su) : EvSt te σ H su := by
  rw [← e]
  exact h
theorem es_var {i : Nat} {a : Addr} (h : σ[i]? = some (some (.ref a))) (hS : StonesAt H a st) : EvSt (tVar i) σ H st := fun H1 e Q q => ⟨_, h, q a H1 (Ex.refl H1) (hS.ex e)⟩
/-- a new list of the tuples of others -/
theorem stones_refs {ts : List Addr} {p : Addr} (h1 : H p = some (.lst (ts.map V.ref))) (h2 : ts.length = st.length) (h3 : ∀ (i : Nat) (t : Addr) (s : Int × Int), ts[i]? = some t → st[i]? = some s → H t = some (.tup [.int s.1, .int s.2])) : StonesAt H p st := ⟨ts, h1, h2, h3⟩
theorem es_sl {tl th : TO} {lo hi : Option Int} (h : EvSt te σ H st) (h1 : Evl.EvO tl σ H lo) (h2 : Evl.EvO th σ H hi) :
    EvSt (tSl (rSlL K) te tl th) σ H ((st.drop (HT.sIx st.length 0 lo)).take (HT.sIx st.length st.length hi - HT.sIx st.length 0 lo)) := fun H1 e Q q =>
  h H1 e _ fun a H2 e2 hS => h1 H2 (e.trans e2) _ fun H3 e3 => h2 H3 ((e.trans e2).trans e3) _ fun H4 e4 => by
    obtain ⟨ts, t1, t2, t3⟩ := hS.ex (e3.trans e4)
    refine ⟨a, ts.map V.ref, rfl, SqL.of t1, fun p np => ?_⟩
    refine q p _ (((e2.trans e3).trans e4).trans (Ex.new np)) ⟨(ts.drop (HT.sIx st.length 0 lo)).take (HT.sIx st.length st.length hi - HT.sIx st.length 0 lo), ?_, ?_, fun i t s g1 g2 => ?_⟩
    · rw [upd_same]
      unfold cutV
      rw [List.length_map, t2, ← List.map_drop, ← List.map_take]
    · rw [List.length_take, List.length_take, List.length_drop, List.length_drop, t2]
    · rw [List.getElem?_take] at g1 g2
      by_cases c : i < HT.sIx st.length st.length hi - HT.sIx st.length 0 lo
      · rw [if_pos c, List.getElem?_drop] at g1 g2
        exact Ex.new np _ _ (t3 _ t s g1 g2)
      · rw [if_neg c] at g1
        cases g1
theorem es_take {n : Nat} {tl th : TO} (h : EvSt te σ H st) (h1 : Evl.EvO tl σ H none) (h2 : Evl.EvO th σ H (some (n : Int))) : EvSt (tSl (rSlL K) te tl th) σ H (st.take n) := (es_sl h h1 h2).is (by
  rw [HT.sIx_none, HT.sIx_nat, List.drop_zero, Nat.sub_zero]
  by_cases c : n ≤ st.length
  · rw [Nat.min_eq_left c]
  · rw [Nat.min_eq_right (by omega), List.take_length, List.take_of_length_le (by omega)])
theorem es_drop {n : Nat} {tl th : TO} (h : EvSt te σ H st) (h1 : Evl.EvO tl σ H (some (n : Int))) (h2 : Evl.EvO th σ H none) : EvSt (tSl (rSlL K) te tl th) σ H (st.drop n) := (es_sl h h1 h2).is (by
  rw [HT.sIx_none, HT.sIx_nat]
  by_cases c : n ≤ st.length
  · rw [Nat.min_eq_left c]
    exact List.take_of_length_le (by rw [List.length_drop]; exact Nat.le_refl _)
  · rw [Nat.min_eq_right (by omega), List.drop_length, List.drop_of_length_le (by omega), List.take_nil])
theorem es_cat (h : EvSt ta σ H st) (k : EvSt tb σ H su) (hz : st.length + su.length ≤ 100000) : EvSt (tOp rCat ta tb) σ H (st ++ su) := fun H1 e Q q =>
  h H1 e _ fun a H2 e2 hS => k H2 (e.trans e2) _ fun b H3 e3 hT => by
    obtain ⟨ts, t1, t2, t3⟩ := hS.ex e3
    obtain ⟨us, u1, u2, u3⟩ := hT
    refine ⟨a, b, _, _, rfl, rfl, t1, u1, by rw [List.length_map, List.length_map, t2, u2]; exact Evl.sz_of hz, fun p np => ?_⟩
    refine q p _ ((e2.trans e3).trans (Ex.new np)) ⟨ts ++ us, by rw [upd_same, List.map_append], by rw [List.length_append, List.length_append, t2, u2], fun i t s g1 g2 => ?_⟩
    by_cases c : i < ts.length
    · rw [List.getElem?_append_left c] at g1
      rw [List.getElem?_append_left (by omega)] at g2
      exact Ex.new np _ _ (t3 i t s g1 g2)
    · rw [List.getElem?_append_right (by omega)] at g1
      rw [List.getElem?_append_right (by omega), ← t2] at g2
      exact Ex.new np _ _ (u3 _ t s g1 g2)
theorem es_rev (h : EvSt te σ H st) : EvSt (tRevL K te) σ H st.reverse := fun H1 e Q q =>
  h H1 e _ fun a H2 e2 hS => by
    obtain ⟨ts, t1, t2, t3⟩ := hS
    refine ⟨a, _, rfl, SqL.of t1, fun p np => q p _ (e2.trans (Ex.new np)) ⟨ts.reverse, by rw [upd_same, List.map_reverse], by rw [List.length_reverse, List.length_reverse, t2], fun i t s g1 g2 => ?_⟩⟩
    have c : i < ts.length := by
      have := (List.getElem?_eq_some_iff.mp g1).1
      rwa [List.length_reverse] at this
    rw [List.getElem?_reverse c] at g1
    rw [List.getElem?_reverse (by omega), ← t2] at g2
    exact Ex.new np _ _ (t3 _ t s g1 g2)
/-- [t] of a tuple -/
theorem es_one {i : Nat} {t : Addr} {x y : Int} (h : σ[i]? = some (some (.ref t))) (ht : H t = some (.tup [.int x, .int y])) : EvSt (tLst (tCons (tVar i) tNil)) σ H [(x, y)] := fun H1 e Q q =>
  ⟨_, h, by show 1 ≤ sizeLine; decide, fun p np => q p _ (Ex.new np) ⟨[t], by rw [upd_same]; rfl, rfl, fun j t' s g1 g2 => by
    cases j with
    | zero =>
      have g1 := Option.some.inj g1
      have g2 := Option.some.inj g2
      subst g1 g2
      exact Ex.new np _ _ (e _ _ ht)
    | succ j => simp at g1⟩⟩
/-- [(x, y)] -/
theorem es_pair {x y : Int} (h : Ev ta σ H (.int x)) (k : Ev tb σ H (.int y)) : EvSt (tLst (tCons (tTup (tCons ta (tCons tb tNil))) tNil)) σ H [(x, y)] := fun H1 e Q q =>
  h H1 e _ fun H2 e2 => k H2 (e.trans e2) _ fun H3 e3 => ⟨by show 2 ≤ sizeLine; decide, fun t nt => ⟨by show 1 ≤ sizeLine; decide, fun p np => q p _ (((e2.trans e3).trans (Ex.new nt)).trans (Ex.new np)) ⟨[t], by rw [upd_same]; rfl, rfl, fun j t' s g1 g2 => by
    cases j with
    | zero =>
      have g1 := Option.some.inj g1
      have g2 := Option.some.inj g2
      subst g1 g2
      exact Ex.new np _ _ upd_same
    | succ j => simp at g1⟩⟩⟩
theorem es_nil : EvSt (tLst tNil) σ H [] := fun H1 e Q q => ⟨Nat.zero_le _, fun p np => q p _ (Ex.new np) (stones_nil upd_same)⟩
theorem q_st {i : Nat} {tz : TS} {D : Ends} (h : EvSt te σ H st) (k : ∀ p H1, Ex H H1 → StonesAt H1 p st → tz D (σ.set i (some (.ref p))) H1) : tSeq (tAsg te (gName i)) tz D σ H := h H (Ex.refl H) _ fun p H1 e hS => k p H1 e hS
theorem ev_lenSt {a : Addr} {i : Nat} (h : σ[i]? = some (some (.ref a))) (hS : StonesAt H a st) : Ev (tCB (Evl.rLenS K) (tCons (tVar i) tNil)) σ H (.int (st.length : Int)) := by
  obtain ⟨ts, t1, t2, t3⟩ := hS
  have h := Evl.ev_len (K := K) (Evl.ev_var (H := H) h) (SqL.of t1)
  rw [List.length_map, t2] at h
  exact h
end
end Sw
namespace Sw
/-! ## steps, trails -/
abbrev Step := Nat × Nat
def lie (st : List (Int × Int)) (s : Step) : Int × Int := if s.2 = 0 then (sa st s.1, sb st s.1) else (sb st s.1, sa st s.1)
def hasE (st : List (Int × Int)) (x : Int) (p : Nat) : Bool := decide (sa st p = x ∨ sb st p = x)
def stepOf (st : List (Int × Int)) (x : Int) (p : Nat) : Step := (p, if sa st p = x then 0 else 1)
theorem hasE_iff {st : List (Int × Int)} {x : Int} {p : Nat} : hasE st x p = true ↔ sa st p = x ∨ sb st p = x := decide_eq_true_iff
theorem lie_step {st : List (Int × Int)} {x : Int} {p : Nat} (h : hasE st x p = true) : (lie st (stepOf st x p)).1 = x := by
  unfold lie stepOf
  by_cases c : sa st p = x
  · rw [if_pos c]
    exact c
  · rw [if_neg c]
    exact (hasE_iff.mp h).resolve_left c
/-- a trail from a number to a number -/
def Tr (st : List (Int × Int)) : Int → List Step → Int → Prop
  | x, [], y => x = y
  | x, s :: c, y => (lie st s).1 = x ∧ Tr st (lie st s).2 c y
theorem Tr.app {st : List (Int × Int)} : ∀ {x y z : Int} {c d : List Step}, Tr st x c y → Tr st y d z → Tr st x (c ++ d) z
  | _, _, _, [], _, h, k => by
    have h : _ = _ := h
    rw [h]
    exact k
  | _, _, _, _ :: _, _, h, k => ⟨h.1, Tr.app h.2 k⟩
def plc (c : List Step) : List Nat := c.map (·.1)
theorem lie_mem {st : List (Int × Int)} (s : Step) (z : Int) : [sa st s.1, sb st s.1].count z = (if z = (lie st s).1 then 1 else 0) + (if z = (lie st s).2 then 1 else 0) := by
  have key : ∀ a b : Int, [a, b].count z = (if z = a then 1 else 0) + (if z = b then 1 else 0) := fun a b => by
    rw [List.count_cons, List.count_cons, List.count_nil]
    by_cases c1 : a = z
    · by_cases c2 : b = z
      · simp [c1, c2]
      · simp [c1, c2, Ne.symm c2]
    · by_cases c2 : b = z
      · simp [c1, c2, Ne.symm c1]
      · simp [c1, c2, Ne.symm c1, Ne.symm c2]
  unfold lie
  rw [key]
  by_cases c : s.2 = 0
  · rw [if_pos c]
  · rw [if_neg c]
    exact Nat.add_comm _ _
/-- at each number but the first and the last a trail comes by as often as it goes -/
theorem Tr.even {st : List (Int × Int)} (z : Int) : ∀ {x y : Int} {c : List Step}, Tr st x c y → ((endsOf st (plc c)).count z + (if z = x then 1 else 0) + (if z = y then 1 else 0)) % 2 = 0
  | x, y, [], h => by
    have h : x = y := h
    subst h
    show (0 + _ + _) % 2 = 0
    split <;> rfl
  | x, y, s :: c, h => by
    have ih := Tr.even z h.2
    have e : endsOf st (plc (s :: c)) = [sa st s.1, sb st s.1] ++ endsOf st (plc c) := rfl
    rw [e, List.count_append, lie_mem, h.1]
    omega
/-! ## a walk -/
def walkN (st : List (Int × Int)) : Nat → List Nat → Int → List Step × List Nat × Int
  | 0, F, x => ([], F, x)
  | n + 1, F, x => match F.find? (hasE st x) with
    | none => ([], F, x)
    | some p => ((stepOf st x p) :: (walkN st n (F.erase p) (lie st (stepOf st x p)).2).1, (walkN st n (F.erase p) (lie st (stepOf st x p)).2).2)
def walkF (st : List (Int × Int)) (F : List Nat) (x : Int) : List Step × List Nat × Int := walkN st F.length F x
theorem walk_none {st : List (Int × Int)} {F : List Nat} {x : Int} (h : F.find? (hasE st x) = none) : walkF st F x = ([], F, x) := by
  unfold walkF
  cases F with
  | nil => rfl
  | cons p F =>
    show walkN st (F.length + 1) (p :: F) x = _
    unfold walkN
    rw [h]
theorem walk_some {st : List (Int × Int)} {F : List Nat} {x : Int} {p : Nat} (h : F.find? (hasE st x) = some p) :
    walkF st F x = ((stepOf st x p) :: (walkF st (F.erase p) (lie st (stepOf st x p)).2).1, (walkF st (F.erase p) (lie st (stepOf st x p)).2).2) := by
  have m : p ∈ F := List.mem_of_find?_eq_some h
  have hl : F.length = (F.erase p).length + 1 := by
    rw [List.length_erase_of_mem m]
    have := List.length_pos_of_mem m
    omega
  unfold walkF
  rw [hl]
  conv => lhs; unfold walkN
  rw [h]
structure WalkOk (st : List (Int × Int)) (F : List Nat) (x : Int) (w : List Step) (F' : List Nat) (y : Int) : Prop where
  tr : Tr st x w y
  perm : (plc w ++ F').Perm F
  sub : F'.Sublist F
  stuck : ∀ p ∈ F', hasE st y p = false
  bit : ∀ s ∈ w, s.2 ≤ 1
  has : w = [] → ∀ p ∈ F, hasE st x p = false
theorem walk_ok (st : List (Int × Int)) : ∀ (n : Nat) (F : List Nat) (x : Int), F.length = n → WalkOk st F x (walkF st F x).1 (walkF st F x).2.1 (walkF st F x).2.2
  | n, F, x, hn => by
    cases h : F.find? (hasE st x) with
    | none =>
      rw [walk_none h]
      have no : ∀ p ∈ F, hasE st x p = false := fun p hp => by
        have := List.find?_eq_none.mp h p hp
        exact Bool.eq_false_iff.mpr this
      exact ⟨rfl, List.Perm.refl _, List.Sublist.refl _, no, fun s hs => (nomatch hs), fun _ => no⟩
    | some p =>
      have m : p ∈ F := List.mem_of_find?_eq_some h
      have hp : hasE st x p = true := List.find?_some h
      have hl : (F.erase p).length < n := by
        rw [List.length_erase_of_mem m]
        have := List.length_pos_of_mem m
        omega
      have ih := walk_ok st (F.erase p).length (F.erase p) (lie st (stepOf st x p)).2 rfl
      rw [walk_some h]
      refine ⟨⟨lie_step hp, ih.tr⟩, ?_, ih.sub.trans List.erase_sublist, ih.stuck, fun s hs => ?_, fun e => (nomatch e)⟩
      · exact (ih.perm.cons p).trans (List.perm_cons_erase m).symm
      · rcases List.mem_cons.mp hs with e | hs
        · rw [e]
          unfold stepOf
          dsimp only
          split <;> omega
        · exact ih.bit s hs
  termination_by n => n
theorem walk_len (st : List (Int × Int)) (F : List Nat) (x : Int) : (walkF st F x).1.length + (walkF st F x).2.1.length = F.length := by
  have := (walk_ok st _ F x rfl).perm.length_eq
  rw [List.length_append] at this
  unfold plc at this
  rw [List.length_map] at this
  exact this
/-- the last step tells where it ends -/
theorem Tr.last {st : List (Int × Int)} : ∀ {x y : Int} {c : List Step} (h : c ≠ []), Tr st x c y → (lie st (c.getLast h)).2 = y
  | _, _, [s], _, t => t.2
  | _, _, s :: u :: c, _, t => by
    rw [List.getLast_cons (by simp)]
    exact Tr.last (c := u :: c) (by simp) t.2
theorem count_perm {st : List (Int × Int)} {l m : List Nat} (h : l.Perm m) (z : Int) : (endsOf st l).count z = (endsOf st m).count z := by
  unfold endsOf
  exact (h.flatMap_right _).count_eq z
theorem count_none {st : List (Int × Int)} {l : List Nat} {z : Int} (h : ∀ p ∈ l, hasE st z p = false) : (endsOf st l).count z = 0 := by
  refine List.count_eq_zero.mpr fun m => ?_
  obtain ⟨p, hp, e⟩ := mem_endsOf.mp m
  have := h p hp
  rw [hasE_iff.mpr (e.elim (fun e => .inl e.symm) fun e => .inr e.symm)] at this
  cases this
/-- how often a number stands at the free ones -/
def cnt (st : List (Int × Int)) (F : List Nat) (z : Int) : Nat := (endsOf st F).count z
theorem WalkOk.par {st : List (Int × Int)} {F F' : List Nat} {x y : Int} {w : List Step} (h : WalkOk st F x w F' y) (z : Int) : (cnt st F z + cnt st F' z + (if z = x then 1 else 0) + (if z = y then 1 else 0)) % 2 = 0 := by
  have e := h.tr.even z
  have c : cnt st F z = (endsOf st (plc w)).count z + cnt st F' z := by
    unfold cnt
    rw [← count_perm h.perm, endsOf_append, List.count_append]
  omega
theorem WalkOk.end0 {st : List (Int × Int)} {F F' : List Nat} {x y : Int} {w : List Step} (h : WalkOk st F x w F' y) : cnt st F' y = 0 := count_none h.stuck
theorem WalkOk.back {st : List (Int × Int)} {F F' : List Nat} {x y : Int} {w : List Step} (h : WalkOk st F x w F' y) (e : cnt st F y % 2 = 0) : y = x := by
  have p := h.par y
  rw [h.end0, if_pos rfl] at p
  by_cases c : y = x
  · exact c
  · rw [if_neg c] at p
    omega
theorem WalkOk.away {st : List (Int × Int)} {F F' : List Nat} {x y : Int} {w : List Step} (h : WalkOk st F x w F' y) (o : cnt st F x % 2 = 1) : y ≠ x ∧ cnt st F y % 2 = 1 := by
  have p := h.par y
  rw [h.end0, if_pos rfl] at p
  have ne : y ≠ x := fun e => by
    subst e
    rw [if_pos rfl] at p
    omega
  rw [if_neg ne] at p
  exact ⟨ne, by omega⟩
theorem Tr.conn {st : List (Int × Int)} : ∀ {x y : Int} {c : List Step}, (∀ s ∈ c, s.1 < st.length) → Tr st x c y → Conn st x y ∧ ∀ s ∈ c, Conn st x (lie st s).1 ∧ Conn st x (lie st s).2
  | x, y, [], _, h => by
    have h : x = y := h
    subst h
    exact ⟨.refl _, fun s hs => nomatch hs⟩
  | x, y, s :: c, hl, h => by
    obtain ⟨h1, h2⟩ := h
    have ih := Tr.conn (fun s hs => hl s (List.mem_cons.mpr (.inr hs))) h2
    have e : Conn st (lie st s).1 (lie st s).2 := by
      have m := st_mem (hl s List.mem_cons_self)
      unfold lie
      split
      · exact .edge m
      · exact .symm (.edge m)
    rw [h1] at e
    refine ⟨e.trans ih.1, fun t ht => ?_⟩
    rcases List.mem_cons.mp ht with q | ht
    · rw [q, h1]
      exact ⟨.refl _, e⟩
    · exact ⟨e.trans (ih.2 t ht).1, e.trans (ih.2 t ht).2⟩
/-! ## letting in -/
def fillF (st : List (Int × Int)) (F : List Nat) (c : List Step) : List Step × List Nat := match c with
  | [] => ([], F)
  | s :: c => match h : (walkF st F (lie st s).1).1 with
    | [] => (s :: (fillF st (walkF st F (lie st s).1).2.1 c).1, (fillF st (walkF st F (lie st s).1).2.1 c).2)
    | u :: w => (u :: (fillF st (walkF st F (lie st s).1).2.1 (w ++ s :: c)).1, (fillF st (walkF st F (lie st s).1).2.1 (w ++ s :: c)).2)
  termination_by c.length + 2 * F.length
  decreasing_by
    · have := walk_len st F (lie st s).1
      simp only [List.length_cons]
      omega
    · have := walk_len st F (lie st s).1
      rw [h] at this
      simp only [List.length_cons, List.length_append] at this ⊢
      omega
theorem fill_nil (st : List (Int × Int)) (F : List Nat) : fillF st F [] = ([], F) := by rw [fillF]
/-- one turn of it -/
theorem fill_cons {st : List (Int × Int)} {F : List Nat} {s u : Step} {c d : List Step} (h : (walkF st F (lie st s).1).1 ++ s :: c = u :: d) : fillF st F (s :: c) = (u :: (fillF st (walkF st F (lie st s).1).2.1 d).1, (fillF st (walkF st F (lie st s).1).2.1 d).2) := by
  rw [fillF]
  split
  · rename_i e
    rw [e] at h
    have h : s :: c = u :: d := h
    cases h
    rfl
  · rename_i v w e
    rw [e] at h
    have h : v :: (w ++ s :: c) = u :: d := h
    cases h
    rfl
structure FillOk (st : List (Int × Int)) (F : List Nat) (x : Int) (c : List Step) (y : Int) (c' : List Step) (F' : List Nat) : Prop where
  tr : Tr st x c' y
  perm : (plc c' ++ F').Perm (plc c ++ F)
  sub : F'.Sublist F
  even : ∀ z, Conn st x z → cnt st F' z % 2 = 0
  out : ∀ s ∈ c', ∀ p ∈ F', hasE st (lie st s).1 p = false
  bit : ∀ s ∈ c', s.2 ≤ 1
  nil : c' = [] → c = []
theorem fill_ok {st : List (Int × Int)} : ∀ (n : Nat) (F : List Nat) (x : Int) (c : List Step) (y : Int), c.length + 2 * F.length = n → (∀ p ∈ F, p < st.length) → (∀ s ∈ c, s.1 < st.length) → (∀ s ∈ c, s.2 ≤ 1) → (∀ z, Conn st x z → cnt st F z % 2 = 0) → Tr st x c y →
    FillOk st F x c y (fillF st F c).1 (fillF st F c).2
  | n, F, x, [], y, _, _, _, _, he, ht => by
    rw [fill_nil]
    exact ⟨ht, List.Perm.refl _, List.Sublist.refl _, he, fun s hs => (nomatch hs), fun s hs => (nomatch hs), fun _ => rfl⟩
  | n, F, x, s :: c, y, hn, hF, hc, hb, he, ht => by
    have hx : (lie st s).1 = x := ht.1
    have w := walk_ok st _ F (lie st s).1 rfl
    have wl := walk_len st F (lie st s).1
    rw [hx] at w wl
    have hw : ∀ t ∈ (walkF st F x).1, t.1 < st.length := fun t m => hF _ (w.perm.mem_iff.mp (List.mem_append.mpr (.inl (List.mem_map.mpr ⟨t, m, rfl⟩))))
    have wc := w.tr.conn hw
    have back := w.back (he _ wc.1)
    have wt := w.tr
    rw [back] at wt
    have stuck := w.stuck
    rw [back] at stuck
    have evs : ∀ z, Conn st x z → cnt st (walkF st F x).2.1 z % 2 = 0 := fun z hz => by
      have p := w.par z
      have e := he z hz
      rw [back] at p
      omega
    obtain ⟨u, d, hd⟩ : ∃ u d, (walkF st F (lie st s).1).1 ++ s :: c = u :: d := by
      cases h : (walkF st F (lie st s).1).1 with
      | nil => exact ⟨s, c, rfl⟩
      | cons v w => exact ⟨v, w ++ s :: c, rfl⟩
    have ta : Tr st x (u :: d) y := by
      rw [← hd, hx]
      exact wt.app ht
    rw [fill_cons hd]
    rw [hx] at hd ⊢
    have pl : ∀ t ∈ u :: d, t.1 < st.length ∧ t.2 ≤ 1 := fun t m => by
      rw [← hd] at m
      rcases List.mem_append.mp m with m | m
      · exact ⟨hw t m, w.bit t m⟩
      · exact ⟨hc t m, hb t m⟩
    have dl : d.length = (walkF st F x).1.length + c.length := by
      have := congrArg List.length hd
      simp only [List.length_append, List.length_cons] at this
      omega
    have hlt : d.length + 2 * (walkF st F x).2.1.length < n := by
      rw [← hn, List.length_cons]
      omega
    have cu : Conn st x (lie st u).2 := by
      have := (ta.conn fun t m => (pl t m).1).2 u List.mem_cons_self
      exact this.2
    have ih := fill_ok (st := st) _ (walkF st F x).2.1 (lie st u).2 d y rfl (fun p hp => hF p (w.sub.subset hp)) (fun t m => (pl t (List.mem_cons.mpr (.inr m))).1) (fun t m => (pl t (List.mem_cons.mpr (.inr m))).2) (fun z hz => evs z (cu.trans hz)) ta.2
    refine ⟨⟨ta.1, ih.tr⟩, ?_, ih.sub.trans w.sub, fun z hz => ih.even z (cu.symm.trans hz), fun t m p hp => ?_, fun t m => ?_, fun e => (nomatch e)⟩
    · have p1 : (plc (u :: (fillF st (walkF st F x).2.1 d).1) ++ (fillF st (walkF st F x).2.1 d).2).Perm (plc (u :: d) ++ (walkF st F x).2.1) := ih.perm.cons u.1
      refine p1.trans ?_
      rw [← hd]
      unfold plc at *
      rw [List.map_append, List.append_assoc]
      have p2 : (List.map (·.1) (s :: c) ++ (walkF st F x).2.1).Perm ((walkF st F x).2.1 ++ List.map (·.1) (s :: c)) := List.perm_append_comm
      refine (List.Perm.append_left _ p2).trans ?_
      rw [← List.append_assoc]
      exact (w.perm.append_right _).trans List.perm_append_comm
    · rcases List.mem_cons.mp m with e | m
      · rw [e, ta.1]
        exact stuck p (ih.sub.subset hp)
      · exact ih.out t m p hp
    · rcases List.mem_cons.mp m with e | m
      · rw [e]
        exact (pl u List.mem_cons_self).2
      · exact ih.bit t m
  termination_by n => n
end Sw
namespace Sw
/-! ## all the walks of a group, all filled -/
def walksF (st : List (Int × Int)) : List Int → List Int → List Nat → List (List Step) × List Nat
  | [], _, F => ([], F)
  | x :: xs, en, F => if x ∈ en then walksF st xs en F else
    ((walkF st F x).1 :: (walksF st xs (en ++ [(walkF st F x).2.2]) (walkF st F x).2.1).1, (walksF st xs (en ++ [(walkF st F x).2.2]) (walkF st F x).2.1).2)
def fillsF (st : List (Int × Int)) : List (List Step) → List Nat → List (List Step) × List Nat
  | [], F => ([], F)
  | c :: cs, F => ((fillF st F c).1 :: (fillsF st cs (fillF st F c).2).1, (fillsF st cs (fillF st F c).2).2)
def groupF (st : List (Int × Int)) (F : List Nat) (xs : List Int) : List (List Step) × List Nat := fillsF st (walksF st xs [] F).1 (walksF st xs [] F).2
def startsF (st : List (Int × Int)) (g : List Nat) : List Int := if odds st g = [] then [sa st (g.headD 0)] else odds st g
def laidG (st : List (Int × Int)) : List (List Nat) → List Nat → List (List Step) × List Nat
  | [], F => ([], F)
  | g :: gs, F => ((groupF st F (startsF st g)).1 ++ (laidG st gs (groupF st F (startsF st g)).2).1, (laidG st gs (groupF st F (startsF st g)).2).2)
def laidF (st : List (Int × Int)) : List (List Step) := (laidG st (grps st) (List.range st.length)).1
def plcs (cs : List (List Step)) : List Nat := cs.flatMap plc
/-- a chain of a class: from where to where, and nothing free where it ends -/
def TrP (st : List (Int × Int)) (x0 : Int) (b : Prop) (F : List Nat) (w : List Step) : Prop :=
  ∃ x y, Tr st x w y ∧ w ≠ [] ∧ (∀ s ∈ w, s.2 ≤ 1 ∧ s.1 < st.length) ∧ Conn st x0 x ∧ (x = y ↔ b) ∧ ∀ p ∈ F, hasE st y p = false
theorem TrP.sub {st : List (Int × Int)} {x0 : Int} {b : Prop} {F F' : List Nat} {w : List Step} (h : TrP st x0 b F w) (s : F'.Sublist F) : TrP st x0 b F' w := by
  obtain ⟨x, y, h1, h2, h3, h4, h5, h6⟩ := h
  exact ⟨x, y, h1, h2, h3, h4, h5, fun p hp => h6 p (s.subset hp)⟩
theorem filter_out {l : List Int} {en : List Int} {y : Int} (hn : l.Nodup) (hy : y ∈ l) (he : y ∉ en) :
    (l.filter fun z => decide (z ∉ en)).length = (l.filter fun z => decide (z ∉ en ++ [y])).length + 1 := by
  induction l with
  | nil => cases hy
  | cons a l ih =>
    obtain ⟨h1, h2⟩ := List.nodup_cons.mp hn
    rw [List.filter_cons, List.filter_cons]
    rcases List.mem_cons.mp hy with e | hy
    · subst e
      rw [if_pos (decide_eq_true he), if_neg (by rw [decide_eq_false (fun z => z (List.mem_append.mpr (.inr (List.mem_singleton.mpr rfl))))]; exact Bool.false_ne_true), List.length_cons]
      have : (l.filter fun z => decide (z ∉ en)) = l.filter fun z => decide (z ∉ en ++ [y]) := by
        refine List.filter_congr fun z hz => ?_
        refine Bool.eq_iff_iff.mpr ?_
        rw [decide_eq_true_eq, decide_eq_true_eq, List.mem_append, List.mem_singleton, not_or]
        exact ⟨fun q => ⟨q, fun e => h1 (by rw [← e]; exact hz)⟩, fun q => q.1⟩
      rw [this]
    · have ih := ih h2 hy
      have ne : a ≠ y := fun e => h1 (by rw [e]; exact hy)
      by_cases c : a ∈ en
      · rw [if_neg (by rw [decide_eq_false (fun z => z c)]; exact Bool.false_ne_true), if_neg (by rw [decide_eq_false (fun z => z (List.mem_append.mpr (.inl c)))]; exact Bool.false_ne_true)]
        exact ih
      · rw [if_pos (decide_eq_true c), if_pos (decide_eq_true (show ¬ a ∈ en ++ [y] from fun z => (List.mem_append.mp z).elim c fun z => ne (List.mem_singleton.mp z))), List.length_cons, List.length_cons, ih]
structure WsOk (st : List (Int × Int)) (x0 : Int) (b : Prop) (F : List Nat) (ws : List (List Step)) (F' : List Nat) : Prop where
  tr : ∀ w ∈ ws, TrP st x0 b F' w
  perm : (plcs ws ++ F').Perm F
  sub : F'.Sublist F
  even : ∀ z, Conn st x0 z → cnt st F' z % 2 = 0
theorem walks_ok {st : List (Int × Int)} {x0 : Int} : ∀ (xs en : List Int) (F : List Nat), (∀ p ∈ F, p < st.length) → xs.Nodup → (∀ x ∈ xs, Conn st x0 x) → (∀ z, Conn st x0 z → (cnt st F z % 2 = 1 ↔ z ∈ xs ∧ z ∉ en)) →
    WsOk st x0 False F (walksF st xs en F).1 (walksF st xs en F).2 ∧ 2 * (walksF st xs en F).1.length = (xs.filter fun z => decide (z ∉ en)).length
  | [], en, F, hF, _, _, hz => by
    refine ⟨⟨fun w hw => (nomatch hw), List.Perm.refl _, List.Sublist.refl _, fun z c => ?_⟩, rfl⟩
    have := hz z c
    have n : ¬ cnt st F z % 2 = 1 := fun o => by
      have := (this.mp o).1
      cases this
    show cnt st F z % 2 = 0
    omega
  | x :: xs, en, F, hF, hn, hc, hz => by
    obtain ⟨h1, h2⟩ := List.nodup_cons.mp hn
    have hc2 : ∀ x ∈ xs, Conn st x0 x := fun z hz => hc z (List.mem_cons.mpr (.inr hz))
    have hcx := hc x List.mem_cons_self
    unfold walksF
    by_cases c : x ∈ en
    · rw [if_pos c, List.filter_cons, if_neg (by rw [decide_eq_false (fun z => z c)]; exact Bool.false_ne_true)]
      refine walks_ok xs en F hF h2 hc2 fun z hz2 => ?_
      rw [hz z hz2, List.mem_cons]
      constructor
      · rintro ⟨e | e, q⟩
        · rw [e] at q
          exact absurd c q
        · exact ⟨e, q⟩
      · rintro ⟨e, q⟩
        exact ⟨.inr e, q⟩
    · rw [if_neg c, List.filter_cons, if_pos (decide_eq_true c)]
      have ox : cnt st F x % 2 = 1 := (hz x hcx).mpr ⟨List.mem_cons_self, c⟩
      have w := walk_ok st _ F x rfl
      obtain ⟨yx, oy⟩ := w.away ox
      have hw : ∀ t ∈ (walkF st F x).1, t.1 < st.length := fun t m => hF _ (w.perm.mem_iff.mp (List.mem_append.mpr (.inl (List.mem_map.mpr ⟨t, m, rfl⟩))))
      have wc := w.tr.conn hw
      have hcy : Conn st x0 (walkF st F x).2.2 := hcx.trans wc.1
      obtain ⟨my, ny⟩ := (hz _ hcy).mp oy
      have my : (walkF st F x).2.2 ∈ xs := (List.mem_cons.mp my).resolve_left yx
      have hz' : ∀ z, Conn st x0 z → (cnt st (walkF st F x).2.1 z % 2 = 1 ↔ z ∈ xs ∧ z ∉ en ++ [(walkF st F x).2.2]) := fun z c0 => by
        have p := w.par z
        have o := hz z c0
        rw [List.mem_append, List.mem_singleton, not_or]
        by_cases e1 : z = x
        · subst e1
          rw [if_pos rfl, if_neg (fun e => yx e.symm)] at p
          constructor
          · intro q
            omega
          · rintro ⟨q, _⟩
            exact absurd q h1
        · by_cases e2 : z = (walkF st F x).2.2
          · rw [if_neg e1, if_pos e2] at p
            rw [← e2] at oy
            constructor
            · intro q
              omega
            · rintro ⟨_, _, q⟩
              exact absurd e2 q
          · rw [if_neg e1, if_neg e2] at p
            rw [List.mem_cons] at o
            constructor
            · intro q
              obtain ⟨a, b⟩ := o.mp (by omega)
              exact ⟨a.resolve_left e1, b, e2⟩
            · rintro ⟨a, b, _⟩
              have := o.mpr ⟨.inr a, b⟩
              omega
      obtain ⟨ih, il⟩ := walks_ok xs (en ++ [(walkF st F x).2.2]) (walkF st F x).2.1 (fun p hp => hF p (w.sub.subset hp)) h2 hc2 hz'
      refine ⟨⟨fun v hv => ?_, ?_, ih.sub.trans w.sub, ih.even⟩, ?_⟩
      · rcases List.mem_cons.mp hv with e | hv
        · subst e
          refine ⟨x, _, w.tr, fun e => ?_, fun s hs => ⟨w.bit s hs, hw s hs⟩, hcx, ⟨fun e => yx e.symm, False.elim⟩, fun p hp => w.stuck p (ih.sub.subset hp)⟩
          have := count_none (w.has e)
          unfold cnt at ox
          omega
        · exact ih.tr v hv
      · show ((plc (walkF st F x).1 ++ plcs _) ++ _).Perm F
        rw [List.append_assoc]
        exact (ih.perm.append_left _).trans w.perm
      · rw [List.length_cons, List.length_cons, filter_out h2 my ny]
        omega
theorem walks_one {st : List (Int × Int)} {x0 : Int} {F : List Nat} (hF : ∀ p ∈ F, p < st.length) (hz : ∀ z, Conn st x0 z → cnt st F z % 2 = 0) {p : Nat} (hp : p ∈ F) (h : hasE st x0 p = true) :
    WsOk st x0 True F (walksF st [x0] [] F).1 (walksF st [x0] [] F).2 ∧ (walksF st [x0] [] F).1.length = 1 := by
  have w := walk_ok st _ F x0 rfl
  have hw : ∀ t ∈ (walkF st F x0).1, t.1 < st.length := fun t m => hF _ (w.perm.mem_iff.mp (List.mem_append.mpr (.inl (List.mem_map.mpr ⟨t, m, rfl⟩))))
  have wc := w.tr.conn hw
  have back := w.back (hz _ wc.1)
  have e : walksF st [x0] [] F = ([(walkF st F x0).1], (walkF st F x0).2.1) := by
    unfold walksF
    rw [if_neg (by simp)]
    rfl
  rw [e]
  refine ⟨⟨fun v hv => ?_, ?_, w.sub, fun z c => ?_⟩, rfl⟩
  · rw [List.mem_singleton.mp hv]
    refine ⟨x0, _, w.tr, fun e => ?_, fun s hs => ⟨w.bit s hs, hw s hs⟩, .refl _, ⟨fun _ => trivial, fun _ => back.symm⟩, w.stuck⟩
    have := w.has e p hp
    rw [h] at this
    cases this
  · show (plc (walkF st F x0).1 ++ [] ++ _).Perm F
    rw [List.append_nil]
    exact w.perm
  · have p := w.par z
    have e := hz z c
    rw [back] at p
    show cnt st (walkF st F x0).2.1 z % 2 = 0
    omega
structure FsOk (st : List (Int × Int)) (x0 : Int) (b : Prop) (ws : List (List Step)) (F : List Nat) (cs : List (List Step)) (F' : List Nat) : Prop where
  tr : ∀ c ∈ cs, TrP st x0 b F' c ∧ ∀ s ∈ c, ∀ p ∈ F', hasE st (lie st s).1 p = false
  perm : (plcs cs ++ F').Perm (plcs ws ++ F)
  sub : F'.Sublist F
  len : cs.length = ws.length
theorem fills_ok {st : List (Int × Int)} {x0 : Int} {b : Prop} : ∀ (ws : List (List Step)) (F : List Nat), (∀ p ∈ F, p < st.length) → (∀ z, Conn st x0 z → cnt st F z % 2 = 0) → (∀ w ∈ ws, TrP st x0 b F w) →
    FsOk st x0 b ws F (fillsF st ws F).1 (fillsF st ws F).2
  | [], F, _, _, _ => ⟨fun c hc => (nomatch hc), List.Perm.refl _, List.Sublist.refl _, rfl⟩
  | w :: ws, F, hF, hz, ht => by
    obtain ⟨x, y, t1, t2, t3, t4, t5, t6⟩ := ht w List.mem_cons_self
    have f := fill_ok (st := st) _ F x w y rfl hF (fun s hs => (t3 s hs).2) (fun s hs => (t3 s hs).1) (fun z c => hz z (t4.trans c)) t1
    have ih := fills_ok ws (fillF st F w).2 (fun p hp => hF p (f.sub.subset hp)) (fun z c => f.even z (t4.symm.trans c)) fun v hv => (ht v (List.mem_cons.mpr (.inr hv))).sub f.sub
    unfold fillsF
    refine ⟨fun c hc => ?_, ?_, ih.sub.trans f.sub, ?_⟩
    · rcases List.mem_cons.mp hc with e | hc
      · subst e
        refine ⟨⟨x, y, f.tr, fun e => t2 (f.nil e), fun s hs => ⟨f.bit s hs, ?_⟩, t4, t5, fun p hp => t6 p (f.sub.subset (ih.sub.subset hp))⟩, fun s hs p hp => f.out s hs p (ih.sub.subset hp)⟩
        have m : s.1 ∈ plc w ++ F := f.perm.mem_iff.mp (List.mem_append.mpr (.inl (List.mem_map.mpr ⟨s, hs, rfl⟩)))
        rcases List.mem_append.mp m with m | m
        · obtain ⟨u, hu, e⟩ := List.mem_map.mp m
          rw [← e]
          exact (t3 u hu).2
        · exact hF _ m
      · exact ih.tr c hc
    · show ((plc (fillF st F w).1 ++ plcs _) ++ _).Perm (plc w ++ plcs ws ++ F)
      rw [List.append_assoc]
      refine (ih.perm.append_left _).trans ?_
      have p1 : (plc (fillF st F w).1 ++ (plcs ws ++ (fillF st F w).2)).Perm (plcs ws ++ (plc (fillF st F w).1 ++ (fillF st F w).2)) := by
        rw [← List.append_assoc, ← List.append_assoc]
        exact List.Perm.append_right _ List.perm_append_comm
      refine p1.trans ((f.perm.append_left _).trans ?_)
      rw [← List.append_assoc]
      exact List.Perm.append_right _ List.perm_append_comm
    · rw [List.length_cons, List.length_cons, ih.len]
/-! ## a group -/
theorem Tr.far {st : List (Int × Int)} {F : List Nat} : ∀ {x y : Int} {c : List Step}, Tr st x c y → (∀ p ∈ F, hasE st y p = false) → (∀ s ∈ c, ∀ p ∈ F, hasE st (lie st s).1 p = false) → ∀ s ∈ c, ∀ p ∈ F, hasE st (lie st s).2 p = false
  | _, _, [], _, _, _, s, hs => nomatch hs
  | x, y, s :: c, t, hy, h, u, hu => by
    intro p hp
    rcases List.mem_cons.mp hu with e | hu
    · rw [e]
      cases c with
      | nil =>
        have : (lie st s).2 = y := t.2
        rw [this]
        exact hy p hp
      | cons v c =>
        rw [← t.2.1]
        exact h v (List.mem_cons.mpr (.inr List.mem_cons_self)) p hp
    · exact Tr.far t.2 hy (fun s hs => h s (List.mem_cons.mpr (.inr hs))) u hu p hp
theorem lie_both {st : List (Int × Int)} (s : Step) {P : Int → Prop} (h1 : P (lie st s).1) (h2 : P (lie st s).2) : P (sa st s.1) ∧ P (sb st s.1) := by
  unfold lie at h1 h2
  by_cases c : s.2 = 0
  · rw [if_pos c] at h1 h2
    exact ⟨h1, h2⟩
  · rw [if_neg c] at h1 h2
    exact ⟨h2, h1⟩
theorem cnt_filter {st : List (Int × Int)} {z : Int} {g : List Nat} : ∀ F : List Nat, (∀ p ∈ F, hasE st z p = true → p ∈ g) → cnt st F z = cnt st (F.filter fun p => decide (p ∈ g)) z
  | [], _ => rfl
  | p :: F, h => by
    have ih := cnt_filter F fun q hq => h q (List.mem_cons.mpr (.inr hq))
    have e : ∀ l : List Nat, cnt st (p :: l) z = [sa st p, sb st p].count z + cnt st l z := fun l => by
      unfold cnt
      exact List.count_append
    rw [List.filter_cons, e, ih]
    by_cases c : p ∈ g
    · rw [if_pos (decide_eq_true c), e]
    · rw [if_neg (by rw [decide_eq_false c]; exact Bool.false_ne_true)]
      have : hasE st z p = false := Bool.eq_false_iff.mpr fun t => c (h p List.mem_cons_self t)
      have := count_none (st := st) (l := [p]) (z := z) fun q hq => by rw [List.mem_singleton.mp hq]; exact this
      have e2 : endsOf st [p] = [sa st p, sb st p] := rfl
      rw [e2] at this
      omega
theorem grp_is {st : List (Int × Int)} {g : List Nat} (h : g ∈ grps st) : ∃ p, p < st.length ∧ p ∈ g ∧ g = (List.range st.length).filter fun q => decide (cls st q = cls st p) := by
  unfold grps grpsL at h
  obtain ⟨p, hp, e⟩ := List.mem_map.mp h
  have hp := List.mem_range.mp (List.mem_filter.mp hp).1
  refine ⟨p, hp, ?_, e.symm⟩
  rw [← e]
  exact List.mem_filter.mpr ⟨List.mem_range.mpr hp, decide_eq_true rfl⟩
structure GrpOk (st : List (Int × Int)) (F g : List Nat) (cs : List (List Step)) (F' : List Nat) : Prop where
  tr : ∀ c ∈ cs, c ≠ [] ∧ (∀ s ∈ c, s.2 ≤ 1 ∧ s.1 ∈ g) ∧ ∃ x y, Tr st x c y ∧ (x = y ↔ odds st g = [])
  perm : (plcs cs ++ F').Perm F
  sub : F'.Sublist F
  out : ∀ p ∈ F, p ∈ F' ↔ p ∉ g
  len : cs.length = max 1 ((odds st g).length / 2)
theorem group_ok {st : List (Int × Int)} {F g : List Nat} (hg : g ∈ grps st) (hF : ∀ p ∈ F, p < st.length) (hn : F.Nodup) (hs : ∀ p ∈ g, p ∈ F) : GrpOk st F g (groupF st F (startsF st g)).1 (groupF st F (startsF st g)).2 := by
  obtain ⟨p0, hp0, m0, eg⟩ := grp_is hg
  have mg : ∀ q, q ∈ g ↔ q < st.length ∧ cls st q = cls st p0 := fun q => by
    rw [eg, List.mem_filter, List.mem_range, decide_eq_true_eq]
  obtain ⟨h0, gt, eh⟩ : ∃ h t, g = h :: t := by
    cases g with
    | nil => cases m0
    | cons h t => exact ⟨h, t, rfl⟩
  have mh : h0 ∈ g := by rw [eh]; exact List.mem_cons_self
  have lh := ((mg h0).mp mh).1
  -- a number of the class
  have inC : ∀ q, q < st.length → ∀ z, (z = sa st q ∨ z = sb st q) → (q ∈ g ↔ Conn st (sa st h0) z) := fun q hq z hz => by
    have e1 : Conn st (sa st q) z := by
      rcases hz with e | e
      · rw [e]; exact .refl _
      · rw [e]; exact .edge (st_mem hq)
    have e2 : cls st h0 = cls st q ↔ Conn st (sa st h0) (sa st q) := conn_of_cls lh hq
    rw [mg]
    constructor
    · rintro ⟨_, e⟩
      exact (e2.mp (((mg h0).mp mh).2.trans e.symm)).trans e1
    · intro c
      exact ⟨hq, (e2.mpr (c.trans e1.symm)).symm.trans ((mg h0).mp mh).2⟩
  have gn : g.Nodup := by
    rw [eg]
    exact List.nodup_range.filter _
  have fp : (F.filter fun p => decide (p ∈ g)).Perm g := (List.perm_ext_iff_of_nodup (hn.filter _) gn).mpr fun q => by
    rw [List.mem_filter, decide_eq_true_eq]
    exact ⟨fun h => h.2, fun h => ⟨hs q h, h⟩⟩
  have cg : ∀ z, Conn st (sa st h0) z → cnt st F z = (endsOf st g).count z := fun z c => by
    rw [cnt_filter (g := g) F fun p hp he => (inC p (hF p hp) z ((hasE_iff.mp he).elim (fun e => .inl e.symm) fun e => .inr e.symm)).mpr c]
    exact count_perm fp z
  have od : ∀ z, z ∈ odds st g ↔ (endsOf st g).count z % 2 = 1 := (oddL_ok (endsOf st g)).2
  obtain ⟨b, hb, ws, wl⟩ : ∃ b : Prop, (b ↔ odds st g = []) ∧ WsOk st (sa st h0) b F (walksF st (startsF st g) [] F).1 (walksF st (startsF st g) [] F).2 ∧ (walksF st (startsF st g) [] F).1.length = max 1 ((odds st g).length / 2) := by
    unfold startsF
    by_cases c : odds st g = []
    · rw [if_pos c, eh]
      show ∃ b : Prop, _ ∧ WsOk st (sa st h0) b F (walksF st [sa st h0] [] F).1 (walksF st [sa st h0] [] F).2 ∧ _
      obtain ⟨w1, w2⟩ := walks_one (x0 := sa st h0) hF (fun z hz => by
        have := od z
        rw [c] at this
        rw [cg z hz]
        have n : ¬ (endsOf st g).count z % 2 = 1 := fun o => by cases this.mpr o
        omega) (hs h0 mh) (hasE_iff.mpr (.inl rfl))
      rw [← eh, c]
      exact ⟨True, ⟨fun _ => rfl, fun _ => trivial⟩, w1, w2⟩
    · rw [if_neg c]
      have hup : (odds st g).Nodup := (oddL_ok (endsOf st g)).1.imp fun h e => by omega
      obtain ⟨w1, w2⟩ := walks_ok (x0 := sa st h0) (odds st g) [] F hF hup (fun x hx => by
        have := (od x).mp hx
        have m : x ∈ endsOf st g := List.count_pos_iff.mp (by omega)
        obtain ⟨q, hq, e⟩ := mem_endsOf.mp m
        exact (inC q ((mg q).mp hq).1 x e).mp hq) fun z hz => by
          rw [cg z hz, od]
          exact ⟨fun h => ⟨h, by simp⟩, fun h => h.1⟩
      refine ⟨False, ⟨False.elim, fun e => c e⟩, w1, ?_⟩
      have : ((odds st g).filter fun z => decide (z ∉ ([] : List Int))) = odds st g := List.filter_eq_self.mpr fun z _ => decide_eq_true (by simp)
      rw [this] at w2
      have ev := odds_even st g
      have pos := List.length_pos_iff.mpr c
      omega
  have fs := fills_ok (walksF st (startsF st g) [] F).1 (walksF st (startsF st g) [] F).2 (fun p hp => hF p (ws.sub.subset hp)) ws.even ws.tr
  have pm : (plcs (groupF st F (startsF st g)).1 ++ (groupF st F (startsF st g)).2).Perm F := fs.perm.trans ws.perm
  have sb' : (groupF st F (startsF st g)).2.Sublist F := fs.sub.trans ws.sub
  have ln : (groupF st F (startsF st g)).1.length = max 1 ((odds st g).length / 2) := fs.len.trans wl
  have tr : ∀ c ∈ (groupF st F (startsF st g)).1, TrP st (sa st h0) b (groupF st F (startsF st g)).2 c ∧ ∀ s ∈ c, ∀ p ∈ (groupF st F (startsF st g)).2, hasE st (lie st s).1 p = false := fs.tr
  generalize (groupF st F (startsF st g)).1 = cs at pm ln tr ⊢
  generalize (groupF st F (startsF st g)).2 = F' at pm sb' tr ⊢
  -- where a chain comes by nothing is free
  have ex : ∀ c ∈ cs, ∀ s ∈ c, (∀ p ∈ F', hasE st (lie st s).1 p = false) ∧ (∀ p ∈ F', hasE st (lie st s).2 p = false) ∧ Conn st (sa st h0) (lie st s).1 ∧ s.1 < st.length ∧ s.2 ≤ 1 := fun c hc s hs => by
    obtain ⟨⟨x, y, t1, t2, t3, t4, t5, t6⟩, o⟩ := tr c hc
    exact ⟨o s hs, t1.far t6 o s hs, t4.trans ((t1.conn fun s hs => (t3 s hs).2).2 s hs).1, (t3 s hs).2, (t3 s hs).1⟩
  have used : ∀ p ∈ F, p ∉ F' → (∀ q ∈ F', hasE st (sa st p) q = false) ∧ ∀ q ∈ F', hasE st (sb st p) q = false := fun p hp np => by
    have m : p ∈ plcs cs := (List.mem_append.mp (pm.mem_iff.mpr hp)).resolve_right np
    obtain ⟨c, hc, m⟩ := List.mem_flatMap.mp m
    obtain ⟨s, hs, e⟩ := List.mem_map.mp m
    have h := ex c hc s hs
    rw [← e]
    exact lie_both s (P := fun z => ∀ q ∈ F', hasE st z q = false) h.1 h.2.1
  have step : ∀ q, q < st.length → Conn st (sa st h0) (sa st q) → ((∀ r ∈ F', hasE st (sa st q) r = false) ↔ ∀ r ∈ F', hasE st (sb st q) r = false) := fun q hq c => by
    have qF : q ∈ F := hs q ((inC q hq _ (.inl rfl)).mpr c)
    constructor
    · intro h
      exact (used q qF fun m => by have := h q m; rw [hasE_iff.mpr (.inl rfl)] at this; cases this).2
    · intro h
      exact (used q qF fun m => by have := h q m; rw [hasE_iff.mpr (.inr rfl)] at this; cases this).1
  have all : ∀ x y, Conn st x y → Conn st (sa st h0) x → ((∀ r ∈ F', hasE st x r = false) ↔ ∀ r ∈ F', hasE st y r = false) := fun x y c => by
    induction c with
    | refl x => exact fun _ => Iff.rfl
    | @edge a b m =>
      intro c
      obtain ⟨i, hi⟩ := List.mem_iff_getElem?.mp m
      have il : i < st.length := (List.getElem?_eq_some_iff.mp hi).1
      have e := Option.some.inj ((st_at il).symm.trans hi)
      have e1 : sa st i = a := congrArg Prod.fst e
      have e2 : sb st i = b := congrArg Prod.snd e
      rw [← e1, ← e2]
      exact step i il (by rw [e1]; exact c)
    | symm h ih => exact fun c => (ih (c.trans (.symm h))).symm
    | trans h k ih1 ih2 => exact fun c => (ih1 c).trans (ih2 (c.trans h))
  have gone : ∀ p ∈ g, p ∉ F' := fun p hp m => by
    obtain ⟨c, hc⟩ : ∃ c, c ∈ cs := by
      cases cs with
      | nil =>
        have : 0 = max 1 ((odds st g).length / 2) := ln
        omega
      | cons c cs => exact ⟨c, List.mem_cons_self⟩
    obtain ⟨s, hs⟩ : ∃ s, s ∈ c := by
      obtain ⟨⟨x, y, _, t2, _⟩, _⟩ := tr c hc
      cases c with
      | nil => exact absurd rfl t2
      | cons s c => exact ⟨s, List.mem_cons_self⟩
    have h := ex c hc s hs
    have cp := (inC p ((mg p).mp hp).1 _ (.inl rfl)).mp hp
    have := (all _ _ (h.2.2.1.symm.trans cp) h.2.2.1).mp h.1 p m
    rw [hasE_iff.mpr (.inl rfl)] at this
    cases this
  have inG : ∀ c ∈ cs, ∀ s ∈ c, s.1 ∈ g := fun c hc s hs => by
    have h := ex c hc s hs
    refine (inC s.1 h.2.2.2.1 (lie st s).1 ?_).mpr h.2.2.1
    unfold lie
    split
    · exact .inl rfl
    · exact .inr rfl
  refine ⟨fun c hc => ?_, pm, sb', fun p hp => ⟨fun m h => gone p h m, fun h => ?_⟩, ln⟩
  · obtain ⟨⟨x, y, t1, t2, t3, t4, t5, t6⟩, o⟩ := tr c hc
    exact ⟨t2, fun s hs => ⟨(t3 s hs).1, inG c hc s hs⟩, x, y, t1, t5.trans hb⟩
  · refine (List.mem_append.mp (pm.mem_iff.mpr hp)).resolve_left fun m => h ?_
    obtain ⟨c, hc, m⟩ := List.mem_flatMap.mp m
    obtain ⟨s, hs, e⟩ := List.mem_map.mp m
    rw [← e]
    exact inG c hc s hs
theorem group_ws {st : List (Int × Int)} {F g : List Nat} (hg : g ∈ grps st) (hF : ∀ p ∈ F, p < st.length) (hn : F.Nodup) (hs : ∀ p ∈ g, p ∈ F) : ∀ v ∈ (walksF st (startsF st g) [] F).1, v ≠ [] := by
  obtain ⟨p0, hp0, m0, eg⟩ := grp_is hg
  have mg : ∀ q, q ∈ g ↔ q < st.length ∧ cls st q = cls st p0 := fun q => by
    rw [eg, List.mem_filter, List.mem_range, decide_eq_true_eq]
  obtain ⟨h0, gt, eh⟩ : ∃ h t, g = h :: t := by
    cases g with
    | nil => cases m0
    | cons h t => exact ⟨h, t, rfl⟩
  have mh : h0 ∈ g := by rw [eh]; exact List.mem_cons_self
  have lh := ((mg h0).mp mh).1
  -- a number of the class
  have inC : ∀ q, q < st.length → ∀ z, (z = sa st q ∨ z = sb st q) → (q ∈ g ↔ Conn st (sa st h0) z) := fun q hq z hz => by
    have e1 : Conn st (sa st q) z := by
      rcases hz with e | e
      · rw [e]; exact .refl _
      · rw [e]; exact .edge (st_mem hq)
    have e2 : cls st h0 = cls st q ↔ Conn st (sa st h0) (sa st q) := conn_of_cls lh hq
    rw [mg]
    constructor
    · rintro ⟨_, e⟩
      exact (e2.mp (((mg h0).mp mh).2.trans e.symm)).trans e1
    · intro c
      exact ⟨hq, (e2.mpr (c.trans e1.symm)).symm.trans ((mg h0).mp mh).2⟩
  have gn : g.Nodup := by
    rw [eg]
    exact List.nodup_range.filter _
  have fp : (F.filter fun p => decide (p ∈ g)).Perm g := (List.perm_ext_iff_of_nodup (hn.filter _) gn).mpr fun q => by
    rw [List.mem_filter, decide_eq_true_eq]
    exact ⟨fun h => h.2, fun h => ⟨hs q h, h⟩⟩
  have cg : ∀ z, Conn st (sa st h0) z → cnt st F z = (endsOf st g).count z := fun z c => by
    rw [cnt_filter (g := g) F fun p hp he => (inC p (hF p hp) z ((hasE_iff.mp he).elim (fun e => .inl e.symm) fun e => .inr e.symm)).mpr c]
    exact count_perm fp z
  have od : ∀ z, z ∈ odds st g ↔ (endsOf st g).count z % 2 = 1 := (oddL_ok (endsOf st g)).2
  obtain ⟨b, hb, ws, wl⟩ : ∃ b : Prop, (b ↔ odds st g = []) ∧ WsOk st (sa st h0) b F (walksF st (startsF st g) [] F).1 (walksF st (startsF st g) [] F).2 ∧ (walksF st (startsF st g) [] F).1.length = max 1 ((odds st g).length / 2) := by
    unfold startsF
    by_cases c : odds st g = []
    · rw [if_pos c, eh]
      show ∃ b : Prop, _ ∧ WsOk st (sa st h0) b F (walksF st [sa st h0] [] F).1 (walksF st [sa st h0] [] F).2 ∧ _
      obtain ⟨w1, w2⟩ := walks_one (x0 := sa st h0) hF (fun z hz => by
        have := od z
        rw [c] at this
        rw [cg z hz]
        have n : ¬ (endsOf st g).count z % 2 = 1 := fun o => by cases this.mpr o
        omega) (hs h0 mh) (hasE_iff.mpr (.inl rfl))
      rw [← eh, c]
      exact ⟨True, ⟨fun _ => rfl, fun _ => trivial⟩, w1, w2⟩
    · rw [if_neg c]
      have hup : (odds st g).Nodup := (oddL_ok (endsOf st g)).1.imp fun h e => by omega
      obtain ⟨w1, w2⟩ := walks_ok (x0 := sa st h0) (odds st g) [] F hF hup (fun x hx => by
        have := (od x).mp hx
        have m : x ∈ endsOf st g := List.count_pos_iff.mp (by omega)
        obtain ⟨q, hq, e⟩ := mem_endsOf.mp m
        exact (inC q ((mg q).mp hq).1 x e).mp hq) fun z hz => by
          rw [cg z hz, od]
          exact ⟨fun h => ⟨h, by simp⟩, fun h => h.1⟩
      refine ⟨False, ⟨False.elim, fun e => c e⟩, w1, ?_⟩
      have : ((odds st g).filter fun z => decide (z ∉ ([] : List Int))) = odds st g := List.filter_eq_self.mpr fun z _ => decide_eq_true (by simp)
      rw [this] at w2
      have ev := odds_even st g
      have pos := List.length_pos_iff.mpr c
      omega
  exact fun v hv => by
    obtain ⟨_, _, _, t2, _⟩ := ws.tr v hv
    exact t2
theorem starts_end {st : List (Int × Int)} {g : List Nat} (hg : g ∈ grps st) : (∀ x ∈ startsF st g, IsEnd st x) ∧ (startsF st g).length ≤ 2 * g.length + 1 ∧ ∃ h t, g = h :: t ∧ h < st.length := by
  obtain ⟨p0, hp0, m0, eg⟩ := grp_is hg
  have lt : ∀ q ∈ g, q < st.length := fun q hq => by
    rw [eg] at hq
    exact List.mem_range.mp (List.mem_filter.mp hq).1
  obtain ⟨h, t, eh⟩ : ∃ h t, g = h :: t := by
    cases g with
    | nil => cases m0
    | cons h t => exact ⟨h, t, rfl⟩
  have lh : h < st.length := lt h (by rw [eh]; exact List.mem_cons_self)
  refine ⟨fun x hx => ?_, ?_, h, t, eh, lh⟩
  · unfold startsF at hx
    split at hx
    · rw [List.mem_singleton.mp hx, eh]
      exact (st_ends lh).1
    · have := ((oddL_ok (endsOf st g)).2 x).mp hx
      have m : x ∈ endsOf st g := List.count_pos_iff.mp (by omega)
      obtain ⟨q, hq, e⟩ := mem_endsOf.mp m
      rcases e with e | e
      · rw [e]; exact (st_ends (lt q hq)).1
      · rw [e]; exact (st_ends (lt q hq)).2
  · unfold startsF
    split
    · show 1 ≤ _
      omega
    · have := oddL_le (endsOf st g)
      rw [endsOf_len] at this
      unfold odds
      omega
/-! ## all -/
structure AllOk (st : List (Int × Int)) (F : List Nat) (gs : List (List Nat)) (cs : List (List Step)) (F' : List Nat) : Prop where
  tr : ∀ c ∈ cs, c ≠ [] ∧ ∃ g ∈ gs, (∀ s ∈ c, s.2 ≤ 1 ∧ s.1 ∈ g) ∧ ∃ x y, Tr st x c y ∧ (x = y ↔ odds st g = [])
  perm : (plcs cs ++ F').Perm F
  out : ∀ p ∈ F', ∀ g ∈ gs, p ∉ g
  len : cs.length = (gs.map fun g => max 1 ((odds st g).length / 2)).sum
theorem laidG_ok {st : List (Int × Int)} : ∀ (gs : List (List Nat)) (F : List Nat), (∀ g ∈ gs, g ∈ grps st) → (∀ p ∈ F, p < st.length) → F.Nodup → (∀ g ∈ gs, ∀ p ∈ g, p ∈ F) → gs.Pairwise (fun g h => ∀ p ∈ g, p ∉ h) → AllOk st F gs (laidG st gs F).1 (laidG st gs F).2
  | [], F, _, _, _, _, _ => ⟨fun c hc => (nomatch hc), List.Perm.refl _, fun p _ g hg => (nomatch hg), rfl⟩
  | g :: gs, F, hg, hF, hn, hs, hd => by
    obtain ⟨d1, d2⟩ := List.pairwise_cons.mp hd
    have k := group_ok (hg g List.mem_cons_self) hF hn (hs g List.mem_cons_self)
    have ih := laidG_ok gs (groupF st F (startsF st g)).2 (fun h hh => hg h (List.mem_cons.mpr (.inr hh))) (fun p hp => hF p (k.sub.subset hp)) (hn.sublist k.sub)
      (fun h hh p hp => (k.out p (hs h (List.mem_cons.mpr (.inr hh)) p hp)).mpr fun m => d1 h hh p m hp) d2
    have sub2 : ∀ p ∈ (laidG st gs (groupF st F (startsF st g)).2).2, p ∈ (groupF st F (startsF st g)).2 := fun p hp => ih.perm.mem_iff.mp (List.mem_append.mpr (.inr hp))
    unfold laidG
    refine ⟨fun c hc => ?_, ?_, fun p hp h hh => ?_, ?_⟩
    · rcases List.mem_append.mp hc with hc | hc
      · obtain ⟨a, b, x, y, t, e⟩ := k.tr c hc
        exact ⟨a, g, List.mem_cons_self, b, x, y, t, e⟩
      · obtain ⟨a, h, hh, b⟩ := ih.tr c hc
        exact ⟨a, h, List.mem_cons.mpr (.inr hh), b⟩
    · show (plcs (_ ++ _) ++ _).Perm F
      unfold plcs
      rw [List.flatMap_append, List.append_assoc]
      exact (ih.perm.append_left _).trans k.perm
    · rcases List.mem_cons.mp hh with e | hh
      · rw [e]
        exact (k.out p (k.sub.subset (sub2 p hp))).mp (sub2 p hp)
      · exact ih.out p hp h hh
    · show (_ ++ _ : List (List Step)).length = _
      rw [List.length_append, k.len, ih.len, List.map_cons, List.sum_cons]
structure LaidOk (st : List (Int × Int)) (cs : List (List Step)) : Prop where
  tr : ∀ c ∈ cs, c ≠ [] ∧ ∃ g ∈ grps st, (∀ s ∈ c, s.2 ≤ 1 ∧ s.1 ∈ g) ∧ ∃ x y, Tr st x c y ∧ (x = y ↔ odds st g = [])
  perm : (plcs cs).Perm (List.range st.length)
  len : cs.length = few st
theorem grps_apart (st : List (Int × Int)) : (grps st).Pairwise fun g h => ∀ p ∈ g, p ∉ h := by
  unfold grps grpsL
  refine List.pairwise_map.mpr ?_
  have h : ((List.range st.length).filter fun p => (List.range st.length).all fun q => decide (q < p → cls st q ≠ cls st p)).Pairwise (· < ·) := List.pairwise_lt_range.filter _
  refine List.Pairwise.imp_of_mem (fun {p q} hp hq hlt r m n => ?_) h
  have h1 := of_decide_eq_true (List.mem_filter.mp m).2
  have h2 := of_decide_eq_true (List.mem_filter.mp n).2
  have hq2 := of_decide_eq_true (List.all_eq_true.mp (List.mem_filter.mp hq).2 p (List.mem_filter.mp hp).1) hlt
  exact hq2 (h1.symm.trans h2)
theorem laid_ok (st : List (Int × Int)) : LaidOk st (laidF st) := by
  have gp : (grps st).flatten.Perm (List.range st.length) := grpsL_perm (cls st) _ _ (Nat.le_refl _) List.pairwise_lt_range
  have k := laidG_ok (grps st) (List.range st.length) (fun g h => h) (fun p hp => List.mem_range.mp hp) List.nodup_range (fun g hg p hp => gp.mem_iff.mp (List.mem_flatten.mpr ⟨g, hg, hp⟩)) (grps_apart st)
  have e : (laidG st (grps st) (List.range st.length)).2 = [] := List.eq_nil_iff_forall_not_mem.mpr fun p hp => by
    have m : p ∈ (grps st).flatten := gp.mem_iff.mpr (k.perm.mem_iff.mp (List.mem_append.mpr (.inr hp)))
    obtain ⟨g, hg, m⟩ := List.mem_flatten.mp m
    exact k.out p hp g hg m
  have pm := k.perm
  rw [e, List.append_nil] at pm
  exact ⟨k.tr, pm, k.len⟩
end Sw
namespace Sw
/-! ## the places that are free, number by number -/
def occ (st : List (Int × Int)) (x : Int) (q : Nat) : List Nat := (if sa st q = x then [q] else []) ++ (if sb st q = x then [q] else [])
def freeL (st : List (Int × Int)) (F : List Nat) (x : Int) : List Nat := F.flatMap (occ st x)
/-- one end taken -/
def occ1 (st : List (Int × Int)) (p : Nat) (x : Int) (q : Nat) : List Nat := (if sa st q = x ∧ q ≠ p then [q] else []) ++ (if sb st q = x then [q] else [])
def freeM (st : List (Int × Int)) (F : List Nat) (p : Nat) (x : Int) : List Nat := F.flatMap (occ1 st p x)
theorem occ_mem {st : List (Int × Int)} {x : Int} {q r : Nat} (h : r ∈ occ st x q) : r = q := by
  unfold occ at h
  rcases List.mem_append.mp h with h | h
  · split at h
    · exact List.mem_singleton.mp h
    · cases h
  · split at h
    · exact List.mem_singleton.mp h
    · cases h
theorem occ1_mem {st : List (Int × Int)} {x : Int} {p q r : Nat} (h : r ∈ occ1 st p x q) : r = q := by
  unfold occ1 at h
  rcases List.mem_append.mp h with h | h
  · split at h
    · exact List.mem_singleton.mp h
    · cases h
  · split at h
    · exact List.mem_singleton.mp h
    · cases h
theorem occ_none {st : List (Int × Int)} {x : Int} {q : Nat} (h : hasE st x q = false) : occ st x q = [] := by
  have n : ¬ (sa st q = x ∨ sb st q = x) := fun z => by
    rw [hasE_iff.mpr z] at h
    cases h
  unfold occ
  rw [if_neg fun z => n (.inl z), if_neg fun z => n (.inr z)]
  rfl
theorem occ_some {st : List (Int × Int)} {x : Int} {q : Nat} (h : hasE st x q = true) : ∃ l, occ st x q = q :: l := by
  unfold occ
  by_cases c : sa st q = x
  · rw [if_pos c]
    exact ⟨_, rfl⟩
  · rw [if_neg c, if_pos ((hasE_iff.mp h).resolve_left c)]
    exact ⟨_, rfl⟩
theorem freeL_find (st : List (Int × Int)) (x : Int) : ∀ F : List Nat, (freeL st F x)[0]? = F.find? (hasE st x)
  | [] => rfl
  | q :: F => by
    have e : freeL st (q :: F) x = occ st x q ++ freeL st F x := List.flatMap_cons
    rw [e, List.find?_cons]
    cases h : hasE st x q with
    | true =>
      obtain ⟨l, e⟩ := occ_some h
      rw [e]
      rfl
    | false =>
      rw [occ_none h]
      exact freeL_find st x F
theorem freeL_nil {st : List (Int × Int)} {x : Int} {F : List Nat} (h : F.find? (hasE st x) = none) : freeL st F x = [] := by
  have e := freeL_find st x F
  rw [h] at e
  cases hl : freeL st F x with
  | nil => rfl
  | cons a l =>
    rw [hl] at e
    cases e
theorem freeL_len (st : List (Int × Int)) (x : Int) : ∀ F : List Nat, (freeL st F x).length ≤ 2 * F.length
  | [] => Nat.le_refl _
  | q :: F => by
    have ih := freeL_len st x F
    have e : freeL st (q :: F) x = occ st x q ++ freeL st F x := List.flatMap_cons
    have o : (occ st x q).length ≤ 2 := by
      unfold occ
      split <;> split <;> simp
    rw [e, List.length_append, List.length_cons]
    omega
theorem freeM_same {st : List (Int × Int)} {F : List Nat} {p : Nat} {x : Int} (h : x ≠ sa st p) : freeM st F p x = freeL st F x := by
  unfold freeM freeL
  rw [List.flatMap_def, List.flatMap_def]
  congr 1
  refine List.map_congr_left fun q _ => ?_
  unfold occ1 occ
  by_cases c : sa st q = x
  · have : q ≠ p := fun e => h (by rw [← e]; exact c.symm)
    rw [if_pos ⟨c, this⟩, if_pos c]
  · rw [if_neg fun z => c z.1, if_neg c]
theorem freeM_out {st : List (Int × Int)} {p : Nat} {x : Int} {F : List Nat} (h : p ∉ F) : freeM st F p x = freeL st F x := by
  unfold freeM freeL
  rw [List.flatMap_def, List.flatMap_def]
  congr 1
  refine List.map_congr_left fun q hq => ?_
  unfold occ1 occ
  have : q ≠ p := fun e => h (by rw [← e]; exact hq)
  by_cases c : sa st q = x
  · rw [if_pos ⟨c, this⟩, if_pos c]
  · rw [if_neg fun z => c z.1, if_neg c]
/-- the first end is taken out -/
theorem erase_first {st : List (Int × Int)} {p : Nat} : ∀ {F : List Nat}, F.Nodup → p ∈ F → p ∈ freeL st F (sa st p) ∧ (freeL st F (sa st p)).erase p = freeM st F p (sa st p)
  | q :: F, hn, hp => by
    obtain ⟨h1, h2⟩ := List.nodup_cons.mp hn
    have e : freeL st (q :: F) (sa st p) = occ st (sa st p) q ++ freeL st F (sa st p) := List.flatMap_cons
    have e2 : freeM st (q :: F) p (sa st p) = occ1 st p (sa st p) q ++ freeM st F p (sa st p) := List.flatMap_cons
    by_cases c : q = p
    · subst c
      have o : occ st (sa st q) q = q :: (if sb st q = sa st q then [q] else []) := by
        unfold occ
        rw [if_pos rfl]
        rfl
      have o1 : occ1 st q (sa st q) q = (if sb st q = sa st q then [q] else []) := by
        unfold occ1
        rw [if_neg fun z => z.2 rfl]
        rfl
      rw [e, e2, o, o1, freeM_out h1]
      exact ⟨List.mem_cons_self, List.erase_cons_head ..⟩
    · have hp : p ∈ F := (List.mem_cons.mp hp).resolve_left fun z => c z.symm
      obtain ⟨i1, i2⟩ := erase_first (st := st) h2 hp
      have o : occ1 st p (sa st p) q = occ st (sa st p) q := by
        unfold occ1 occ
        by_cases d : sa st q = sa st p
        · rw [if_pos ⟨d, c⟩, if_pos d]
        · rw [if_neg fun z => d z.1, if_neg d]
      rw [e, e2, o, List.erase_append_right _ fun m => c (occ_mem m).symm, i2]
      exact ⟨List.mem_append.mpr (.inr i1), rfl⟩
/-- then the second -/
theorem erase_second {st : List (Int × Int)} {p : Nat} : ∀ {F : List Nat}, F.Nodup → p ∈ F → p ∈ freeM st F p (sb st p) ∧ (freeM st F p (sb st p)).erase p = freeL st (F.erase p) (sb st p) ∧ ∀ x, x ≠ sb st p → freeM st F p x = freeL st (F.erase p) x
  | q :: F, hn, hp => by
    obtain ⟨h1, h2⟩ := List.nodup_cons.mp hn
    have e : ∀ x, freeM st (q :: F) p x = occ1 st p x q ++ freeM st F p x := fun x => List.flatMap_cons
    by_cases c : q = p
    · subst c
      have o : occ1 st q (sb st q) q = [q] := by
        unfold occ1
        rw [if_neg fun z => z.2 rfl, if_pos rfl]
        rfl
      rw [e, o, List.erase_cons_head, freeM_out h1]
      refine ⟨List.mem_cons_self, List.erase_cons_head .., fun x hx => ?_⟩
      rw [e, freeM_out h1]
      have o : occ1 st q x q = [] := by
        unfold occ1
        rw [if_neg fun z => z.2 rfl, if_neg fun z => hx z.symm]
        rfl
      rw [o]
      rfl
    · have hp : p ∈ F := (List.mem_cons.mp hp).resolve_left fun z => c z.symm
      obtain ⟨i1, i2, i3⟩ := erase_second (st := st) h2 hp
      have o : ∀ x, occ1 st p x q = occ st x q := fun x => by
        unfold occ1 occ
        by_cases d : sa st q = x
        · rw [if_pos ⟨d, c⟩, if_pos d]
        · rw [if_neg fun z => d z.1, if_neg d]
      have er : (q :: F).erase p = q :: F.erase p := List.erase_cons_tail (by simpa using c)
      have e3 : ∀ x, freeL st (q :: F.erase p) x = occ st x q ++ freeL st (F.erase p) x := fun x => List.flatMap_cons
      rw [er]
      refine ⟨?_, ?_, fun x hx => ?_⟩
      · rw [e]
        exact List.mem_append.mpr (.inr i1)
      · rw [e, o, e3, List.erase_append_right _ fun m => c (occ_mem m).symm, i2]
      · rw [e, o, e3, i3 x hx]
theorem erase_ix : ∀ {l : List Int} {k : Int}, k ∈ l → ∃ j, l[j]? = some k ∧ (∀ m : Nat, m < j → l[m]? ≠ some k) ∧ l.eraseIdx j = l.erase k
  | a :: l, k, h => by
    by_cases c : a = k
    · subst c
      exact ⟨0, rfl, fun m hm => absurd hm (Nat.not_lt_zero m), (List.erase_cons_head ..).symm⟩
    · have h : k ∈ l := (List.mem_cons.mp h).resolve_left fun z => c z.symm
      obtain ⟨j, h1, h2, h3⟩ := erase_ix h
      refine ⟨j + 1, h1, fun m hm => ?_, ?_⟩
      · cases m with
        | zero => exact fun z => c (Option.some.inj z)
        | succ m => exact h2 m (Nat.lt_of_succ_lt_succ hm)
      · rw [List.erase_cons_tail (by simpa using c)]
        show a :: l.eraseIdx j = _
        rw [h3]
theorem erase_nats (l : List Nat) (p : Nat) : (l.map fun n : Nat => (n : Int)).erase (p : Int) = (l.erase p).map fun n : Nat => (n : Int) := by
  induction l with
  | nil => rfl
  | cons a l ih =>
    by_cases c : a = p
    · subst c
      rw [List.map_cons, List.erase_cons_head, List.erase_cons_head]
    · rw [List.map_cons, List.erase_cons_tail (by rw [beq_iff_eq]; omega), List.erase_cons_tail (by rw [beq_iff_eq]; omega), ih, List.map_cons]
/-- how the dict comes to be -/
theorem freeL_snoc (st : List (Int × Int)) (F : List Nat) (i : Nat) (x : Int) : freeL st (F ++ [i]) x = freeL st F x ++ occ st x i := by
  unfold freeL
  rw [List.flatMap_append]
  show _ ++ (occ st x i ++ []) = _
  rw [List.append_nil]
end Sw
set_option maxHeartbeats 3200000
namespace Sw
open PySem PySem.Spec PyProof.Rows L2 HT
section
variable {X : Cx}
/-- xs[a:c] = ys -/
def gSlc (to : TE) (tl th : TO) : TG := fun v σ H Q => to σ H fun o H1 => tl σ H1 fun x H2 => th σ H2 fun y H3 => ∃ (l b : Addr) (xs ys : List V) (a c : Int), o = .ref l ∧ v = .ref b ∧ x = some a ∧ y = some c ∧ H3 l = some (.lst xs) ∧ H3 b = some (.lst ys) ∧ l ≠ b ∧ 0 ≤ a ∧ a ≤ c ∧ c ≤ xs.length ∧
  xs.length + ys.length ≤ sizeLine ∧ Q σ (upd H3 l (.lst (xs.take a.toNat ++ ys ++ xs.drop c.toNat)))
theorem pg_slc {o lo hi : Expr} {to : TE} {tl th : TO} {p2 pos : Pos} (ho : PE X o to) (hl : PO X (some lo) tl) (hu : PO X (some hi) th)
    (ha : ∀ v, assign (.Subscript o (.Slice (some lo) (some hi) none p2) pos) X.env v = (do
      let ov ← holding [v] (eval o X.env)
      let iv ← holding [v, ov] (eval (.Slice (some lo) (some hi) none p2) X.env)
      standAt pos
      holding [v, ov, iv] (setItem ov iv v)
      release [iv, v, ov] []) := by intro _; rfl) : PG X (.Subscript o (.Slice (some lo) (some hi) none p2) pos) (gSlc to tl th) := by
  refine ⟨fun pins s σ H v u Q I r h => ?_⟩
  rw [ha]
  refine wpAny_bind (wpAny_holding (thn (ho.run pins s σ H _ I h) fun ov s1 ⟨x, H1, I1, r1, q1⟩ => ?_))
  refine wpAny_bind (wpAny_holding ?_)
  refine wpAny_Slice (thn (hl.run pins s1 σ H1 _ I1 q1) fun vl s2 ⟨l, H2, I2, pl, q2⟩ => thn (hu.run pins s2 σ H2 _ I2 q2) fun vu s3 ⟨y, H3, I3, pu, q3⟩ => ?_)
  rw [evalPart_none]
  refine wpAny_pure ?_
  have I4 : Inv X pins σ H3 { s3 with heap := s3.heap.push { cls := .type "slice", data := .fields #[vl, vu, .none] } } := I3.kept (t' := s3.toks) fun b ob q => Heap.get?_push_of_some _ q
  obtain ⟨la, b, xs, ys, a, c, e1, e2, e3, e4, h1, h2, h3, h4, h5, h6, h7, q⟩ := q3
  subst e1 e2 e3 e4
  cases r
  cases r1
  refine wpAny_bind (wpAny_standAt (wpAny_bind (wpAny_holding ?_)))
  refine set_slice (sl := s3.heap.objs.size) I4 h1 h2 h3 (Heap.IsSliceOf.new ..) ?_ ?_ h4 h5 h6 h7 fun s' I' => ?_
  · cases pl
    exact ⟨_, rfl⟩
  · cases pu
    exact ⟨_, rfl⟩
  · exact wpAny_release ⟨σ, _, I', q⟩
end
end Sw
namespace Sw
open PySem PySem.Spec PyProof.Rows L2
open Evl (Ex Ex.refl Ex.trans Ex.new Ex.mut ex_l ex_t ex_rd fresh_back Ev EvL EvU EvT EvA RV RC RCL SpV SpL)
/-! ### steps in memory, the dict of free places -/
def castS (w : List Step) : List (Int × Int) := w.map fun s => ((s.1 : Int), (s.2 : Int))
theorem castS_len (w : List Step) : (castS w).length = w.length := List.length_map _
theorem castS_app (u v : List Step) : castS (u ++ v) = castS u ++ castS v := List.map_append
structure FreeG (f : Int → List Nat) (st : List (Int × Int)) (H : Hp) (d : Addr) (T : List (Int × Addr)) : Prop where
  at_ : H d = some (.dK (T.map fun t => ((Sum.inl t.1 : Key), V.ref t.2)))
  nk : (T.map (·.1)).Nodup
  na : (T.map (·.2)).Nodup
  in_ : ∀ t ∈ T, H t.2 = some (.lst (nats (f t.1)))
  all : ∀ x, IsEnd st x → ∃ t ∈ T, t.1 = x
/-- all stays but the dict's lists -/
def Kp (T : List (Int × Addr)) (H H' : Hp) : Prop := ∀ x o, H x = some o → (∀ t ∈ T, x ≠ t.2) → H' x = some o
theorem Kp.refl (T : List (Int × Addr)) (H : Hp) : Kp T H H := fun _ _ h _ => h
theorem Kp.trans {T : List (Int × Addr)} {H H1 H2 : Hp} (a : Kp T H H1) (b : Kp T H1 H2) : Kp T H H2 := fun x o h n => b x o (a x o h n) n
theorem Kp.of {T : List (Int × Addr)} {H H' : Hp} (e : Ex H H') : Kp T H H' := fun x o h _ => e x o h
theorem Kp.put {T : List (Int × Addr)} {H : Hp} {t : Int × Addr} {o : HO} (ht : t ∈ T) : Kp T H (upd H t.2 o) := fun x u h n => by
  rw [upd_ne (n t ht)]
  exact h
theorem Kp.mut {T : List (Int × Addr)} {H H' : Hp} {p : Addr} {o : HO} (k : Kp T H H') (h : H p = none) : Kp T H (upd H' p o) := fun x u hx n => by
  have : x ≠ p := fun e => by
    rw [e, h] at hx
    cases hx
  rw [upd_ne this]
  exact k x u hx n
theorem Kp.fresh {T : List (Int × Addr)} {H H' : Hp} {p : Addr} (k : Kp T H H') (h : H' p = none) (n : ∀ t ∈ T, p ≠ t.2) : H p = none := by
  cases e : H p with
  | none => rfl
  | some o =>
    have := k p o e n
    rw [h] at this
    cases this
theorem FreeG.ex {f : Int → List Nat} {st : List (Int × Int)} {H H' : Hp} {d : Addr} {T : List (Int × Addr)} (h : FreeG f st H d T) (e : Ex H H') : FreeG f st H' d T := ⟨e _ _ h.at_, h.nk, h.na, fun t m => e _ _ (h.in_ t m), h.all⟩
/-- what is no list, or was there no list of it -/
theorem FreeG.far {f : Int → List Nat} {st : List (Int × Int)} {H : Hp} {d : Addr} {T : List (Int × Addr)} (h : FreeG f st H d T) {x : Addr} (hx : ∀ xs, H x ≠ some (.lst xs)) : ∀ t ∈ T, x ≠ t.2 := fun t m e => hx _ (by rw [e]; exact h.in_ t m)
theorem FreeG.new {f : Int → List Nat} {st : List (Int × Int)} {H : Hp} {d : Addr} {T : List (Int × Addr)} (h : FreeG f st H d T) {x : Addr} (hx : H x = none) : ∀ t ∈ T, x ≠ t.2 := h.far fun xs => by
  rw [hx]
  exact fun z => nomatch z
theorem StonesAt.kp {f : Int → List Nat} {st su : List (Int × Int)} {H H' : Hp} {a d : Addr} {T : List (Int × Addr)} (hS : StonesAt H a su) (h : FreeG f st H d T) (n : ∀ t ∈ T, a ≠ t.2) (k : Kp T H H') : StonesAt H' a su := by
  obtain ⟨ts, h1, h2, h3⟩ := hS
  refine ⟨ts, k _ _ h1 n, h2, fun i t s e1 e2 => ?_⟩
  have q := h3 i t s e1 e2
  exact k _ _ q (h.far fun xs z => by rw [q] at z; cases z)
theorem FreeG.get {f : Int → List Nat} {st : List (Int × Int)} {H : Hp} {d : Addr} {T : List (Int × Addr)} (h : FreeG f st H d T) {x : Int} (hx : IsEnd st x) : ∃ t ∈ T, t.1 = x ∧ DGet H d (.int x) (some (.ref t.2)) := by
  obtain ⟨t, m, e⟩ := h.all x hx
  refine ⟨t, m, e, ?_⟩
  have v : valV (T.map fun t => ((Sum.inl t.1 : Key), V.ref t.2)) (Sum.inl x) = some (.ref t.2) := by
    have key : ∀ L : List (Int × Addr), (L.map (·.1)).Nodup → t ∈ L → valV (L.map fun t => ((Sum.inl t.1 : Key), V.ref t.2)) (Sum.inl x) = some (.ref t.2) := by
      intro L
      induction L with
      | nil => intro _ m; cases m
      | cons u L ih =>
        intro hn m
        obtain ⟨n1, n2⟩ := List.nodup_cons.mp hn
        rcases List.mem_cons.mp m with c | m
        · subst c
          unfold valV
          rw [List.map_cons, List.find?_cons]
          have c : decide ((((Sum.inl t.1 : Key), V.ref t.2) : Key × V).1 = Sum.inl x) = true := decide_eq_true (by rw [e])
          rw [c]
          rfl
        · have ne : u.1 ≠ x := fun c => n1 (by show u.1 ∈ _; rw [c, ← e]; exact List.mem_map.mpr ⟨t, m, rfl⟩)
          have := ih n2 m
          unfold valV at this ⊢
          rw [List.map_cons, List.find?_cons]
          have c : decide ((((Sum.inl u.1 : Key), V.ref u.2) : Key × V).1 = Sum.inl x) = false := decide_eq_false fun c => ne (Sum.inl.inj c)
          rw [c]
          exact this
    exact key T h.nk m
  have := DGet.k (k := Sum.inl x) h.at_
  rw [v] at this
  exact this
/-- one list is put anew -/
theorem FreeG.put {f g : Int → List Nat} {st : List (Int × Int)} {H : Hp} {d : Addr} {T : List (Int × Addr)} (h : FreeG f st H d T) {t : Int × Addr} (m : t ∈ T) (h1 : ∀ y, y ≠ t.1 → g y = f y) : FreeG g st (upd H t.2 (.lst (nats (g t.1)))) d T := by
  have nd : d ≠ t.2 := h.far (fun xs z => by rw [h.at_] at z; cases z) t m
  refine ⟨by rw [upd_ne nd]; exact h.at_, h.nk, h.na, fun u mu => ?_, h.all⟩
  by_cases c : u = t
  · rw [c, upd_same]
  · have inj : ∀ {L : List (Int × Addr)} {F : Int × Addr → Addr} , (L.map F).Nodup → u ∈ L → t ∈ L → F u = F t → u = t := by
      intro L F hn
      induction L with
      | nil => intro m; cases m
      | cons v L ih =>
        intro mu mt e
        obtain ⟨n1, n2⟩ := List.nodup_cons.mp hn
        rcases List.mem_cons.mp mu with c1 | mu
        · rcases List.mem_cons.mp mt with c2 | mt
          · rw [c1, c2]
          · exact absurd (List.mem_map.mpr ⟨t, mt, by rw [← e, c1]⟩) n1
        · rcases List.mem_cons.mp mt with c2 | mt
          · exact absurd (List.mem_map.mpr ⟨u, mu, by rw [e, c2]⟩) n1
          · exact ih n2 mu mt e
    have injk : ∀ {L : List (Int × Addr)}, (L.map (·.1)).Nodup → u ∈ L → t ∈ L → u.1 = t.1 → u = t := by
      intro L hn
      induction L with
      | nil => intro m; cases m
      | cons v L ih =>
        intro mu mt e
        obtain ⟨n1, n2⟩ := List.nodup_cons.mp hn
        rcases List.mem_cons.mp mu with c1 | mu
        · rcases List.mem_cons.mp mt with c2 | mt
          · rw [c1, c2]
          · exact absurd (List.mem_map.mpr ⟨t, mt, by rw [← e, c1]⟩) n1
        · rcases List.mem_cons.mp mt with c2 | mt
          · exact absurd (List.mem_map.mpr ⟨u, mu, by rw [e, c2]⟩) n1
          · exact ih n2 mu mt e
    have n1 : u.2 ≠ t.2 := fun e => c (inj h.na mu m e)
    have n2 : u.1 ≠ t.1 := fun e => c (injk h.nk mu m e)
    rw [upd_ne n1, h.in_ u mu, h1 _ n2]
theorem FreeG.is {f g : Int → List Nat} {st : List (Int × Int)} {H : Hp} {d : Addr} {T : List (Int × Addr)} (h : FreeG f st H d T) (e : ∀ x, f x = g x) : FreeG g st H d T := ⟨h.at_, h.nk, h.na, fun t m => by rw [← e]; exact h.in_ t m, h.all⟩
abbrev FreeAt (st : List (Int × Int)) (F : List Nat) (H : Hp) (d : Addr) (T : List (Int × Addr)) : Prop := FreeG (freeL st F) st H d T
def SpU (sp : Sp) (vs : List V) (H : Hp) (xs : List V) : Prop := ∀ H1, Ex H H1 → ∀ Q : VK, (∀ p H2, H1 p = none → Ex H1 H2 → H2 p = some (.tup xs) → Q (.ref p) H2) → ∀ E : XK, sp vs H1 Q E
end Sw
namespace Sw
open PySem PySem.Spec PyProof.Rows L2
open Evl (Ex Ex.refl Ex.trans Ex.new Ex.mut ex_l ex_t ex_rd fresh_back Ev EvL EvU EvT EvA RV RC RCL SpV SpL)
section
variable {P : Program} {w : World} {K : PySem.W.Frag} {mg : Str → Option Value} {base : Heap}
/-! ### lying -/
theorem scLying : FnScope ["stone", "turned", "first", "second"] ["stone", "turned"] (defScope sLying) := ⟨rfl, rfl, rfl, by decide +kernel, rfl, by decide +kernel, by decide +kernel⟩
def spLying : Sp := fun vs H Q _ => ∃ (t : Addr) (x y b : Int), vs = [.ref t, .int b] ∧ H t = some (.tup [.int x, .int y]) ∧ ∀ p H2, H p = none → Ex H H2 → H2 p = some (.tup (if b = 0 then [.int x, .int y] else [.int y, .int x])) → Q (.ref p) H2
theorem ok_lying {f : Addr} {fd : FuncData} (F : Fun K "lying" "lying" sLying f fd) : FnOk P w K mg base CX0 1 f fd ["stone", "turned"] spLying := by
  refine F.ok scLying (fun vs H Q E h => ?_) (fun cdv A outer s H vs Q E hr h => ?_)
  · obtain ⟨t, x, y, b, rfl, _⟩ := h
    rfl
  · obtain ⟨t, x, y, b, rfl, ht, q⟩ := h
    refine ⟨_, pss_cons (ps_asg (pv 0) (pg_tup rfl (pgs_cons (pg_name (i := 2) scLying.nd rfl (.inl rfl)) (pgs_cons (pg_name (i := 3) scLying.nd rfl (.inl rfl)) pgs_nil))))
      (pss_one (ps_ret (pe_ifExp (pt_truth (pv 1) (fun _ => rfl)) (pe_tup (pa_cons (pv 3) (pa_cons (pv 2) pa_nil))) (pe_tup (pa_cons (pv 2) (pa_cons (pv 3) pa_nil)))))), ?_⟩
    refine ⟨_, rfl, t, [.int x, .int y], rfl, SqT.of ht, rfl, .int x, [.int y], rfl, .int y, [], rfl, rfl, ?_⟩
    refine ⟨_, rfl, (b != 0), rfl, ?_⟩
    by_cases c : b = 0
    · rw [show (b != 0) = false from by rw [c]; rfl]
      refine ⟨_, rfl, _, rfl, by show 2 ≤ sizeLine; decide, fun p np => q p _ np (Ex.new np) ?_⟩
      rw [upd_same, if_pos c]
    · rw [show (b != 0) = true from bne_iff_ne.mpr c]
      refine ⟨_, rfl, _, rfl, by show 2 ≤ sizeLine; decide, fun p np => q p _ np (Ex.new np) ?_⟩
      rw [upd_same, if_neg c]
/-! ### _lies -/
theorem scLies : FnScope ["stones", "step", "place", "turned"] ["stones", "step"] (defScope sLies) := ⟨rfl, rfl, rfl, by decide +kernel, rfl, by decide +kernel, by decide +kernel⟩
def spLies : Sp := fun vs H Q _ => ∃ (a t : Addr) (st : List (Int × Int)) (s : Step), vs = [.ref a, .ref t] ∧ StonesAt H a st ∧ H t = some (.tup [.int (s.1 : Int), .int (s.2 : Int)]) ∧ s.1 < st.length ∧ ∀ p H2, H p = none → Ex H H2 → H2 p = some (.tup [.int (lie st s).1, .int (lie st s).2]) → Q (.ref p) H2
theorem ok_lies {f fY : Addr} {fd fdY : FuncData} (F : Fun K "lies" "lies" sLies f fd)
    (GY : FnOk P w K mg base CX0 1 fY fdY ["stone", "turned"] spLying) (gY : mg "lying" = some (.ref fY)) (kY : PySem.W.keepIn K (.ref fY) = true) (bY : Binds K fdY ["stone", "turned"] []) : FnOk P w K mg base CX0 2 f fd ["stones", "step"] spLies := by
  refine F.ok scLies (fun vs H Q E h => ?_) (fun cdv A outer s H vs Q E hr h => ?_)
  · obtain ⟨a, t, st, s, rfl, _⟩ := h
    rfl
  · obtain ⟨a, t, st, s, rfl, hS, ht, hl, q⟩ := h
    refine ⟨_, pss_cons (ps_asg (pv 1) (pg_tup rfl (pgs_cons (pg_name (i := 2) scLies.nd rfl (.inl rfl)) (pgs_cons (pg_name (i := 3) scLies.nd rfl (.inl rfl)) pgs_nil))))
      (pss_one (ps_ret (pe_call GY hr (by rfl) gY kY bY .nil pass0 (pa_cons (pe_ix (r := rIxL K) ix_list (pv 0) (pv 2) (fun _ _ => rfl)) (pa_cons (pv 3) pa_nil))))), ?_⟩
    obtain ⟨ts, u, u1, u2, u3⟩ := hS.get hl
    refine ⟨_, rfl, t, _, rfl, SqT.of ht, rfl, .int (s.1 : Int), [.int (s.2 : Int)], rfl, .int (s.2 : Int), [], rfl, rfl, ?_⟩
    refine ⟨_, rfl, _, rfl, a, _, _, _, rfl, rfl, SqL.of u1, atI_nat u2, _, rfl, u, _, _, (s.2 : Int), rfl, u3, fun p H2 np e2 h2 => q p H2 np e2 ?_⟩
    rw [h2]
    unfold lie
    by_cases c : s.2 = 0
    · rw [if_pos c, if_pos (by omega)]
    · rw [if_neg c, if_neg (by omega)]
theorem pv_lies1 {a t : Addr} {st : List (Int × Int)} {s : Step} {σ : L2.St} {H : Hp} {E : XK} {i j : Nat} (h0 : σ[i]? = some (some (.ref a))) (h1 : σ[j]? = some (some (.ref t))) (hS : StonesAt H a st) (ht : H t = some (.tup [.int (s.1 : Int), .int (s.2 : Int)])) (hl : s.1 < st.length) :
    Ev (tOp (rIxT K) (tCall spLies [] E (tCons (tVar i) (tCons (tVar j) tNil))) (tC (.int 1))) σ H (.int (lie st s).2) := fun H1 e Q q =>
  ⟨_, h0, _, h1, a, t, st, s, rfl, hS.ex e, e _ _ ht, hl, fun p H2 np e2 h2 => ⟨p, _, 1, _, rfl, rfl, SqT.of h2, rfl, q H2 e2⟩⟩
end
end Sw
namespace Sw
open PySem PySem.Spec PyProof.Rows L2
open Evl (Ex Ex.refl Ex.trans Ex.new Ex.mut ex_l ex_t ex_rd fresh_back Ev EvL EvU EvT EvA RV RC RCL SpV SpL)
section
variable {P : Program} {w : World} {K : PySem.W.Frag} {mg : Str → Option Value} {base : Heap}
/-! ### _fitting -/
def leftS : Str := "left"
def rightS : Str := "right"
/-- how a stone is turned to fit: at the left its second number is the first of the chain, at the right its first one the last -/
def fitV (e : Int × Int) (right : Bool) (s : Int × Int) : V := if right then (if s.1 = e.2 then .int 0 else if s.2 = e.2 then .int 1 else .non) else if s.2 = e.1 then .int 0 else if s.1 = e.1 then .int 1 else .non
def sideS (right : Bool) : Str := if right then rightS else leftS
theorem scFitting : FnScope ["ends", "side", "stone", "turned", "first", "second"] ["ends", "side", "stone"] (defScope s_fitting) := ⟨rfl, rfl, rfl, by decide +kernel, rfl, by decide +kernel, by decide +kernel⟩
def spFitting : Sp := fun vs H Q _ => ∃ (te ts : Addr) (e s : Int × Int) (right : Bool), vs = [.ref te, .str (sideS right), .ref ts] ∧ H te = some (.tup [.int e.1, .int e.2]) ∧ H ts = some (.tup [.int s.1, .int s.2]) ∧ Evl.RetV (fitV e right s) H Q
theorem ok_fitting {f fL : Addr} {fd fdL : FuncData} (F : Fun K "_fitting" "_fitting" s_fitting f fd)
    (GL : FnOk P w K mg base CX0 1 fL fdL ["stone", "turned"] spLying) (gL : mg "lying" = some (.ref fL)) (kL : PySem.W.keepIn K (.ref fL) = true) (bL : Binds K fdL ["stone", "turned"] []) : FnOk P w K mg base CX0 2 f fd ["ends", "side", "stone"] spFitting := by
  refine F.ok scFitting (fun vs H Q E h => ?_) (fun cdv A outer s H vs Q E hr h => ?_)
  · obtain ⟨te, ts, e, s, right, rfl, _⟩ := h
    rfl
  · obtain ⟨te, ts, e, s, right, rfl, he, hs, q⟩ := h
    refine ⟨_, pss_cons (ps_for PassesOwn.never rfl (pi_tup (pe_tup (pa_cons pe_int (pa_cons pe_int pa_nil)))) (pg_name (i := 3) scFitting.nd rfl (.inl rfl))
        (pss_cons (ps_asg (pe_call GL hr (by rfl) gL kL bL .nil pass0 (pa_cons (pv 2) (pa_cons (pv 3) pa_nil))) (pg_tup rfl (pgs_cons (pg_name (i := 4) scFitting.nd rfl (.inl rfl)) (pgs_cons (pg_name (i := 5) scFitting.nd rfl (.inl rfl)) pgs_nil))))
        (pss_cons (ps_if (PW.pt (pw_and (pt_cmpR op_eq (pv 1) pe_str (nomark _)) (pw_and1 (pt_cmpR op_eq (pv 5) (pe_ix (r := rIxT K) ix_tup (pv 0) pe_int (fun _ _ => rfl)) (nomark _))))) (pss_one (ps_ret (pv 3))) pss_nil)
        (pss_one (ps_if (PW.pt (pw_and (pt_cmpR op_eq (pv 1) pe_str (nomark _)) (pw_and1 (pt_cmpR op_eq (pv 4) (pe_ix (r := rIxT K) ix_tup (pv 0) pe_int (fun _ _ => rfl)) (nomark _))))) (pss_one (ps_ret (pv 3))) pss_nil)))))
      (pss_one (ps_ret pe_non)), ?_⟩
    have eqS : ∀ {σ : L2.St} {H' : Hp} {x : Str} (y : Str), σ[1]? = some (some (.str x)) → EvT (tTest (tOp rEq (tVar 1) (tC (.str y)))) σ H' (decide (x = y)) := fun {σ H' x} y h => Evl.et_test (Evl.ev_is (Evl.ev_op (Evl.ev_var h) Evl.ev_c (Evl.rv_eq rfl)) (decV ⟨fun h => V.str.inj h, fun h => by rw [h]⟩))
    refine ⟨by show 2 ≤ sizeLine; decide, fun tp ntp => ?_⟩
    have e0 : Ex H (upd H tp (.tup [.int 0, .int 1])) := Ex.new ntp
    have htp : (upd H tp (.tup [.int 0, .int 1])) tp = some (.tup [.int 0, .int 1]) := upd_same
    generalize upd H tp (.tup [.int 0, .int 1]) = H1 at e0 htp ⊢
    refine ⟨tp, rfl, ⟨_, SqT.of htp⟩, for_tup (K := K) (a := tp) (xs := [.int 0, .int 1]) (fun i σ H' => Ex H1 H' ∧ (1 ≤ i → (right = true → s.1 ≠ e.2) ∧ (right = false → s.2 ≠ e.1)) ∧ (2 ≤ i → (right = true → s.2 ≠ e.2) ∧ (right = false → s.1 ≠ e.1)) ∧ ∃ x3 x4 x5 : Option V, σ = [some (.ref te), some (.str (sideS right)), some (.ref ts), x3, x4, x5])
      ⟨Ex.refl H1, fun h => by omega, fun h => by omega, _, _, _, rfl⟩ (fun i σ H' _ h => SqT.of (h.1 _ _ htp)) ?_ ?_⟩
    · rintro i x σ H2 hi ⟨e2, h1, h2, x3, x4, x5, rfl⟩
      have he2 := (e0.trans e2) _ _ he
      have hs2 := (e0.trans e2) _ _ hs
      have sl : decide (sideS right = leftS) = !right := by cases right <;> decide +kernel
      have sr : decide (sideS right = rightS) = right := by cases right <;> decide +kernel
      have turn : ∀ (j : Nat) (f g : Int) (p : Addr) (H3 : Hp), Ex H2 H3 → (right = false → g = e.1 → fitV e right s = .int (j : Int)) → (right = true → f = e.2 → fitV e right s = .int (j : Int)) → (∀ H4, Ex H1 H4 → (right = true → f ≠ e.2) → (right = false → g ≠ e.1) → (1 ≤ j + 1 → (right = true → s.1 ≠ e.2) ∧ (right = false → s.2 ≠ e.1)) ∧ (2 ≤ j + 1 → (right = true → s.2 ≠ e.2) ∧ (right = false → s.1 ≠ e.1))) → i = j →
          tSeq (tIfS (tAnd (tTest (tOp rEq (tVar 1) (tC (.str leftS)))) (tTest (tOp rEq (tVar 5) (tOp (rIxT K) (tVar 0) (tC (.int 0)))))) (tRet (tVar 3)) tNext) (tIfS (tAnd (tTest (tOp rEq (tVar 1) (tC (.str rightS)))) (tTest (tOp rEq (tVar 4) (tOp (rIxT K) (tVar 0) (tC (.int 1)))))) (tRet (tVar 3)) tNext)
            { nx := fun σ H' => Ex H1 H' ∧ (1 ≤ i + 1 → (right = true → s.1 ≠ e.2) ∧ (right = false → s.2 ≠ e.1)) ∧ (2 ≤ i + 1 → (right = true → s.2 ≠ e.2) ∧ (right = false → s.1 ≠ e.1)) ∧ ∃ x3 x4 x5 : Option V, σ = [some (.ref te), some (.str (sideS right)), some (.ref ts), x3, x4, x5], ct := fun σ H' => Ex H1 H' ∧ (1 ≤ i + 1 → (right = true → s.1 ≠ e.2) ∧ (right = false → s.2 ≠ e.1)) ∧ (2 ≤ i + 1 → (right = true → s.2 ≠ e.2) ∧ (right = false → s.1 ≠ e.1)) ∧ ∃ x3 x4 x5 : Option V, σ = [some (.ref te), some (.str (sideS right)), some (.ref ts), x3, x4, x5], bk := tRet (tC .non) { nx := fun _ H' => Q .non H', rt := Q }, rt := Q } [some (.ref te), some (.str (sideS right)), some (.ref ts), some (.int (j : Int)), some (.int f), some (.int g)] H3 := fun j f g p H3 e3 w1 w2 w3 ij => by
        have he3 := e3 _ _ he2
        refine Evl.q_when (Evl.et_and (eqS leftS rfl) fun _ => Evl.et_test (Evl.ev_is (Evl.ev_op (Evl.ev_var rfl) (Evl.ev_op (Evl.ev_var rfl) Evl.ev_c (Evl.rv_ixT (K := K) (SqT.of he3) (atI_nat (j := 0) rfl))) (Evl.rv_eq rfl)) (decV (P := g = e.1) ⟨fun h => V.int.inj h, fun h => by rw [h]⟩))) (fun hb H4 e4 => ?_) fun hb H4 e4 => ?_
        · rw [sl, Bool.and_eq_true, Bool.not_eq_true', decide_eq_true_eq] at hb
          rw [w1 hb.1 hb.2] at q
          exact ⟨_, rfl, q H4 (((e0.trans e2).trans e3).trans e4)⟩
        · have he4 := e4 _ _ he3
          refine Evl.s_when (Evl.et_and (eqS rightS rfl) fun _ => Evl.et_test (Evl.ev_is (Evl.ev_op (Evl.ev_var rfl) (Evl.ev_op (Evl.ev_var rfl) Evl.ev_c (Evl.rv_ixT (K := K) (SqT.of he4) (atI_nat (j := 1) rfl))) (Evl.rv_eq rfl)) (decV (P := f = e.2) ⟨fun h => V.int.inj h, fun h => by rw [h]⟩))) (fun hb2 H5 e5 => ?_) fun hb2 H5 e5 => ?_
          · rw [sr, Bool.and_eq_true, decide_eq_true_eq] at hb2
            rw [w2 hb2.1 hb2.2] at q
            exact ⟨_, rfl, q H5 ((((e0.trans e2).trans e3).trans e4).trans e5)⟩
          · have e15 := ((e2.trans e3).trans e4).trans e5
            obtain ⟨k1, k2⟩ := w3 H5 e15 (fun hr' hf => by rw [sr, hr', decide_eq_true hf] at hb2; cases hb2) (fun hr' hg => by rw [sl, hr', decide_eq_true hg] at hb; cases hb)
            subst ij
            exact ⟨e15, k1, k2, _, _, _, rfl⟩
      match i, hi with
      | 0, hi =>
        obtain rfl := Option.some.inj hi
        refine ⟨_, rfl, _, rfl, ts, s.1, s.2, 0, rfl, hs2, fun p H3 np e3 hp => ?_⟩
        rw [if_pos rfl] at hp
        refine ⟨p, [.int s.1, .int s.2], rfl, SqT.of hp, rfl, .int s.1, [.int s.2], rfl, .int s.2, [], rfl, rfl, ?_⟩
        exact turn 0 s.1 s.2 p H3 e3 (fun hr' hg => by unfold fitV; rw [hr', if_neg Bool.false_ne_true, if_pos hg]; rfl) (fun hr' hf => by unfold fitV; rw [if_pos hr', if_pos hf]; rfl) (fun H4 e4 k1 k2 => ⟨fun _ => ⟨k1, k2⟩, fun h => by omega⟩) rfl
      | 1, hi =>
        obtain rfl := Option.some.inj hi
        refine ⟨_, rfl, _, rfl, ts, s.1, s.2, 1, rfl, hs2, fun p H3 np e3 hp => ?_⟩
        rw [if_neg (by decide)] at hp
        obtain ⟨n1, n2⟩ := h1 (Nat.le_refl 1)
        refine ⟨p, [.int s.2, .int s.1], rfl, SqT.of hp, rfl, .int s.2, [.int s.1], rfl, .int s.1, [], rfl, rfl, ?_⟩
        exact turn 1 s.2 s.1 p H3 e3 (fun hr' hg => by unfold fitV; rw [hr', if_neg Bool.false_ne_true, if_neg (n2 hr'), if_pos hg]; rfl) (fun hr' hf => by unfold fitV; rw [if_pos hr', if_neg (n1 hr'), if_pos hf]; rfl) (fun H4 e4 k1 k2 => ⟨fun _ => ⟨n1, n2⟩, fun _ => ⟨k1, k2⟩⟩) rfl
      | i + 2, hi => simp at hi
    · rintro σ H2 ⟨e2, h1, h2, x3, x4, x5, rfl⟩
      have z : fitV e right s = .non := by
        obtain ⟨a1, a2⟩ := h1 (by decide)
        obtain ⟨b1, b2⟩ := h2 (by decide)
        unfold fitV
        cases hr' : right with
        | true => rw [if_pos rfl, if_neg (a1 hr'), if_neg (b1 hr')]
        | false => rw [if_neg Bool.false_ne_true, if_neg (a2 hr'), if_neg (b2 hr')]
      rw [z] at q
      exact q H2 (e0.trans e2)
end
end Sw
namespace Sw
open PySem PySem.Spec PyProof.Rows L2
open Evl (Ex Ex.refl Ex.trans Ex.new Ex.mut ex_l ex_t ex_rd fresh_back Ev EvL EvU EvT EvA RV RC RCL SpV SpL)
section
variable {K : PySem.W.Frag} {σ : L2.St} {H : Hp} {ta tb te tl : TE}
theorem small_lt {n : Nat} (h : n < 100000) : n < sizeLine := Evl.sz_lt h
/-- what tells a new list of stones -/
def EvStN (te : TE) (σ : L2.St) (H : Hp) (st : List (Int × Int)) : Prop := ∀ H1, Ex H H1 → ∀ Q : VK, (∀ p H2, H1 p = none → Ex H1 H2 → StonesAt H2 p st → Q (.ref p) H2) → te σ H1 Q
theorem EvStN.st {su : List (Int × Int)} (h : EvStN te σ H su) : EvSt te σ H su := fun H1 e Q q => h H1 e Q fun p H2 _ e2 hp => q p H2 e2 hp
/-- [e for x in xs], each e a new pair of numbers -/
theorem esn_lc {a : Addr} {xs : List V} {ys : List (Int × Int)} {j : Nat} {vs : List Nat} (h : Ev tl σ H (.ref a)) (hx : SqL K H a xs) (hz : xs.length ≤ 40000) (hl : ys.length = xs.length) (hw : ∀ x, wipe ((wipe σ vs).set j (some x)) vs = wipe σ vs)
    (he : ∀ (i : Nat) (x : V) (s : Int × Int) H1, Ex H H1 → xs[i]? = some x → ys[i]? = some s → ∀ Q : VK, (∀ z H2, Ex H1 H2 → H2 z = some (.tup [.int s.1, .int s.2]) → Q (.ref z) H2) → te ((wipe σ vs).set j (some x)) H1 Q) :
    EvStN (tLc (iList K tl) (gName j) tYes te vs) σ H ys := fun H1 e Q q => h H1 e _ fun H2 e2 => ⟨a, rfl, ⟨xs, ex_l (e.trans e2) hx⟩, fun D nD => by
  refine lc_list (xs := xs) (fun k H' => ∃ zs : List Addr, Ex H2 H' ∧ H' D = some (.lst (zs.map V.ref)) ∧ zs.length = k ∧ ∀ (i : Nat) (z : Addr) (s : Int × Int), zs[i]? = some z → ys[i]? = some s → z ≠ D ∧ H' z = some (.tup [.int s.1, .int s.2]))
    ⟨[], Ex.new nD, upd_same, rfl, fun i z s e => by simp at e⟩ (fun i H' _ h => by obtain ⟨_, e3, _⟩ := h; exact ex_l ((e.trans e2).trans e3) hx) ?_ ?_
  · rintro k v H3 hk ⟨zs, e3, hD, hzs, hin⟩
    have il : k < xs.length := (List.getElem?_eq_some_iff.mp hk).1
    refine ⟨hw v, ?_⟩
    unfold tYes
    dsimp only
    rw [if_pos rfl]
    refine he k v ys[k] H3 ((e.trans e2).trans e3) hk (List.getElem?_eq_getElem (by omega)) _ fun z H4 e4 hz4 => ?_
    have hD4 := e4 _ _ hD
    have zD : z ≠ D := fun e => by
      rw [e, hD4] at hz4
      cases hz4
    refine ⟨_, hD4, small_lt (by rw [List.length_map, hzs]; omega), zs ++ [z], Ex.mut (e3.trans e4) nD, by rw [upd_same, List.map_append]; rfl, by rw [List.length_append, hzs]; rfl, fun i z' s' g1 g2 => ?_⟩
    by_cases c : i < zs.length
    · rw [List.getElem?_append_left c] at g1
      obtain ⟨n1, n2⟩ := hin i z' s' g1 g2
      exact ⟨n1, by rw [upd_ne n1]; exact e4 _ _ n2⟩
    · rw [List.getElem?_append_right (by omega)] at g1
      have zz : i - zs.length = 0 := by
        have := (List.getElem?_eq_some_iff.mp g1).1
        simp at this
        omega
      rw [zz] at g1
      have g1 : z = z' := Option.some.inj g1
      have ik : i = k := by omega
      rw [ik, List.getElem?_eq_getElem (by omega)] at g2
      have g2 := Option.some.inj g2
      rw [← g1, ← g2]
      exact ⟨zD, by rw [upd_ne zD]; exact hz4⟩
  · rintro H3 ⟨zs, e3, hD, hzs, hin⟩
    exact q D H3 (fresh_back e2 nD) (e2.trans e3) ⟨zs, hD, by omega, fun i z s g1 g2 => (hin i z s g1 g2).2⟩⟩
theorem es_lc {a : Addr} {xs : List V} {ys : List (Int × Int)} {j : Nat} {vs : List Nat} (h : Ev tl σ H (.ref a)) (hx : SqL K H a xs) (hz : xs.length ≤ 40000) (hl : ys.length = xs.length) (hw : ∀ x, wipe ((wipe σ vs).set j (some x)) vs = wipe σ vs)
    (he : ∀ (i : Nat) (x : V) (s : Int × Int) H1, Ex H H1 → xs[i]? = some x → ys[i]? = some s → ∀ Q : VK, (∀ z H2, Ex H1 H2 → H2 z = some (.tup [.int s.1, .int s.2]) → Q (.ref z) H2) → te ((wipe σ vs).set j (some x)) H1 Q) :
    EvSt (tLc (iList K tl) (gName j) tYes te vs) σ H ys := (esn_lc h hx hz hl hw he).st
/-- one turn of a comprehension -/
abbrev LcTurn (g : TG) (tt : TT) (te : TE) (vs : List Nat) (σ : L2.St) (D : Addr) (z : V) (J1 : Hp) (Nx : Hp → Prop) : Prop :=
  g z (wipe σ vs) J1 fun s2 J2 => wipe s2 vs = wipe σ vs ∧ tt s2 J2 fun c J3 => if c = true then te s2 J3 fun u J4 => ∃ l, J4 D = some (.lst l) ∧ l.length < sizeLine ∧ Nx (upd J4 D (.lst (l ++ [u]))) else Nx J3
/-- its run over a walked thing -/
abbrev LcRun (J : It) (J0 : Hp) (Qd : Hp → Prop) (turn : V → Hp → (Hp → Prop) → Prop) : Prop := ∃ U : Nat → Nat → Hp → Prop, (∃ n, U 0 n J0) ∧ ∀ i n J1, U i n J1 →
  (J.stop i J1 ∧ Qd J1) ∨ (J.go i J1 ∧ ∃ Nx : Hp → Prop, (∀ J2, Nx J2 → ∃ k, k < n ∧ U (i + 1) k J2) ∧ ∀ z J2, J.yld i J1 z J2 → turn z J2 Nx)
/-- a comprehension over zip -/
theorem lc_zip {a b : Addr} {xs ys : List V} {g : TG} {tt : TT} {vs : List Nat} {J0 : Hp} {D : Addr} {Qd : Hp → Prop} (Pv : Nat → Hp → Prop) (h0 : Pv 0 J0) (hl : ∀ i J, Pv i J → SqL K J a xs ∧ SqL K J b ys)
    (hs : ∀ (i : Nat) (x y : V) (T : Addr) (J : Hp), xs[i]? = some x → ys[i]? = some y → Pv i J → J T = none → LcTurn g tt te vs σ D (.ref T) (upd J T (.tup [x, y])) (Pv (i + 1))) (hd : ∀ J, Pv (min xs.length ys.length) J → Qd J) :
    LcRun (Itz K a b) J0 Qd (LcTurn g tt te vs σ D) := by
  refine ⟨fun i m J => m + i = min xs.length ys.length ∧ Pv i J, ⟨_, rfl, h0⟩, fun i m J ⟨hm, p⟩ => ?_⟩
  obtain ⟨qx, qy⟩ := hl i J p
  cases m with
  | zero =>
    have e : i = min xs.length ys.length := by omega
    refine .inl ⟨⟨xs, ys, qx, qy, by omega⟩, hd J (by rw [← e]; exact p)⟩
  | succ m =>
    have i1 : i < xs.length := by omega
    have i2 : i < ys.length := by omega
    refine .inr ⟨⟨xs, ys, _, _, qx, qy, List.getElem?_eq_getElem i1, List.getElem?_eq_getElem i2⟩, Pv (i + 1), fun H' p' => ⟨m, Nat.lt_succ_self m, by omega, p'⟩, fun v H' yl => ?_⟩
    obtain ⟨T, x, y, rfl, nT, rfl, f1, f2⟩ := yl
    exact hs i x y T J (f1 xs qx) (f2 ys qy) p nT
/-- a comprehension's loop over a list, whatever its turn -/
theorem lc_over {a : Addr} {xs : List V} {J0 : Hp} {Qd : Hp → Prop} {turn : V → Hp → (Hp → Prop) → Prop} (Pv : Nat → Hp → Prop) (h0 : Pv 0 J0) (hl : ∀ i J, Pv i J → SqL K J a xs)
    (hs : ∀ i x J, xs[i]? = some x → Pv i J → turn x J (Pv (i + 1))) (hd : ∀ J, Pv xs.length J → Qd J) : LcRun (Itl K a) J0 Qd turn := by
  refine ⟨fun i m J => m + i = xs.length ∧ Pv i J, ⟨xs.length, rfl, h0⟩, fun i m J ⟨hm, p⟩ => ?_⟩
  have q := hl i J p
  cases m with
  | zero =>
    have e : i = xs.length := by omega
    exact .inl ⟨⟨xs, q, by omega⟩, hd J (by rw [← e]; exact p)⟩
  | succ m =>
    have il : i < xs.length := by omega
    refine .inr ⟨⟨xs, xs[i], q, List.getElem?_eq_getElem il⟩, Pv (i + 1), fun H' p' => ⟨m, Nat.lt_succ_self m, by omega, p'⟩, fun v H' yl => ?_⟩
    obtain ⟨e, f⟩ := yl
    subst e
    exact hs i v _ (f xs q) p
end
end Sw
namespace Sw
open PySem PySem.Spec PyProof.Rows L2 TL
open Evl (Ex Ex.refl Ex.trans Ex.new Ex.mut ex_l ex_t ex_rd fresh_back Ev EvL EvU EvT EvA RV RC RCL SpV SpL)
/-! ### stones as text -/
def numS (i : Int) : Str := (toString i : String)
def dashS : Str := "-"
def gapS : Str := " "
def barS : Str := " | "
def wordS (s : Int × Int) : Str := numS s.1 ++ dashS ++ numS s.2
def lineS (st : List (Int × Int)) : Str := Txt.join gapS (st.map wordS)
theorem tl_numS {i : Int} (h : 0 ≤ i) : tl (numS i) = numL i.toNat := by
  obtain ⟨n, rfl⟩ := Int.eq_ofNat_of_zero_le h
  exact tl_num n
theorem tl_dash : tl dashS = [45] := by decide +kernel
theorem tl_gap : tl gapS = [32] := by decide +kernel
theorem tl_bar : tl barS = [32, 124, 32] := by decide +kernel
theorem numL_six {i : Int} (h1 : i ≤ 999999) : (numL i.toNat).length ≤ 6 := numL_len (by decide) (by omega)
theorem numS_len {i : Int} (h : 0 ≤ i) (h1 : i ≤ 999999) : (numS i).length ≤ 6 := by
  rw [len_tl, tl_numS h]
  exact numL_six h1
theorem numS_free {i : Int} {c : Nat} (h : 0 ≤ i) (hc : c < 48 ∨ 57 < c) : c ∉ tl (numS i) := by
  rw [tl_numS h]
  exact numL_free hc
theorem tl_word (s : Int × Int) : tl (wordS s) = tl (numS s.1) ++ [45] ++ tl (numS s.2) := by
  unfold wordS
  rw [tl_append, tl_append, tl_dash]
theorem word_len {s : Int × Int} (h : GoodS s) : (wordS s).length ≤ 13 := by
  have a := numS_len h.1.1 h.1.2
  have b := numS_len h.2.1 h.2.2
  rw [len_tl] at a b ⊢
  rw [tl_word, List.length_append, List.length_append]
  show _ + 1 + _ ≤ _
  omega
theorem word_free {s : Int × Int} (h : GoodS s) : 32 ∉ tl (wordS s) := by
  rw [tl_word, List.mem_append, List.mem_append]
  rintro ((k | k) | k)
  · exact numS_free h.1.1 (.inl (by decide)) k
  · exact absurd (List.mem_singleton.mp k) (by decide)
  · exact numS_free h.2.1 (.inl (by decide)) k
theorem word_join (s : Int × Int) : wordS s = Txt.join dashS [numS s.1, numS s.2] := by
  rw [join_eq]
  rfl
theorem word_split {s : Int × Int} (h : GoodS s) : Txt.split (wordS s) dashS = [numS s.1, numS s.2] := by
  rw [word_join]
  refine split_join (s := 45) (S := []) tl_dash (by decide +kernel) (List.cons_ne_nil _ _) fun p hp => ?_
  rcases List.mem_cons.mp hp with e | hp
  · rw [e]
    exact numS_free h.1.1 (.inl (by decide))
  · rw [List.mem_singleton.mp hp]
    exact numS_free h.2.1 (.inl (by decide))
theorem line_split {st : List (Int × Int)} (hn : st ≠ []) (h : ∀ s ∈ st, GoodS s) : Txt.split (lineS st) gapS = st.map wordS := by
  refine split_join (s := 32) (S := []) tl_gap (by decide +kernel) (fun e => hn (List.map_eq_nil_iff.mp e)) fun p hp => ?_
  obtain ⟨s, hs, rfl⟩ := List.mem_map.mp hp
  exact word_free (h s hs)
theorem joinL_len (S : List Nat) : ∀ l : List (List Nat), (joinL S l).length ≤ (l.map fun p => p.length + S.length).sum
  | [] => Nat.le_refl _
  | [p] => by
    show p.length ≤ p.length + S.length + 0
    omega
  | p :: q :: r => by
    have ih := joinL_len S (q :: r)
    show (p ++ (S ++ joinL S (q :: r))).length ≤ _
    rw [List.length_append, List.length_append, List.map_cons, List.sum_cons]
    omega
theorem sum_le_mul {α : Type} (f : α → Nat) (k : Nat) : ∀ l : List α, (∀ x ∈ l, f x ≤ k) → (l.map f).sum ≤ l.length * k
  | [], _ => Nat.zero_le _
  | x :: l, h => by
    have ih := sum_le_mul f k l fun y hy => h y (List.mem_cons.mpr (.inr hy))
    have hx := h x List.mem_cons_self
    rw [List.map_cons, List.sum_cons, List.length_cons, Nat.succ_mul]
    omega
theorem line_len {st : List (Int × Int)} (h : ∀ s ∈ st, GoodS s) : (lineS st).length ≤ st.length * 14 := by
  unfold lineS
  rw [len_tl, join_eq, tl_join, tl_gap]
  refine Nat.le_trans (joinL_len _ _) ?_
  rw [List.map_map, List.map_map]
  refine sum_le_mul _ 14 st fun s hs => ?_
  have := word_len (h s hs)
  rw [len_tl] at this
  show (tl (wordS s)).length + 1 ≤ 14
  omega
theorem line_nil : lineS [] = Str.empty := rfl
theorem joinL_pos {S : List Nat} : ∀ {l : List (List Nat)}, l ≠ [] → (∀ p ∈ l, p ≠ []) → joinL S l ≠ []
  | [], h, _ => absurd rfl h
  | [p], _, h => h p List.mem_cons_self
  | p :: q :: r, _, h => fun e => by
    have := List.append_eq_nil_iff.mp (show p ++ (S ++ joinL S (q :: r)) = [] from e)
    exact h p List.mem_cons_self this.1
theorem line_ne {st : List (Int × Int)} (hn : st ≠ []) : lineS st ≠ Str.empty := fun e => by
  have z : tl (lineS st) = [] := by
    rw [e]
    rfl
  unfold lineS at z
  rw [join_eq, tl_join] at z
  refine joinL_pos (fun e => hn (List.map_eq_nil_iff.mp (List.map_eq_nil_iff.mp e))) (fun p hp => ?_) z
  obtain ⟨x, hx, rfl⟩ := List.mem_map.mp hp
  obtain ⟨s, _, rfl⟩ := List.mem_map.mp hx
  rw [tl_word]
  intro e
  have := (List.append_eq_nil_iff.mp (List.append_eq_nil_iff.mp e).1).2
  cases this
theorem int_numS {i : Int} (h : 0 ≤ i) (h1 : i ≤ 999999) : intText? (numS i) = some i := by
  obtain ⟨n, rfl⟩ := Int.eq_ofNat_of_zero_le h
  exact int_num (Nat.le_trans (numL_six (i := (n : Int)) h1) (by decide))
/-! ### numerals -/
def numeralB (l : List Nat) : Bool := (decide (1 ≤ l.length) && decide (l.length ≤ 6)) && ((l.all fun c => decide (c ∈ [48, 49, 50, 51, 52, 53, 54, 55, 56, 57])) && (decide (l = [48]) || !decide (l.head? = some 48)))
theorem numL_head : ∀ (k n : Nat), n ≤ k → n ≠ 0 → (numL n).head? ≠ some 48
  | 0, n, h, hn => absurd (Nat.le_zero.mp h) hn
  | k + 1, n, h, hn => by
    by_cases c : n < 10
    · rw [numL_lt c]
      intro e
      have e := Option.some.inj e
      omega
    · rw [numL_step (by omega)]
      have ih := numL_head k (n / 10) (by omega) (by omega)
      have ne := numL_ne (n / 10)
      cases e : numL (n / 10) with
      | nil => exact absurd e ne
      | cons x r =>
        rw [e] at ih
        exact ih
theorem numeral_num {i : Int} (h : 0 ≤ i) (h1 : i ≤ 999999) : numeralB (tl (numS i)) = true := by
  rw [tl_numS h]
  have l := numL_six h1
  have p := List.length_pos_iff.mpr (numL_ne i.toNat)
  unfold numeralB
  refine Bool.and_eq_true_iff.mpr ⟨?_, Bool.and_eq_true_iff.mpr ⟨?_, ?_⟩⟩
  · rw [decide_eq_true (show 1 ≤ (numL i.toNat).length from p), decide_eq_true l]
    rfl
  · rw [List.all_eq_true]
    intro c hc
    have := numL_digits i.toNat c hc
    refine decide_eq_true ?_
    have a1 := this.1
    have a2 := this.2
    simp only [List.mem_cons, List.not_mem_nil, or_false]
    omega
  · by_cases z : i.toNat = 0
    · rw [z]
      rfl
    · rw [decide_eq_false (numL_head _ _ (Nat.le_refl _) z), Bool.or_eq_true]
      exact .inr rfl
section
variable {K : PySem.W.Frag} {σ : L2.St} {H : Hp} {ta tb te tl' : TE}
/-! ### what tells texts -/
theorem log_ok {i : Int} (h : 0 ≤ i) (h1 : i ≤ 999999) : i.natAbs.log2 < 1920 := by
  by_cases z : i.natAbs = 0
  · rw [z]
    decide
  · have : i.natAbs.log2 < 20 := (Nat.log2_lt z).mpr (by show i.natAbs < 1048576; omega)
    omega
def rStrI : List V → Hp → VK → Prop := fun xs H Q => ∃ i, xs = [.int i] ∧ i.natAbs.log2 < 1920 ∧ Q (.str (toString i)) H
theorem ev_str {i : Int} (h : Ev te σ H (.int i)) (h0 : 0 ≤ i) (h1 : i ≤ 999999) : Ev (tCB rStrI (tCons te tNil)) σ H (.str (numS i)) := fun H1 e Q q => h H1 e _ fun H2 e2 => ⟨i, rfl, log_ok h0 h1, q H2 e2⟩
def rAddS : R2 := fun x y H Q => ∃ i j, x = .str i ∧ y = .str j ∧ i.length + j.length ≤ sizeLine ∧ Q (.str (i ++ j)) H
theorem rv_addS {x y : Str} (h : x.length + y.length ≤ 100000) : RV rAddS (.str x) (.str y) H (.str (x ++ y)) := fun H1 _ Q q => ⟨x, y, rfl, rfl, Evl.sz_of h, q H1 (Ex.refl H1)⟩
abbrev rJoin (K : PySem.W.Frag) : V → List V → Hp → VK → Prop := fun x xs H Q => ∃ a p, ∃ ys : List Str, x = .str a ∧ xs = [.ref p] ∧ (SqL K H p (ys.map V.str) ∨ SqT K H p (ys.map V.str)) ∧
      (ys.map (·.length)).sum + ys.length * a.length ≤ 16777216 ∧ Q (.str (Txt.join a ys)) H
theorem ev_joinN {z : Str} {ys : List Str} (h : Ev ta σ H (.str z)) (k : EvL te σ H (ys.map V.str)) (hz : (ys.map (·.length)).sum + ys.length * z.length ≤ 16777216) : Ev (tM1 (rJoin K) ta te) σ H (.str (Txt.join z ys)) := fun H1 e Q q =>
  h H1 e _ fun H2 e2 => ⟨⟨z, rfl⟩, k H2 (e.trans e2) _ fun p H3 np e3 hp => ⟨z, p, ys, rfl, rfl, .inl (SqL.of hp), hz, q H3 (e2.trans e3)⟩⟩
theorem ev_joinV {z : Str} {ys : List Str} {p : Addr} (h : Ev ta σ H (.str z)) (k : Ev te σ H (.ref p)) (hp : H p = some (.lst (ys.map V.str))) (hz : (ys.map (·.length)).sum + ys.length * z.length ≤ 16777216) : Ev (tM1 (rJoin K) ta te) σ H (.str (Txt.join z ys)) := fun H1 e Q q =>
  h H1 e _ fun H2 e2 => ⟨⟨z, rfl⟩, k H2 (e.trans e2) _ fun H3 e3 => ⟨z, p, ys, rfl, rfl, .inl (SqL.of (((e.trans e2).trans e3) _ _ hp)), hz, q H3 (e2.trans e3)⟩⟩
abbrev rSplit : V → List V → Hp → VK → Prop := fun x xs H Q => ∃ a b, x = .str a ∧ xs = [.str b] ∧ (b.length == 0) = false ∧ a.length + 2 ≤ sizeLine ∧ rNewStrs (Txt.split a b) H Q
theorem el_split {x z : Str} (h : Ev ta σ H (.str x)) (k : Ev te σ H (.str z)) (hz : (z.length == 0) = false) (hx : x.length + 2 ≤ 100000) : EvL (tM1 rSplit ta te) σ H ((Txt.split x z).map V.str) := fun H1 e Q q =>
  h H1 e _ fun H2 e2 => ⟨⟨x, rfl⟩, k H2 (e.trans e2) _ fun H3 e3 => ⟨x, z, rfl, rfl, hz, Evl.sz_of hx, fun p np => q p _ (fresh_back (e2.trans e3) np) ((e2.trans e3).trans (Ex.new np)) upd_same⟩⟩
/-- [e for a, b in stones] -/
theorem el_lcP {a : Addr} {st : List (Int × Int)} {i j : Nat} {vs : List Nat} (v : Nat → V) (h : Ev tl' σ H (.ref a)) (hS : StonesAt H a st) (hz : st.length ≤ 40000) (hw : ∀ x y, wipe (((wipe σ vs).set i (some x)).set j (some y)) vs = wipe σ vs)
    (he : ∀ (k : Nat) (s : Int × Int) H1, Ex H H1 → st[k]? = some s → Ev te (((wipe σ vs).set i (some (.int s.1))).set j (some (.int s.2))) H1 (v k)) :
    EvL (tLc (iList K tl') (gTup K 2 (gCons (gName i) (gCons (gName j) gNil))) tYes te vs) σ H ((List.range st.length).map v) := fun H1 e Q q => h H1 e _ fun H2 e2 => by
  obtain ⟨ts, t1, t2, t3⟩ := hS.ex (e.trans e2)
  refine ⟨a, rfl, ⟨_, SqL.of t1⟩, fun D nD => ?_⟩
  refine lc_over (K := K) (a := a) (xs := ts.map V.ref) (fun k J => Ex H2 J ∧ J D = some (.lst ((List.range k).map v))) ⟨Ex.new nD, upd_same⟩ (fun k J p => SqL.of (p.1 _ _ t1)) ?_ ?_
  · rintro k x J hx ⟨e3, hD⟩
    rw [List.getElem?_map] at hx
    obtain ⟨t, ht, rfl⟩ := Option.map_eq_some_iff.mp hx
    have kl : k < st.length := by
      rw [← t2]
      exact (List.getElem?_eq_some_iff.mp ht).1
    have h3 := e3 _ _ (t3 k t _ ht (List.getElem?_eq_getElem kl))
    refine ⟨t, _, rfl, SqT.of h3, rfl, _, _, rfl, _, _, rfl, rfl, hw _ _, ?_⟩
    unfold tYes
    dsimp only
    rw [if_pos rfl]
    refine he k _ J ((e.trans e2).trans e3) (List.getElem?_eq_getElem kl) J (Ex.refl J) _ fun J2 e4 => ?_
    refine ⟨_, e4 _ _ hD, small_lt (by rw [List.length_map, List.length_range]; omega), Ex.mut (e3.trans e4) nD, ?_⟩
    rw [upd_same, List.range_succ, List.map_append]
    rfl
  · rintro J ⟨e3, hD⟩
    rw [List.length_map, t2] at hD
    exact q D J (fresh_back e2 nD) (e2.trans e3) hD
theorem range_map {α : Type} (l : List α) (v : Nat → V) (f : α → V) (h : ∀ i a, l[i]? = some a → v i = f a) : (List.range l.length).map v = l.map f := by
  rw [← given_all]
  exact given_list l v f h
/-- [e for sign in text] -/
theorem el_lcS {x : Str} {j : Nat} {vs : List Nat} (v : Nat → V) (h : Ev tl' σ H (.str x)) (hz : x.length ≤ 40000) (hw : ∀ y, wipe ((wipe σ vs).set j (some y)) vs = wipe σ vs)
    (he : ∀ (k : Nat) (c : Nat) H1, Ex H H1 → (tl x)[k]? = some c → Ev te ((wipe σ vs).set j (some (.str ⟨#[c]⟩))) H1 (v k)) : EvL (tLc (iStr tl') (gName j) tYes te vs) σ H ((List.range (tl x).length).map v) := fun H1 e Q q => h H1 e _ fun H2 e2 => by
  have sz : x.cps.size = (tl x).length := by
    unfold tl
    rw [Array.length_toList]
  refine ⟨x, rfl, fun D nD => ?_⟩
  refine ⟨fun k m J => m + k = x.cps.size ∧ Ex H2 J ∧ J D = some (.lst ((List.range k).map v)), ⟨_, rfl, Ex.new nD, upd_same⟩, ?_⟩
  rintro k m J ⟨hm, e3, hD⟩
  cases m with
  | zero =>
    have ek : k = x.cps.size := by omega
    refine .inl ⟨?_, q D J (fresh_back e2 nD) (e2.trans e3) ?_⟩
    · show x.cps.size ≤ k
      omega
    · rw [hD, ek, sz]
  | succ m =>
    refine .inr ⟨?_, fun J' => Ex H2 J' ∧ J' D = some (.lst ((List.range (k + 1)).map v)), fun J' p => ⟨m, Nat.lt_succ_self m, by omega, p.1, p.2⟩, ?_⟩
    · show k < x.cps.size
      omega
    · rintro y J' ⟨rfl, c, hc, rfl⟩
      refine ⟨hw _, ?_⟩
      unfold tYes
      dsimp only
      rw [if_pos rfl]
      refine he k c _ ((e.trans e2).trans e3) (by unfold tl; rw [Array.getElem?_toList]; exact hc) _ (Ex.refl _) _ fun J2 e4 => ?_
      refine ⟨_, e4 _ _ hD, small_lt ?_, Ex.mut (e3.trans e4) nD, ?_⟩
      · rw [List.length_map, List.length_range]
        have : x.cps.size = x.length := rfl
        omega
      · rw [upd_same, List.range_succ, List.map_append]
        rfl
end
end Sw
namespace Sw
open PySem PySem.Spec PyProof.Rows L2 TL
open Evl (Ex Ex.refl Ex.trans Ex.new Ex.mut ex_l ex_t ex_rd fresh_back Ev EvL EvU EvT EvA RV RC RCL SpV SpL)
/-! ### texts that may be none -/
theorem pre_one (s c : Nat) (r : List Nat) : pre [s] (c :: r) = decide (c = s) := by
  by_cases h : c = s
  · rw [decide_eq_true h, h]
    exact pre_self [s] r
  · rw [decide_eq_false h]
    exact pre_of_head [] r h
theorem spl_ne (s : Nat) : ∀ (L acc : List Nat), spl [s] 0 acc L ≠ []
  | [], acc => by
    rw [spl_nil]
    exact List.cons_ne_nil _ _
  | c :: r, acc => by
    by_cases h : c = s
    · rw [spl_hit ((pre_one s c r).trans (decide_eq_true h))]
      exact List.cons_ne_nil _ _
    · rw [spl_miss ((pre_one s c r).trans (decide_eq_false h))]
      exact spl_ne s r _
theorem joinL_cons (S p : List Nat) {l : List (List Nat)} (h : l ≠ []) : joinL S (p :: l) = p ++ (S ++ joinL S l) := by
  cases l with
  | nil => exact absurd rfl h
  | cons q r => rfl
theorem join_spl (s : Nat) : ∀ (L acc : List Nat), joinL [s] (spl [s] 0 acc L) = acc ++ L
  | [], acc => by
    rw [spl_nil, List.append_nil]
    rfl
  | c :: r, acc => by
    by_cases h : c = s
    · rw [spl_hit ((pre_one s c r).trans (decide_eq_true h))]
      show joinL [s] (acc :: spl [s] 0 [] r) = _
      rw [joinL_cons _ _ (spl_ne s r []), join_spl s r [], h]
      rfl
    · rw [spl_miss ((pre_one s c r).trans (decide_eq_false h)), join_spl s r, List.append_assoc]
      rfl
theorem split_back {x y : Str} {s : Nat} (ey : tl y = [s]) (hk : y.cps.all (· < 256) = true) : Txt.join y (Txt.split x y) = x := by
  refine ext_tl ?_
  rw [join_eq, tl_join, split_spl x y (by rw [ey]; simp) (kind_ok hk), ey, join_spl]
  rfl
theorem split_ne {x y : Str} {s : Nat} (ey : tl y = [s]) (hk : y.cps.all (· < 256) = true) : Txt.split x y ≠ [] := fun e => by
  have h := split_spl x y (by rw [ey]; simp) (kind_ok hk)
  rw [e, ey] at h
  exact spl_ne s (tl x) [] h.symm
theorem dash_small : dashS.cps.all (· < 256) = true := by decide +kernel
theorem gap_small : gapS.cps.all (· < 256) = true := by decide +kernel
/-! ### numerals are numbers -/
def valL (l : List Nat) : Nat := l.foldl (fun a c => a * 10 + (c - 48)) 0
theorem valL_snoc (l : List Nat) (c : Nat) : valL (l ++ [c]) = valL l * 10 + (c - 48) := by
  unfold valL
  rw [List.foldl_append]
  rfl
def Digits (l : List Nat) : Prop := ∀ c ∈ l, 48 ≤ c ∧ c ≤ 57
theorem numeral_back : ∀ (n : Nat) (l : List Nat), l.length = n → l ≠ [] → Digits l → (l = [48] ∨ l.head? ≠ some 48) → numL (valL l) = l ∧ valL l < 10 ^ n
  | 0, l, hl, hn, _, _ => absurd (List.eq_nil_of_length_eq_zero hl) hn
  | n + 1, l, hl, hn, hd, hz => by
    obtain ⟨m, c, rfl⟩ : ∃ m c, l = m ++ [c] := ⟨l.dropLast, l.getLast hn, (List.dropLast_concat_getLast hn).symm⟩
    have hc := hd c (List.mem_append_right _ (List.mem_singleton.mpr rfl))
    rw [valL_snoc]
    cases m with
    | nil =>
      have : n = 0 := by
        have : (([] : List Nat) ++ [c]).length = 1 := rfl
        omega
      subst this
      have v : valL [] * 10 + (c - 48) = c - 48 := by
        show 0 * 10 + (c - 48) = _
        omega
      rw [v, numL_lt (by omega)]
      refine ⟨?_, by show c - 48 < 10; omega⟩
      show [48 + (c - 48)] = [c]
      rw [show 48 + (c - 48) = c by omega]
    | cons x m =>
      have hm : (x :: m).length = n := by
        rw [List.length_append] at hl
        have : ([c] : List Nat).length = 1 := rfl
        omega
      have hx : (x :: m).head? ≠ some 48 := by
        rcases hz with hz | hz
        · have := congrArg List.length hz
          rw [List.length_append] at this
          simp at this
        · exact hz
      obtain ⟨i1, i2⟩ := numeral_back n (x :: m) hm (List.cons_ne_nil _ _) (fun d h => hd d (List.mem_append_left _ h)) (.inr hx)
      have pos : valL (x :: m) ≠ 0 := fun z => by
        rw [z] at i1
        have e : x = 48 := by
          have h0 : numL 0 = [48] := numL_lt (by decide)
          rw [h0] at i1
          exact (List.cons.inj i1).1.symm
        exact hx (by rw [e]; rfl)
      refine ⟨?_, ?_⟩
      · rw [numL_step (by omega), show (valL (x :: m) * 10 + (c - 48)) / 10 = valL (x :: m) by omega, show 48 + (valL (x :: m) * 10 + (c - 48)) % 10 = c by omega, i1]
      · rw [Nat.pow_succ]
        omega
theorem numeral_get {x : Str} (h : numeralB (tl x) = true) : ∃ i : Int, 0 ≤ i ∧ i ≤ 999999 ∧ x = numS i := by
  unfold numeralB at h
  rw [Bool.and_eq_true, Bool.and_eq_true, Bool.and_eq_true, decide_eq_true_eq, decide_eq_true_eq, Bool.or_eq_true, decide_eq_true_eq, Bool.not_eq_true', decide_eq_false_iff_not, List.all_eq_true] at h
  obtain ⟨⟨l1, l2⟩, hd, hz⟩ := h
  obtain ⟨b1, b2⟩ := numeral_back _ (tl x) rfl (List.length_pos_iff.mp l1) (fun c hc => by
    have := of_decide_eq_true (hd c hc)
    simp only [List.mem_cons, List.not_mem_nil, or_false] at this
    omega) hz
  have b3 : valL (tl x) < 10 ^ 6 := Nat.lt_of_lt_of_le b2 (Nat.pow_le_pow_right (by decide) l2)
  refine ⟨(valL (tl x) : Int), by omega, by rw [show (10 : Nat) ^ 6 = 1000000 from by decide] at b3; omega, ext_tl ?_⟩
  rw [tl_numS (by omega), Int.toNat_natCast, b1]
/-! ### words that are stones -/
def Word (x : Str) (s : Int × Int) : Prop := GoodS s ∧ x = wordS s
theorem numS_inj {i j : Int} (hi : 0 ≤ i) (hj : 0 ≤ j) (h : numS i = numS j) : i = j := by
  have e := congrArg tl h
  rw [tl_numS hi, tl_numS hj] at e
  have := numL_inj e
  omega
theorem word_inj {s t : Int × Int} (hs : GoodS s) (ht : GoodS t) (h : wordS s = wordS t) : s = t := by
  have e := word_split hs
  rw [h, word_split ht] at e
  obtain ⟨a, b⟩ := List.cons.inj e
  have b := (List.cons.inj b).1
  exact (Prod.ext (numS_inj ht.1.1 hs.1.1 a) (numS_inj ht.2.1 hs.2.1 b)).symm
def wordB (x : Str) : Bool := decide ((Txt.split x dashS).length = 2) && (Txt.split x dashS).all fun p => numeralB (tl p)
theorem wordB_iff {x : Str} : wordB x = true ↔ ∃ s, Word x s := by
  unfold wordB
  rw [Bool.and_eq_true, decide_eq_true_eq, List.all_eq_true]
  constructor
  · rintro ⟨h1, h2⟩
    obtain ⟨p, q, e⟩ : ∃ p q, Txt.split x dashS = [p, q] := by
      match h : Txt.split x dashS, h1 with
      | [p, q], _ => exact ⟨p, q, rfl⟩
    rw [e] at h2
    obtain ⟨i, i0, i1, rfl⟩ := numeral_get (h2 p List.mem_cons_self)
    obtain ⟨j, j0, j1, rfl⟩ := numeral_get (h2 q (List.mem_cons.mpr (.inr List.mem_cons_self)))
    refine ⟨(i, j), ⟨⟨i0, i1⟩, j0, j1⟩, ?_⟩
    have b := split_back (x := x) tl_dash dash_small
    rw [e] at b
    rw [word_join]
    exact b.symm
  · rintro ⟨s, hs, rfl⟩
    rw [word_split hs]
    refine ⟨rfl, fun p hp => ?_⟩
    rcases List.mem_cons.mp hp with e | hp
    · rw [e]
      exact numeral_num hs.1.1 hs.1.2
    · rw [List.mem_singleton.mp hp]
      exact numeral_num hs.2.1 hs.2.2
/-! ### lines that are stones -/
def Line (x : Str) (st : List (Int × Int)) : Prop := Good st ∧ x = lineS st
open Classical in
noncomputable def unword (x : Str) : Int × Int := if h : ∃ s, Word x s then h.choose else (0, 0)
theorem unword_ok {x : Str} (h : wordB x = true) : Word x (unword x) := by
  have e := wordB_iff.mp h
  unfold unword
  rw [dif_pos e]
  exact e.choose_spec
def lineB (x : Str) : Bool := decide (x = Str.empty) || (decide ((Txt.split x gapS).length ≤ 60) && (Txt.split x gapS).all wordB)
theorem line_get {x : Str} (hl : (Txt.split x gapS).length ≤ 60) (hw : ∀ p ∈ Txt.split x gapS, wordB p = true) : Line x ((Txt.split x gapS).map unword) := by
  have e : ((Txt.split x gapS).map unword).map wordS = Txt.split x gapS := by
    rw [List.map_map]
    refine (List.map_congr_left fun p hp => ?_).trans (List.map_id _)
    exact (unword_ok (hw p hp)).2.symm
  refine ⟨⟨by rw [List.length_map]; exact hl, fun s hs => ?_⟩, ?_⟩
  · obtain ⟨p, hp, rfl⟩ := List.mem_map.mp hs
    exact (unword_ok (hw p hp)).1
  · unfold lineS
    rw [e]
    exact (split_back tl_gap gap_small).symm
theorem line_words {x : Str} {st : List (Int × Int)} (h : Line x st) (hn : x ≠ Str.empty) : (Txt.split x gapS).length ≤ 60 ∧ (∀ p ∈ Txt.split x gapS, wordB p = true) ∧ (Txt.split x gapS).map unword = st := by
  obtain ⟨hG, rfl⟩ := h
  have ne : st ≠ [] := fun e => hn (by rw [e]; rfl)
  rw [line_split ne hG.2]
  refine ⟨by rw [List.length_map]; exact hG.1, fun p hp => ?_, ?_⟩
  · obtain ⟨s, hs, rfl⟩ := List.mem_map.mp hp
    exact wordB_iff.mpr ⟨s, hG.2 s hs, rfl⟩
  · rw [List.map_map]
    refine (List.map_congr_left fun s hs => ?_).trans (List.map_id st)
    have w := unword_ok (wordB_iff.mpr ⟨s, hG.2 s hs, rfl⟩)
    exact (word_inj (hG.2 s hs) w.1 w.2).symm
theorem lineB_iff {x : Str} : lineB x = true ↔ ∃ st, Line x st := by
  unfold lineB
  rw [Bool.or_eq_true, decide_eq_true_eq, Bool.and_eq_true, decide_eq_true_eq, List.all_eq_true]
  constructor
  · rintro (h | ⟨h1, h2⟩)
    · exact ⟨[], ⟨Nat.zero_le _, fun s h => nomatch h⟩, h⟩
    · exact ⟨_, line_get h1 h2⟩
  · rintro ⟨st, h⟩
    by_cases e : x = Str.empty
    · exact .inl e
    · obtain ⟨a, b, _⟩ := line_words h e
      exact .inr ⟨a, b⟩
theorem line_inj {x : Str} {st su : List (Int × Int)} (h : Line x st) (k : Line x su) : st = su := by
  by_cases e : x = Str.empty
  · have z : ∀ st, Line x st → st = [] := fun st h => by
      by_cases c : st = []
      · exact c
      · exact absurd (h.2.symm.trans e) (line_ne c)
    rw [z st h, z su k]
  · exact (line_words h e).2.2.symm.trans (line_words k e).2.2
end Sw
namespace Sw
open PySem PySem.Spec PyProof.Rows L2
open Evl (Ex)
/-! ### exceptions that are kept -/
/-- an exception's object at a, of the class cls, without a dict of its own -/
def ExK (cls : Value) (a : Addr) : HO := .ext fun h => ∃ (oe : Obj) (vs : Array Value), h.get? a = some oe ∧ Zc cls none oe ∧ oe.data = .fields vs
def IsExc (H : Hp) (cls : Value) (a : Addr) : Prop := ∃ φ, H a = some (.ext φ) ∧ ∀ h, φ h → ∃ (oe : Obj) (vs : Array Value), h.get? a = some oe ∧ Zc cls none oe ∧ oe.data = .fields vs
theorem IsExc.ex {H H' : Hp} {cls : Value} {a : Addr} (x : IsExc H cls a) (e : Ex H H') : IsExc H' cls a := by
  obtain ⟨φ, h1, h2⟩ := x
  exact ⟨φ, e _ _ h1, h2⟩
theorem isExc_K {H : Hp} {cls : Value} {a : Addr} : IsExc (upd H a (ExK cls a)) cls a := ⟨_, upd_same, fun _ z => z⟩
theorem isExc_O {H : Hp} {cls : Value} {a : Addr} : IsExc (upd H a (ExO cls a)) cls a := ⟨_, upd_same, fun _ ⟨oe, vs, e, z, d, _⟩ => ⟨oe, vs, e, z, d⟩⟩
section
variable {X : Cx} {pins : List (Addr × Obj)} {σ : L2.St} {H : Hp} {s : Shared}
/-- an object that is pinned, new since the def began: tracked from now on -/
theorem inv_track {a : Addr} {oe : Obj} {vs : Array Value} {cls : Value} (I : Inv X ((a, oe) :: pins) σ H s) (hz : Zc cls none oe) (hd : oe.data = .fields vs) (h0 : X.s_0.heap.get? a = none) (hp : ∀ p ∈ X.pn ++ pins, p.1 ≠ a) : Inv X pins σ (upd H a (ExK cls a)) s := by
  obtain ⟨g1, g2, g3, g4, g5⟩ := I.pin (a, oe) (List.mem_append_right _ List.mem_cons_self)
  have g1 : s.heap.get? a = some oe := g1
  have g2 : H a = none := g2
  have far : ∀ {b : Addr} {u : HO}, H b = some u → upd H a (ExK cls a) b = some u := fun {b u} e => by
    rw [upd_ne (fun z => by rw [z, g2] at e; cases e)]
    exact e
  have new : ObjOk X.prog X.w (upd H a (ExK cls a)) s.heap a (ExK cls a) := ⟨⟨oe, vs, g1, hz, hd⟩, ⟨oe, g1⟩, fun h1 h2 ⟨o, v, e, z⟩ k => ⟨o, v, k o e, z⟩⟩
  refine ⟨I.ok, I.os, I.bare, ⟨I.base.keep, I.base.slot, fun b u e n x => ?_, I.base.there, fun b xs e => far (I.base.tups b xs e), fun b o u e => far (I.base.frzs b o u e), fun b ps e => ?_⟩, I.loc, I.cell, ?_, fun x c e => ?_, fun p hpm => ?_, I.hok.laidN (fun _ _ z => z) g2 new, I.len⟩
  · rw [upd_ne fun z => by rw [z, h0] at e; cases e]
    exact I.base.free b u e n x
  · obtain ⟨more, q⟩ := I.base.tbls b ps e
    exact ⟨more, far q⟩
  · rw [upd_ne fun z => g3 z.symm]
    exact I.free
  · have ne : c ≠ a := fun z => by
      obtain ⟨v, o, q1, q2⟩ := I.cell x c e
      rw [z, g1] at q1
      cases q1
      exact g5 v q2
    rw [upd_ne ne]
    exact I.freeC x c e
  · obtain ⟨k1, k2, k3⟩ := I.pin p (by
      rcases List.mem_append.mp hpm with m | m
      · exact List.mem_append_left _ m
      · exact List.mem_append_right _ (List.mem_cons_of_mem _ m))
    exact ⟨k1, by rw [upd_ne (hp p hpm)]; exact k2, k3⟩
/-! ### isinstance of data or of a kept exception -/
def Kind (K : PySem.W.Frag) (H : Hp) (x : V) (t : Value) : Prop := TyX K H x t ∨ ∃ a D : Addr, x = .ref a ∧ t = .ref D ∧ IsExc H (.ref D) a ∧ ExcC K D
theorem kind_kit {x : V} {u t : Value} (I : Inv X pins σ H s) (r : RelV x u) (k : Kind X.K H x t) : ∃ P : Heap → Prop, PySem.W.KitX X.K u t P ∧ P s.heap ∧ u ≠ .builtin "__main__.__loader__#opaque" := by
  rcases k with k | ⟨a, D, rfl, rfl, ⟨φ, hφ, hx⟩, C⟩
  · exact kit_of I r k
  · cases r
    obtain ⟨p, _, _⟩ := (show ObjOk X.prog X.w H s.heap a (.ext φ) from I.hok a _ hφ)
    obtain ⟨oe, vs, e, ⟨z1, z2⟩, d⟩ := hx _ p
    obtain ⟨ocl, odi, oda, osl⟩ := oe
    dsimp only at z1 z2 d
    subst z1 z2 d
    exact ⟨_, PySem.W.handS_kitx_exc C.hg C.hk C.hs C.hd C.ha C.hn C.ht C.hm, ⟨e, rfl, rfl, trivial⟩, fun z => nomatch z⟩
def rIsA (K : PySem.W.Frag) : List V → Hp → VK → Prop := fun xs H Q => ∃ (x c : V) (t u : Value) (b : Bool), xs = [x, c] ∧ ClsV c u ∧ Kind K H x t ∧ PySem.W.kitOne K t u = some b ∧ Q (.bl b) H
def rIsAT (K : PySem.W.Frag) : List V → Hp → VK → Prop := fun xs H Q => ∃ (x : V) (tp : Addr) (cs : List V) (t : Value) (us : List Value) (b : Bool), xs = [x, .ref tp] ∧ H tp = some (.tup cs) ∧ Paired ClsV cs us ∧ Kind K H x t ∧ PySem.W.kitAny K t us = some b ∧ Q (.bl b) H
theorem call_isA : CallR X (.builtin "isinstance") (rIsA X.K) := fun pins s σ H xs us Q I r ⟨x, c, t, u, b, ex, k, ty, e, q⟩ => by
  subst ex
  obtain ⟨va, vb, rfl, ra, rb⟩ := vals2 r
  obtain rfl := k.eq rb
  obtain ⟨P, Z, p, hx⟩ := kind_kit I ra ty
  exact PySem.W.kia_one Z I.kIn p e hx fun k' => ⟨.bl b, H, I.tok k', rfl, q⟩
theorem call_isAT : CallR X (.builtin "isinstance") (rIsAT X.K) := fun pins s σ H xs us Q I r ⟨x, tp, cs, t, ws, b, ex, hT, k, ty, e, q⟩ => by
  subst ex
  obtain ⟨va, vb, rfl, ra, rb⟩ := vals2 r
  obtain rfl : vb = Value.ref tp := rb
  obtain ⟨P, Z, p, hx⟩ := kind_kit I ra ty
  obtain ⟨_, its, rv, o, g1, g2, n, g3⟩ := (show ObjOk X.prog X.w H s.heap tp (.tup cs) from I.hok tp _ hT)
  obtain rfl := ClsV.all k rv
  obtain ⟨oc, od, dt, sl⟩ := o
  dsimp only at g2 g3
  subst g2 g3
  exact PySem.W.kia_tup Z I.kIn p g1 e hx fun k' => ⟨.bl b, H, I.tok k', rfl, q⟩
end
/-! ### try: body / except x as n: y = n -/
def wKeep (K : PySem.W.Frag) (c : Value) (i j : Nat) (D : Ends) : WX := fun cls d σ H => d = none ∧ PySem.W.exmOne K cls c = some true ∧ ∀ a, H a = none → D.nx ((σ.set j (some (.ref a))).set i none) (upd H a (ExK cls a))
section
variable {X : Cx} {x n y : Str} {c : Value} {i j : Nat} {body : List Stmt} {np p1 p2 p3 pos pos' : Pos} {tb : WX → TS}
theorem ps_try_keep (hs : X.stack = X.env :: X.outer) (hf : X.env.frame = some X.env.locals) (hex : X.ex = []) (hN : X.N.Nodup) (hi : X.N[i]? = some n) (hj : X.N[j]? = some y) (hij : i ≠ j) (hln : X.env.kindOf n = some .local) (hly : X.env.kindOf y = some .local) (hd : (n == ("__debug__" : Str)) = false) (hcd : (n == ("__classdict__" : Str)) = false) (hc : Names X x c)
    (hb : ∀ (W : WX) (pn : List (Addr × Obj)) (xe : Value → Shared → Prop), Takes (X.tr pn xe) W → PassesOwn (model X.prog X.w) X.A X.env xe → PSs (X.tr pn xe) body (tb W)) :
    PS X (.Try body [.ExceptHandler (some (.Name x np)) (some n) [.Assign [.Name y p1] (.Name n p2) p3] pos'] [] [] pos) (fun D σ H => tb (wKeep X.K c i j D) D σ H) := by
  refine ⟨fun pins s0 σ H D I0 wish => ?_⟩
  have okX := I0.ok
  have frX : X.A.frames = some (X.env :: X.outer) := okX.frames.trans (congrArg some hs)
  have locn : Loc X.env.scope n := .inl hln
  refine wpAny_Try_except (wpAny_mono ((hb (wKeep X.K c i j D) (X.pn ++ pins) _ (fun u sx air => ?_) PassesOwn.looking).run [] s0 σ H D (I0.toTry _) wish) (fun f s1 fin => ?_) fun _ _ z => z)
  · obtain ⟨a, G, sI, pI, σI, HI, cls, d, rfl, JI, hnb, hup, hsky, hna, hos, hag, rfl, hmat, hgo⟩ := air
    have J : Inv X pins σI HI sI := JI.ofTry okX
    rw [show (X.tr (X.pn ++ pins) _).stack = X.env :: X.outer from hs] at hsky
    refine Sky.land Zc.steady frX hf hsky fun hA flA upA => ?_
    obtain ⟨oA, vA, eA, zA, dA⟩ := flA.there
    have JA : Inv X pins σI HI { sx with heap := hA } := J.landed hnb flA.1 (hup.trans upA) hos hag
    have away : a ∉ frs (X.env :: X.outer) := fun m => by
      obtain ⟨_, o2, e2, nf⟩ := flA.2.2.1.mem m
      rw [eA] at e2
      cases e2
      exact nf _ dA
    have gone : sI.heap.get? a = none := by
      cases q : sI.heap.get? a with
      | none => rfl
      | some o2 =>
        have z := hnb a o2 q (by rw [show (X.tr (X.pn ++ pins) _).stack = X.env :: X.outer from hs]; exact away)
        rw [flA.2.1] at z
        cases z
    have born : X.s_0.heap.get? a = none := by
      cases q : X.s_0.heap.get? a with
      | none => rfl
      | some o2 =>
        obtain ⟨o3, z⟩ := J.base.there a o2 q (by rw [hex]; exact List.not_mem_nil)
        rw [gone] at z
        cases z
    have others : ∀ p ∈ X.pn ++ pins, p.1 ≠ a := fun p hp e => by
      have z := (J.pin p hp).1
      rw [e, gone] at z
      cases z
    have nL : a ≠ X.env.locals := fun z => away (List.mem_filterMap.mpr ⟨X.env, List.mem_cons_self, by rw [hf, z]⟩)
    have nF : a ∉ X.fs := fun m => by
      obtain ⟨e2, m2, q⟩ := List.mem_filterMap.mp m
      exact away (List.mem_filterMap.mpr ⟨e2, List.mem_cons_of_mem _ m2, q⟩)
    have SA := JA.suite eA dA hna nL nF
    refine wpAny_handleBy_cons (codeAny_handlers_test ?_) (by intro z; cases z)
    have LT : PySem.W.Looks (model X.prog X.w) hA (typeOf (.ref a)) cls := fun _ _ _ _ k q => wpAny_typeOf_ref (k _ _ eA) (by rw [zA.1]; exact q)
    have cls_there : ∀ {Q' : Value → Shared → Prop} {E' : Value → Shared → Prop}, Q' c { sx with heap := hA } → wpAny (model X.prog X.w) (X.A.mark (some (.ref a))) (eval (.Name x np) X.env) Q' E' { sx with heap := hA } := fun {Q' E'} q => by
      obtain ⟨g1, g2, m1 | ⟨m1, m2, m3⟩⟩ := hc
      · exact ld_glob (X := X.suite a ((a, oA) :: (X.pn ++ pins))) SA g1 m1 q g2
      · exact ld_blt (X := X.suite a ((a, oA) :: (X.pn ++ pins))) SA g1 m1 m2 q m3 g2
    refine cls_there ((PySem.W.exm_one (M := model X.prog X.w) JA.kIn LT hmat).here ?_)
    refine codeAny_handlers_suite_as (HandSPX.lands_againZ flA fun hB flB upB => ?_)
    have JB : Inv X pins σI HI { sx with heap := hB } := J.landed hnb flB.1 ((hup.trans upA).trans upB) hos hag
    obtain ⟨oB, vB, eB, zB, dB⟩ := flB.there
    have SB := JB.suite eB dB hna nL nF
    refine store_ok (X := X.suite a ((a, oB) :: (X.pn ++ pins))) (v := .ref a) SB hN hi locn rfl (fun sC SC => ?_) (.inr hln)
    have keep : PSs (X.suite a ((a, oB) :: (X.pn ++ pins))) [.Assign [.Name y p1] (.Name n p2) p3] (tAsg (tVar i) (gName j)) := pss_one (ps_asg (pe_var hi (.inl hln) hd hcd) (pg_name hN hj (.inl hly) (.inr hly)))
    have il : i < σI.length := by
      rw [JB.len]
      exact (List.getElem?_eq_some_iff.mp hi).1
    refine wpAny_mono (keep.run [] sC _ HI { nx := fun s2 H2 => s2 = (σI.set i (some (.ref a))).set j (some (.ref a)) ∧ H2 = HI, rt := fun _ _ => False, bk := fun _ _ => False, ct := fun _ _ => False } SC ⟨.ref a, List.getElem?_set_self il, rfl, rfl⟩) (fun f sD hD => ?_) fun _ _ z => z.elim
    cases f with
    | next =>
      obtain ⟨σD, HD, SD, rfl, rfl⟩ := hD
      have JD : Inv X ((a, oB) :: pins) ((σI.set i (some (.ref a))).set j (some (.ref a))) HD sD := ⟨okX, SD.os, SD.bare, SD.base, SD.loc, SD.cell, SD.free, SD.freeC, fun p hp => SD.pin p (by
        rcases List.mem_append.mp hp with m | m
        · exact List.mem_append_left _ (List.mem_cons_of_mem _ (List.mem_append_left _ m))
        · rcases List.mem_cons.mp m with e | m
          · rw [e]
            exact List.mem_append_left _ List.mem_cons_self
          · exact List.mem_append_left _ (List.mem_cons_of_mem _ (List.mem_append_right _ m))), SD.hok, SD.len⟩
      refine gone_ok JD hN hi hln fun sE JE => ?_
      have JF := inv_track JE zB dB born others
      refine ⟨_, _, JF, ?_⟩
      have e1 : (((σI.set i (some (.ref a))).set j (some (.ref a))).set i none : L2.St) = (σI.set j (some (.ref a))).set i none := by
        rw [List.set_comm _ _ (fun e => hij e.symm), List.set_set, List.set_comm _ _ hij.symm]
      rw [e1]
      exact hgo a hna
    | brk =>
      obtain ⟨_, _, _, z⟩ := hD
      exact z.elim
    | cont =>
      obtain ⟨_, _, _, z⟩ := hD
      exact z.elim
    | ret u =>
      obtain ⟨_, _, _, _, _, z⟩ := hD
      exact z.elim
  · cases f with
    | next =>
      obtain ⟨σ1, H1, J1, q⟩ := fin
      exact wpAny_execs_nil ⟨σ1, H1, J1.ofTry okX, q⟩
    | brk =>
      obtain ⟨σ1, H1, J1, q⟩ := fin
      exact ⟨σ1, H1, J1.ofTry okX, q⟩
    | cont =>
      obtain ⟨σ1, H1, J1, q⟩ := fin
      exact ⟨σ1, H1, J1.ofTry okX, q⟩
    | ret u =>
      obtain ⟨v, σ1, H1, J1, r, q⟩ := fin
      exact ⟨v, σ1, H1, J1.ofTry okX, r, q⟩
end
end Sw
namespace Sw
open PySem PySem.Spec PyProof.Rows L2
/-! ### [f(x) for x in xs], where f may raise -/
theorem flying_less {B G h : Heap} {l : List Env} {a : Addr} {Z : Obj → Prop} (gB : ∀ b o, G.get? b = some o → B.get? b = some o) (x : HandSPX.FlyingZ B l a Z h) : HandSPX.FlyingZ G l a Z h := by
  obtain ⟨k1, k2, k3, oe, vs, T, oT, ts, e1, e2, e3, e4, e5, e6⟩ := x
  have no : ∀ b, B.get? b = none → G.get? b = none := fun b e => by
    cases q : G.get? b with
    | none => rfl
    | some o =>
      rw [gB b o q] at e
      cases e
  exact ⟨fun b o e => k1 b o (gB b o e), no a k2, funFrames_none k3 fun L m => no L (k3.mem m).1, oe, vs, T, oT, ts, e1, e2, e3, e4, no T e5, e6⟩
theorem held_but {B h h' : Heap} {l : List Env} {a L C : Addr} {Z : Obj → Prop} {m : Str → Option Value} (hs : Heap.SameBut C h h') (hn : h'.Ns C m) (hc : ∃ o, h.get? C = some o ∧ ∀ vs, o.data ≠ .fields vs) (bc : B.get? C = none) (x : HandSPX.HeldZ B l a Z L h) : HandSPX.HeldZ B l a Z L h' := by
  obtain ⟨k1, k2, k3, oe, vs, T, oT, ts, e1, e2, e3, e4, e5, e6, e7, e8, e9⟩ := x
  obtain ⟨oC, c1, c2⟩ := hc
  have ne : ∀ b o vs, h.get? b = some o → o.data = .fields vs → b ≠ C := fun b o vs e d z => by
    rw [z, c1] at e
    cases e
    exact c2 vs d
  refine ⟨fun b o e => (hs.2 b fun z => ?_).trans (k1 b o e), k2, Heap.FunFrames.sameBut hs hn k3, oe, vs, T, oT, ts, (hs.2 a (ne a oe vs e1 e3)).trans e1, e2, e3, e4, e5, e6, (hs.2 T (ne T oT ts e7 e8)).trans e7, e8, e9⟩
  rw [z, bc] at e
  cases e
section
variable {X : Cx} {pins : List (Addr × Obj)} {σ : L2.St} {H H' : Hp} {s t : Shared} {B : Heap} {a : Addr} {cls : Value} {d : Option Addr} {E : XK}
/-- an exception that the def's own frame has noted is in its air -/
theorem xe_held (I : Inv X pins σ H s) (hd : HandSPX.HeldZ B X.stack a (Zc cls d) X.env.locals t.heap) (hok : HOk X.prog X.w H' B) (ub : UB (frs X.stack) H H' s.heap B t.heap) (na : H' a = none) (os : t.os = s.os) (ag : AllBare t.gens) (w : E cls d H') :
    XE X (fun c d _ H => E c d H) (.ref a) t := by
  have inT := hd.1
  obtain ⟨G, gY, gN⟩ := restrict t.heap fun b => (B.get? b).isSome || decide (b ∈ frs X.stack)
  have ofB : ∀ b o, B.get? b = some o → G.get? b = some o := fun b o e => (gY b (by rw [e]; rfl)).trans (inT b o e)
  have ofF : ∀ b, b ∈ frs X.stack → G.get? b = t.heap.get? b := fun b m => gY b (by rw [decide_eq_true m, Bool.or_true])
  have back : ∀ b o, G.get? b = some o → t.heap.get? b = some o ∧ (b ∉ frs X.stack → B.get? b = some o) := fun b o e => by
    cases q : ((B.get? b).isSome || decide (b ∈ frs X.stack) : Bool) with
    | false =>
      rw [gN b q] at e
      cases e
    | true =>
      have et := (gY b q).symm.trans e
      refine ⟨et, fun nm => ?_⟩
      rw [decide_eq_false nm, Bool.or_false] at q
      obtain ⟨o', qo⟩ := Option.isSome_iff_exists.mp q
      have z := inT b o' qo
      rw [et] at z
      cases z
      exact qo
  have J : Inv X pins σ H' { s with heap := G, gens := t.gens, drawn := t.drawn, toks := t.toks } := by
    refine I.call (ch := []) ⟨fun b o e n m _ => ofB b o (ub.keep b o e n m), fun b o e n m _ => ?_, fun b o e n _ => ub.free b o e n, fun b o e _ => ?_, ub.tups, ub.frzs, ub.tbls⟩ (hok.kept ofB) ag (fun _ z => nomatch z)
    · obtain ⟨sl, q⟩ := ub.slot b o e m
      exact ⟨sl, (ofF b m).trans q⟩
    · by_cases m : b ∈ frs X.stack
      · obtain ⟨sl, q⟩ := ub.slot b o e m
        exact ⟨_, (ofF b m).trans q⟩
      · obtain ⟨o', q⟩ := ub.there b o e m
        exact ⟨o', ofB b o' q⟩
  exact ⟨a, B, _, pins, σ, H', cls, d, rfl, J, fun b o e m => (back b o e).2 m, Heap.UpToSlots.of_keeps fun b o e => (back b o e).1, .inr (.inr hd), na, os, ag, w⟩
end
section
variable {X : Cx} {pins : List (Addr × Obj)} {E : XK}
/-- what a call in the block lets out goes on in the def -/
theorem comp_fails {σ σB : L2.St} {H3 HB : Hp} {s3 sB t : Shared} {scope : Scope} {ce : Env} {fp : List Addr} {u : Value} (I3 : Inv X pins σ H3 s3) (hst : X.stack = X.env :: X.outer) (hf : X.env.frame = some X.env.locals) (tk : Takes X fun c d _ H => E c d H)
    (hcf : ce.frame = X.env.frame) (hcl : ce.locals = s3.heap.objs.size) (hfp : ∀ b ∈ fp, FpOk X pins H3 b ∧ b < s3.heap.objs.size) (IB : Inv (X.blk s3 H3 scope ce fp) [] σB HB sB) (c : CX X.prog X.w X.stack HB sB E u t) :
    notedBy (model X.prog X.w) X.A ce (CompFails (model X.prog X.w) X.A X.xe ce) u t := by
  obtain ⟨a, B0, H2, cls, d, rfl, fl0, hok0, ub0, na, os, ag, hE⟩ := c
  have hfr : X.A.frames = some (X.env :: X.outer) := by rw [I3.ok.frames, hst]
  have fC : HB ce.locals = none := IB.free
  obtain ⟨mB, hnB, _⟩ := IB.loc
  have hnB : sB.heap.Ns ce.locals mB := hnB
  obtain ⟨oC, esC, epC, hoC, hdC, hrC⟩ := id hnB
  have newC : ∀ b o, s3.heap.get? b = some o → b ≠ ce.locals := fun b o e z => by
    have l := Heap.lt_size e
    rw [z, hcl] at l
    exact absurd l (Nat.lt_irrefl _)
  have framesOld : ∀ b, b ∈ frs X.stack → b ≠ ce.locals := fun b m => by
    obtain ⟨_, o, e, _⟩ := I3.stack.mem m
    exact newC b o e
  have Cf : ce.locals ∉ frs X.stack := fun m => framesOld _ m rfl
  have H2C : H2 ce.locals = none := ub0.free _ _ hoC fC
  -- the block's own names left out
  obtain ⟨G, gY, gN⟩ := restrict B0 fun b => decide (b ≠ ce.locals)
  have gB : ∀ b o, G.get? b = some o → B0.get? b = some o := fun b o e => by
    by_cases z : b = ce.locals
    · rw [gN b (decide_eq_false fun k => k z)] at e
      cases e
    · rw [gY b (decide_eq_true z)] at e
      exact e
  have gK : ∀ b o, b ≠ ce.locals → B0.get? b = some o → G.get? b = some o := fun b o z e => (gY b (decide_eq_true z)).trans e
  have gC : G.get? ce.locals = none := gN _ (decide_eq_false fun k => k rfl)
  obtain ⟨S, sY, sN⟩ := restrict sB.heap fun b => decide (b ≠ ce.locals)
  have sK : ∀ b o, b ≠ ce.locals → sB.heap.get? b = some o → S.get? b = some o := fun b o z e => (sY b (decide_eq_true z)).trans e
  have sB' : ∀ b o, S.get? b = some o → sB.heap.get? b = some o ∧ b ≠ ce.locals := fun b o e => by
    by_cases z : b = ce.locals
    · rw [sN b (decide_eq_false fun k => k z)] at e
      cases e
    · rw [sY b (decide_eq_true z)] at e
      exact ⟨e, z⟩
  have fewer : ∀ {H : Hp} {h h' : Heap}, HOk X.prog X.w H h → H ce.locals = none → (∀ b o, b ≠ ce.locals → h.get? b = some o → h'.get? b = some o) → HOk X.prog X.w H h' := fun {H h h'} k n g b o e => (k b o e).stay (fun x v hx q => g x v (fun z => by
    rcases hx with hx | hx
    · rw [← hx, z, n] at e
      cases e
    · rw [z, n] at hx
      cases hx) q) (fun _ q => q) fun _ _ q => q
  have hokG := fewer hok0 H2C gK
  have base : Un (frs X.stack) fp H3 HB s3.heap sB.heap := IB.base
  have IO : Inv X pins σ HB { sB with heap := S } := I3.call' (ch := fp) IB.os ⟨fun b o e n m x => sK b o (newC b o e) (base.keep b o e n m x), fun b o e n m x => by
      obtain ⟨sl, q⟩ := base.slot b o e n m x
      exact ⟨sl, sK b _ (newC b o e) q⟩, base.free, fun b o e x => by
      obtain ⟨o', q⟩ := base.there b o e x
      exact ⟨o', sK b o' (newC b o e) q⟩, base.tups, base.frzs, base.tbls⟩ (fewer IB.hok fC sK) IB.bare fun b hb => ⟨(hfp b hb).1.2.2.2.1, (hfp b hb).1.2.1, (hfp b hb).1.2.2.2.2.1, (hfp b hb).1.2.2.2.2.2⟩
  have fl : HandSPX.FlyingZ G (X.env :: X.outer) a (Zc cls d) t.heap := by
    rw [← hst]
    exact flying_less gB fl0
  have tC : t.heap.get? ce.locals = some oC := fl0.1 _ _ (ub0.keep _ _ hoC fC Cf)
  have nfC : ∀ vs, oC.data ≠ .fields vs := fun vs q => by
    rw [hdC] at q
    cases q
  show wpAny (model X.prog X.w) X.A (noteFrame (.ref a) ce) _ _ t
  rw [noteFrame_env _ hcf]
  refine HandSPX.looks_onZ Zc.steady hfr hf fl fun h1 hh1 up1 => ?_
  obtain ⟨sl1, t1C⟩ := up1 _ _ tC nfC
  refine ⟨mB, ⟨_, esC, epC, t1C, hdC, hrC⟩, fun h2 m2 hn2 hs2 => ?_⟩
  have hh2 := held_but hs2 hn2 ⟨_, t1C, nfC⟩ gC hh1
  obtain ⟨k1, k2, k3, oe, vs, T, oT, ts, e1, e2, e3, e4, e5⟩ := id hh2
  unfold PySem.passOn
  refine wpAny_bind (wpAny_field e1 e3 e4 ?_)
  rw [if_neg (show ¬ ((Value.ref T == Value.none) = true) from by simp), hcf, hf]
  have last : wpAny (model X.prog X.w) X.A (setFlight (.ref a) (some X.env.locals)) (fun _ t4 => wpAny (model X.prog X.w) X.A (throw (.ref a) : Sem Value) (fun _ _ => False) X.xe t4) X.xe { t with heap := h2 } := by
    refine HandSPX.setFlight_onZ hh2 fun h3 hh3 up3 => wpAny_throw (tk _ _ ?_)
    have slots : ∀ b o, b ∈ frs X.stack → (∀ vs, o.data ≠ .fields vs) → t.heap.get? b = some o → ∃ sl, h3.get? b = some { o with slots := sl } := fun b o m nf e => by
      obtain ⟨x1, q1⟩ := up1 b o e nf
      have q2 := (hs2.2 b (framesOld b m)).trans q1
      obtain ⟨x3, q3⟩ := up3 b _ q2 nf
      exact ⟨x3, q3⟩
    refine xe_held IO (B := G) (t := { t with heap := h3 }) (by rw [hst]; exact hh3) hokG ⟨fun b o e n m => ?_, fun b o e m => ?_, fun b o e n => ub0.free b o (sB' b o e).1 n, fun b o e m => ?_, ub0.tups, ub0.frzs, ub0.tbls⟩ na os ag hE
    · exact gK b o (sB' b o e).2 (ub0.keep b o (sB' b o e).1 n m)
    · obtain ⟨sl, q⟩ := ub0.slot b o (sB' b o e).1 m
      obtain ⟨_, o', e', nf⟩ := IO.stack.mem m
      have e' : S.get? b = some o' := e'
      rw [e] at e'
      cases e'
      obtain ⟨sl2, q2⟩ := slots b { o with slots := sl } m (fun vs => nf vs) q
      exact ⟨sl2, q2⟩
    · obtain ⟨o', q⟩ := ub0.there b o (sB' b o e).1 m
      exact ⟨o', gK b o' (sB' b o e).2 q⟩
  first
    | exact wpAny_bind (wpAny_pure (wpAny_bind last))
    | exact wpAny_bind last
/-- the wish of a block's element: what a call in it lets out -/
def BlkOut (X : Cx) (E : XK) (s : Shared) (H : Hp) (scope : Scope) (ce : Env) (fp : List Addr) (u : Value) (t : Shared) : Prop := ∃ (σ : L2.St) (H1 : Hp) (s1 : Shared), Inv (X.blk s H scope ce fp) [] σ H1 s1 ∧ CX X.prog X.w X.stack H1 s1 E u t
abbrev blkX (X : Cx) (E : XK) (s : Shared) (H : Hp) (scope : Scope) (ce : Env) (fp : List Addr) (pn : List (Addr × Obj)) : Cx := (X.blk s H scope ce fp).tr pn (BlkOut X E s H scope ce fp)
theorem inv_bare {s : Shared} {H : Hp} {scope : Scope} {ce : Env} {fp : List Addr} {pn pn' : List (Addr × Obj)} {xe : Value → Shared → Prop} {σ : L2.St} {H1 : Hp} {s1 : Shared} (I : Inv ((X.blk s H scope ce fp).tr pn xe) pn' σ H1 s1) : Inv (X.blk s H scope ce fp) [] σ H1 s1 :=
  ⟨Cx.Ok.ofTry I.ok, I.os, I.bare, I.base, I.loc, I.cell, I.free, I.freeC, fun p hp => absurd (show p ∈ ([] : List (Addr × Obj)) ++ [] from hp) List.not_mem_nil, I.hok, I.len⟩
theorem pass_blk {s : Shared} {H : Hp} {scope : Scope} {ce : Env} {fp : List Addr} {pn : List (Addr × Obj)} (σ : L2.St) : PassesAt (L2.CX X.prog X.w) (blkX X E s H scope ce fp pn) σ E := fun pins' H1 s1 e s' I c => ⟨σ, H1, s1, inv_bare I, c⟩
theorem pe_lcX {elt tg iter : Expr} {scope : Scope} {own : List (Str × Nat)} {pos : Pos} {wi : TI} {g : TG} {te : TE} (hc : X.calm = true) (hst : X.stack = X.env :: X.outer) (hf : X.env.frame = some X.env.locals) (hN : X.N.Nodup) (tk : Takes X fun c d _ H => E c d H) (hi : PI X tg iter wi)
    (ok : BlkOk X.N X.env.scope scope own) (hg : ∀ (s : Shared) (H : Hp) (C : Addr) (cl : List (Str × Addr)) (fp : List Addr), PG (X.blk s H scope (compEnvC scope cl C X.env) fp) tg g)
    (he : ∀ (s : Shared) (H : Hp) (C : Addr) (cl : List (Str × Addr)) (fp : List Addr) (pn : List (Addr × Obj)), PE (blkX X E s H scope (compEnvC scope cl C X.env) fp pn) elt te) (hfold : ∀ x, foldedSetIterable iter X.env x = pure x := by intro _; rfl) :
    PE X (.ListComp elt [⟨tg, iter, [], 0⟩] scope pos) (tLc wi g tYes te (own.map (·.2))) := by
  refine ⟨fun pins s σ H Q I wish => ?_⟩
  rw [eval_ListComp]
  have caught : ∀ y ∈ scope.names, y.2 = .free → ∃ c, X.env.cells.lookup y.1 = some c := fun y hy e => I.ok.has _ ((ok.free y hy e).elim .inl .inr)
  refine comprehension_at (use := none) rfl hfold (closure_ok caught) ok.kind (fun y hy e => by rw [ok.uniq y hy, e]) (thn (hi.run pins s σ H _ I wish) fun xv t1 k1 => thn k1 fun itv t2 k2 => ?_)
  obtain ⟨it, fp, tn, J, H2, rfl, I2, T, now, apart, plan⟩ := k2
  refine wpAny_newObj_type (newEnv_comp ?_) (Nat.zero_le _)
  obtain ⟨D, hD⟩ : ∃ D, D = t2.heap.objs.size := ⟨_, rfl⟩
  have noD : H2 D = none := I2.hok.fresh (Nat.le_of_eq hD.symm)
  obtain ⟨W, ⟨n0, w0⟩, turn⟩ := plan D noD
  obtain ⟨t3, ht3⟩ : ∃ t3 : Shared, t3 = { t2 with heap := t2.heap.push { cls := .type "list", data := .seq ([] : List Value).toArray } } := ⟨_, rfl⟩
  have I3 : Inv X pins σ (upd H2 D (.lst [])) t3 := by
    rw [ht3]
    refine I2.laid (t' := t2.toks) (fun b o e => Heap.get?_push_of_some _ e) (Nat.le_of_eq hD.symm) ⟨Nat.zero_le _, [], 0, .nil, ?_⟩
    rw [hD]
    exact Heap.get?_push_size _ rfl
  have heap3 : t3.heap = t2.heap.push { cls := .type "list", data := .seq ([] : List Value).toArray } := by rw [ht3]
  have small : ∀ b ∈ fp, b < t2.heap.objs.size := fun b hb => by
    obtain ⟨o, e, _⟩ := T.obj _ _ now b hb
    exact Heap.lt_size e
  have apart3 : ∀ b ∈ fp, FpOk X pins (upd H2 D (.lst [])) b ∧ b < t3.heap.objs.size := fun b hb => ⟨⟨by rw [upd_ne (by rw [hD]; exact Nat.ne_of_lt (small b hb))]; exact (apart b hb).1, (apart b hb).2⟩, by rw [heap3, Heap.size_push]; exact Nat.lt_succ_of_lt (small b hb)⟩
  have now3 : tn 0 t3.heap := T.keep _ _ _ now fun b _ o e => by rw [heap3]; exact Heap.get?_push_of_some _ e
  have I4 := block_start I3 ok hN apart3
  have pg := hg t3 (upd H2 D (.lst [])) t3.heap.objs.size (cellsFrom (t3.heap.objs.size + 1) scope.names (cloFrom X.env.cells scope.names [])) fp
  have pe := he t3 (upd H2 D (.lst [])) t3.heap.objs.size (cellsFrom (t3.heap.objs.size + 1) scope.names (cloFrom X.env.cells scope.names [])) fp
  rw [hD.symm, ht3.symm]
  show codeAny _ _ (.compStart (.ListComp elt [⟨tg, iter, [], 0⟩] scope pos) 0 (.ref it) (.ref D) (compEnvC scope (cellsFrom (t3.heap.objs.size + 1) scope.names (cloFrom X.env.cells scope.names [])) t3.heap.objs.size X.env)) (compEnds (model X.prog X.w) X.A X.xe none _ (.ref D) (compEnvC scope (cellsFrom (t3.heap.objs.size + 1) scope.names (cloFrom X.env.cells scope.names [])) t3.heap.objs.size X.env)) { t3 with heap := pushCells (t3.heap.push { cls := .type "dict", data := .dict #[] }) scope.names }
  have clean : ∀ b ∈ fp, (upd H2 D (.lst [])) b = none := fun b hb => (apart3 b hb).1.1
  obtain ⟨ce, hce⟩ : ∃ ce, ce = compEnvC scope (cellsFrom (t3.heap.objs.size + 1) scope.names (cloFrom X.env.cells scope.names [])) t3.heap.objs.size X.env := ⟨_, rfl⟩
  rw [← hce] at I4 pg pe ⊢
  have ceL : ce.locals = t3.heap.objs.size := by rw [hce]; rfl
  have ceF : ce.frame = X.env.frame := by rw [hce]; rfl
  obtain ⟨H3, hH3⟩ : ∃ H3, H3 = upd H2 D (.lst []) := ⟨_, rfl⟩
  rw [← hH3] at I3 I4 pg pe w0 clean apart3
  obtain ⟨t4, ht4⟩ : ∃ t4 : Shared, t4 = { t3 with heap := pushCells (t3.heap.push { cls := .type "dict", data := .dict #[] }) scope.names } := ⟨_, rfl⟩
  rw [← ht4] at I4 ⊢
  have now4 : tn 0 t4.heap := T.keep _ _ _ now3 fun b _ o e => by rw [ht4]; exact pushCells_keeps _ _ _ _ (Heap.get?_push_of_some _ e)
  have still : ∀ {σ' : L2.St} {H' : Hp} {s' : Shared}, Inv (X.blk t3 H3 scope ce fp) [] σ' H' s' → (∀ b ∈ fp, H' b = none) → ∀ b ∈ fp, FpOk (X.blk t3 H3 scope ce fp) [] H' b := fun {σ' H' s'} I' k b hb =>
    ⟨k b hb, (I'.ok.exf b hb).1, I'.ok.exfs b hb, .inl hb, fun x c e => (I'.ok.exf b hb).2 x c e, fun p hp => absurd (show p ∈ ([] : List (Addr × Obj)) ++ [] from hp) List.not_mem_nil⟩
  have loop : codeAny (model X.prog X.w) X.A (.compLoop (.ListComp elt [⟨tg, iter, [], 0⟩] scope pos) 0 (.ref it) (.ref D) ce) (compEnds (model X.prog X.w) X.A X.xe none (EP X pins σ Q) (.ref D) ce) t4 := by
    refine compLoop_any (fun n s' => ∃ i J1, Inv (X.blk t3 H3 scope ce fp) [] (wipe σ (own.map (·.2))) J1 s' ∧ tn i s'.heap ∧ (∀ b ∈ fp, J1 b = none) ∧ W i n J1) (fun n s5 ⟨i, J5, I5, n5, c5, w5⟩ => ?_) n0 ⟨0, H3, I4, now4, clean, w0⟩
    rcases turn i n J5 w5 with ⟨stop, qq⟩ | ⟨go, Nx, hNx, step⟩
    · refine thnF (T.done (X.blk t3 H3 scope ce fp) rfl rfl rfl hc i [] s5 _ J5 (fun _ _ => False) I5 (still I5 c5) n5 stop) fun r s6 ⟨er, I6⟩ => ?_
      subst er
      have I7 : Inv X pins σ J5 s6 := I3.call' (ch := fp) I6.os I6.base I6.hok I6.bare fun b hb => ⟨(apart3 b hb).1.2.2.2.1, (apart3 b hb).1.2.1, (apart3 b hb).1.2.2.2.2.1, (apart3 b hb).1.2.2.2.2.2⟩
      have noC : J5 t3.heap.objs.size = none := by
        have z : J5 ce.locals = none := I6.free
        rw [ceL] at z
        exact z
      obtain ⟨m, hn, _⟩ := I6.loc
      have hn : s6.heap.Ns ce.locals m := id hn
      obtain ⟨f0, f1, f2, f3, f4, f5⟩ := I3.fpOk (Nat.le_refl _) noC
      refine ⟨m, hn, fun h'' sb => ?_⟩
      rw [ceL] at sb
      exact ⟨.ref D, J5, I7.turned (t' := s6.toks) (fun b o hb e => (sb.2 b hb).trans e) f0 f1 f3 f4 f5, rfl, qq⟩
    · refine thnF (T.item (X.blk t3 H3 scope ce fp) rfl rfl rfl hc i [] s5 _ J5 (fun _ _ => False) I5 (still I5 c5) n5 go) fun r s6 ⟨u, er, k6⟩ => ?_
      subst er
      refine thnF k6 fun _ s7 ⟨x, J7, I7, r7, y7, n7, c7⟩ => ?_
      have I7p := I7.pinned (still I7 c7) (T.obj _ _ n7)
      refine thnF (pg.run _ s7 _ J7 x u _ I7p r7 (step x J7 y7)) fun _ s8 ⟨σ8, J8, I8, w8, q8⟩ => ?_
      refine wpAny_tests_nil ?_
      have q8 : te σ8 J8 fun y J9 => ∃ l, J9 D = some (.lst l) ∧ l.length < sizeLine ∧ Nx (upd J9 D (.lst (l ++ [y]))) := by
        have q8' : tYes σ8 J8 _ := q8
        unfold tYes at q8'
        dsimp only at q8'
        rw [if_pos rfl] at q8'
        exact q8'
      rw [if_pos rfl]
      have bok : (X.blk t3 H3 scope ce fp).Ok := I8.ok
      refine wpAny_mono ((pe _).run [] s8 σ8 J8 _ (I8.toTry (BlkOut X E t3 H3 scope ce fp)) q8) (fun z s10 ⟨yv, J10, I10t, r10, l, hl, hz, nx⟩ => ?_) fun e s10 ⟨σB, JB, sB, IB, cx⟩ => comp_fails I3 hst hf tk ceF ceL apart3 IB cx
      have I10 := I10t.ofTry bok
      have done : ∀ {s' : Shared} {J' : Hp}, Inv (X.blk t3 H3 scope ce fp) ([] ++ pinsAt fp s7.heap) σ8 J' s' → Nx J' → ∃ m, m < n ∧ ∃ i J1, Inv (X.blk t3 H3 scope ce fp) [] (wipe σ (own.map (·.2))) J1 s' ∧ tn i s'.heap ∧ (∀ b ∈ fp, J1 b = none) ∧ W i m J1 := fun {s' J'} I' nx' => by
        obtain ⟨m', hm, w'⟩ := hNx J' nx'
        have kept : ∀ b ∈ fp, ∀ o, s7.heap.get? b = some o → s'.heap.get? b = some o ∧ J' b = none := fun b hb o e =>
          let pz := I'.pin (b, o) (List.mem_append_right _ (List.mem_append_right _ (mem_pinsAt hb e)))
          ⟨pz.1, pz.2.1⟩
        have len8 : (wipe σ (own.map (·.2))).length = σ8.length := by rw [← w8, wipe_length]
        refine ⟨m', hm, i + 1, J', (I'.unpinned (pins := [])).weak len8 (fun j v e => (wipe_some (vs := own.map (·.2)) (by rw [w8]; exact e)).1), T.keep _ _ _ n7 fun b hb o e => (kept b hb o e).1, fun b hb => ?_, w'⟩
        obtain ⟨o, e, _⟩ := T.obj _ _ n7 b hb
        exact (kept b hb o e).2
      exact app_ok (X := X.blk t3 H3 scope ce fp) I10 hl hz r10 fun s11 I11 => done I11 nx
  exact codeAny_compStart_list loop (T.self X.A 0 _ _ _ now4 loop)
end
end Sw
namespace Sw
open PySem PySem.Spec PyProof.Rows L2 TL
open Evl (Ex Ex.refl Ex.trans Ex.new Ex.mut ex_l ex_t ex_rd fresh_back Ev EvL EvU EvT EvA RV RC RCL SpV SpL)
/-! ### refusals -/
/-- a promise without a refusal, of a def that may refuse -/
theorem FnOk.calm {P : Program} {w : World} {K : PySem.W.Frag} {mg : Str → Option Value} {base : Heap} {k : Nat} {f : Addr} {fd : FuncData} {ps : List Str} {sp sp' : Sp} (F : FnOk P w K mg base (L2.CX P w) k f fd ps sp)
    (h : ∀ vs H Q E, sp' vs H Q E → sp vs H Q (fun _ _ _ => False)) : FnOk P w K mg base CX0 k f fd ps sp' :=
  ⟨fun vs H Q E q => F.len vs H Q _ (h _ _ _ _ q), fun A outer s H args us vs Q E hr he hb hv hs => codeAny_mono (F.run A outer s H args us vs Q _ hr he hb hv (h _ _ _ _ hs)) fun r s' hq => by
    cases r with
    | error e =>
      obtain ⟨_, _, _, _, _, _, _, _, _, _, _, _, z⟩ := hq
      exact z.elim
    | ok fl => cases fl <;> exact hq⟩
/-- what the top says of a refusal's class -/
structure ErrC (K : PySem.W.Frag) (C : Addr) : Prop where
  x : PySem.W.excIn K C [.type "ValueError", .type "Exception", .type "BaseException", .type "object"] "ValueError.__new__" = true
  k : PySem.W.keepIn K (.ref C) = true
  t : PySem.W.typeIn K (.ref C) = some (.type "type")
  i : PySem.W.isClsIn K C = true
  e : ExcC K C
theorem kit_cls {K : PySem.W.Frag} {c : Value} {D : Addr} {b : Bool} (E : ErrC K D) (h : PySem.W.subIn K c (.ref D) = some b) : PySem.W.kitCls K c (.ref D) = some b := by
  have e2 : ((PySem.W.clsIn K D).isSome && PySem.W.typeIn K (.ref D) == some (.type "type")) = true := by
    have h2' : (PySem.W.clsIn K D).isSome = true := E.i
    rw [h2', E.t] <;> rfl
  unfold PySem.W.kitCls
  dsimp only
  rw [if_pos e2]
  exact h
theorem kit_err {K : PySem.W.Frag} {C D : Addr} {b : Bool} (E : ErrC K D) (h : PySem.W.subIn K (.ref C) (.ref D) = some b) (s : PySem.W.subIn K (.ref D) (.ref D) = some true) : PySem.W.kitOne K (.ref C) (.ref D) = some b := by
  unfold PySem.W.kitOne
  by_cases c : C = D
  · subst c
    rw [s] at h
    rw [if_pos (by simp)]
    exact h
  · rw [if_neg (by simp [c])]
    exact kit_cls E h
theorem kit_VE {K : PySem.W.Frag} {C : Addr} (h : PySem.W.subIn K (.ref C) (.type "ValueError") = some true) : PySem.W.kitOne K (.ref C) (.type "ValueError") = some true := by
  unfold PySem.W.kitOne
  rw [if_neg (by simp)]
  unfold PySem.W.kitCls
  dsimp only
  rw [if_pos (by decide +kernel)]
  exact h
theorem exm_err {K : PySem.W.Frag} {C D : Addr} {b : Bool} (E : ErrC K D) (h : PySem.W.subIn K (.ref C) (.ref D) = some b) : PySem.W.exmOne K (.ref C) (.ref D) = some b := PySem.W.exm_ref E.e.hs E.e.hd E.t h
/-! ### parts of a text -/
theorem joinL_mem {S p : List Nat} : ∀ {l : List (List Nat)}, p ∈ l → p.length ≤ (joinL S l).length
  | [], h => nomatch h
  | [q], h => by
    rw [List.mem_singleton.mp h]
    exact Nat.le_refl _
  | q :: r :: l, h => by
    show _ ≤ (q ++ (S ++ joinL S (r :: l))).length
    rw [List.length_append, List.length_append]
    rcases List.mem_cons.mp h with e | h
    · rw [e]
      omega
    · have := joinL_mem (S := S) h
      omega
theorem joinL_many {s : Nat} : ∀ {l : List (List Nat)}, l.length ≤ (joinL [s] l).length + 1
  | [] => Nat.zero_le _
  | [q] => by
    show 1 ≤ _
    omega
  | q :: r :: l => by
    have := joinL_many (s := s) (l := r :: l)
    show _ ≤ (q ++ ([s] ++ joinL [s] (r :: l))).length + 1
    rw [List.length_append, List.length_append]
    simp only [List.length_cons, List.length_nil] at this ⊢
    omega
theorem split_len {x y : Str} {s : Nat} (ey : tl y = [s]) (hk : y.cps.all (· < 256) = true) : (Txt.split x y).length ≤ x.length + 1 ∧ ∀ p ∈ Txt.split x y, p.length ≤ x.length := by
  have h := split_spl x y (by rw [ey]; simp) (kind_ok hk)
  have j : joinL [s] ((Txt.split x y).map tl) = tl x := by
    rw [h, ey, join_spl]
    rfl
  refine ⟨?_, fun p hp => ?_⟩
  · have := joinL_many (s := s) (l := (Txt.split x y).map tl)
    rw [j, List.length_map, ← len_tl] at this
    exact this
  · have := joinL_mem (S := [s]) (List.mem_map_of_mem (f := tl) hp)
    rw [j, ← len_tl, ← len_tl] at this
    exact this
section
variable {K : PySem.W.Frag} {σ : L2.St} {H : Hp} {ta tb te tl' : TE}
/-- [e for x in xs], each e a new pair of numbers, if it comes -/
theorem esn_lcG {a : Addr} {xs : List V} {ys : List (Int × Int)} {j : Nat} {vs : List Nat} (g : Nat → Prop) (h : Ev tl' σ H (.ref a)) (hx : SqL K H a xs) (hz : xs.length ≤ 40000) (hl : ys.length = xs.length) (hw : ∀ x, wipe ((wipe σ vs).set j (some x)) vs = wipe σ vs)
    (he : ∀ (i : Nat) (x : V) (s : Int × Int) H1, Ex H H1 → xs[i]? = some x → ys[i]? = some s → ∀ Q : VK, (∀ z H2, g i → Ex H1 H2 → H2 z = some (.tup [.int s.1, .int s.2]) → Q (.ref z) H2) → te ((wipe σ vs).set j (some x)) H1 Q)
    {Q : VK} (q : (∀ i, i < xs.length → g i) → ∀ p H2, H p = none → Ex H H2 → StonesAt H2 p ys → Q (.ref p) H2) : tLc (iList K tl') (gName j) tYes te vs σ H Q := h H (Ex.refl H) _ fun H2 e2 => ⟨a, rfl, ⟨xs, ex_l e2 hx⟩, fun D nD => by
  refine lc_list (xs := xs) (fun k H' => ∃ zs : List Addr, Ex H2 H' ∧ H' D = some (.lst (zs.map V.ref)) ∧ zs.length = k ∧ (∀ i, i < k → g i) ∧ ∀ (i : Nat) (z : Addr) (s : Int × Int), zs[i]? = some z → ys[i]? = some s → z ≠ D ∧ H' z = some (.tup [.int s.1, .int s.2]))
    ⟨[], Ex.new nD, upd_same, rfl, fun i hi => absurd hi (Nat.not_lt_zero _), fun i z s e => by simp at e⟩ (fun i H' _ h => by obtain ⟨_, e3, _⟩ := h; exact ex_l (e2.trans e3) hx) ?_ ?_
  · rintro k v H3 hk ⟨zs, e3, hD, hzs, hg, hin⟩
    have il : k < xs.length := (List.getElem?_eq_some_iff.mp hk).1
    refine ⟨hw v, ?_⟩
    unfold tYes
    dsimp only
    rw [if_pos rfl]
    refine he k v ys[k] H3 (e2.trans e3) hk (List.getElem?_eq_getElem (by omega)) _ fun z H4 gk e4 hz4 => ?_
    have hD4 := e4 _ _ hD
    have zD : z ≠ D := fun e => by
      rw [e, hD4] at hz4
      cases hz4
    refine ⟨_, hD4, small_lt (by rw [List.length_map, hzs]; omega), zs ++ [z], Ex.mut (e3.trans e4) nD, by rw [upd_same, List.map_append]; rfl, by rw [List.length_append, hzs]; rfl, fun i hi => ?_, fun i z' s' g1 g2 => ?_⟩
    · by_cases c : i < k
      · exact hg i c
      · rw [show i = k by omega]
        exact gk
    by_cases c : i < zs.length
    · rw [List.getElem?_append_left c] at g1
      obtain ⟨n1, n2⟩ := hin i z' s' g1 g2
      exact ⟨n1, by rw [upd_ne n1]; exact e4 _ _ n2⟩
    · rw [List.getElem?_append_right (by omega)] at g1
      have zz : i - zs.length = 0 := by
        have := (List.getElem?_eq_some_iff.mp g1).1
        simp at this
        omega
      rw [zz] at g1
      have g1 : z = z' := Option.some.inj g1
      have ik : i = k := by omega
      rw [ik, List.getElem?_eq_getElem (by omega)] at g2
      have g2 := Option.some.inj g2
      rw [← g1, ← g2]
      exact ⟨zD, by rw [upd_ne zD]; exact hz4⟩
  · rintro H3 ⟨zs, e3, hD, hzs, hg, hin⟩
    exact q hg D H3 (fresh_back e2 nD) (e2.trans e3) ⟨zs, hD, by omega, fun i z s g1 g2 => (hin i z s g1 g2).2⟩⟩
end
end Sw
namespace Sw
open PySem PySem.Spec PyProof.Rows L2
open Evl (Ex Ex.refl Ex.trans Ex.new Ex.mut ex_l ex_t ex_rd fresh_back Ev EvL EvU EvT EvA RV RC RCL SpV SpL)
section
variable {P : Program} {w : World} {K : PySem.W.Frag} {mg : Str → Option Value} {base : Heap}
/-! ### need_stone -/
theorem FnOk.wild9 {k : Nat} {f : Addr} {fd : FuncData} {ps : List Str} {sp : Sp} (F : FnOk P w K mg base CX0 k f fd ps sp) : FnOk P w K mg base (L2.CX P w) k f fd ps sp :=
  ⟨F.len, fun A outer s H args us vs Q E hr he hb hv hs => codeAny_mono (F.run A outer s H args us vs Q E hr he hb hv hs) fun r s' hq => by
    cases r with
    | error e => exact False.elim hq
    | ok fl => cases fl <;> exact hq⟩
theorem scNeed1 : FnScope ["thing"] ["thing"] (defScope sNeed1) := ⟨rfl, rfl, rfl, by decide +kernel, rfl, by decide +kernel, by decide +kernel⟩
def spNeed1 (C : Addr) : Sp := fun vs H Q E => ∃ (v : V) (d : PyData), vs = [v] ∧ Dt H v d ∧ (stoneB d = true → Evl.RetV .non H Q) ∧ (stoneB d = false → ∀ H2, Ex H H2 → E (.ref C) none H2)
theorem ok_need1 {f fA C : Addr} {fd fdA : FuncData} (F : Fun K "need_stone" "need_stone" sNeed1 f fd) (GA : FnOk P w K mg base CX0 2 fA fdA ["thing"] spStone) (gA : mg "is_stone" = some (.ref fA)) (kA : PySem.W.keepIn K (.ref fA) = true) (bA : Binds K fdA ["thing"] [])
    (EC : ErrC K C) (gC : mg "NoStone" = some (.ref C)) : FnOk P w K mg base (L2.CX P w) 3 f fd ["thing"] (spNeed1 C) := by
  refine F.okX scNeed1 (fun vs H Q E h => ?_) (fun cdv A outer s H vs Q E hr h => ?_)
  · obtain ⟨v, d, rfl, _⟩ := h
    rfl
  · obtain ⟨v, d, rfl, hd, q, qe⟩ := h
    refine ⟨_, pss_one (ps_if (pt_not (pt_val (pe_callS (FnOk.wild9 GA) hr (by rfl) gA kA bA (fun σ => passAt (W := fun c d _ H => E c d H) (takes_of rfl rfl rfl rfl) σ) (pa_cons (pv 0) pa_nil)))) (pss_one (ps_raise rfl (takes_of rfl rfl rfl rfl) (pmk_own PySem.F.excBase_ValueError EC.x gC EC.k (raises_own EC.e.hs EC.t) (by exact rfl)))) pss_nil), ?_⟩
    refine ⟨_, rfl, v, d, rfl, hd, fun H1 e1 => ?_⟩
    cases hb : stoneB d with
    | true => exact ⟨true, rfl, iteF (q hb H1 e1)⟩
    | false => exact ⟨false, rfl, iteT (qe hb H1 e1)⟩
end
end Sw
namespace Sw
open PySem PySem.Spec PyProof.Rows L2
open Evl (Ex Ex.refl Ex.trans Ex.new Ex.mut ex_l ex_t ex_rd fresh_back Ev EvL EvU EvT EvA RV RC RCL SpV SpL)
theorem flat_int2 (l : List Int) : (l.map V.int).all flatV = true := by
  rw [List.all_eq_true]
  intro v hv
  obtain ⟨k, _, e⟩ := List.mem_map.mp hv
  rw [← e]
  rfl
theorem inV_int2 (x : Int) (l : List Int) : inV (.int x) (l.map V.int) = decide (x ∈ l) := by
  unfold inV
  rw [List.any_map]
  refine Bool.eq_iff_iff.mpr ?_
  rw [List.any_eq_true, decide_eq_true_eq]
  constructor
  · rintro ⟨y, hy, e⟩
    have e : (y == x) = true := e
    rw [← eq_of_beq e]
    exact hy
  · intro h
    exact ⟨x, h, beq_self_eq_true x⟩
theorem atI_last {xs : List V} {v : V} {n : Nat} (hl : xs.length = n + 1) (h : xs[n]? = some v) : atI xs (-1) = some v := by
  unfold atI ixN
  rw [if_neg (by decide), if_pos (by omega), hl]
  show xs[((-1 : Int) + ((n + 1 : Nat) : Int)).toNat]? = some v
  rw [show ((-1 : Int) + ((n + 1 : Nat) : Int)).toNat = n from by omega]
  exact h
/-- a list of lists of steps -/
def ChainsAt (H : Hp) (q : Addr) (ps : List Addr) (cs : List (List Step)) : Prop := H q = some (.lst (ps.map V.ref)) ∧ ps.length = cs.length ∧ ∀ (i : Nat) (p : Addr) (c : List Step), ps[i]? = some p → cs[i]? = some c → StonesAt H p (castS c)
theorem ChainsAt.ex {H H' : Hp} {q : Addr} {ps : List Addr} {cs : List (List Step)} (h : ChainsAt H q ps cs) (e : Ex H H') : ChainsAt H' q ps cs := ⟨e _ _ h.1, h.2.1, fun i p c a b => (h.2.2 i p c a b).ex e⟩
/-- the chains one by one -/
def Chs (H : Hp) (ps : List Addr) (cs : List (List Step)) : Prop := ps.length = cs.length ∧ ∀ (i : Nat) (p : Addr) (c : List Step), ps[i]? = some p → cs[i]? = some c → StonesAt H p (castS c)
theorem Chs.nil (H : Hp) : Chs H [] [] := ⟨rfl, fun i p c e => by simp at e⟩
theorem Chs.ex {H H' : Hp} {ps : List Addr} {cs : List (List Step)} (h : Chs H ps cs) (e : Ex H H') : Chs H' ps cs := ⟨h.1, fun i p c a b => (h.2 i p c a b).ex e⟩
theorem Chs.kp {f : Int → List Nat} {st : List (Int × Int)} {H H' : Hp} {d : Addr} {T : List (Int × Addr)} {ps : List Addr} {cs : List (List Step)} (h : Chs H ps cs) (g : FreeG f st H d T) (n : ∀ p ∈ ps, ∀ t ∈ T, p ≠ t.2) (k : Kp T H H') : Chs H' ps cs :=
  ⟨h.1, fun i p c a b => (h.2 i p c a b).kp g (n p (List.mem_of_getElem? a)) k⟩
/-- another list is changed -/
theorem StonesAt.upd {H : Hp} {p x : Addr} {su : List (Int × Int)} {xs ys : List V} (h : StonesAt H p su) (hx : H x = some (.lst xs)) (n : p ≠ x) : StonesAt (upd H x (.lst ys)) p su := by
  obtain ⟨ts, h1, h2, h3⟩ := h
  refine ⟨ts, by rw [upd_ne n]; exact h1, h2, fun i t s a b => ?_⟩
  have q := h3 i t s a b
  rw [upd_ne fun e => by rw [e, hx] at q; cases q]
  exact q
theorem Chs.upd {H : Hp} {x : Addr} {ps : List Addr} {cs : List (List Step)} {xs ys : List V} (h : Chs H ps cs) (hx : H x = some (.lst xs)) (n : ∀ p ∈ ps, p ≠ x) : Chs (upd H x (.lst ys)) ps cs :=
  ⟨h.1, fun i p c a b => (h.2 i p c a b).upd hx (n p (List.mem_of_getElem? a))⟩
theorem Chs.app {H : Hp} {ps : List Addr} {cs : List (List Step)} {p : Addr} {c : List Step} (h : Chs H ps cs) (hp : StonesAt H p (castS c)) : Chs H (ps ++ [p]) (cs ++ [c]) := by
  refine ⟨by rw [List.length_append, List.length_append, h.1]; rfl, fun i p' c' a b => ?_⟩
  by_cases k : i < ps.length
  · rw [List.getElem?_append_left k] at a
    rw [List.getElem?_append_left (by have := h.1; omega)] at b
    exact h.2 i p' c' a b
  · rw [List.getElem?_append_right (by omega)] at a
    rw [List.getElem?_append_right (by have := h.1; omega), ← h.1] at b
    have z : i - ps.length = 0 := by
      have := (List.getElem?_eq_some_iff.mp a).1
      simp at this
      omega
    rw [z] at a b
    have a := Option.some.inj a
    have b := Option.some.inj b
    rw [← a, ← b]
    exact hp
theorem FreeG.upd {f : Int → List Nat} {st : List (Int × Int)} {H : Hp} {d x : Addr} {T : List (Int × Addr)} {xs ys : List V} (g : FreeG f st H d T) (hx : H x = some (.lst xs)) (n : ∀ t ∈ T, x ≠ t.2) : FreeG f st (upd H x (.lst ys)) d T :=
  ⟨by rw [upd_ne fun e => by have := g.at_; rw [e, hx] at this; cases this]; exact g.at_, g.nk, g.na, fun t m => by rw [upd_ne fun e => n t m e.symm]; exact g.in_ t m, g.all⟩
end Sw
namespace Sw
open PySem PySem.Spec PyProof.Rows L2
open Evl (Ex Ex.refl Ex.trans Ex.new Ex.mut ex_l ex_t ex_rd fresh_back Ev EvL EvU EvT EvA RV RC RCL SpV SpL)
section
variable {K : PySem.W.Frag} {σ : L2.St} {H H' : Hp} {ta tb te : TE}
theorem rc_isA {x c : V} {t u : Value} {b : Bool} (k : ClsV c u) (ty : ∀ H1, Ex H H1 → Kind K H1 x t) (e : PySem.W.kitOne K t u = some b) : RC (rIsA K) [x, c] H (.bl b) := fun H1 e1 Q q => ⟨x, c, t, u, b, rfl, k, ty H1 e1, e, q H1 (Ex.refl H1)⟩
/-! ### the classes of the refusals -/
structure Tab (K : PySem.W.Frag) (Cs : List Addr) : Prop where
  ok : ∀ C ∈ Cs, ErrC K C
  sub : ∀ (i j : Nat) (C D : Addr), Cs[i]? = some C → Cs[j]? = some D → PySem.W.subIn K (.ref C) (.ref D) = some (decide (i = j))
theorem Tab.kit {Cs : List Addr} (T : Tab K Cs) {i j : Nat} {C D : Addr} (hi : Cs[i]? = some C) (hj : Cs[j]? = some D) : PySem.W.kitOne K (.ref C) (.ref D) = some (decide (i = j)) :=
  kit_err (T.ok D (List.mem_of_getElem? hj)) (T.sub i j C D hi hj) (by rw [T.sub j j D D hj hj, decide_eq_true rfl])
/-- isinstance(e, D), e kept in slot k, of the i-th class -/
theorem ev_mark {Cs : List Addr} (T : Tab K Cs) {k i j : Nat} {e C D : Addr} (hk : σ[k]? = some (some (.ref e))) (he : IsExc H (.ref C) e) (hi : Cs[i]? = some C) (hj : Cs[j]? = some D) :
    Ev (tCB (rIsA K) (tCons (tVar k) (tCons (tC (.ref D)) tNil))) σ H (.bl (decide (i = j))) :=
  Evl.ev_cb (Evl.ea_cons (Evl.ev_var hk) (Evl.ea_cons Evl.ev_c Evl.ea_nil)) (rc_isA (.own D) (fun H1 x => .inr ⟨e, C, rfl, rfl, he.ex x, (T.ok C (List.mem_of_getElem? hi)).e⟩) (T.kit hi hj))
theorem kit_data {d : PyData} {D : Addr} (E : ErrC K D) : PySem.W.kitOne K (.type (kindOf d)) (.ref D) = some false := by
  unfold PySem.W.kitOne
  rw [if_neg (by simp)]
  refine kit_cls E ?_
  cases d <;> rfl
/-- int of a truth -/
abbrev rInt1 : List V → Hp → VK → Prop := fun xs H Q => (∃ i, xs = [.int i] ∧ Q (.int i) H) ∨ ∃ k, xs = [.bl k] ∧ Q (.int (if k then 1 else 0)) H
theorem ev_intB {b : Bool} (h : Ev te σ H (.bl b)) : Ev (tCB rInt1 (tCons te tNil)) σ H (.int (if b then 1 else 0)) := fun H1 e Q q => h H1 e _ fun H2 e2 => .inr ⟨b, rfl, q H2 e2⟩
end
end Sw
namespace Sw
/-! ### a table -/
structure Tb where
  st : List (Int × Int)
  cs : List (List Step)
  ds : List (Nat × Bool)
def Tb.nil : Tb := ⟨[], [], []⟩
def Tb.beg (T : Tb) (s : Int × Int) : Tb := ⟨T.st ++ [s], T.cs ++ [[(T.st.length, 0)]], T.ds ++ [(T.cs.length, true)]⟩
def grown (c : List Step) (x : Step) (right : Bool) : List Step := if right then c ++ [x] else x :: c
def Tb.put (T : Tb) (n : Nat) (right : Bool) (s : Int × Int) (t : Nat) : Tb := ⟨T.st ++ [s], T.cs.set n (grown (T.cs.getD n []) (T.st.length, t) right), T.ds ++ [(n, right)]⟩
inductive Reach : Tb → Prop
  | nil : Reach .nil
  | beg {T : Tb} (s : Int × Int) : Reach T → Reach (T.beg s)
  | put {T : Tb} {n : Nat} (right : Bool) (s : Int × Int) {t : Nat} : Reach T → n < T.cs.length → t ≤ 1 → Reach (T.put n right s t)
theorem grown_len (c : List Step) (x : Step) (right : Bool) : (grown c x right).length = c.length + 1 := by
  unfold grown
  cases right
  · rw [if_neg Bool.false_ne_true, List.length_cons]
  · rw [if_pos rfl, List.length_append]
    rfl
theorem grown_mem {c : List Step} {x y : Step} {right : Bool} (h : y ∈ grown c x right) : y ∈ c ∨ y = x := by
  unfold grown at h
  cases right
  · rw [if_neg Bool.false_ne_true] at h
    rcases List.mem_cons.mp h with e | h
    · exact .inr e
    · exact .inl h
  · rw [if_pos rfl] at h
    rcases List.mem_append.mp h with h | h
    · exact .inl h
    · exact .inr (List.mem_singleton.mp h)
theorem Reach.deeds {T : Tb} (h : Reach T) : T.ds.length = T.st.length := by
  induction h with
  | nil => rfl
  | beg s _ ih =>
    show (_ ++ [_]).length = (_ ++ [_]).length
    rw [List.length_append, List.length_append, ih]
    rfl
  | put right s _ _ _ ih =>
    show (_ ++ [_]).length = (_ ++ [_]).length
    rw [List.length_append, List.length_append, ih]
    rfl
/-- each chain: not empty, of stones that are there, not too long -/
theorem Reach.chains {T : Tb} (h : Reach T) : ∀ c ∈ T.cs, c ≠ [] ∧ (∀ x ∈ c, x.1 < T.st.length ∧ x.2 ≤ 1) ∧ c.length ≤ T.st.length := by
  induction h with
  | nil => exact fun c hc => nomatch hc
  | @beg T s _ ih =>
    have l : (T.beg s).st.length = T.st.length + 1 := by
      show (T.st ++ [s]).length = _
      rw [List.length_append]
      rfl
    intro c hc
    rw [l]
    rcases List.mem_append.mp (show c ∈ T.cs ++ [[(T.st.length, 0)]] from hc) with hc | hc
    · obtain ⟨a, b, d⟩ := ih c hc
      exact ⟨a, fun x hx => ⟨by have := (b x hx).1; omega, (b x hx).2⟩, by omega⟩
    · rw [List.mem_singleton.mp hc]
      refine ⟨List.cons_ne_nil _ _, fun x hx => ?_, by show 1 ≤ _; omega⟩
      rw [List.mem_singleton.mp hx]
      exact ⟨Nat.lt_succ_self _, Nat.zero_le _⟩
  | @put T n right s t _ hn ht ih =>
    have l : (T.put n right s t).st.length = T.st.length + 1 := by
      show (T.st ++ [s]).length = _
      rw [List.length_append]
      rfl
    intro c hc
    rw [l]
    rcases List.mem_or_eq_of_mem_set (show c ∈ T.cs.set n (grown (T.cs.getD n []) (T.st.length, t) right) from hc) with hc | hc
    · obtain ⟨a, b, d⟩ := ih c hc
      exact ⟨a, fun x hx => ⟨by have := (b x hx).1; omega, (b x hx).2⟩, by omega⟩
    · have gn : T.cs.getD n [] = T.cs[n] := by rw [List.getD_eq_getElem?_getD, List.getElem?_eq_getElem hn]; rfl
      obtain ⟨a, b, d⟩ := ih _ (List.getElem_mem hn)
      rw [hc, gn]
      refine ⟨fun z => ?_, fun x hx => ?_, ?_⟩
      · have := congrArg List.length z
        rw [grown_len] at this
        cases this
      · rcases grown_mem hx with hx | hx
        · exact ⟨by have := (b x hx).1; omega, (b x hx).2⟩
        · rw [hx]
          exact ⟨Nat.lt_succ_self _, ht⟩
      · rw [grown_len]
        omega
theorem Reach.few {T : Tb} (h : Reach T) : T.cs.length ≤ T.st.length := by
  induction h with
  | nil => exact Nat.le_refl _
  | @beg T s _ ih =>
    show (T.cs ++ [_]).length ≤ (T.st ++ [s]).length
    rw [List.length_append, List.length_append]
    show _ + 1 ≤ _ + 1
    omega
  | @put T n right s t _ hn ht ih =>
    show (T.cs.set n _).length ≤ (T.st ++ [s]).length
    rw [List.length_set, List.length_append]
    omega
/-! ### one deed back -/
def shrunk (c : List Step) (right : Bool) : List Step := if right then c.dropLast else c.tail
theorem shrunk_grown (c : List Step) (x : Step) (right : Bool) : shrunk (grown c x right) right = c := by
  unfold shrunk grown
  cases right
  · rw [if_neg Bool.false_ne_true, if_neg Bool.false_ne_true]
    rfl
  · rw [if_pos rfl, if_pos rfl, List.dropLast_concat]
def backC (cs : List (List Step)) (n : Nat) (right : Bool) : List (List Step) := if shrunk (cs.getD n []) right = [] then cs.eraseIdx n else cs.set n (shrunk (cs.getD n []) right)
theorem getD_mid (cs : List (List Step)) (c : List Step) : (cs ++ [c]).getD cs.length [] = c := by
  rw [List.getD_eq_getElem?_getD, List.getElem?_append_right (Nat.le_refl _), Nat.sub_self]
  rfl
theorem erase_last (cs : List (List Step)) (c : List Step) : (cs ++ [c]).eraseIdx cs.length = cs := by
  rw [List.eraseIdx_append_of_length_le (Nat.le_refl _), Nat.sub_self]
  show cs ++ [] = cs
  rw [List.append_nil]
/-- the last deed, taken back -/
theorem Reach.back {T : Tb} (h : Reach T) (hn : T.ds ≠ []) : ∃ (T0 : Tb) (s : Int × Int) (n : Nat) (right : Bool), Reach T0 ∧ T.st = T0.st ++ [s] ∧ T.ds = T0.ds ++ [(n, right)] ∧ n < T.cs.length ∧ backC T.cs n right = T0.cs := by
  cases h with
  | nil => exact absurd rfl hn
  | @beg T0 s h0 =>
    refine ⟨T0, s, T0.cs.length, true, h0, rfl, rfl, ?_, ?_⟩
    · show _ < (T0.cs ++ [_]).length
      rw [List.length_append]
      exact Nat.lt_succ_self _
    · show backC (T0.cs ++ [[(T0.st.length, 0)]]) T0.cs.length true = T0.cs
      unfold backC
      rw [getD_mid, if_pos (show shrunk [(T0.st.length, 0)] true = [] from rfl), erase_last]
  | @put T0 n right s t h0 hl ht =>
    have gn : T0.cs.getD n [] = T0.cs[n] := by rw [List.getD_eq_getElem?_getD, List.getElem?_eq_getElem hl]; rfl
    refine ⟨T0, s, n, right, h0, rfl, rfl, ?_, ?_⟩
    · show n < (T0.cs.set n _).length
      rw [List.length_set]
      exact hl
    · show backC (T0.cs.set n (grown (T0.cs.getD n []) (T0.st.length, t) right)) n right = T0.cs
      unfold backC
      have g2 : (T0.cs.set n (grown (T0.cs.getD n []) (T0.st.length, t) right)).getD n [] = grown (T0.cs.getD n []) (T0.st.length, t) right := by
        rw [List.getD_eq_getElem?_getD, List.getElem?_set_self hl]
        rfl
      rw [g2, shrunk_grown, gn, if_neg (h0.chains _ (List.getElem_mem hl)).1, List.set_set]
      exact List.set_getElem_self hl
end Sw
namespace Sw
open PySem PySem.Spec PyProof.Rows L2
open Evl (Ex Ex.refl Ex.trans Ex.new Ex.mut ex_l ex_t ex_rd fresh_back Ev EvL EvU EvT EvA RV RC RCL SpV SpL)
/-! ### a table in memory -/
def tF (sL cL dL : Addr) : List (Str × V) := [("_stones", .ref sL), ("_chains", .ref cL), ("_deeds", .ref dL)]
theorem lk_here {k : Str} {v : V} {r : List (Str × V)} : List.lookup k ((k, v) :: r) = some v := by
  have e : (k == k) = true := beq_self_eq_true k
  simp only [List.lookup, e]
theorem lk_past {k g : Str} {v : V} {r : List (Str × V)} (h : (k == g) = false) : List.lookup k ((g, v) :: r) = List.lookup k r := by
  simp only [List.lookup, h]
theorem tF_s (a b c : Addr) : (tF a b c).lookup ("_stones" : Str) = some (.ref a) := lk_here
theorem tF_c (a b c : Addr) : (tF a b c).lookup ("_chains" : Str) = some (.ref b) := (lk_past (by decide +kernel)).trans lk_here
theorem tF_d (a b c : Addr) : (tF a b c).lookup ("_deeds" : Str) = some (.ref c) := (lk_past (by decide +kernel)).trans ((lk_past (by decide +kernel)).trans lk_here)
structure TAd where
  dx : Addr
  sL : Addr
  cL : Addr
  dL : Addr
  ps : List Addr
def DeedsAt (H : Hp) (a : Addr) (ds : List (Nat × Bool)) : Prop := ∃ ts : List Addr, H a = some (.lst (ts.map V.ref)) ∧ ts.length = ds.length ∧ ∀ (i : Nat) (t : Addr) (d : Nat × Bool), ts[i]? = some t → ds[i]? = some d → H t = some (.tup [.int (d.1 : Int), .str (sideS d.2)])
theorem DeedsAt.ex {H H' : Hp} {a : Addr} {ds : List (Nat × Bool)} (h : DeedsAt H a ds) (e : Ex H H') : DeedsAt H' a ds := by
  obtain ⟨ts, h1, h2, h3⟩ := h
  exact ⟨ts, e _ _ h1, h2, fun i t d g1 g2 => e _ _ (h3 i t d g1 g2)⟩
structure TabAt (C o : Addr) (A : TAd) (T : Tb) (H : Hp) : Prop where
  ob : H o = some (.ins C A.dx (tF A.sL A.cL A.dL))
  st : StonesAt H A.sL T.st
  cl : H A.cL = some (.lst (A.ps.map V.ref))
  ch : Chs H A.ps T.cs
  dd : DeedsAt H A.dL T.ds
  nd : (A.sL :: A.cL :: A.dL :: A.ps).Nodup
  go : Good T.st
  re : Reach T
theorem TabAt.ex {C o : Addr} {A : TAd} {T : Tb} {H H' : Hp} (h : TabAt C o A T H) (e : Ex H H') : TabAt C o A T H' := ⟨e _ _ h.ob, h.st.ex e, e _ _ h.cl, h.ch.ex e, h.dd.ex e, h.nd, h.go, h.re⟩
/-- what the top says of the class -/
structure TxtT (K : PySem.W.Frag) (mg : Str → Option Value) (C : Addr) : Prop where
  cl : Cls K C
  nS : NoAttr K C "_stones"
  nC : NoAttr K C "_chains"
  nD : NoAttr K C "_deeds"
  g : mg "Table" = some (.ref C)
section
variable {P : Program} {w : World} {K : PySem.W.Frag} {mg : Str → Option Value} {base : Heap} {C : Addr}
variable {σ : L2.St} {H : Hp} {ta tb te : TE}
theorem ev_sL {o : Addr} {A : TAd} {T : Tb} (X : TxtT K mg C) (h : Ev te σ H (.ref o)) (t : TabAt C o A T H) : Ev (tFld K te "_stones") σ H (.ref A.sL) := fun H1 e Q q => h H1 e _ fun H2 e2 => ⟨o, C, A.dx, _, _, rfl, (t.ex (e.trans e2)).ob, X.cl, X.nS, tF_s _ _ _, q H2 e2⟩
theorem ev_cL {o : Addr} {A : TAd} {T : Tb} (X : TxtT K mg C) (h : Ev te σ H (.ref o)) (t : TabAt C o A T H) : Ev (tFld K te "_chains") σ H (.ref A.cL) := fun H1 e Q q => h H1 e _ fun H2 e2 => ⟨o, C, A.dx, _, _, rfl, (t.ex (e.trans e2)).ob, X.cl, X.nC, tF_c _ _ _, q H2 e2⟩
theorem ev_dL {o : Addr} {A : TAd} {T : Tb} (X : TxtT K mg C) (h : Ev te σ H (.ref o)) (t : TabAt C o A T H) : Ev (tFld K te "_deeds") σ H (.ref A.dL) := fun H1 e Q q => h H1 e _ fun H2 e2 => ⟨o, C, A.dx, _, _, rfl, (t.ex (e.trans e2)).ob, X.cl, X.nD, tF_d _ _ _, q H2 e2⟩
/-! ### chains, stones, _is_full -/
abbrev sTab (i : Nat) : Stmt := inClass (topS 22) i
theorem scChainsM : FnScope ["self"] ["self"] (defScope (sTab 7)) := ⟨rfl, rfl, rfl, by decide +kernel, rfl, by decide +kernel, by decide +kernel⟩
def spChainsM (C : Addr) : Sp := fun vs H Q _ => ∃ (o : Addr) (A : TAd) (T : Tb), vs = [.ref o] ∧ TabAt C o A T H ∧ Evl.RetV (.int (T.cs.length : Int)) H Q
theorem ok_chainsM {f : Addr} {fd : FuncData} (F : Fun K "chains" "Table.chains" (sTab 7) f fd) (X : TxtT K mg C) (mL : mg "len" = none) : FnOk P w K mg base CX0 1 f fd ["self"] (spChainsM C) := by
  refine F.ok scChainsM (fun vs H Q E h => ?_) (fun cdv A outer s H vs Q E hr h => ?_)
  · obtain ⟨o, A, T, rfl, _⟩ := h
    rfl
  · obtain ⟨o, A, T, rfl, t, q⟩ := h
    refine ⟨_, pss_one (ps_ret (pe_callB (r := Evl.rLenS K) call_len_seq (by rfl) mL boot_len (pa_cons (pe_fld (pv 0) rfl) pa_nil))), ?_⟩
    exact Evl.s_ret (v := .int (T.cs.length : Int)) (Evl.ev_is (Evl.ev_len (K := K) (ev_cL X (Evl.ev_var rfl) t) (SqL.of t.cl)) (by rw [List.length_map, t.ch.1])) q
theorem scFullM : FnScope ["self"] ["self"] (defScope (sTab 10)) := ⟨rfl, rfl, rfl, by decide +kernel, rfl, by decide +kernel, by decide +kernel⟩
def spFullM (C : Addr) : Sp := fun vs H Q _ => ∃ (o : Addr) (A : TAd) (T : Tb), vs = [.ref o] ∧ TabAt C o A T H ∧ Evl.RetV (.bl (decide (60 ≤ T.st.length))) H Q
theorem ok_fullM {f : Addr} {fd : FuncData} (F : Fun K "_is_full" "Table._is_full" (sTab 10) f fd) (X : TxtT K mg C) (mL : mg "len" = none) (mM : ∃ t, mg "MOST_STONES" = some (.int 60 t)) : FnOk P w K mg base CX0 1 f fd ["self"] (spFullM C) := by
  obtain ⟨tM, mM⟩ := mM
  refine F.ok scFullM (fun vs H Q E h => ?_) (fun cdv A outer s H vs Q E hr h => ?_)
  · obtain ⟨o, A, T, rfl, _⟩ := h
    rfl
  · obtain ⟨o, A, T, rfl, t, q⟩ := h
    refine ⟨_, pss_one (ps_ret (pe_cmpR op_ge (pe_callB (r := Evl.rLenS K) call_len_seq (by rfl) mL boot_len (pa_cons (pe_fld (pv 0) rfl) pa_nil)) (pe_glob (v := .int 60) rfl mM ⟨_, rfl⟩) (nomark _))), ?_⟩
    obtain ⟨ts, t1, t2, t3⟩ := t.st
    exact Evl.s_ret (v := .bl (decide (60 ≤ T.st.length))) (Evl.ev_is (Evl.ev_op (Evl.ev_is (w := .int (T.st.length : Int)) (Evl.ev_len (K := K) (ev_sL X (Evl.ev_var rfl) t) (SqL.of t1)) (by rw [List.length_map, t2])) Evl.ev_c (Evl.rv_I0 (g := fun i j => .bl (decide (j ≤ i))))) (congrArg V.bl (Bool.eq_iff_iff.mpr (by rw [decide_eq_true_eq, decide_eq_true_eq]; omega)))) q
end
end Sw
namespace Sw
open PySem PySem.Spec PyProof.Rows L2
open Evl (Ex Ex.refl Ex.trans Ex.new Ex.mut ex_l ex_t ex_rd fresh_back Ev EvL EvU EvT EvA RV RC RCL SpV SpL)
section
variable {P : Program} {w : World} {K : PySem.W.Frag} {mg : Str → Option Value} {base : Heap} {C : Addr}
variable {σ : L2.St} {H : Hp} {ta tb te : TE}
/-! ### __init__ -/
theorem put_here {f : Str} {v x : V} {r : List (Str × V)} : putF f v ((f, x) :: r) = (f, v) :: r := if_pos rfl
theorem put_past {f g : Str} {v x : V} {r : List (Str × V)} (h : ¬ g = f) : putF f v ((g, x) :: r) = (g, x) :: putF f v r := if_neg h
theorem scInit9 : FnScope ["self"] ["self"] (defScope (sTab 0)) := ⟨rfl, rfl, rfl, by decide +kernel, rfl, by decide +kernel, by decide +kernel⟩
def spInit9 (C : Addr) : Sp := fun vs H Q _ => ∃ (p dx : Addr), vs = [.ref p] ∧ H p = some (.ins C dx []) ∧ ∀ (H' : Hp) (A : TAd), TabAt C p A .nil H' → (∀ b o, H b = some o → b ≠ p → H' b = some o) → (∀ a ∈ A.sL :: A.cL :: A.dL :: A.ps, H a = none) → Q .non H'
theorem ok_init9 {f : Addr} {fd : FuncData} (F : Fun K "__init__" "Table.__init__" (sTab 0) f fd) (X : TxtT K mg C) : FnOk P w K mg base CX0 1 f fd ["self"] (spInit9 C) := by
  refine F.ok scInit9 (fun vs H Q E h => ?_) (fun cdv A outer s H vs Q E hr h => ?_)
  · obtain ⟨p, dx, rfl, _⟩ := h
    rfl
  · obtain ⟨p, dx, rfl, hp, q⟩ := h
    refine ⟨_, pss_cons (ps_fld (pv 0) (pe_lst pa_nil) rfl) (pss_cons (ps_fld (pv 0) (pe_lst pa_nil) rfl) (pss_one (ps_fld (pv 0) (pe_lst pa_nil) rfl))), ?_⟩
    refine ⟨Nat.zero_le _, fun sL nS => ⟨_, rfl, p, C, dx, [], rfl, ?_, X.cl, X.nS, by show 0 < 1000; decide, ?_⟩⟩
    · rw [upd_ne (ne_of_none hp nS)]
      exact hp
    have n1 : p ≠ sL := ne_of_none hp nS
    refine ⟨Nat.zero_le _, fun cL nC => ⟨_, rfl, p, C, dx, [(("_stones" : Str), V.ref sL)], rfl, ?_, X.cl, X.nC, by show 1 < 1000; decide, ?_⟩⟩
    · rw [upd_ne (fun z => by rw [← z, upd_same] at nC; cases nC), upd_same]
      rfl
    have n2 : p ≠ cL := fun z => by rw [← z, upd_same] at nC; cases nC
    have n3 : sL ≠ cL := fun z => by rw [← z, upd_ne (fun k => n1 k.symm), upd_same] at nC; cases nC
    have f2 : putF ("_chains" : Str) (V.ref cL) [(("_stones" : Str), V.ref sL)] = [(("_stones" : Str), V.ref sL), (("_chains" : Str), V.ref cL)] := put_past (by decide +kernel)
    have f3 : ∀ dL, putF ("_deeds" : Str) (V.ref dL) [(("_stones" : Str), V.ref sL), (("_chains" : Str), V.ref cL)] = tF sL cL dL := fun dL => (put_past (by decide +kernel)).trans (congrArg _ (put_past (by decide +kernel)))
    rw [f2]
    refine ⟨Nat.zero_le _, fun dL nD => ⟨_, rfl, p, C, dx, [(("_stones" : Str), V.ref sL), (("_chains" : Str), V.ref cL)], rfl, ?_, X.cl, X.nD, by show 2 < 1000; decide, ?_⟩⟩
    · rw [upd_ne (fun z => by rw [← z, upd_same] at nD; cases nD), upd_same]
    have n4 : p ≠ dL := fun z => by rw [← z, upd_same] at nD; cases nD
    have n5 : cL ≠ dL := fun z => by rw [← z, upd_ne (fun k => n2 k.symm), upd_same] at nD; cases nD
    have n6 : sL ≠ dL := fun z => by rw [← z, upd_ne (fun k => n1 k.symm), upd_ne n3, upd_ne (fun k => n1 k.symm), upd_same] at nD; cases nD
    rw [f3]
    refine q _ ⟨dx, sL, cL, dL, []⟩ ⟨?_, stones_nil ?_, ?_, Chs.nil _, ⟨[], ?_, rfl, fun i t d e => by simp at e⟩, ?_, ⟨Nat.zero_le _, fun s h => nomatch h⟩, .nil⟩ (fun b o e hb => ?_) fun a ha => ?_
    · rw [upd_same]
    · rw [upd_ne (fun k => n1 k.symm), upd_ne n6, upd_ne (fun k => n1 k.symm), upd_ne n3, upd_ne (fun k => n1 k.symm), upd_same]
    · rw [upd_ne (fun k => n2 k.symm), upd_ne n5, upd_ne (fun k => n2 k.symm), upd_same]
      rfl
    · rw [upd_ne (fun k => n4 k.symm), upd_same]
      rfl
    · simp [n3, n5, n6]
    · have k1 : b ≠ sL := fun z => by rw [z, nS] at e; cases e
      have k2 : b ≠ cL := fun z => by rw [← z, upd_ne hb, upd_ne k1, e] at nC; cases nC
      have k3 : b ≠ dL := fun z => by rw [← z, upd_ne hb, upd_ne k2, upd_ne hb, upd_ne k1, e] at nD; cases nD
      rw [upd_ne hb, upd_ne k3, upd_ne hb, upd_ne k2, upd_ne hb, upd_ne k1]
      exact e
    · simp only [List.mem_cons, List.not_mem_nil, or_false] at ha
      rcases ha with rfl | rfl | rfl
      · exact nS
      · rw [upd_ne (fun k => n2 k.symm), upd_ne fun k => n3 k.symm] at nC
        exact nC
      · rw [upd_ne (fun k => n4 k.symm), upd_ne (fun k => n5 k.symm), upd_ne (fun k => n4 k.symm), upd_ne fun k => n6 k.symm] at nD
        exact nD
end
end Sw
namespace Sw
open PySem PySem.Spec PyProof.Rows L2
open Evl (Ex Ex.refl Ex.trans Ex.new Ex.mut ex_l ex_t ex_rd fresh_back Ev EvL EvU EvT EvA RV RC RCL SpV SpL)
section
variable {P : Program} {w : World} {K : PySem.W.Frag} {mg : Str → Option Value} {base : Heap} {C : Addr}
variable {σ : L2.St} {H : Hp} {ta tb te : TE}
theorem tF_no {a b c : Addr} {m : Str} (h1 : (m == ("_stones" : Str)) = false) (h2 : (m == ("_chains" : Str)) = false) (h3 : (m == ("_deeds" : Str)) = false) : (tF a b c).lookup m = none := (lk_past h1).trans ((lk_past h2).trans ((lk_past h3).trans rfl))
/-! ### _need_room -/
theorem scRoomM : FnScope ["self"] ["self"] (defScope (sTab 11)) := ⟨rfl, rfl, rfl, by decide +kernel, rfl, by decide +kernel, by decide +kernel⟩
def spRoomM (C F : Addr) : Sp := fun vs H Q E => ∃ (o : Addr) (A : TAd) (T : Tb), vs = [.ref o] ∧ TabAt C o A T H ∧ (T.st.length < 60 → Evl.RetV .non H Q) ∧ (60 ≤ T.st.length → ∀ H2, Ex H H2 → E (.ref F) none H2)
theorem ok_roomM {f fF CF : Addr} {fd fdF : FuncData} (F : Fun K "_need_room" "Table._need_room" (sTab 11) f fd) (X : TxtT K mg C)
    (GF : FnOk P w K mg base CX0 1 fF fdF ["self"] (spFullM C)) (mF : Meth K C "_is_full" fF) (bF : Binds K fdF ["self"] []) (EC : ErrC K CF) (gC : mg "Full" = some (.ref CF)) : FnOk P w K mg base (L2.CX P w) 2 f fd ["self"] (spRoomM C CF) := by
  refine F.okX scRoomM (fun vs H Q E h => ?_) (fun cdv A outer s H vs Q E hr h => ?_)
  · obtain ⟨o, A, T, rfl, _⟩ := h
    rfl
  · obtain ⟨o, A, T, rfl, t, q, qe⟩ := h
    refine ⟨_, pss_one (ps_if (pt_val (pe_meth0 (E := E) (pv 0) X.cl mF (FnOk.wild9 GF) hr bF .nil (passes_call (W := fun c d _ H => E c d H) (takes_of rfl rfl rfl rfl) (fun _ _ _ _ h => h)))) (pss_one (ps_raise rfl (takes_of rfl rfl rfl rfl) (pmk_own PySem.F.excBase_ValueError EC.x gC EC.k (raises_own EC.e.hs EC.t) (by exact rfl)))) pss_nil), ?_⟩
    refine ⟨_, rfl, o, _, _, rfl, t.ob, tF_no (by decide +kernel) (by decide +kernel) (by decide +kernel), o, A, T, rfl, t, fun H1 e1 => ⟨_, rfl, ?_⟩⟩
    by_cases c : 60 ≤ T.st.length
    · rw [decide_eq_true c]
      exact iteT (qe c H1 e1)
    · rw [decide_eq_false c]
      exact iteF (q (by omega) H1 e1)
end
end Sw
namespace Sw
open PySem PySem.Spec PyProof.Rows L2
open Evl (Ex Ex.refl Ex.trans Ex.new Ex.mut ex_l ex_t ex_rd fresh_back Ev EvL EvU EvT EvA RV RC RCL SpV SpL)
section
variable {P : Program} {w : World} {K : PySem.W.Frag} {mg : Str → Option Value} {base : Heap}
/-! ### row -/
theorem scRow : FnScope ["stones", "chain", "step"] ["stones", "chain"] (defScope sRow) := ⟨rfl, rfl, rfl, by decide +kernel, rfl, by decide +kernel, by decide +kernel⟩
def spRow : Sp := fun vs H Q _ => ∃ (a c : Addr) (st : List (Int × Int)) (u : List Step), vs = [.ref a, .ref c] ∧ StonesAt H a st ∧ StonesAt H c (castS u) ∧ (∀ s ∈ u, s.1 < st.length) ∧ u.length ≤ 10000 ∧ ∀ z H2, Ex H H2 → StonesAt H2 z (u.map (lie st)) → Q (.ref z) H2
theorem ok_row {f fL : Addr} {fd fdL : FuncData} (F : Fun K "row" "row" sRow f fd)
    (GL : FnOk P w K mg base CX0 2 fL fdL ["stones", "step"] spLies) (gL : mg "lies" = some (.ref fL)) (kL : PySem.W.keepIn K (.ref fL) = true) (bL : Binds K fdL ["stones", "step"] []) : FnOk P w K mg base CX0 3 f fd ["stones", "chain"] spRow := by
  refine F.ok scRow (fun vs H Q E h => ?_) (fun cdv A outer s H vs Q E hr h => ?_)
  · obtain ⟨a, c, st, u, rfl, _⟩ := h
    rfl
  · obtain ⟨a, c, st, u, rfl, hS, hc, hu, hl, q⟩ := h
    refine ⟨_, pss_one (ps_ret (pe_lc (own := [("step", 2)]) (g := gName 2) (tt := tYes) rfl scRow.nd (pi_list (pv 1)) (blkOk_by (own := [("step", 2)]) (N := ["stones", "chain", "step"]) (sc := defScope sRow) (by decide +kernel))
        (fun _ _ _ _ _ => pg_name (i := 2) scRow.nd rfl (Or.inl rfl)) (fun _ _ _ _ _ => pts_nil) (fun _ _ _ _ _ => pe_call GL hr (by rfl) gL kL bL .nil pass0 (pa_cons (pv 0) (pa_cons (pv 2) pa_nil))))), ?_⟩
    obtain ⟨ts, c1, c2, c3⟩ := id hc
    rw [castS_len] at c2
    refine es_lc (K := K) (a := c) (xs := ts.map V.ref) (ys := u.map (lie st)) (σ := [some (.ref a), some (.ref c), none]) (j := 2) (vs := [2]) (Evl.ev_var (i := 1) rfl) (SqL.of c1) (by rw [List.length_map, c2]; omega) (by rw [List.length_map, List.length_map, c2]) (fun _ => rfl) ?_ H (Ex.refl H) _ fun p H2 e2 h2 => q p H2 e2 h2
    intro i x s H1 e1 hx hs Q' q'
    rw [List.getElem?_map] at hx hs
    obtain ⟨t, ht, rfl⟩ := Option.map_eq_some_iff.mp hx
    obtain ⟨r, hr', rfl⟩ := Option.map_eq_some_iff.mp hs
    refine ⟨_, rfl, _, rfl, a, t, st, r, rfl, hS.ex e1, e1 _ _ (c3 i t ((r.1 : Int), (r.2 : Int)) ht ?_), hu r (List.mem_of_getElem? hr'), fun p H2 np e2 h2 => q' p H2 e2 h2⟩
    unfold castS
    rw [List.getElem?_map, hr']
    rfl
theorem es_row {σ : L2.St} {H : Hp} {ta tb : TE} {E : XK} {a c : Addr} {st : List (Int × Int)} {u : List Step} (h1 : Ev ta σ H (.ref a)) (h2 : Ev tb σ H (.ref c)) (hS : StonesAt H a st) (hc : StonesAt H c (castS u)) (hu : ∀ s ∈ u, s.1 < st.length) (hl : u.length ≤ 10000) :
    EvSt (tCall spRow [] E (tCons ta (tCons tb tNil))) σ H (u.map (lie st)) := fun H1 e Q q => h1 H1 e _ fun H2 e2 => h2 H2 (e.trans e2) _ fun H3 e3 => ⟨a, c, st, u, rfl, hS.ex ((e.trans e2).trans e3), hc.ex ((e.trans e2).trans e3), hu, hl, fun z H4 e4 h4 => q z H4 ((e2.trans e3).trans e4) h4⟩
end
end Sw
namespace Sw
open PySem PySem.Spec PyProof.Rows L2
open Evl (Ex Ex.refl Ex.trans Ex.new Ex.mut ex_l ex_t ex_rd fresh_back Ev EvL EvU EvT EvA RV RC RCL SpV SpL)
section
variable {P : Program} {w : World} {K : PySem.W.Frag} {mg : Str → Option Value} {base : Heap} {C : Addr}
variable {σ : L2.St} {H : Hp} {ta tb te : TE}
/-! ### _need_chain -/
theorem scNeedC : FnScope ["self", "number"] ["self", "number"] (defScope (sTab 12)) := ⟨rfl, rfl, rfl, by decide +kernel, rfl, by decide +kernel, by decide +kernel⟩
def spNeedC (C N : Addr) : Sp := fun vs H Q E => ∃ (o : Addr) (A : TAd) (T : Tb) (v : V) (d : PyData), vs = [.ref o, v] ∧ TabAt C o A T H ∧ Dt H v d ∧ (numB d ((T.cs.length : Int) - 1) = true → Evl.RetV .non H Q) ∧ (numB d ((T.cs.length : Int) - 1) = false → ∀ H2, Ex H H2 → E (.ref N) none H2)
theorem ok_needC {f fN CN : Addr} {fd fdN : FuncData} (F : Fun K "_need_chain" "Table._need_chain" (sTab 12) f fd) (X : TxtT K mg C) (mL : mg "len" = none)
    (GN : FnOk P w K mg base CX0 1 fN fdN ["thing", "highest"] spNum) (gN : mg "is_number" = some (.ref fN)) (kN : PySem.W.keepIn K (.ref fN) = true) (bN : Binds K fdN ["thing", "highest"] []) (EC : ErrC K CN) (gC : mg "NoChain" = some (.ref CN)) : FnOk P w K mg base (L2.CX P w) 2 f fd ["self", "number"] (spNeedC C CN) := by
  refine F.okX scNeedC (fun vs H Q E h => ?_) (fun cdv A outer s H vs Q E hr h => ?_)
  · obtain ⟨o, A, T, v, d, rfl, _⟩ := h
    rfl
  · obtain ⟨o, A, T, v, d, rfl, t, hd, q, qe⟩ := h
    refine ⟨_, pss_one (ps_if (pt_not (pt_val (pe_callS (FnOk.wild9 GN) hr (by rfl) gN kN bN (fun σ => passAt (W := fun c d _ H => E c d H) (takes_of rfl rfl rfl rfl) σ) (pa_cons (pv 1) (pa_cons (pe_op op_sub (pe_callB (r := Evl.rLenS K) call_len_seq (by rfl) mL boot_len (pa_cons (pe_fld (pv 0) rfl) pa_nil)) pe_int) pa_nil))))) (pss_one (ps_raise rfl (takes_of rfl rfl rfl rfl) (pmk_own PySem.F.excBase_ValueError EC.x gC EC.k (raises_own EC.e.hs EC.t) (by exact rfl)))) pss_nil), ?_⟩
    have ln : Ev (tOp (rI0 fun i j => .int (i - j)) (tCB (Evl.rLenS K) (tCons (tFld K (tVar 0) "_chains") tNil)) (tC (.int 1))) [some (.ref o), some v] H (.int ((T.cs.length : Int) - 1)) := Evl.ev_op (Evl.ev_is (w := .int (T.cs.length : Int)) (Evl.ev_len (K := K) (ev_cL X (Evl.ev_var rfl) t) (SqL.of t.cl)) (by rw [List.length_map, t.ch.1])) Evl.ev_c (Evl.rv_I0 (g := fun i j => .int (i - j)))
    refine ⟨_, rfl, ln H (Ex.refl H) _ fun H1 e1 => ⟨v, d, _, rfl, Dt.ex e1 _ _ hd, fun H2 e2 => ⟨_, rfl, ?_⟩⟩⟩
    cases hb : numB d ((T.cs.length : Int) - 1) with
    | true => exact iteF (q hb H2 (e1.trans e2))
    | false => exact iteT (qe hb H2 (e1.trans e2))
/-! ### chain -/
theorem scChainM : FnScope ["self", "number"] ["self", "number"] (defScope (sTab 4)) := ⟨rfl, rfl, rfl, by decide +kernel, rfl, by decide +kernel, by decide +kernel⟩
def spChainM (C N : Addr) : Sp := fun vs H Q E => ∃ (o : Addr) (A : TAd) (T : Tb) (v : V) (d : PyData), vs = [.ref o, v] ∧ TabAt C o A T H ∧ Dt H v d ∧ (∀ (n : Nat) (c : List Step), d = .int (n : Int) → T.cs[n]? = some c → ∀ z H2, Ex H H2 → StonesAt H2 z (c.map (lie T.st)) → Q (.ref z) H2) ∧ (numB d ((T.cs.length : Int) - 1) = false → ∀ H2, Ex H H2 → E (.ref N) none H2)
theorem ok_chainM {f fN fR CN : Addr} {fd fdN fdR : FuncData} (F : Fun K "chain" "Table.chain" (sTab 4) f fd) (X : TxtT K mg C)
    (GN : FnOk P w K mg base (L2.CX P w) 2 fN fdN ["self", "number"] (spNeedC C CN)) (mN : Meth K C "_need_chain" fN) (bN : Binds K fdN ["self", "number"] [])
    (GR : FnOk P w K mg base CX0 3 fR fdR ["stones", "chain"] spRow) (gR : mg "row" = some (.ref fR)) (kR : PySem.W.keepIn K (.ref fR) = true) (bR : Binds K fdR ["stones", "chain"] []) : FnOk P w K mg base (L2.CX P w) 4 f fd ["self", "number"] (spChainM C CN) := by
  refine F.okX scChainM (fun vs H Q E h => ?_) (fun cdv A outer s H vs Q E hr h => ?_)
  · obtain ⟨o, A, T, v, d, rfl, _⟩ := h
    rfl
  · obtain ⟨o, A, T, v, d, rfl, t, hd, q, qe⟩ := h
    have hr2 : Room 2 _ := hr.mono (by decide)
    refine ⟨_, pss_cons (ps_expr (pe_meth (E := E) (pv 0) X.cl mN GN hr2 bN .nil (passes_call (W := fun c d _ H => E c d H) (takes_of rfl rfl rfl rfl) (fun _ _ _ _ h => h)) (pa_cons (pv 1) pa_nil)))
      (pss_one (ps_ret (pe_callS (FnOk.wild9 GR) hr (by rfl) gR kR bR (fun σ => passAt (W := fun c d _ H => E c d H) (takes_of rfl rfl rfl rfl) σ) (pa_cons (pe_fld (pv 0) rfl) (pa_cons (pe_ix (r := rIxL K) ix_list (pe_fld (pv 0) rfl) (pv 1) (fun _ _ => rfl)) pa_nil))))), ?_⟩
    refine ⟨_, rfl, o, _, _, rfl, t.ob, tF_no (by decide +kernel) (by decide +kernel) (by decide +kernel), _, rfl, o, A, T, v, d, rfl, t, hd, fun hb H1 e1 => ?_, qe⟩
    obtain ⟨i, rfl, i0, i1⟩ : ∃ i : Int, d = .int i ∧ 0 ≤ i ∧ i ≤ (T.cs.length : Int) - 1 := by
      unfold numB at hb
      split at hb
      · rw [Bool.and_eq_true, decide_eq_true_eq, decide_eq_true_eq] at hb
        exact ⟨_, rfl, hb.1, hb.2⟩
      · cases hb
    obtain ⟨n, rfl⟩ := Int.eq_ofNat_of_zero_le i0
    cases hd
    have nl : n < T.cs.length := by omega
    have np : n < A.ps.length := by rw [t.ch.1]; exact nl
    have t1 := t.ex e1
    obtain ⟨c1, c2, c3⟩ := t.re.chains _ (List.getElem_mem nl)
    have hl := t.go.1
    show tRet (tCallS spRow _ (tCons (tFld K (tVar 0) "_stones") (tCons (tOp (rIxL K) (tFld K (tVar 0) "_chains") (tVar 1)) tNil))) _ [some (.ref o), some (.int (n : Int))] H1
    dsimp only [tRet, tCallS]
    refine ev_sL (σ := [some (.ref o), some (.int (n : Int))]) X (Evl.ev_var (i := 0) rfl) t1 H1 (Ex.refl H1) _ fun H2 e2 => ?_
    have ix : Ev (tOp (rIxL K) (tFld K (tVar 0) "_chains") (tVar 1)) [some (.ref o), some (.int (n : Int))] H2 (.ref A.ps[n]) := Evl.ev_op (ev_cL X (Evl.ev_var rfl) (t1.ex e2)) (Evl.ev_var rfl) (Evl.rv_ixL (K := K) (SqL.of (t1.ex e2).cl) (atI_nat (by rw [List.getElem?_map, List.getElem?_eq_getElem np]; rfl)))
    refine ix H2 (Ex.refl H2) _ fun H3 e3 => ⟨A.sL, A.ps[n], T.st, T.cs[n], rfl, (t1.ex (e2.trans e3)).st, (t1.ex (e2.trans e3)).ch.2 n _ _ (List.getElem?_eq_getElem np) (List.getElem?_eq_getElem nl), fun s hs => (c2 s hs).1, by omega, fun z H4 e4 hz => q n T.cs[n] rfl (List.getElem?_eq_getElem nl) z H4 (((e1.trans e2).trans e3).trans e4) hz⟩
end
end Sw
namespace Sw
open PySem PySem.Spec PyProof.Rows L2
open Evl (Ex Ex.refl Ex.trans Ex.new Ex.mut ex_l ex_t ex_rd fresh_back Ev EvL EvU EvT EvA RV RC RCL SpV SpL)
def endsT (st : List (Int × Int)) (c : List Step) (hn : c ≠ []) : Int × Int := ((lie st (c.head hn)).1, (lie st (c.getLast hn)).2)
section
variable {P : Program} {w : World} {K : PySem.W.Frag} {mg : Str → Option Value} {base : Heap} {C : Addr}
/-! ### open_ends -/
theorem scEndsM : FnScope ["self", "number", "lain"] ["self", "number"] (defScope (sTab 5)) := ⟨rfl, rfl, rfl, by decide +kernel, rfl, by decide +kernel, by decide +kernel⟩
def spEndsM (C N : Addr) : Sp := fun vs H Q E => ∃ (o : Addr) (A : TAd) (T : Tb) (v : V) (d : PyData), vs = [.ref o, v] ∧ TabAt C o A T H ∧ Dt H v d ∧ (∀ (n : Nat) (c : List Step) (hn : c ≠ []), d = .int (n : Int) → T.cs[n]? = some c → ∀ z H2, H z = none → Ex H H2 → H2 z = some (.tup [.int (endsT T.st c hn).1, .int (endsT T.st c hn).2]) → Q (.ref z) H2) ∧ (numB d ((T.cs.length : Int) - 1) = false → ∀ H2, Ex H H2 → E (.ref N) none H2)
theorem ok_endsM {f fN CN : Addr} {fd fdN : FuncData} (F : Fun K "open_ends" "Table.open_ends" (sTab 5) f fd) (X : TxtT K mg C)
    (GN : FnOk P w K mg base (L2.CX P w) 4 fN fdN ["self", "number"] (spChainM C CN)) (mN : Meth K C "chain" fN) (bN : Binds K fdN ["self", "number"] []) : FnOk P w K mg base (L2.CX P w) 5 f fd ["self", "number"] (spEndsM C CN) := by
  refine F.okX scEndsM (fun vs H Q E h => ?_) (fun cdv A outer s H vs Q E hr h => ?_)
  · obtain ⟨o, A, T, v, d, rfl, _⟩ := h
    rfl
  · obtain ⟨o, A, T, v, d, rfl, t, hd, q, qe⟩ := h
    refine ⟨_, pss_cons (ps_set (i := 2) scEndsM.nd rfl (.inl rfl) (pe_meth (E := E) (pv 0) X.cl mN GN hr bN .nil (passes_call (W := fun c d _ H => E c d H) (takes_of rfl rfl rfl rfl) (fun _ _ _ _ h => h)) (pa_cons (pv 1) pa_nil)))
      (pss_one (ps_ret (pe_tup (pa_cons (pe_ix (r := rIxT K) ix_tup (pe_ix (r := rIxL K) ix_list (pv 2) pe_int (fun _ _ => rfl)) pe_int (fun _ _ => rfl)) (pa_cons (pe_ix (r := rIxT K) ix_tup (pe_ix (r := rIxL K) ix_list (pv 2) (pe_un un_neg pe_int) (fun _ _ => rfl)) pe_int (fun _ _ => rfl)) pa_nil))))), ?_⟩
    refine ⟨_, rfl, o, _, _, rfl, t.ob, tF_no (by decide +kernel) (by decide +kernel) (by decide +kernel), _, rfl, o, A, T, v, d, rfl, t, hd, fun n c hdn hc z H1 e1 hz => ?_, qe⟩
    have cm := List.mem_of_getElem? hc
    obtain ⟨hn, _, _⟩ := t.re.chains c cm
    have cp : 0 < c.length := List.length_pos_iff.mpr hn
    obtain ⟨ts, t1, t2, t3⟩ := hz
    rw [List.length_map] at t2
    have i0 : 0 < ts.length := by omega
    have il : ts.length - 1 < ts.length := by omega
    have k0 := t3 0 ts[0] (lie T.st (c.head hn)) (List.getElem?_eq_getElem i0) (by
      cases c with
      | nil => exact absurd rfl hn
      | cons s r => rfl)
    have k1 := t3 (ts.length - 1) ts[ts.length - 1] (lie T.st (c.getLast hn)) (List.getElem?_eq_getElem il) (by
      rw [t2, List.getElem?_map, ← List.getLast?_eq_getElem?, List.getLast?_eq_some_getLast hn]
      rfl)
    refine Evl.s_retU (xs := [.int (endsT T.st c hn).1, .int (endsT T.st c hn).2]) (Evl.eu_tup (Evl.ea_cons (Evl.ev_op (Evl.ev_op (Evl.ev_var rfl) Evl.ev_c (Evl.rv_ixL (K := K) (v := .ref ts[0]) (SqL.of t1) (atI_nat (j := 0) (by rw [List.getElem?_map, List.getElem?_eq_getElem i0]; rfl)))) Evl.ev_c (Evl.rv_ixT (SqT.of k0) (atI_nat (j := 0) rfl)))
      (Evl.ea_cons (Evl.ev_op (Evl.ev_op (Evl.ev_var rfl) (Evl.ev_un Evl.ev_c Evl.ru_neg) (Evl.rv_ixL (K := K) (v := .ref ts[ts.length - 1]) (SqL.of t1) (atI_last (n := ts.length - 1) (by rw [List.length_map]; omega) (by rw [List.getElem?_map, List.getElem?_eq_getElem il]; rfl)))) Evl.ev_c (Evl.rv_ixT (SqT.of k1) (atI_nat (j := 1) rfl))) Evl.ea_nil)) (by show 2 ≤ _; decide)) fun p H2 np e2 hp => q n c hn hdn hc p H2 (fresh_back e1 np) (e1.trans e2) hp
end
end Sw
namespace Sw
open PySem PySem.Spec PyProof.Rows L2
open Evl (Ex Ex.refl Ex.trans Ex.new Ex.mut ex_l ex_t ex_rd fresh_back Ev EvL EvU EvT EvA RV RC RCL SpV SpL)
section
variable {P : Program} {w : World} {K : PySem.W.Frag} {mg : Str → Option Value} {base : Heap} {C : Addr}
/-! ### stones -/
theorem scStonesM : FnScope ["self"] ["self"] (defScope (sTab 8)) := ⟨rfl, rfl, rfl, by decide +kernel, rfl, by decide +kernel, by decide +kernel⟩
def spStonesM (C : Addr) : Sp := fun vs H Q _ => ∃ (o : Addr) (A : TAd) (T : Tb), vs = [.ref o] ∧ TabAt C o A T H ∧ ∀ p H2, H p = none → Ex H H2 → StonesAt H2 p T.st → Q (.ref p) H2
theorem ok_stonesM {f : Addr} {fd : FuncData} (F : Fun K "stones" "Table.stones" (sTab 8) f fd) (X : TxtT K mg C) (mLi : mg "list" = none) : FnOk P w K mg base CX0 1 f fd ["self"] (spStonesM C) := by
  refine F.ok scStonesM (fun vs H Q E h => ?_) (fun cdv A outer s H vs Q E hr h => ?_)
  · obtain ⟨o, A, T, rfl, _⟩ := h
    rfl
  · obtain ⟨o, A, T, rfl, t, q⟩ := h
    refine ⟨_, pss_one (ps_ret (pe_callTy (r := Evl.rListS K) call_list_of (by rfl) mLi PyProof.Rows.boot_list (pa_cons (pe_fld (pv 0) rfl) pa_nil))), ?_⟩
    obtain ⟨ts, t1, t2, t3⟩ := id t.st
    exact Evl.s_retL (Evl.el_list (K := K) (ev_sL X (Evl.ev_var rfl) t) (SqL.of t1)) fun p H1 np e1 hp => q p H1 np e1 ⟨ts, hp, t2, fun i u s g1 g2 => e1 _ _ (t3 i u s g1 g2)⟩
/-! ### laying -/
theorem scLayingM : FnScope ["self", "chain"] ["self"] (defScope (sTab 9)) := ⟨rfl, rfl, rfl, by decide +kernel, rfl, by decide +kernel, by decide +kernel⟩
def spLayingM (C : Addr) : Sp := fun vs H Q _ => ∃ (o : Addr) (A : TAd) (T : Tb), vs = [.ref o] ∧ TabAt C o A T H ∧ ∀ p rs H2, H p = none → Ex H H2 → H2 p = some (.lst (rs.map V.ref)) → Chs H2 rs T.cs → Q (.ref p) H2
theorem ok_layingM {f : Addr} {fd : FuncData} (F : Fun K "laying" "Table.laying" (sTab 9) f fd) (X : TxtT K mg C) (mLi : mg "list" = none) : FnOk P w K mg base CX0 1 f fd ["self"] (spLayingM C) := by
  refine F.ok scLayingM (fun vs H Q E h => ?_) (fun cdv A outer s H vs Q E hr h => ?_)
  · obtain ⟨o, A, T, rfl, _⟩ := h
    rfl
  · obtain ⟨o, A, T, rfl, t, q⟩ := h
    refine ⟨_, pss_one (ps_ret (pe_lc (own := [("chain", 1)]) (g := gName 1) (tt := tYes) (te := tCB (Evl.rListS K) (tCons (tVar 1) tNil)) rfl scLayingM.nd (pi_list (pe_fld (pv 0) rfl)) (blkOk_by (own := [("chain", 1)]) (N := ["self", "chain"]) (sc := defScope (sTab 9)) (by decide +kernel))
        (fun _ _ _ _ _ => pg_name (i := 1) scLayingM.nd rfl (Or.inl rfl)) (fun _ _ _ _ _ => pts_nil) (fun _ _ _ _ _ => pe_callTy (r := Evl.rListS K) call_list_of (by rfl) mLi PyProof.Rows.boot_list (pa_cons (pv 1) pa_nil)))), ?_⟩
    have hl := t.go.1
    have hf := t.re.few
    have pl : A.ps.length = T.cs.length := t.ch.1
    show tRet (tLc (iList K (tFld K (tVar 0) "_chains")) _ _ _ _) _ [some (.ref o), none] H
    dsimp only [tRet, tLc, iList]
    refine ev_cL (σ := [some (.ref o), none]) X (Evl.ev_var (i := 0) rfl) t H (Ex.refl H) _ fun H0 e0 => ⟨A.cL, rfl, ⟨_, SqL.of (e0 _ _ t.cl)⟩, fun fp nfp => ?_⟩
    refine lc_list (xs := A.ps.map V.ref) (fun k H' => ∃ rs : List Addr, Ex H0 H' ∧ H' fp = some (.lst (rs.map V.ref)) ∧ rs.length = k ∧ (∀ r ∈ rs, r ≠ fp) ∧ ∀ (i : Nat) (r : Addr) (u : List Step), rs[i]? = some r → T.cs[i]? = some u → StonesAt H' r (castS u))
      ⟨[], Ex.new nfp, upd_same, rfl, fun r h => (nomatch h), fun i r u h => by simp at h⟩ (fun i H' _ h => by obtain ⟨_, e, _⟩ := h; exact SqL.of ((e0.trans e) _ _ t.cl)) ?_ ?_
    · rintro k x H1 hk ⟨rs, e1, hfp, hk2, hne, hst⟩
      rw [List.getElem?_map] at hk
      obtain ⟨p, hp, rfl⟩ := Option.map_eq_some_iff.mp hk
      have kl : k < T.cs.length := by
        rw [← pl]
        exact (List.getElem?_eq_some_iff.mp hp).1
      refine ⟨rfl, ?_⟩
      unfold tYes
      dsimp only
      rw [if_pos rfl]
      obtain ⟨ts, t1, t2, t3⟩ := (t.ch.2 k p _ hp (List.getElem?_eq_getElem kl)).ex (e0.trans e1)
      refine ⟨_, rfl, p, _, rfl, .inl (SqL.of t1), fun r nr => ?_⟩
      have e2 : Ex H1 (upd H1 r (.lst (ts.map V.ref))) := Ex.new nr
      have hr1 : (upd H1 r (.lst (ts.map V.ref))) r = some (.lst (ts.map V.ref)) := upd_same
      have rf : r ≠ fp := fun z => by
        rw [z, hfp] at nr
        cases nr
      have hfp2 := e2 _ _ hfp
      generalize upd H1 r (.lst (ts.map V.ref)) = H2 at e2 hr1 hfp2
      have far : ∀ {b : Addr} {su : List (Int × Int)}, b ≠ fp → StonesAt H2 b su → StonesAt (upd H2 fp (.lst (rs.map V.ref ++ [.ref r]))) b su := fun {b su} nb ⟨vs, v1, v2, v3⟩ => ⟨vs, by rw [upd_ne nb]; exact v1, v2, fun i t s g1 g2 => by
        have := v3 i t s g1 g2
        rw [upd_ne fun z => by rw [z, hfp2] at this; cases this]
        exact this⟩
      refine ⟨_, hfp2, by rw [List.length_map]; exact small1000 (by omega), rs ++ [r], Ex.mut (e1.trans e2) nfp, by rw [upd_same, List.map_append]; rfl, by rw [List.length_append, hk2]; rfl, fun r' m => ?_, fun i r' u g1 g2 => ?_⟩
      · rcases List.mem_append.mp m with m | m
        · exact hne r' m
        · rw [List.mem_singleton.mp m]
          exact rf
      · by_cases c : i < rs.length
        · rw [List.getElem?_append_left c] at g1
          exact far (hne r' (List.mem_of_getElem? g1)) ((hst i r' u g1 g2).ex e2)
        · rw [List.getElem?_append_right (by omega)] at g1
          have z : i - rs.length = 0 := by
            have := (List.getElem?_eq_some_iff.mp g1).1
            simp at this
            omega
          rw [z] at g1
          obtain rfl : r = r' := Option.some.inj g1
          have ik : i = k := by omega
          rw [ik, List.getElem?_eq_getElem kl] at g2
          obtain rfl := Option.some.inj g2
          exact far rf ⟨ts, hr1, t2, fun i t s g1 g2 => e2 _ _ (t3 i t s g1 g2)⟩
    · rintro H1 ⟨rs, e1, hfp, hk2, hne, hst⟩
      rw [List.length_map, pl] at hk2
      exact q fp rs H1 (fresh_back e0 nfp) (e0.trans e1) hfp ⟨hk2, hst⟩
end
end Sw
namespace Sw
open PySem PySem.Spec PyProof.Rows L2
open Evl (Ex Ex.refl Ex.trans Ex.new Ex.mut ex_l ex_t ex_rd fresh_back Ev EvL EvU EvT EvA RV RC RCL SpV SpL)
/-! ### two rows, one by one -/
def All2 {α β : Type} (R : α → β → Prop) (xs : List α) (ys : List β) : Prop := xs.length = ys.length ∧ ∀ (i : Nat) (x : α) (y : β), xs[i]? = some x → ys[i]? = some y → R x y
section
variable {α β : Type} {R S : α → β → Prop} {xs us : List α} {ys vs : List β}
theorem All2.imp (h : All2 R xs ys) (k : ∀ x y, R x y → S x y) : All2 S xs ys := ⟨h.1, fun i x y a b => k x y (h.2 i x y a b)⟩
theorem All2.nil : All2 R [] [] := ⟨rfl, fun i x y e => by simp at e⟩
theorem All2.one {x : α} {y : β} (h : R x y) : All2 R [x] [y] := ⟨rfl, fun i x' y' a b => by
  match i, a, b with
  | 0, a, b =>
    obtain rfl := Option.some.inj a
    obtain rfl := Option.some.inj b
    exact h
  | i + 1, a, b => simp at a⟩
theorem All2.app (h : All2 R xs ys) (k : All2 R us vs) : All2 R (xs ++ us) (ys ++ vs) := by
  refine ⟨by rw [List.length_append, List.length_append, h.1, k.1], fun i x y a b => ?_⟩
  have hl := h.1
  by_cases c : i < xs.length
  · rw [List.getElem?_append_left c] at a
    rw [List.getElem?_append_left (by omega)] at b
    exact h.2 i x y a b
  · rw [List.getElem?_append_right (by omega)] at a
    rw [List.getElem?_append_right (by omega), ← hl] at b
    exact k.2 _ x y a b
theorem All2.take (h : All2 R xs ys) (n : Nat) : All2 R (xs.take n) (ys.take n) := ⟨by rw [List.length_take, List.length_take, h.1], fun i x y a b => by
  rw [List.getElem?_take] at a b
  by_cases c : i < n
  · rw [if_pos c] at a b
    exact h.2 i x y a b
  · rw [if_neg c] at a
    cases a⟩
theorem All2.drop (h : All2 R xs ys) (n : Nat) : All2 R (xs.drop n) (ys.drop n) := ⟨by rw [List.length_drop, List.length_drop, h.1], fun i x y a b => by
  rw [List.getElem?_drop] at a b
  exact h.2 _ x y a b⟩
theorem All2.erase (h : All2 R xs ys) (n : Nat) : All2 R (xs.eraseIdx n) (ys.eraseIdx n) := by
  rw [List.eraseIdx_eq_take_drop_succ, List.eraseIdx_eq_take_drop_succ]
  exact (h.take n).app (h.drop (n + 1))
theorem All2.init (h : All2 R xs ys) : All2 R xs.dropLast ys.dropLast := by
  rw [List.dropLast_eq_take, List.dropLast_eq_take, h.1]
  exact h.take _
/-- one of them is another now -/
theorem All2.turn (h : All2 R xs ys) (n : Nat) {y0 : β} (k : ∀ (i : Nat) (x : α) (y : β), i ≠ n → xs[i]? = some x → R x y → S x y) (hr : ∀ x, xs[n]? = some x → S x y0) : All2 S xs (ys.set n y0) := by
  refine ⟨by rw [List.length_set]; exact h.1, fun i x y a b => ?_⟩
  rw [List.getElem?_set] at b
  by_cases c : n = i
  · subst c
    rw [if_pos rfl] at b
    split at b
    · obtain rfl := Option.some.inj b
      exact hr x a
    · cases b
  · rw [if_neg c] at b
    exact k i x y (fun z => c z.symm) a (h.2 i x y a b)
end
/-! ### pairs in memory -/
def PairC (H : Hp) (t : Addr) (s : Int × Int) : Prop := H t = some (.tup [.int s.1, .int s.2])
def DeedC (H : Hp) (t : Addr) (d : Nat × Bool) : Prop := H t = some (.tup [.int (d.1 : Int), .str (sideS d.2)])
theorem PairC.keep {H : Hp} {x t : Addr} {s : Int × Int} {xs ys : List V} (hx : H x = some (.lst xs)) (h : PairC H t s) : PairC (upd H x (.lst ys)) t s := by
  unfold PairC at h ⊢
  rw [upd_ne fun z => by rw [z, hx] at h; cases h]
  exact h
theorem DeedC.keep {H : Hp} {x t : Addr} {s : Nat × Bool} {xs ys : List V} (hx : H x = some (.lst xs)) (h : DeedC H t s) : DeedC (upd H x (.lst ys)) t s := by
  unfold DeedC at h ⊢
  rw [upd_ne fun z => by rw [z, hx] at h; cases h]
  exact h
theorem stones_of {H : Hp} {a : Addr} {ts : List Addr} {st : List (Int × Int)} (h1 : H a = some (.lst (ts.map V.ref))) (h2 : All2 (PairC H) ts st) : StonesAt H a st := ⟨ts, h1, h2⟩
theorem DeedsAt.keep {H : Hp} {p x : Addr} {ds : List (Nat × Bool)} {xs ys : List V} (h : DeedsAt H p ds) (hx : H x = some (.lst xs)) (n : p ≠ x) : DeedsAt (upd H x (.lst ys)) p ds := by
  obtain ⟨ts, h1, h2⟩ := h
  exact ⟨ts, by rw [upd_ne n]; exact h1, All2.imp (R := DeedC H) (S := DeedC (upd H x (.lst ys))) h2 fun t d => DeedC.keep hx⟩
/-! ### a table in memory, made of whatever -/
structure TabM (C o : Addr) (A : TAd) (T : Tb) (H : Hp) : Prop where
  ob : H o = some (.ins C A.dx (tF A.sL A.cL A.dL))
  st : StonesAt H A.sL T.st
  cl : H A.cL = some (.lst (A.ps.map V.ref))
  ch : Chs H A.ps T.cs
  dd : DeedsAt H A.dL T.ds
  nd : (A.sL :: A.cL :: A.dL :: A.ps).Nodup
theorem TabAt.m {C o : Addr} {A : TAd} {T : Tb} {H : Hp} (h : TabAt C o A T H) : TabM C o A T H := ⟨h.ob, h.st, h.cl, h.ch, h.dd, h.nd⟩
theorem TabM.to {C o : Addr} {A : TAd} {T : Tb} {H : Hp} (h : TabM C o A T H) (g : Good T.st) (r : Reach T) : TabAt C o A T H := ⟨h.ob, h.st, h.cl, h.ch, h.dd, h.nd, g, r⟩
theorem TabM.ex {C o : Addr} {A : TAd} {T : Tb} {H H' : Hp} (h : TabM C o A T H) (e : Ex H H') : TabM C o A T H' := ⟨e _ _ h.ob, h.st.ex e, e _ _ h.cl, h.ch.ex e, h.dd.ex e, h.nd⟩
def TAd.cells (A : TAd) : List Addr := A.sL :: A.cL :: A.dL :: A.ps
/-- what a deed changes: the table's own lists alone -/
structure Mv (A A' : TAd) (H H' : Hp) : Prop where
  fr : ∀ H0, Ex H0 H → (∀ a ∈ A.cells, H0 a = none) → Ex H0 H' ∧ ∀ a ∈ A'.cells, H0 a = none
  tu : ∀ b xs, H b = some (.tup xs) → H' b = some (.tup xs)
theorem Mv.of {A : TAd} {H H' : Hp} (e : Ex H H') : Mv A A H H' := ⟨fun H0 e0 n => ⟨e0.trans e, n⟩, fun b xs h => e _ _ h⟩
theorem Mv.trans {A B D : TAd} {H H' H'' : Hp} (h : Mv A B H H') (k : Mv B D H' H'') : Mv A D H H'' := ⟨fun H0 e0 n => k.fr H0 (h.fr H0 e0 n).1 (h.fr H0 e0 n).2, fun b xs q => k.tu b xs (h.tu b xs q)⟩
theorem Mv.put {A : TAd} {H : Hp} {x : Addr} {xs ys : List V} (m : x ∈ A.cells) (hx : H x = some (.lst xs)) : Mv A A H (upd H x (.lst ys)) := ⟨fun H0 e0 n => ⟨Ex.mut e0 (n x m), n⟩, fun b us h => by
  rw [upd_ne fun z => by rw [z, hx] at h; cases h]
  exact h⟩
theorem Mv.less {A A' : TAd} {H : Hp} (m : ∀ a ∈ A'.cells, a ∈ A.cells) : Mv A A' H H := ⟨fun H0 e0 n => ⟨e0, fun a ha => n a (m a ha)⟩, fun b xs h => h⟩
section
variable {C o : Addr} {A : TAd} {T : Tb} {H : Hp}
theorem TabM.obU (t : TabM C o A T H) {x : Addr} {xs ys : List V} (hx : H x = some (.lst xs)) : upd H x (.lst ys) o = some (.ins C A.dx (tF A.sL A.cL A.dL)) := by
  have h := t.ob
  rw [upd_ne fun z => by rw [z, hx] at h; cases h]
  exact h
theorem TabM.nS (t : TabM C o A T H) : A.sL ≠ A.cL ∧ A.sL ≠ A.dL ∧ ∀ p ∈ A.ps, A.sL ≠ p := by
  have h := (List.nodup_cons.mp t.nd).1
  simp only [List.mem_cons, not_or] at h
  exact ⟨h.1, h.2.1, fun p hp z => h.2.2 (z ▸ hp)⟩
theorem TabM.nC (t : TabM C o A T H) : A.cL ≠ A.dL ∧ ∀ p ∈ A.ps, A.cL ≠ p := by
  have h := (List.nodup_cons.mp (List.nodup_cons.mp t.nd).2).1
  simp only [List.mem_cons, not_or] at h
  exact ⟨h.1, fun p hp z => h.2 (z ▸ hp)⟩
theorem TabM.nD (t : TabM C o A T H) : ∀ p ∈ A.ps, A.dL ≠ p := by
  have h := (List.nodup_cons.mp (List.nodup_cons.mp (List.nodup_cons.mp t.nd).2).2).1
  exact fun p hp z => h (z ▸ hp)
theorem TabM.nP (t : TabM C o A T H) : A.ps.Nodup := (List.nodup_cons.mp (List.nodup_cons.mp (List.nodup_cons.mp t.nd).2).2).2
/-- the stones' list is another -/
theorem TabM.chgS (t : TabM C o A T H) {us : List Addr} {st' : List (Int × Int)} (hu : All2 (PairC H) us st') : TabM C o A ⟨st', T.cs, T.ds⟩ (upd H A.sL (.lst (us.map V.ref))) := by
  obtain ⟨ts, h1, _⟩ := t.st
  obtain ⟨n1, n2, n3⟩ := t.nS
  exact ⟨t.obU h1, ⟨us, upd_same, hu.imp fun _ _ => PairC.keep h1⟩, by rw [upd_ne fun z => n1 z.symm]; exact t.cl, t.ch.upd h1 fun p hp z => n3 p hp z.symm, t.dd.keep h1 fun z => n2 z.symm, t.nd⟩
/-- the deeds' list is another -/
theorem TabM.chgD (t : TabM C o A T H) {us : List Addr} {ds' : List (Nat × Bool)} (hu : All2 (DeedC H) us ds') : TabM C o A ⟨T.st, T.cs, ds'⟩ (upd H A.dL (.lst (us.map V.ref))) := by
  obtain ⟨ts, h1, _⟩ := t.dd
  obtain ⟨n1, n2, n3⟩ := t.nS
  obtain ⟨n4, n5⟩ := t.nC
  exact ⟨t.obU h1, t.st.upd h1 n2, by rw [upd_ne n4]; exact t.cl, t.ch.upd h1 fun p hp z => t.nD p hp z.symm, ⟨us, upd_same, hu.imp fun _ _ => DeedC.keep h1⟩, t.nd⟩
/-- one chain is another -/
theorem TabM.chgP (t : TabM C o A T H) {n : Nat} {p : Addr} {us : List Addr} {c' : List Step} (hp : A.ps[n]? = some p) {xs : List V} (hx : H p = some (.lst xs)) (hu : All2 (PairC H) us (castS c')) : TabM C o A ⟨T.st, T.cs.set n c', T.ds⟩ (upd H p (.lst (us.map V.ref))) := by
  obtain ⟨n1, n2, n3⟩ := t.nS
  obtain ⟨n4, n5⟩ := t.nC
  have pm := List.mem_of_getElem? hp
  refine ⟨t.obU hx, t.st.upd hx (n3 p pm), by rw [upd_ne (n5 p pm)]; exact t.cl, ?_, t.dd.keep hx (t.nD p pm), t.nd⟩
  refine All2.turn (R := fun p c => StonesAt H p (castS c)) (S := fun q c => StonesAt (upd H p (.lst (us.map V.ref))) q (castS c)) t.ch n (fun i q c hi hq h => h.upd hx fun z => ?_) fun q hq => ?_
  · rw [z] at hq
    exact hi ((List.getElem?_inj (List.getElem?_eq_some_iff.mp hq).1 t.nP).mp (hq.trans hp.symm))
  · obtain rfl := Option.some.inj (hp.symm.trans hq)
    exact ⟨us, upd_same, hu.imp fun _ _ => PairC.keep hx⟩
/-- the chains' list is another -/
theorem TabM.chgC (t : TabM C o A T H) {ps' : List Addr} {cs' : List (List Step)} (hc : Chs H ps' cs') (nd : (A.sL :: A.cL :: A.dL :: ps').Nodup) : TabM C o { A with ps := ps' } ⟨T.st, cs', T.ds⟩ (upd H A.cL (.lst (ps'.map V.ref))) := by
  obtain ⟨n1, n2, n3⟩ := t.nS
  obtain ⟨n4, n5⟩ := t.nC
  have h := (List.nodup_cons.mp (List.nodup_cons.mp nd).2).1
  simp only [List.mem_cons, not_or] at h
  exact ⟨t.obU t.cl, t.st.upd t.cl n1, upd_same, hc.upd t.cl fun p hp z => h.2 (z ▸ hp), t.dd.keep t.cl fun z => n4 z.symm, nd⟩
end
theorem castS_grown (c : List Step) (x : Step) (right : Bool) : castS (grown c x right) = (castS c).take (if right then c.length else 0) ++ [((x.1 : Int), (x.2 : Int))] ++ (castS c).drop (if right then c.length else 0) := by
  unfold grown castS
  cases right
  · rw [if_neg Bool.false_ne_true, if_neg Bool.false_ne_true, List.take_zero, List.drop_zero]
    rfl
  · rw [if_pos rfl, if_pos rfl, List.take_of_length_le (by rw [List.length_map]; exact Nat.le_refl _), List.drop_of_length_le (by rw [List.length_map]; exact Nat.le_refl _), List.map_append, List.append_nil]
    rfl
end Sw
namespace Sw
open PySem PySem.Spec PyProof.Rows L2
open Evl (Ex Ex.refl Ex.trans Ex.new Ex.mut ex_l ex_t ex_rd fresh_back Ev EvL EvU EvT EvA RV RC RCL SpV SpL)
section
variable {P : Program} {w : World} {K : PySem.W.Frag} {mg : Str → Option Value} {base : Heap} {C : Addr}
/-! ### a table whose addresses are known, and that may stand between two states -/
theorem ev_sM {σ : L2.St} {H : Hp} {te : TE} {o : Addr} {A : TAd} {T : Tb} (X : TxtT K mg C) (h : Ev te σ H (.ref o)) (t : TabM C o A T H) : Ev (tFld K te "_stones") σ H (.ref A.sL) := fun H1 e Q q => h H1 e _ fun H2 e2 => ⟨o, C, A.dx, _, _, rfl, (t.ex (e.trans e2)).ob, X.cl, X.nS, tF_s _ _ _, q H2 e2⟩
theorem ev_cM {σ : L2.St} {H : Hp} {te : TE} {o : Addr} {A : TAd} {T : Tb} (X : TxtT K mg C) (h : Ev te σ H (.ref o)) (t : TabM C o A T H) : Ev (tFld K te "_chains") σ H (.ref A.cL) := fun H1 e Q q => h H1 e _ fun H2 e2 => ⟨o, C, A.dx, _, _, rfl, (t.ex (e.trans e2)).ob, X.cl, X.nC, tF_c _ _ _, q H2 e2⟩
theorem ev_dM {σ : L2.St} {H : Hp} {te : TE} {o : Addr} {A : TAd} {T : Tb} (X : TxtT K mg C) (h : Ev te σ H (.ref o)) (t : TabM C o A T H) : Ev (tFld K te "_deeds") σ H (.ref A.dL) := fun H1 e Q q => h H1 e _ fun H2 e2 => ⟨o, C, A.dx, _, _, rfl, (t.ex (e.trans e2)).ob, X.cl, X.nD, tF_d _ _ _, q H2 e2⟩
/-! ### xs.insert(i, (..)) -/
abbrev rIns9 : V → List V → Hp → VK → Prop := fun x vs H Q => ∃ (l : Addr) (xs : List V) (i : Int) (y : V), x = .ref l ∧ vs = [.int i, y] ∧ H l = some (.lst xs) ∧ xs.length < sizeLine ∧ 0 ≤ i ∧ i < 2 ^ 63 ∧ Q .non (upd H l (.lst (xs.take i.toNat ++ [y] ++ xs.drop i.toNat)))
theorem q_insU {σ : L2.St} {H : Hp} {ta tb te : TE} {D : Ends} {tz : TS} {l : Addr} {xs ys : List V} {i : Nat} (hl : H l = some (.lst xs)) (ha : Ev ta σ H (.ref l)) (hi : Ev tb σ H (.int (i : Int))) (h : EvU te σ H ys) (hz : xs.length < 100000) (h0 : i ≤ 100000) (k : ∀ p H1, H p = none → Ex H H1 → H1 p = some (.tup ys) → tz D σ (upd H1 l (.lst (xs.take i ++ [.ref p] ++ xs.drop i)))) :
    tSeq (tDrop (tBM K "list" rIns9 ta (tCons tb (tCons te tNil)))) tz D σ H := ha H (Ex.refl H) _ fun H1 e1 =>
  ⟨Or.inl ⟨rfl, xs, Evl.sq_of (e1 l _ hl)⟩, hi H1 e1 _ fun H2 e2 => h H2 (e1.trans e2) _ fun p H3 hp e3 h3 => ⟨l, xs, (i : Int), .ref p, rfl, rfl, e3 l _ (e2 l _ (e1 l _ hl)), Evl.sz_lt hz, Int.natCast_nonneg _, by omega, k p H3 (fresh_back (e1.trans e2) hp) ((e1.trans e2).trans e3) h3⟩⟩
/-! ### _place -/
theorem scPlace9 : FnScope ["self", "number", "side", "stone", "turned", "chain", "first", "second"] ["self", "number", "side", "stone", "turned"] (defScope (sTab 13)) := ⟨rfl, rfl, rfl, by decide +kernel, rfl, by decide +kernel, by decide +kernel⟩
def spPlace9 (C : Addr) : Sp := fun vs H Q _ => ∃ (o : Addr) (A : TAd) (T : Tb) (n : Nat) (right : Bool) (ts : Addr) (s : Int × Int) (tn : Nat), vs = [.ref o, .int (n : Int), .str (sideS right), .ref ts, .int (tn : Int)] ∧ TabM C o A T H ∧ n < T.cs.length ∧ T.st.length < 60 ∧ T.ds.length < 60 ∧ (T.cs.getD n []).length ≤ 60 ∧ H ts = some (.tup [.int s.1, .int s.2]) ∧
  ∀ H', TabM C o A (T.put n right s tn) H' → Mv A A H H' → Q .non H'
theorem ok_place9 {f : Addr} {fd : FuncData} (F : Fun K "_place" "Table._place" (sTab 13) f fd) (X : TxtT K mg C) (mL : mg "len" = none) : FnOk P w K mg base CX0 1 f fd ["self", "number", "side", "stone", "turned"] (spPlace9 C) := by
  refine F.ok scPlace9 (fun vs H Q E h => ?_) (fun cdv A outer s H vs Q E hr h => ?_)
  · obtain ⟨o, A, T, n, right, ts, s, tn, rfl, _⟩ := h
    rfl
  · obtain ⟨o, A, T, n, right, ts, s, tn, rfl, t, hn, hs60, hd60, hc60, hts, q⟩ := h
    refine ⟨_, pss_cons (ps_set (i := 5) scPlace9.nd rfl (.inl rfl) (pe_ix (r := rIxL K) ix_list (pe_fld (pv 0) rfl) (pv 1) (fun _ _ => rfl)))
      (pss_cons (ps_expr (pe_bm PySem.F.plainAttrs_list PySem.F.slot_list_insert PySem.F.type_list_insert mt_insert (pv 5) (pa_cons (pe_ifExp (pt_cmpR op_eq (pv 2) pe_str (nomark _)) pe_int (pe_callB (r := Evl.rLenS K) call_len_seq (by rfl) mL boot_len (pa_cons (pv 5) pa_nil)))
          (pa_cons (pe_tup (pa_cons (pe_callB (r := Evl.rLenS K) call_len_seq (by rfl) mL boot_len (pa_cons (pe_fld (pv 0) rfl) pa_nil)) (pa_cons (pv 4) pa_nil))) pa_nil))))
      (pss_cons (ps_asg (pv 3) (pg_tup rfl (pgs_cons (pg_name (i := 6) scPlace9.nd rfl (.inl rfl)) (pgs_cons (pg_name (i := 7) scPlace9.nd rfl (.inl rfl)) pgs_nil))))
      (pss_cons (ps_expr (pe_bm PySem.F.plainAttrs_list PySem.F.slot_list_append PySem.F.type_list_append mt_append (pe_fld (pv 0) rfl) (pa_cons (pe_tup (pa_cons (pv 6) (pa_cons (pv 7) pa_nil))) pa_nil)))
      (pss_one (ps_expr (pe_bm PySem.F.plainAttrs_list PySem.F.slot_list_append PySem.F.type_list_append mt_append (pe_fld (pv 0) rfl) (pa_cons (pe_tup (pa_cons (pv 1) (pa_cons (pv 2) pa_nil))) pa_nil))))))), ?_⟩
    have np : n < A.ps.length := by rw [t.ch.1]; exact hn
    have gn : T.cs.getD n [] = T.cs[n] := by rw [List.getD_eq_getElem?_getD, List.getElem?_eq_getElem hn]; rfl
    rw [gn] at hc60
    -- chain = self._chains[number]
    refine Evl.q_asg (Evl.ev_op (ev_cM X (Evl.ev_var rfl) t) (Evl.ev_var rfl) (Evl.rv_ixL (K := K) (v := .ref A.ps[n]) (SqL.of t.cl) (atI_nat (by rw [List.getElem?_map, List.getElem?_eq_getElem np]; rfl)))) fun H1 e1 => ?_
    have t1 := t.ex e1
    obtain ⟨us, u1, u2⟩ := t1.ch.2 n _ _ (List.getElem?_eq_getElem np) (List.getElem?_eq_getElem hn)
    have ul : us.length = T.cs[n].length := by rw [u2.1, castS_len]
    obtain ⟨ss, s1, s2⟩ := t1.st
    -- chain.insert(..)
    have sl : decide (sideS right = leftS) = !right := by cases right <;> decide +kernel
    refine q_insU (i := if right then T.cs[n].length else 0) (ys := [.int (T.st.length : Int), .int (tn : Int)]) u1 (Evl.ev_var rfl) (Evl.ev_if (b := !right) (Evl.et_test (Evl.ev_is (Evl.ev_op (Evl.ev_var (i := 2) (v := .str (sideS right)) rfl) Evl.ev_c (Evl.rv_eq rfl)) ((decV (P := sideS right = leftS) ⟨fun h => V.str.inj h, fun h => by rw [h]⟩).trans (congrArg V.bl sl))))
      (fun hb => by
        rw [Bool.not_eq_true'] at hb
        rw [hb, if_neg Bool.false_ne_true]
        exact Evl.ev_c)
      (fun hb => by
        have hb : right = true := by cases right <;> first | rfl | cases hb
        rw [hb, if_pos rfl]
        exact Evl.ev_is (Evl.ev_len (K := K) (Evl.ev_var (i := 5) rfl) (SqL.of u1)) (by rw [List.length_map, ul])))
      (Evl.eu_tup (Evl.ea_cons (Evl.ev_is (Evl.ev_len (K := K) (ev_sM X (Evl.ev_var rfl) t1) (SqL.of s1)) (by rw [List.length_map, s2.1])) (Evl.ea_cons (Evl.ev_var rfl) Evl.ea_nil)) (by show 2 ≤ _; decide)) (by rw [List.length_map, ul]; omega) (by split <;> omega) fun tp H4 ntp e14 htp => ?_
    have t4 := t1.ex e14
    have u14 := e14 _ _ u1
    have grow : All2 (PairC H4) (us.take (if right then T.cs[n].length else 0) ++ [tp] ++ us.drop (if right then T.cs[n].length else 0)) (castS (grown T.cs[n] (T.st.length, tn) right)) := by
      rw [castS_grown]
      have u4 : All2 (PairC H4) us (castS T.cs[n]) := All2.imp u2 fun _ _ h => e14 _ _ h
      exact ((u4.take _).app (.one (x := tp) (y := ((T.st.length : Int), (tn : Int))) htp)).app (u4.drop _)
    have m4 : Mv A A H H4 := Mv.of (e1.trans e14)
    have pm : A.ps[n] ∈ A.cells := List.mem_cons_of_mem _ (List.mem_cons_of_mem _ (List.mem_cons_of_mem _ (List.getElem_mem np)))
    have t5 := t4.chgP (List.getElem?_eq_getElem np) u14 grow
    have m5 := m4.trans (Mv.put (ys := (us.take (if right then T.cs[n].length else 0) ++ [tp] ++ us.drop (if right then T.cs[n].length else 0)).map V.ref) pm u14)
    have hts5 := m5.tu _ _ hts
    have eq5 : (us.map V.ref).take (if right then T.cs[n].length else 0) ++ [V.ref tp] ++ (us.map V.ref).drop (if right then T.cs[n].length else 0) = (us.take (if right then T.cs[n].length else 0) ++ [tp] ++ us.drop (if right then T.cs[n].length else 0)).map V.ref := by
      rw [List.map_append, List.map_append, List.map_take, List.map_drop]
      rfl
    rw [eq5]
    generalize upd H4 A.ps[n] (.lst ((us.take (if right then T.cs[n].length else 0) ++ [tp] ++ us.drop (if right then T.cs[n].length else 0)).map V.ref)) = H5 at t5 m5 hts5
    -- first, second = stone
    refine ⟨_, rfl, ts, [.int s.1, .int s.2], rfl, SqT.of hts5, rfl, .int s.1, [.int s.2], rfl, .int s.2, [], rfl, rfl, ?_⟩
    -- self._stones.append((first, second))
    obtain ⟨ss, s1, s2⟩ := t5.st
    refine Evl.q_appU (xs := ss.map V.ref) (ys := [.int s.1, .int s.2]) s1 (ev_sM X (Evl.ev_var rfl) t5) (Evl.eu_tup (Evl.ea_cons (Evl.ev_var rfl) (Evl.ea_cons (Evl.ev_var rfl) Evl.ea_nil)) (by show 2 ≤ _; decide)) (by
      rw [List.length_map, s2.1]
      show T.st.length < _
      omega) fun sp H6 nsp e6 hsp => ?_
    have t6 := t5.ex e6
    have s3 : All2 (PairC H6) (ss ++ [sp]) (T.st ++ [s]) := (All2.imp s2 fun _ _ h => e6 _ _ h).app (.one (x := sp) (y := s) hsp)
    have t7 := t6.chgS s3
    have m7 := (m5.trans (Mv.of e6)).trans (Mv.put (x := A.sL) (ys := (ss ++ [sp]).map V.ref) (List.mem_cons_self) (e6 _ _ s1))
    rw [show ss.map V.ref ++ [V.ref sp] = (ss ++ [sp]).map V.ref from by rw [List.map_append]; rfl]
    generalize upd H6 A.sL (.lst ((ss ++ [sp]).map V.ref)) = H7 at t7 m7
    -- self._deeds.append((number, side))
    obtain ⟨dd, d1, d2⟩ := t7.dd
    refine Evl.s_appU (xs := dd.map V.ref) (ys := [.int (n : Int), .str (sideS right)]) d1 (ev_dM X (Evl.ev_var rfl) t7) (Evl.eu_tup (Evl.ea_cons (Evl.ev_var rfl) (Evl.ea_cons (Evl.ev_var rfl) Evl.ea_nil)) (by show 2 ≤ _; decide)) (by
      rw [List.length_map, d2.1]
      show T.ds.length < _
      omega) fun dp H8 ndp e8 hdp => ?_
    have t8 := t7.ex e8
    have d3 : All2 (DeedC H8) (dd ++ [dp]) (T.ds ++ [(n, right)]) := (All2.imp (R := DeedC H7) d2 fun _ _ h => e8 _ _ h).app (.one (x := dp) (y := (n, right)) hdp)
    have t9 := t8.chgD d3
    have m9 := (m7.trans (Mv.of e8)).trans (Mv.put (x := A.dL) (ys := (dd ++ [dp]).map V.ref) (List.mem_cons_of_mem _ (List.mem_cons_of_mem _ List.mem_cons_self)) (e8 _ _ d1))
    rw [show dd.map V.ref ++ [V.ref dp] = (dd ++ [dp]).map V.ref from by rw [List.map_append]; rfl]
    refine q _ ?_ m9
    unfold Tb.put
    rw [gn]
    exact t9
end
end Sw
namespace Sw
open PySem PySem.Spec PyProof.Rows L2
open Evl (Ex Ex.refl Ex.trans Ex.new Ex.mut ex_l ex_t ex_rd fresh_back Ev EvL EvU EvT EvA RV RC RCL SpV SpL)
/-! ### what is refused -/
theorem num_any {d : PyData} {n : Int} (h : numB d n = true) : ∃ i : Int, d = .int i ∧ 0 ≤ i ∧ i ≤ n := by
  unfold numB at h
  split at h
  · rw [Bool.and_eq_true, decide_eq_true_eq, decide_eq_true_eq] at h
    exact ⟨_, rfl, h⟩
  · cases h
theorem stone_get {d : PyData} (h : stoneB d = true) : ∃ s : Int × Int, d = dPair s ∧ GoodS s := by
  unfold stoneB at h
  split at h
  · rw [Bool.and_eq_true] at h
    obtain ⟨i, rfl, hi⟩ := num_any h.1
    obtain ⟨j, rfl, hj⟩ := num_any h.2
    exact ⟨(i, j), rfl, hi, hj⟩
  · cases h
theorem stone_is {s : Int × Int} (g : GoodS s) : stoneB (dPair s) = true := by
  show (numB (.int s.1) 999999 && numB (.int s.2) 999999) = true
  rw [num_in g.1.1 g.1.2, num_in g.2.1 g.2.2]
  rfl
theorem num_get {d : PyData} {n : Nat} (h : numB d ((n : Int) - 1) = true) : ∃ i : Nat, d = .int (i : Int) ∧ i < n := by
  obtain ⟨i, rfl, h0, h1⟩ := num_any h
  obtain ⟨j, rfl⟩ := Int.eq_ofNat_of_zero_le h0
  exact ⟨j, rfl, by omega⟩
theorem num_is {i n : Nat} (h : i < n) : numB (.int (i : Int)) ((n : Int) - 1) = true := num_in (by omega) (by omega)
def sideB : PyData → Bool
  | .str x => decide (x = leftS) || decide (x = rightS)
  | _ => false
theorem side_get {d : PyData} (h : sideB d = true) : ∃ right : Bool, d = .str (sideS right) := by
  unfold sideB at h
  split at h
  · rw [Bool.or_eq_true, decide_eq_true_eq, decide_eq_true_eq] at h
    rcases h with h | h
    · exact ⟨false, by rw [h]; rfl⟩
    · exact ⟨true, by rw [h]; rfl⟩
  · cases h
theorem side_is (right : Bool) : sideB (.str (sideS right)) = true := by cases right <;> decide +kernel
theorem side_inj {a b : Bool} (h : sideS a = sideS b) : a = b := by
  have k : leftS ≠ rightS := by decide +kernel
  cases a <;> cases b <;> first | rfl | exact absurd h k | exact absurd h.symm k
/-- how a stone fits at a side of a chain -/
def fitC (T : Tb) (n : Nat) (right : Bool) (s : Int × Int) : V := match T.cs[n]? with
  | some c => if hn : c ≠ [] then fitV (endsT T.st c hn) right s else .non
  | none => .non
def fitD (T : Tb) : PyData → PyData → PyData → V
  | .int i, .str x, .tuple [.int a, .int b] => fitC T i.toNat (decide (x = rightS)) (a, b)
  | _, _, _ => .non
theorem fitD_is (T : Tb) (n : Nat) (right : Bool) (s : Int × Int) : fitD T (.int (n : Int)) (.str (sideS right)) (dPair s) = fitC T n right s := by
  have k : decide (sideS right = rightS) = right := by cases right <;> decide +kernel
  show fitC T (n : Int).toNat (decide (sideS right = rightS)) (s.1, s.2) = _
  rw [k, Int.toNat_natCast]
theorem fitV_cases (e : Int × Int) (right : Bool) (s : Int × Int) : fitV e right s = .non ∨ ∃ t : Nat, t ≤ 1 ∧ fitV e right s = .int (t : Int) := by
  unfold fitV
  cases right
  · rw [if_neg Bool.false_ne_true]
    by_cases c : s.2 = e.1
    · rw [if_pos c]
      exact .inr ⟨0, by decide, rfl⟩
    · rw [if_neg c]
      by_cases c : s.1 = e.1
      · rw [if_pos c]
        exact .inr ⟨1, by decide, rfl⟩
      · rw [if_neg c]
        exact .inl rfl
  · rw [if_pos rfl]
    by_cases c : s.1 = e.2
    · rw [if_pos c]
      exact .inr ⟨0, by decide, rfl⟩
    · rw [if_neg c]
      by_cases c : s.2 = e.2
      · rw [if_pos c]
        exact .inr ⟨1, by decide, rfl⟩
      · rw [if_neg c]
        exact .inl rfl
theorem fitC_cases (T : Tb) (n : Nat) (right : Bool) (s : Int × Int) : fitC T n right s = .non ∨ ∃ t : Nat, t ≤ 1 ∧ fitC T n right s = .int (t : Int) := by
  unfold fitC
  split
  · split
    · exact fitV_cases _ _ _
    · exact .inl rfl
  · exact .inl rfl
/-- which refusal of put is due first: stone, full, chain, side, fit -/
def putDue (T : Tb) (dn ds dt : PyData) : Option Nat :=
  if stoneB dt = false then some 0 else if 60 ≤ T.st.length then some 1 else if numB dn ((T.cs.length : Int) - 1) = false then some 2 else if sideB ds = false then some 3 else if fitD T dn ds dt = .non then some 4 else none
def begDue (T : Tb) (dt : PyData) : Option Nat := if stoneB dt = false then some 0 else if 60 ≤ T.st.length then some 1 else none
theorem set_mid (cs : List (List Step)) (c d : List Step) : (cs ++ [c]).set cs.length d = cs ++ [d] := by
  rw [List.set_append_right _ _ (Nat.le_refl _), Nat.sub_self]
  rfl
theorem beg_put (T : Tb) (s : Int × Int) : Tb.put ⟨T.st, T.cs ++ [[]], T.ds⟩ T.cs.length true s 0 = T.beg s := by
  unfold Tb.put Tb.beg
  dsimp only
  rw [getD_mid, set_mid]
  rfl
theorem good_snoc {st : List (Int × Int)} {s : Int × Int} (h : Good st) (g : GoodS s) (l : st.length < 60) : Good (st ++ [s]) := ⟨by rw [List.length_append]; exact l, goods_snoc h.2 g⟩
/-- a table's state behind a deed -/
structure Next (C o : Addr) (A A' : TAd) (T' : Tb) (H H' : Hp) : Prop where
  t : TabAt C o A' T' H'
  m : Mv A A' H H'
section
variable {P : Program} {w : World} {K : PySem.W.Frag} {mg : Str → Option Value} {base : Heap} {C : Addr}
/-! ### begin -/
theorem scBegin : FnScope ["self", "stone", "number"] ["self", "stone"] (defScope (sTab 1)) := ⟨rfl, rfl, rfl, by decide +kernel, rfl, by decide +kernel, by decide +kernel⟩
def spBegin (C : Addr) (R : Nat → Addr) : Sp := fun vs H Q E => ∃ (o : Addr) (A : TAd) (T : Tb) (v : V) (d : PyData), vs = [.ref o, v] ∧ TabAt C o A T H ∧ Dt H v d ∧ (∀ r, begDue T d = some r → ∀ H2, Ex H H2 → E (.ref (R r)) none H2) ∧
  (∀ s, begDue T d = none → d = dPair s → GoodS s → T.st.length < 60 → ∀ A' H', Next C o A A' (T.beg s) H H' → Q (.int (T.cs.length : Int)) H')
theorem ok_begin {f fS fR fP : Addr} {R : Nat → Addr} {fd fdS fdR fdP : FuncData} (F : Fun K "begin" "Table.begin" (sTab 1) f fd) (X : TxtT K mg C) (mL : mg "len" = none)
    (GS : FnOk P w K mg base (L2.CX P w) 3 fS fdS ["thing"] (spNeed1 (R 0))) (gS : mg "need_stone" = some (.ref fS)) (kS : PySem.W.keepIn K (.ref fS) = true) (bS : Binds K fdS ["thing"] [])
    (GR : FnOk P w K mg base (L2.CX P w) 2 fR fdR ["self"] (spRoomM C (R 1))) (mR : Meth K C "_need_room" fR) (bR : Binds K fdR ["self"] [])
    (GP : FnOk P w K mg base CX0 1 fP fdP ["self", "number", "side", "stone", "turned"] (spPlace9 C)) (mP : Meth K C "_place" fP) (bP : Binds K fdP ["self", "number", "side", "stone", "turned"] []) : FnOk P w K mg base (L2.CX P w) 4 f fd ["self", "stone"] (spBegin C R) := by
  refine F.okX scBegin (fun vs H Q E h => ?_) (fun cdv A outer s H vs Q E hr h => ?_)
  · obtain ⟨o, A, T, v, d, rfl, _⟩ := h
    rfl
  · obtain ⟨o, A, T, v, d, rfl, t, hd, qe, q⟩ := h
    have hr2 : Room 2 _ := hr.mono (by decide)
    have hr1 : Room 1 _ := hr.mono (by decide)
    refine ⟨_, pss_cons (ps_expr (pe_callS GS hr (by rfl) gS kS bS (fun σ => passAt (W := fun c d _ H => E c d H) (takes_of rfl rfl rfl rfl) σ) (pa_cons (pv 1) pa_nil)))
      (pss_cons (ps_expr (pe_meth0 (E := E) (pv 0) X.cl mR GR hr2 bR .nil (passes_call (W := fun c d _ H => E c d H) (takes_of rfl rfl rfl rfl) (fun _ _ _ _ h => h))))
      (pss_cons (ps_set (i := 2) scBegin.nd rfl (.inl rfl) (pe_callB (r := Evl.rLenS K) call_len_seq (by rfl) mL boot_len (pa_cons (pe_fld (pv 0) rfl) pa_nil)))
      (pss_cons (ps_expr (pe_bm PySem.F.plainAttrs_list PySem.F.slot_list_append PySem.F.type_list_append mt_append (pe_fld (pv 0) rfl) (pa_cons (pe_lst pa_nil) pa_nil)))
      (pss_cons (ps_expr (pe_meth (E := E0) (pv 0) X.cl mP GP hr1 bP .nil pass0 (pa_cons (pv 2) (pa_cons pe_str (pa_cons (pv 1) (pa_cons pe_int pa_nil))))))
      (pss_one (ps_ret (pv 2))))))), ?_⟩
    refine ⟨_, rfl, v, d, rfl, hd, fun hb H1 e1 => ?_, fun hb => qe 0 (by unfold begDue; rw [if_pos hb])⟩
    obtain ⟨st, rfl, g⟩ := stone_get hb
    obtain ⟨ts, u, z, rfl, hts, hu, hz⟩ := dt_two hd
    cases hu
    cases hz
    refine ⟨_, rfl, o, _, _, rfl, (t.ex e1).ob, tF_no (by decide +kernel) (by decide +kernel) (by decide +kernel), o, A, T, rfl, t.ex e1, fun hl H2 e2 => ?_, fun hl H2 e2 => qe 1 (by unfold begDue; rw [if_neg (by rw [hb]; exact fun z => nomatch z), if_pos hl]) H2 (e1.trans e2)⟩
    have e02 := e1.trans e2
    have t2 := t.m.ex e02
    have cl : T.cs.length ≤ 60 := by have := t.re.few; omega
    have pl : A.ps.length = T.cs.length := t.ch.1
    refine Evl.q_asg (Evl.ev_is (w := .int (T.cs.length : Int)) (Evl.ev_len (K := K) (ev_cM X (Evl.ev_var rfl) t2) (SqL.of t2.cl)) (by rw [List.length_map, pl])) fun H3 e3 => ?_
    have t3 := t2.ex e3
    refine Evl.q_appL t3.cl (ev_cM X (Evl.ev_var rfl) t3) (Evl.el_lst Evl.ea_nil (by show 0 ≤ _; decide)) (by rw [List.length_map]; omega) fun p H4 np e4 hp => ?_
    have t4 := t3.ex e4
    have e04 := (e02.trans e3).trans e4
    have old : ∀ a ∈ A.cells, p ≠ a := fun a ha z => by
      have : H3 a ≠ none := by
        rcases List.mem_cons.mp ha with rfl | ha
        · obtain ⟨_, h, _⟩ := t3.st
          rw [h]
          exact fun z => nomatch z
        · rcases List.mem_cons.mp ha with rfl | ha
          · rw [t3.cl]
            exact fun z => nomatch z
          · rcases List.mem_cons.mp ha with rfl | ha
            · obtain ⟨_, h, _⟩ := t3.dd
              rw [h]
              exact fun z => nomatch z
            · obtain ⟨i, hi⟩ := List.mem_iff_getElem?.mp ha
              have il := (List.getElem?_eq_some_iff.mp hi).1
              obtain ⟨_, h, _⟩ := t3.ch.2 i _ _ hi (List.getElem?_eq_getElem (by omega))
              rw [h]
              exact fun z => nomatch z
      exact this (z ▸ np)
    have nd : (A.sL :: A.cL :: A.dL :: (A.ps ++ [p])).Nodup := by
      show (A.cells ++ [p]).Nodup
      refine List.nodup_append.mpr ⟨t.nd, by simp, fun x hx y hy z => ?_⟩
      rw [List.mem_singleton.mp hy] at z
      exact old x hx z.symm
    have t5 := t4.chgC (ps' := A.ps ++ [p]) (cs' := T.cs ++ [[]]) (t4.ch.app (stones_nil hp)) nd
    have m5 : Mv A { A with ps := A.ps ++ [p] } H (upd H4 A.cL (.lst ((A.ps ++ [p]).map V.ref))) := by
      refine ⟨fun H0 e0 n => ⟨Ex.mut (e0.trans e04) (n A.cL (List.mem_cons_of_mem _ List.mem_cons_self)), fun a ha => ?_⟩, fun b xs h => (Mv.put (List.mem_cons_of_mem _ List.mem_cons_self) t4.cl).tu b xs (e04 _ _ h)⟩
      rcases List.mem_append.mp (show a ∈ A.cells ++ [p] from ha) with ha | ha
      · exact n a ha
      · rw [List.mem_singleton.mp ha]
        exact fresh_back (e0.trans (e02.trans e3)) np
    rw [show A.ps.map V.ref ++ [V.ref p] = (A.ps ++ [p]).map V.ref from by rw [List.map_append]; rfl]
    have hts5 := m5.tu _ _ hts
    generalize upd H4 A.cL (.lst ((A.ps ++ [p]).map V.ref)) = H5 at t5 m5 hts5
    refine ⟨_, rfl, o, _, _, rfl, t5.ob, tF_no (by decide +kernel) (by decide +kernel) (by decide +kernel), _, rfl, _, rfl, o, _, _, T.cs.length, true, ts, st, 0, rfl, t5, ?_, hl, ?_, ?_, hts5, fun H6 t6 m6 => ⟨_, rfl, ?_⟩⟩
    · show T.cs.length < (T.cs ++ [[]]).length
      rw [List.length_append]
      exact Nat.lt_succ_self _
    · show T.ds.length < 60
      rw [t.re.deeds]
      exact hl
    · show ((T.cs ++ [[]]).getD T.cs.length []).length ≤ 60
      rw [getD_mid]
      exact Nat.zero_le _
    · rw [beg_put] at t6
      exact q st (by unfold begDue; rw [if_neg (by rw [hb]; exact fun z => nomatch z), if_neg (by omega)]) rfl g hl _ H6 ⟨t6.to (good_snoc t.go g hl) (t.re.beg st), m5.trans m6⟩
end
end Sw
namespace Sw
open PySem PySem.Spec PyProof.Rows L2
open Evl (Ex Ex.refl Ex.trans Ex.new Ex.mut ex_l ex_t ex_rd fresh_back Ev EvL EvU EvT EvA RV RC RCL SpV SpL)
theorem kitSt : ∀ k ∈ kinds, kitB k "str" = some (decide (k = "str")) := by decide +kernel
theorem kit_strT {K : PySem.W.Frag} (d : PyData) : PySem.W.kitOne K (.type (kindOf d)) (.type "str") = some (decide (kindOf d = "str")) := kit_ty (kitSt _ (kind_in d))
/-- the two sides, as the program's top has them -/
def SidesAt (K : PySem.W.Frag) (p : Addr) : Prop := ∀ H, SqT K H p [.str leftS, .str rightS]
theorem inV_sides (x : Str) : inV (.str x) [.str leftS, .str rightS] = sideB (.str x) := by
  show ((leftS == x) || ((rightS == x) || false)) = (decide (x = leftS) || decide (x = rightS))
  rw [Bool.or_false]
  refine Bool.eq_iff_iff.mpr ?_
  rw [Bool.or_eq_true, Bool.or_eq_true, beq_iff_eq, beq_iff_eq, decide_eq_true_eq, decide_eq_true_eq]
  exact ⟨fun h => h.imp Eq.symm Eq.symm, fun h => h.imp Eq.symm Eq.symm⟩
section
variable {K : PySem.W.Frag} {σ : L2.St} {H : Hp}
/-- not isinstance(side, str) or side not in SIDES -/
theorem et_noSide {i : Nat} {v : V} {d : PyData} {p : Addr} (hi : σ[i]? = some (some v)) (hd : Dt H v d) (hp : SidesAt K p) : EvT (tOr (tNot (tB (tCB (rIsi K) (tCons (tVar i) (tCons (tC (.ty "str")) tNil))))) (tTest (tOp (rIn K true) (tVar i) (tC (.ref p))))) σ H (!sideB d) := by
  have h := Evl.et_or (u := tTest (tOp (rIn K true) (tVar i) (tC (.ref p)))) (b := !sideB d) (Evl.et_not (Evl.et_B (ev_isI (K := K) (T := "str") (Evl.ev_var hi) hd (kit_strT d)))) fun hb => ?_
  · refine Evl.et_is h ?_
    cases d <;> rfl
  · cases hd with
    | str x =>
      refine Evl.et_test (Evl.ev_is (Evl.ev_op (Evl.ev_var hi) Evl.ev_c (Evl.rv_niT (hp H) rfl rfl)) ?_)
      rw [inV_sides]
    | _ => exact absurd hb (by simp [kindOf])
/-- x is None -/
theorem et_isNone {te : TE} {v : V} (h : Ev te σ H v) : EvT (tTest (tOp (fun x y H Q => y = .non ∧ Q (.bl (decide (x = .non))) H) te (tC .non))) σ H (decide (v = .non)) := fun H1 e Q q => h H1 e _ fun H2 e2 => ⟨rfl, _, rfl, q H2 e2⟩
end
theorem put_due0 {T : Tb} {dn ds dt : PyData} (h : stoneB dt = false) : putDue T dn ds dt = some 0 := if_pos h
theorem put_due1 {T : Tb} {dn ds dt : PyData} (h : stoneB dt = true) (h1 : 60 ≤ T.st.length) : putDue T dn ds dt = some 1 := (if_neg (by rw [h]; exact fun z => nomatch z)).trans (if_pos h1)
theorem put_due2 {T : Tb} {dn ds dt : PyData} (h : stoneB dt = true) (h1 : T.st.length < 60) (h2 : numB dn ((T.cs.length : Int) - 1) = false) : putDue T dn ds dt = some 2 := (if_neg (by rw [h]; exact fun z => nomatch z)).trans ((if_neg (by omega)).trans (if_pos h2))
theorem put_due3 {T : Tb} {dn ds dt : PyData} (h : stoneB dt = true) (h1 : T.st.length < 60) (h2 : numB dn ((T.cs.length : Int) - 1) = true) (h3 : sideB ds = false) : putDue T dn ds dt = some 3 := (if_neg (by rw [h]; exact fun z => nomatch z)).trans ((if_neg (by omega)).trans ((if_neg (by rw [h2]; exact fun z => nomatch z)).trans (if_pos h3)))
theorem put_due4 {T : Tb} {dn ds dt : PyData} (h : stoneB dt = true) (h1 : T.st.length < 60) (h2 : numB dn ((T.cs.length : Int) - 1) = true) (h3 : sideB ds = true) : putDue T dn ds dt = if fitD T dn ds dt = .non then some 4 else none := (if_neg (by rw [h]; exact fun z => nomatch z)).trans ((if_neg (by omega)).trans ((if_neg (by rw [h2]; exact fun z => nomatch z)).trans (if_neg (by rw [h3]; exact fun z => nomatch z))))
section
variable {P : Program} {w : World} {K : PySem.W.Frag} {mg : Str → Option Value} {base : Heap} {C : Addr}
/-! ### put -/
theorem scPut9 : FnScope ["self", "number", "side", "stone", "turned"] ["self", "number", "side", "stone"] (defScope (sTab 2)) := ⟨rfl, rfl, rfl, by decide +kernel, rfl, by decide +kernel, by decide +kernel⟩
def spPut9 (C : Addr) (R : Nat → Addr) : Sp := fun vs H Q E => ∃ (o : Addr) (A : TAd) (T : Tb) (vn vs' vt : V) (dn ds dt : PyData), vs = [.ref o, vn, vs', vt] ∧ TabAt C o A T H ∧ Dt H vn dn ∧ Dt H vs' ds ∧ Dt H vt dt ∧ (∀ r, putDue T dn ds dt = some r → ∀ H2, Ex H H2 → E (.ref (R r)) none H2) ∧
  (∀ (n : Nat) (right : Bool) (s : Int × Int) (tn : Nat), putDue T dn ds dt = none → dn = .int (n : Int) → ds = .str (sideS right) → dt = dPair s → GoodS s → n < T.cs.length → fitC T n right s = .int (tn : Int) → tn ≤ 1 → T.st.length < 60 → ∀ A' H', Next C o A A' (T.put n right s tn) H H' → Q .non H')
theorem ok_put9 {f fS fR fN fE fF fP pS : Addr} {R : Nat → Addr} {fd fdS fdR fdN fdE fdF fdP : FuncData} (F : Fun K "put" "Table.put" (sTab 2) f fd) (X : TxtT K mg C) (mI : mg "isinstance" = none) (mSt : mg "str" = none)
    (GS : FnOk P w K mg base (L2.CX P w) 3 fS fdS ["thing"] (spNeed1 (R 0))) (gS : mg "need_stone" = some (.ref fS)) (kS : PySem.W.keepIn K (.ref fS) = true) (bS : Binds K fdS ["thing"] [])
    (GR : FnOk P w K mg base (L2.CX P w) 2 fR fdR ["self"] (spRoomM C (R 1))) (mR : Meth K C "_need_room" fR) (bR : Binds K fdR ["self"] [])
    (GN : FnOk P w K mg base (L2.CX P w) 2 fN fdN ["self", "number"] (spNeedC C (R 2))) (mN : Meth K C "_need_chain" fN) (bN : Binds K fdN ["self", "number"] [])
    (gSi : mg "SIDES" = some (.ref pS)) (hSi : SidesAt K pS) (E3 : ErrC K (R 3)) (g3 : mg "NoSide" = some (.ref (R 3)))
    (GE : FnOk P w K mg base (L2.CX P w) 5 fE fdE ["self", "number"] (spEndsM C (R 2))) (mE : Meth K C "open_ends" fE) (bE : Binds K fdE ["self", "number"] [])
    (GF : FnOk P w K mg base CX0 2 fF fdF ["ends", "side", "stone"] spFitting) (gF : mg "_fitting" = some (.ref fF)) (kF : PySem.W.keepIn K (.ref fF) = true) (bF : Binds K fdF ["ends", "side", "stone"] [])
    (E4 : ErrC K (R 4)) (g4 : mg "NoFit" = some (.ref (R 4)))
    (GP : FnOk P w K mg base CX0 1 fP fdP ["self", "number", "side", "stone", "turned"] (spPlace9 C)) (mP : Meth K C "_place" fP) (bP : Binds K fdP ["self", "number", "side", "stone", "turned"] []) : FnOk P w K mg base (L2.CX P w) 6 f fd ["self", "number", "side", "stone"] (spPut9 C R) := by
  refine F.okX scPut9 (fun vs H Q E h => ?_) (fun cdv A outer s H vs Q E hr h => ?_)
  · obtain ⟨o, A, T, vn, vs', vt, dn, ds, dt, rfl, _⟩ := h
    rfl
  · obtain ⟨o, A, T, vn, vs', vt, dn, ds, dt, rfl, t, hn, hs, ht, qe, q⟩ := h
    have hr3 : Room 3 _ := hr.mono (by decide)
    have hr2 : Room 2 _ := hr.mono (by decide)
    have hr1 : Room 1 _ := hr.mono (by decide)
    refine ⟨_, pss_cons (ps_expr (pe_callS GS hr3 (by rfl) gS kS bS (fun σ => passAt (W := fun c d _ H => E c d H) (takes_of rfl rfl rfl rfl) σ) (pa_cons (pv 3) pa_nil)))
      (pss_cons (ps_expr (pe_meth0 (E := E) (pv 0) X.cl mR GR hr2 bR .nil (passes_call (W := fun c d _ H => E c d H) (takes_of rfl rfl rfl rfl) (fun _ _ _ _ h => h))))
      (pss_cons (ps_expr (pe_meth (E := E) (pv 0) X.cl mN GN hr2 bN .nil (passes_call (W := fun c d _ H => E c d H) (takes_of rfl rfl rfl rfl) (fun _ _ _ _ h => h)) (pa_cons (pv 1) pa_nil)))
      (pss_cons (ps_if (PW.pt (pw_or (pt_not (pt_val (pe_callB call_isi (by rfl) mI (by decide +kernel) (pa_cons (pv 2) (pa_cons (pe_bltn (v := .ty "str") (by rfl) mSt (by decide +kernel) rfl) pa_nil))))) (pw_or1 (pt_cmpR (r := rIn K true) op_notIn_seq (pv 2) (pe_glob (v := .ref pS) (by rfl) gSi rfl) (by rfl)))))
          (pss_one (ps_raise rfl (takes_of rfl rfl rfl rfl) (pmk_own PySem.F.excBase_ValueError E3.x g3 E3.k (raises_own E3.e.hs E3.t) (by exact rfl)))) pss_nil)
      (pss_cons (ps_set (i := 4) scPut9.nd rfl (.inl rfl) (pe_call GF hr2 (by rfl) gF kF bF .nil pass0 (pa_cons (pe_meth (E := E) (pv 0) X.cl mE GE hr bE .nil (passes_call (W := fun c d _ H => E c d H) (takes_of rfl rfl rfl rfl) (fun _ _ _ _ h => h)) (pa_cons (pv 1) pa_nil)) (pa_cons (pv 2) (pa_cons (pv 3) pa_nil)))))
      (pss_cons (ps_if (pt_cmpR op_isN (pv 4) pe_non (by rfl)) (pss_one (ps_raise rfl (takes_of rfl rfl rfl rfl) (pmk_own PySem.F.excBase_ValueError E4.x g4 E4.k (raises_own E4.e.hs E4.t) (by exact rfl)))) pss_nil)
      (pss_one (ps_expr (pe_meth (E := E0) (pv 0) X.cl mP GP hr1 bP .nil pass0 (pa_cons (pv 1) (pa_cons (pv 2) (pa_cons (pv 3) (pa_cons (pv 4) pa_nil)))))))))))), ?_⟩
    refine ⟨_, rfl, vt, dt, rfl, ht, fun h0 H1 e1 => ?_, fun h0 => qe 0 (put_due0 h0)⟩
    refine ⟨_, rfl, o, _, _, rfl, (t.ex e1).ob, tF_no (by decide +kernel) (by decide +kernel) (by decide +kernel), o, A, T, rfl, t.ex e1, fun h1 H2 e2 => ?_, fun h1 H2 e2 => qe 1 (put_due1 h0 h1) H2 (e1.trans e2)⟩
    have e02 := e1.trans e2
    have t2 := t.ex e02
    refine ⟨_, rfl, o, _, _, rfl, t2.ob, tF_no (by decide +kernel) (by decide +kernel) (by decide +kernel), _, rfl, o, A, T, vn, dn, rfl, t2, Dt.ex e02 _ _ hn, fun h2 H3 e3 => ?_, fun h2 H3 e3 => qe 2 (put_due2 h0 h1 h2) H3 (e02.trans e3)⟩
    have e03 := e02.trans e3
    dsimp only
    refine Evl.q_when (b := !sideB ds) ?_ ?_ ?_
    · exact et_noSide (K := K) (i := 2) rfl (Dt.ex e03 _ _ hs) hSi
    · exact fun h3 H4 e4 => qe 3 (put_due3 h0 h1 h2 (by simpa using h3)) H4 (e03.trans e4)
    intro h3 H4 e4
    have h3 : sideB ds = true := by simpa using h3
    have e04 := e03.trans e4
    have du := put_due4 h0 h1 h2 h3
    obtain ⟨sn, rfl, g⟩ := stone_get h0
    obtain ⟨ts, u, z, rfl, hts, hu, hz⟩ := dt_two ht
    cases hu
    cases hz
    obtain ⟨n, rfl, nl⟩ := num_get h2
    cases hn
    obtain ⟨right, rfl⟩ := side_get h3
    cases hs
    rw [fitD_is] at du
    have t4 := t.ex e04
    obtain ⟨hc, _, _⟩ := t.re.chains _ (List.getElem_mem nl)
    have fc : fitC T n right sn = fitV (endsT T.st T.cs[n] hc) right sn := by
      unfold fitC
      rw [List.getElem?_eq_getElem nl]
      dsimp only
      rw [dif_pos hc]
    refine ⟨_, rfl, o, _, _, rfl, t4.ob, tF_no (by decide +kernel) (by decide +kernel) (by decide +kernel), _, rfl, o, A, T, _, .int (n : Int), rfl, t4, .int _, fun n' c hn' hdn hc' p H5 np e5 hp => ?_, fun h => ?_⟩
    · have e05 := e04.trans e5
      have nn : n' = n := by
        have := PyData.int.inj hdn
        omega
      subst nn
      rw [List.getElem?_eq_getElem nl] at hc'
      obtain rfl := Option.some.inj hc'
      refine ⟨_, rfl, _, rfl, p, ts, _, sn, right, rfl, hp, e05 _ _ hts, fun H6 e6 => ?_⟩
      have e06 := e05.trans e6
      rw [← fc]
      dsimp only
      refine Evl.q_when (b := decide (fitC T n' right sn = .non)) ?_ ?_ ?_
      · exact et_isNone (Evl.ev_var rfl)
      all_goals intro hb H7 e7
      · exact qe 4 (by rw [du, if_pos (of_decide_eq_true hb)]) H7 (e06.trans e7)
      · have hb := of_decide_eq_false hb
        rcases fitC_cases T n' right sn with h | ⟨tn, h1n, h⟩
        · exact absurd h hb
        · have e07 := e06.trans e7
          have t7 := t.ex e07
          rw [h]
          refine ⟨_, rfl, o, _, _, rfl, t7.ob, tF_no (by decide +kernel) (by decide +kernel) (by decide +kernel), _, rfl, _, rfl, _, rfl, _, rfl, o, A, T, n', right, ts, sn, tn, rfl, t7.m, nl, h1, ?_, ?_, e07 _ _ hts, fun H8 t8 m8 => ?_⟩
          · rw [t.re.deeds]
            exact h1
          · rw [List.getD_eq_getElem?_getD, List.getElem?_eq_getElem nl]
            have := (t.re.chains _ (List.getElem_mem nl)).2.2
            show T.cs[n'].length ≤ 60
            omega
          · exact q n' right sn tn (by rw [du, if_neg hb]) rfl rfl rfl g nl h h1n h1 A H8 ⟨t8.to (good_snoc t.go g h1) (t.re.put right sn nl h1n), (Mv.of e07).trans m8⟩
    · rw [num_is nl] at h
      cases h
end
end Sw
namespace Sw
open PySem PySem.Spec PyProof.Rows L2
open Evl (Ex Ex.refl Ex.trans Ex.new Ex.mut ex_l ex_t ex_rd fresh_back Ev EvL EvU EvT EvA RV RC RCL SpV SpL)
theorem map_erase {α β : Type} (f : α → β) (l : List α) (n : Nat) : (l.map f).eraseIdx n = (l.eraseIdx n).map f := by
  rw [List.eraseIdx_eq_take_drop_succ, List.eraseIdx_eq_take_drop_succ, List.map_append, List.map_take, List.map_drop]
/-- the place of what was laid last -/
def lastK (c : List Step) (right : Bool) : Nat := if right then c.length - 1 else 0
theorem shrunk_erase {c : List Step} (hc : c ≠ []) (right : Bool) : shrunk c right = c.eraseIdx (lastK c right) := by
  have cp : 0 < c.length := List.length_pos_iff.mpr hc
  unfold shrunk lastK
  cases right
  · rw [if_neg Bool.false_ne_true, if_neg Bool.false_ne_true]
    cases c <;> rfl
  · rw [if_pos rfl, if_pos rfl]
    rw [List.eraseIdx_eq_take_drop_succ, List.dropLast_eq_take, List.drop_of_length_le (by omega), List.append_nil]
theorem seq_here {n m : Nat} (h : n < m) : seqIndex? (n : Int) m = some n := by
  have e := PySem.seqIndex_of (k := (n : Int)) (n := m) (Int.natCast_nonneg _) (by omega)
  rw [Int.toNat_natCast] at e
  exact e
theorem seq_last {m : Nat} (h : 0 < m) : seqIndex? (-1) m = some (m - 1) := by
  have e := MeetsSeq.seqIndex_neg (k := -1) (n := m) (by decide) (by omega)
  rw [e]
  congr 1
  omega
section
variable {σ : L2.St} {H : Hp} {te tb : TE} {D : Ends} {tz : TS}
theorem s_delL {l : Addr} {xs : List V} {i : Int} {k : Nat} (h : Ev te σ H (.ref l)) (hb : Ev tb σ H (.int i)) (hl : H l = some (.lst xs)) (h0 : -1 ≤ i) (h1 : i ≤ 100000) (hk : seqIndex? i xs.length = some k) (q : ∀ H1, Ex H H1 → D.nx σ (upd H1 l (.lst (xs.eraseIdx k)))) : tDelL te tb D σ H := h H (Ex.refl H) _ fun H1 e1 => hb H1 e1 _ fun H2 e2 =>
  ⟨l, xs, i, k, rfl, rfl, (e1.trans e2) _ _ hl, by omega, by omega, hk, q H2 (e1.trans e2)⟩
theorem v_pop {K : PySem.W.Frag} {l : Addr} {xs : List V} {y : V} {Q : VK} (h : Ev te σ H (.ref l)) (hl : H l = some (.lst xs)) (hy : xs[xs.length - 1]? = some y) (q : ∀ H1, Ex H H1 → Q y (upd H1 l (.lst xs.dropLast))) : tBM0 K "list" rPop te σ H Q := h H (Ex.refl H) _ fun H1 e1 =>
  ⟨Or.inl ⟨rfl, xs, Evl.sq_of (e1 _ _ hl)⟩, l, xs, y, rfl, rfl, e1 _ _ hl, hy, q H1 e1⟩
theorem q_popG {K : PySem.W.Frag} {l : Addr} {xs : List V} {y : V} {g : TG} (h : Ev te σ H (.ref l)) (hl : H l = some (.lst xs)) (hy : xs[xs.length - 1]? = some y) (q : ∀ H1, Ex H H1 → g y σ (upd H1 l (.lst xs.dropLast)) (tz D)) : tSeq (tAsg (tBM0 K "list" rPop te) g) tz D σ H := v_pop h hl hy q
theorem r_pop {K : PySem.W.Frag} {l : Addr} {xs : List V} {y : V} (h : Ev te σ H (.ref l)) (hl : H l = some (.lst xs)) (hy : xs[xs.length - 1]? = some y) (q : ∀ H1, Ex H H1 → D.rt y (upd H1 l (.lst xs.dropLast))) : tRet (tBM0 K "list" rPop te) D σ H := v_pop h hl hy q
end
section
variable {P : Program} {w : World} {K : PySem.W.Frag} {mg : Str → Option Value} {base : Heap} {C : Addr}
/-! ### back -/
theorem scBack : FnScope ["self", "number", "side", "chain"] ["self"] (defScope (sTab 3)) := ⟨rfl, rfl, rfl, by decide +kernel, rfl, by decide +kernel, by decide +kernel⟩
def spBack (C : Addr) (R : Nat → Addr) : Sp := fun vs H Q E => ∃ (o : Addr) (A : TAd) (T : Tb), vs = [.ref o] ∧ TabAt C o A T H ∧ (T.st = [] → ∀ H2, Ex H H2 → E (.ref (R 5)) none H2) ∧
  (T.st ≠ [] → ∀ v A' T' H', Next C o A A' T' H H' → T'.st.length + 1 = T.st.length → Q v H')
theorem ok_back {f : Addr} {R : Nat → Addr} {fd : FuncData} (F : Fun K "back" "Table.back" (sTab 3) f fd) (X : TxtT K mg C) (mL : mg "len" = none) (E5 : ErrC K (R 5)) (g5 : mg "NoDeed" = some (.ref (R 5))) : FnOk P w K mg base (L2.CX P w) 1 f fd ["self"] (spBack C R) := by
  refine F.okX scBack (fun vs H Q E h => ?_) (fun cdv A outer s H vs Q E hr h => ?_)
  · obtain ⟨o, A, T, rfl, _⟩ := h
    rfl
  · obtain ⟨o, A, T, rfl, t, qe, q⟩ := h
    refine ⟨_, pss_cons (ps_if (pt_cmpR op_eq (pe_callB (r := Evl.rLenS K) call_len_seq (by rfl) mL boot_len (pa_cons (pe_fld (pv 0) rfl) pa_nil)) pe_int (nomark _)) (pss_one (ps_raise rfl (takes_of rfl rfl rfl rfl) (pmk_own PySem.F.excBase_ValueError E5.x g5 E5.k (raises_own E5.e.hs E5.t) (by exact rfl)))) pss_nil)
      (pss_cons (ps_asg (pe_bm0 PySem.F.plainAttrs_list PySem.F.slot_list_pop PySem.F.type_list_pop mt_pop (pe_fld (pv 0) rfl)) (pg_tup rfl (pgs_cons (pg_name (i := 1) scBack.nd rfl (.inl rfl)) (pgs_cons (pg_name (i := 2) scBack.nd rfl (.inl rfl)) pgs_nil))))
      (pss_cons (ps_set (i := 3) scBack.nd rfl (.inl rfl) (pe_ix (r := rIxL K) ix_list (pe_fld (pv 0) rfl) (pv 1) (fun _ _ => rfl)))
      (pss_cons (ps_if (pt_cmpR op_eq (pv 2) pe_str (nomark _)) (pss_one (ps_delL (pv 3) pe_int)) (pss_one (ps_delL (pv 3) (pe_un un_neg pe_int))))
      (pss_cons (ps_if (pt_cmpR op_eq (pe_callB (r := Evl.rLenS K) call_len_seq (by rfl) mL boot_len (pa_cons (pv 3) pa_nil)) pe_int (nomark _)) (pss_one (ps_delL (pe_fld (pv 0) rfl) (pv 1))) pss_nil)
      (pss_one (ps_ret (pe_bm0 PySem.F.plainAttrs_list PySem.F.slot_list_pop PySem.F.type_list_pop mt_pop (pe_fld (pv 0) rfl)))))))), ?_⟩
    have dl := t.re.deeds
    obtain ⟨td, d1, d2⟩ := t.dd
    have eqI : ∀ {σ : L2.St} {H : Hp} {te : TE} {x : Int} (y : Int), Ev te σ H (.int x) → EvT (tTest (tOp rEq te (tC (.int y)))) σ H (decide (x = y)) := fun {σ H te x} y h => Evl.et_test (Evl.ev_is (Evl.ev_op h Evl.ev_c (Evl.rv_eq rfl)) (decV ⟨fun h => V.int.inj h, fun h => by rw [h]⟩))
    refine Evl.q_when (eqI 0 (Evl.ev_is (w := .int (T.st.length : Int)) (Evl.ev_len (K := K) (ev_dL X (Evl.ev_var rfl) t) (SqL.of d1)) (by rw [List.length_map, d2.1, dl]))) (fun hb H1 e1 => qe (List.length_eq_zero_iff.mp (by have := of_decide_eq_true hb; omega)) H1 e1) fun hb H1 e1 => ?_
    have hb := of_decide_eq_false hb
    have hne : T.st ≠ [] := fun z => hb (by rw [z]; rfl)
    have dne : T.ds ≠ [] := fun z => by
      rw [z] at dl
      exact hne (List.length_eq_zero_iff.mp dl.symm)
    obtain ⟨T0, s0, n, right, re0, es, ed, nl, eb⟩ := t.re.back dne
    have gn : T.cs.getD n [] = T.cs[n] := by rw [List.getD_eq_getElem?_getD, List.getElem?_eq_getElem nl]; rfl
    unfold backC at eb
    rw [gn] at eb
    obtain ⟨hc, _, hc60⟩ := t.re.chains _ (List.getElem_mem nl)
    have hc60 : T.cs[n].length ≤ 60 := Nat.le_trans hc60 t.go.1
    have t1 := t.m.ex e1
    have dp : 0 < td.length := by
      rw [d2.1, ed, List.length_append]
      exact Nat.succ_pos _
    have lx : td.length - 1 < td.length := by omega
    have hdp : DeedC H1 td[td.length - 1] (n, right) := e1 _ _ (d2.2 (td.length - 1) _ (n, right) (List.getElem?_eq_getElem lx) (by
      rw [show td.length = T.ds.length from d2.1, ed, List.length_append]
      show (T0.ds ++ [(n, right)])[T0.ds.length + 1 - 1]? = _
      rw [Nat.add_sub_cancel, List.getElem?_append_right (Nat.le_refl _), Nat.sub_self]
      rfl))
    -- number, side = self._deeds.pop()
    refine q_popG (y := .ref td[td.length - 1]) (ev_dM X (Evl.ev_var rfl) t1) (e1 _ _ d1) (by rw [List.length_map, List.getElem?_map, List.getElem?_eq_getElem lx]; rfl) fun H2 e2 => ?_
    have e02 := e1.trans e2
    have t2 := t1.ex e2
    have d3 : All2 (DeedC H2) td.dropLast T0.ds := by
      have h := All2.init (R := DeedC H2) (All2.imp (R := DeedC H) d2 fun _ _ h => e02 _ _ h)
      rw [ed, List.dropLast_concat] at h
      exact h
    have t3 := t2.chgD d3
    have m3 : Mv A A H (upd H2 A.dL (.lst (td.dropLast.map V.ref))) := (Mv.of e02).trans (Mv.put (List.mem_cons_of_mem _ (List.mem_cons_of_mem _ List.mem_cons_self)) (e02 _ _ d1))
    have hdp3 := (Mv.put (A := A) (ys := td.dropLast.map V.ref) (List.mem_cons_of_mem _ (List.mem_cons_of_mem _ List.mem_cons_self)) (e02 _ _ d1)).tu _ _ (e2 _ _ hdp)
    rw [show (td.map V.ref).dropLast = td.dropLast.map V.ref from by rw [List.map_dropLast]]
    generalize upd H2 A.dL (.lst (td.dropLast.map V.ref)) = H3 at t3 m3 hdp3
    refine ⟨_, [.int (n : Int), .str (sideS right)], rfl, SqT.of hdp3, rfl, .int (n : Int), [.str (sideS right)], rfl, .str (sideS right), [], rfl, rfl, ?_⟩
    -- chain = self._chains[number]
    have np : n < A.ps.length := by rw [t.ch.1]; exact nl
    have pm : A.ps[n] ∈ A.cells := List.mem_cons_of_mem _ (List.mem_cons_of_mem _ (List.mem_cons_of_mem _ (List.getElem_mem np)))
    refine Evl.q_asg (Evl.ev_op (ev_cM X (Evl.ev_var rfl) t3) (Evl.ev_var rfl) (Evl.rv_ixL (K := K) (v := .ref A.ps[n]) (SqL.of t3.cl) (atI_nat (by rw [List.getElem?_map, List.getElem?_eq_getElem np]; rfl)))) fun H4 e4 => ?_
    have t4 := t3.ex e4
    obtain ⟨us, u1, u2⟩ := t4.ch.2 n _ _ (List.getElem?_eq_getElem np) (List.getElem?_eq_getElem nl)
    have ul : us.length = T.cs[n].length := by rw [u2.1, castS_len]
    have cp : 0 < T.cs[n].length := List.length_pos_iff.mpr hc
    have sl : decide (sideS right = leftS) = !right := by cases right <;> decide +kernel
    -- behind the deletion in the chain
    have go5 : ∀ (tz : TS) (D : Ends) (H5 : Hp), (∀ H6, TabM C o A ⟨T.st, T.cs.set n (shrunk T.cs[n] right), T0.ds⟩ H6 → (∃ vs : List Addr, H6 A.ps[n] = some (.lst (vs.map V.ref)) ∧ vs.length = (shrunk T.cs[n] right).length) → Mv A A H H6 → tz D [some (.ref o), some (.int (n : Int)), some (.str (sideS right)), some (.ref A.ps[n])] H6) →
        Ex H4 H5 → tz D [some (.ref o), some (.int (n : Int)), some (.str (sideS right)), some (.ref A.ps[n])] (upd H5 A.ps[n] (.lst ((us.map V.ref).eraseIdx (lastK T.cs[n] right)))) := fun tz D H5 k e5 => by
      have t5 := t4.ex e5
      have u15 := e5 _ _ u1
      have sh : All2 (PairC H5) (us.eraseIdx (lastK T.cs[n] right)) (castS (shrunk T.cs[n] right)) := by
        rw [shrunk_erase hc]
        have h := All2.erase (R := PairC H5) (All2.imp (R := PairC H4) u2 fun _ _ h => e5 _ _ h) (lastK T.cs[n] right)
        unfold castS at h ⊢
        rw [map_erase] at h
        exact h
      rw [map_erase]
      refine k _ (t5.chgP (List.getElem?_eq_getElem np) u15 sh) ⟨_, upd_same, by rw [sh.1, castS_len]⟩ ((m3.trans (Mv.of (e4.trans e5))).trans (Mv.put pm u15))
    have hT : (⟨T0.st, T0.cs, T0.ds⟩ : Tb) = T0 := rfl
    have fin : ∀ (A' : TAd) (H8 : Hp), TabM C o A' ⟨T.st, T0.cs, T0.ds⟩ H8 → Mv A A' H H8 → tRet (tBM0 K "list" rPop (tFld K (tVar 0) "_stones")) { nx := fun _ H' => Q .non H', rt := Q } [some (.ref o), some (.int (n : Int)), some (.str (sideS right)), some (.ref A.ps[n])] H8 := fun A' H8 t8 m8 => by
      obtain ⟨ss, s1, s2⟩ := t8.st
      have sp : 0 < ss.length := by
        rw [s2.1]
        exact List.length_pos_iff.mpr hne
      refine r_pop (y := .ref ss[ss.length - 1]) (ev_sM X (Evl.ev_var rfl) t8) s1 (by rw [List.length_map, List.getElem?_map, List.getElem?_eq_getElem (by omega)]; rfl) fun H9 e9 => ?_
      have t9 := t8.ex e9
      have s3 : All2 (PairC H9) ss.dropLast T0.st := by
        have h := All2.init (R := PairC H9) (All2.imp (R := PairC H8) s2 fun _ _ h => e9 _ _ h)
        rw [es, List.dropLast_concat] at h
        exact h
      rw [show (ss.map V.ref).dropLast = ss.dropLast.map V.ref from by rw [List.map_dropLast]]
      refine q hne _ A' T0 _ ⟨(t9.chgS s3).to ⟨?_, fun x hx => t.go.2 x (by rw [es]; exact List.mem_append_left _ hx)⟩ re0, (m8.trans (Mv.of e9)).trans (Mv.put List.mem_cons_self (e9 _ _ s1))⟩ ?_
      · have := t.go.1
        rw [es, List.length_append] at this
        exact Nat.le_of_succ_le this
      · rw [es, List.length_append]
        rfl
    have rest : ∀ H6, TabM C o A ⟨T.st, T.cs.set n (shrunk T.cs[n] right), T0.ds⟩ H6 → (∃ vs : List Addr, H6 A.ps[n] = some (.lst (vs.map V.ref)) ∧ vs.length = (shrunk T.cs[n] right).length) → Mv A A H H6 →
        tSeq (tIfS (tTest (tOp rEq (tCB (Evl.rLenS K) (tCons (tVar 3) tNil)) (tC (.int 0)))) (tDelL (tFld K (tVar 0) "_chains") (tVar 1)) tNext) (tRet (tBM0 K "list" rPop (tFld K (tVar 0) "_stones"))) { nx := fun _ H' => Q .non H', rt := Q } [some (.ref o), some (.int (n : Int)), some (.str (sideS right)), some (.ref A.ps[n])] H6 := fun H6 t6 ⟨vs, v1, v2⟩ m6 => by
      refine Evl.q_when (eqI 0 (Evl.ev_is (w := .int ((shrunk T.cs[n] right).length : Int)) (Evl.ev_len (K := K) (Evl.ev_var rfl) (SqL.of v1)) (by rw [List.length_map, v2]))) (fun hb H7 e7 => ?_) fun hb H7 e7 => ?_
      · have hz : shrunk T.cs[n] right = [] := List.length_eq_zero_iff.mp (by have := of_decide_eq_true hb; omega)
        have t7 := t6.ex e7
        refine s_delL (ev_cM X (Evl.ev_var rfl) t7) (Evl.ev_var rfl) t7.cl (by omega) ?_ (seq_here (by rw [List.length_map]; exact np)) fun H8 e8 => ?_
        · have := t.re.few
          have := t.go.1
          omega
        · have t8 := t7.ex e8
          have ch := All2.erase (R := fun p c => StonesAt H8 p (castS c)) t8.ch n
          have cc : (T.cs.set n (shrunk T.cs[n] right)).eraseIdx n = T0.cs := by
            rw [if_pos hz] at eb
            rw [← eb, List.eraseIdx_set_eq]
          dsimp only at ch
          rw [cc] at ch
          have sub := ((((List.eraseIdx_sublist A.ps n).cons₂ A.dL).cons₂ A.cL).cons₂ A.sL)
          have t9 := t8.chgC (ps' := A.ps.eraseIdx n) ch (t8.nd.sublist sub)
          rw [map_erase]
          refine fin _ _ t9 (((m6.trans (Mv.of (e7.trans e8))).trans (Mv.put (List.mem_cons_of_mem _ List.mem_cons_self) t8.cl)).trans (Mv.less fun a ha => sub.subset ha))
      · have hz : shrunk T.cs[n] right ≠ [] := fun z => of_decide_eq_false hb (by rw [z]; rfl)
        rw [if_neg hz] at eb
        rw [eb] at t6
        exact fin A H7 (t6.ex e7) (m6.trans (Mv.of e7))
    refine Evl.q_if (b := !right) (Evl.et_test (Evl.ev_is (Evl.ev_op (Evl.ev_var (i := 2) (v := .str (sideS right)) rfl) Evl.ev_c (Evl.rv_eq rfl)) ((decV (P := sideS right = leftS) ⟨fun h => V.str.inj h, fun h => by rw [h]⟩).trans (congrArg V.bl sl)))) (fun hb H5 e5 => ?_) (fun hb H5 e5 => ?_)
    · rw [Bool.not_eq_true'] at hb
      refine s_delL (k := 0) (i := 0) (Evl.ev_var rfl) Evl.ev_c (e5 _ _ u1) (by decide) (by decide) (seq_here (n := 0) (by rw [List.length_map]; omega)) fun H6 e6 => ?_
      have g := go5 _ _ H6 rest (e5.trans e6)
      rw [show lastK T.cs[n] right = 0 from by unfold lastK; rw [hb]; rfl] at g
      exact g
    · have hb : right = true := by cases right <;> first | rfl | cases hb
      refine s_delL (k := us.length - 1) (i := -1) (Evl.ev_var rfl) (Evl.ev_un Evl.ev_c Evl.ru_neg) (e5 _ _ u1) (by decide) (by decide) ?_ fun H6 e6 => ?_
      · rw [List.length_map]
        exact seq_last (by omega)
      have g := go5 _ _ H6 rest (e5.trans e6)
      rw [show lastK T.cs[n] right = us.length - 1 from by unfold lastK; rw [hb, ul]; rfl] at g
      exact g
end
end Sw
namespace Sw
open PySem PySem.Spec PyProof.Rows L2
open Evl (Ex Ex.refl Ex.trans Ex.new Ex.mut ex_l ex_t ex_rd fresh_back Ev EvL EvU EvT EvA RV RC RCL SpV SpL)
section
variable {P : Program} {w : World} {K : PySem.W.Frag} {mg : Str → Option Value} {base : Heap} {C : Addr}
/-! ### fits -/
theorem ev_fullM {σ : L2.St} {H : Hp} {E : XK} {i : Nat} {o : Addr} {A : TAd} {T : Tb} (hi : σ[i]? = some (some (.ref o))) (t : TabAt C o A T H) : Ev (tMeth C "_is_full" (spFullM C) [] E (tVar i) tNil) σ H (.bl (decide (60 ≤ T.st.length))) := fun H1 e Q q =>
  ⟨_, hi, o, A.dx, _, rfl, (t.ex e).ob, tF_no (by decide +kernel) (by decide +kernel) (by decide +kernel), o, A, T, rfl, t.ex e, q⟩
theorem pv_fitting {H : Hp} {te ts : Addr} {e s : Int × Int} (right : Bool) (he : H te = some (.tup [.int e.1, .int e.2])) (hs : H ts = some (.tup [.int s.1, .int s.2])) : Evl.SpV spFitting [.ref te, .str (sideS right), .ref ts] H (fitV e right s) := fun H1 e1 Q q _ => ⟨te, ts, e, s, right, rfl, e1 _ _ he, e1 _ _ hs, q⟩
theorem DeedC.ex {H H' : Hp} {t : Addr} {d : Nat × Bool} (e : Ex H H') (h : DeedC H t d) : DeedC H' t d := e _ _ h
theorem et_notN {σ : L2.St} {H : Hp} {te : TE} {v : V} (h : Ev te σ H v) : EvT (tTest (tOp (fun x y H Q => y = .non ∧ Q (.bl (!decide (x = .non))) H) te (tC .non))) σ H (!decide (v = .non)) := fun H1 e Q q => h H1 e _ fun H2 e2 => ⟨rfl, _, rfl, q H2 e2⟩
theorem scFits : FnScope ["self", "stone", "found", "number", "ends", "side"] ["self", "stone"] (defScope (sTab 6)) := ⟨rfl, rfl, rfl, by decide +kernel, rfl, by decide +kernel, by decide +kernel⟩
def FitsP (T : Tb) (s : Int × Int) (ds : List (Nat × Bool)) : Prop := ∀ e ∈ ds, T.st.length < 60 ∧ e.1 < T.cs.length ∧ fitC T e.1 e.2 s ≠ .non
def spFits (C : Addr) (R : Nat → Addr) : Sp := fun vs H Q E => ∃ (o : Addr) (A : TAd) (T : Tb) (v : V) (d : PyData), vs = [.ref o, v] ∧ TabAt C o A T H ∧ Dt H v d ∧ (stoneB d = false → ∀ H2, Ex H H2 → E (.ref (R 0)) none H2) ∧
  (∀ s, d = dPair s → GoodS s → ∀ p H2 ds, Ex H H2 → DeedsAt H2 p ds → ds.length ≤ 200 → FitsP T s ds → Q (.ref p) H2)
theorem ok_fits {f fS fF fE fG pS : Addr} {R : Nat → Addr} {fd fdS fdF fdE fdG : FuncData} (F : Fun K "fits" "Table.fits" (sTab 6) f fd) (X : TxtT K mg C) (mL : mg "len" = none) (mRa : mg "range" = none)
    (GS : FnOk P w K mg base (L2.CX P w) 3 fS fdS ["thing"] (spNeed1 (R 0))) (gS : mg "need_stone" = some (.ref fS)) (kS : PySem.W.keepIn K (.ref fS) = true) (bS : Binds K fdS ["thing"] [])
    (GF : FnOk P w K mg base CX0 1 fF fdF ["self"] (spFullM C)) (mF : Meth K C "_is_full" fF) (bF : Binds K fdF ["self"] [])
    (GE : FnOk P w K mg base (L2.CX P w) 5 fE fdE ["self", "number"] (spEndsM C (R 2))) (mE : Meth K C "open_ends" fE) (bE : Binds K fdE ["self", "number"] [])
    (GG : FnOk P w K mg base CX0 2 fG fdG ["ends", "side", "stone"] spFitting) (gG : mg "_fitting" = some (.ref fG)) (kG : PySem.W.keepIn K (.ref fG) = true) (bG : Binds K fdG ["ends", "side", "stone"] [])
    (gSi : mg "SIDES" = some (.ref pS)) (hSi : SidesAt K pS) : FnOk P w K mg base (L2.CX P w) 6 f fd ["self", "stone"] (spFits C R) := by
  refine F.okX scFits (fun vs H Q E h => ?_) (fun cdv A outer s H vs Q E hr h => ?_)
  · obtain ⟨o, A, T, v, d, rfl, _⟩ := h
    rfl
  · obtain ⟨o, A, T, v, d, rfl, t, hd, qe, q⟩ := h
    have hr3 : Room 3 _ := hr.mono (by decide)
    have hr2 : Room 2 _ := hr.mono (by decide)
    have hr1 : Room 1 _ := hr.mono (by decide)
    refine ⟨_, pss_cons (ps_expr (pe_callS GS hr3 (by rfl) gS kS bS (fun σ => passAt (W := fun c d _ H => E c d H) (takes_of rfl rfl rfl rfl) σ) (pa_cons (pv 1) pa_nil)))
      (pss_cons (ps_if (pt_val (pe_meth0 (E := E0) (pv 0) X.cl mF GF hr1 bF .nil pass0)) (pss_one (ps_ret (pe_lst pa_nil))) pss_nil)
      (pss_cons (ps_set (i := 2) scFits.nd rfl (.inl rfl) (pe_lst pa_nil))
      (pss_cons (ps_for (passes_of rfl) rfl (pi_range1 (by rfl) mRa (pa_cons (pe_callB (r := Evl.rLenS K) call_len_seq (by rfl) mL boot_len (pa_cons (pe_fld (pv 0) rfl) pa_nil)) pa_nil)) (pg_name (i := 3) scFits.nd rfl (.inr rfl))
        (pss_cons (ps_set (i := 4) scFits.nd rfl (.inr rfl) (pe_meth (E := E) (pv 0) X.cl mE GE hr bE .nil (passes_call (W := fun c d _ H => E c d H) (takes_of rfl rfl rfl rfl) (fun _ _ _ _ h => h)) (pa_cons (pv 3) pa_nil)))
        (pss_one (ps_expr (pe_bm PySem.F.plainAttrs_list PySem.F.slot_list_extend PySem.F.type_list_extend mt_extend (pv 2) (pa_cons (pe_lc (own := [("side", 5)]) (g := gName 5) (tt := tTest (tOp (fun x y H Q => y = .non ∧ Q (.bl (!decide (x = .non))) H) (tCall spFitting [] E0 (tCons (tVar 4) (tCons (tVar 5) (tCons (tVar 1) tNil)))) (tC .non))) (te := tTup (tCons (tVar 3) (tCons (tVar 5) tNil))) rfl scFits.nd (pi_tup (pe_glob (v := .ref pS) (by rfl) gSi rfl))
            (blkOk_by (own := [("side", 5)]) (N := ["self", "stone", "found", "number", "ends", "side"]) (sc := defScope (sTab 6)) (by decide +kernel)) (fun _ _ _ _ _ => pg_name (i := 5) scFits.nd rfl (Or.inl rfl))
            (fun _ _ _ _ _ => pts_one (pt_cmpR op_notN (pe_call GG hr2 (by rfl) gG kG bG .nil pass0 (pa_cons (pv 4) (pa_cons (pv 5) (pa_cons (pv 1) pa_nil)))) pe_non (by rfl))) (fun _ _ _ _ _ => pe_tup (pa_cons (pv 3) (pa_cons (pv 5) pa_nil)))) pa_nil))))))
      (pss_one (ps_ret (pv 2)))))), ?_⟩
    refine ⟨_, rfl, v, d, rfl, hd, fun h0 H1 e1 => ?_, fun h0 => qe h0⟩
    obtain ⟨sn, rfl, g⟩ := stone_get h0
    obtain ⟨ts, u, z, rfl, hts, hu, hz⟩ := dt_two hd
    cases hu
    cases hz
    have t1 := t.ex e1
    dsimp only
    refine Evl.q_when (b := decide (60 ≤ T.st.length)) ?_ ?_ ?_
    · exact Evl.et_B (ev_fullM rfl t1)
    · intro hb H2 e2
      exact Evl.s_retL (xs := []) (Evl.el_lst Evl.ea_nil (by show 0 ≤ _; decide)) fun p H3 np e3 hp => q sn rfl g p H3 [] ((e1.trans e2).trans e3) ⟨[], hp, All2.nil⟩ (by decide) fun e h => nomatch h
    intro hb H2 e2
    have l60 : T.st.length < 60 := by have := of_decide_eq_false hb; omega
    have fw := t.re.few
    refine Evl.q_asgL (xs := []) (Evl.el_lst Evl.ea_nil (by show 0 ≤ _; decide)) fun p H3 np e3 hp => ?_
    have e02 := e1.trans e2
    have t3 := t.ex (e02.trans e3)
    refine Evl.q_forR1 (n := (T.cs.length : Int)) (Evl.ea_cons (Evl.ev_is (Evl.ev_len (K := K) (ev_cL X (Evl.ev_var rfl) t3) (SqL.of t3.cl)) (by rw [List.length_map, t3.ch.1])) Evl.ea_nil) (by omega)
      (fun i σ' H' => ∃ (tt : List Addr) (ds : List (Nat × Bool)), Ex H2 H' ∧ H' p = some (.lst (tt.map V.ref)) ∧ All2 (DeedC H') tt ds ∧ tt.length ≤ 2 * i ∧ FitsP T sn ds ∧ ∃ x3 x4 x5 : Option V, σ' = [some (.ref o), some (.ref ts), some (.ref p), x3, x4, x5])
      (fun H4 e4 => ⟨[], [], e3.trans e4, e4 _ _ hp, All2.nil, Nat.zero_le _, (fun e h => nomatch h), _, _, _, rfl⟩) ?_ ?_
    · rintro i σ' H4 hi ⟨tt, ds, e4, hp4, h24, l4, f4, x3, x4, x5, rfl⟩
      have hi : i < T.cs.length := by omega
      have t4 := t.ex (e02.trans e4)
      have hts4 := (e02.trans e4) _ _ hts
      obtain ⟨hc, _, _⟩ := t.re.chains _ (List.getElem_mem hi)
      refine ⟨_, rfl, o, _, _, rfl, t4.ob, tF_no (by decide +kernel) (by decide +kernel) (by decide +kernel), _, rfl, o, A, T, _, .int (i : Int), rfl, t4, .int _, fun n' c hn' hdn hc' z H5 nz e5 hz => ?_, fun h => ?_⟩
      · have nn : n' = i := by
          have := PyData.int.inj hdn
          omega
        subst nn
        rw [List.getElem?_eq_getElem hi] at hc'
        obtain rfl := Option.some.inj hc'
        have fc : ∀ right, fitC T n' right sn = fitV (endsT T.st T.cs[n'] hc) right sn := fun right => by
          unfold fitC
          rw [List.getElem?_eq_getElem hi]
          dsimp only
          rw [dif_pos hc]
        have hts5 := e5 _ _ hts4
        have hp5 := e5 _ _ hp4
        refine ⟨_, rfl, .inl ⟨rfl, _, SqL.of hp5⟩, pS, rfl, ⟨_, hSi H5⟩, fun D nD => ?_⟩
        have Dp : D ≠ p := fun z => by
          rw [z, hp5] at nD
          cases nD
        refine lc_tup (xs := [.str leftS, .str rightS]) (fun j H' => ∃ (t2 : List Addr) (d2 : List (Nat × Bool)), Ex H5 H' ∧ H' D = some (.lst (t2.map V.ref)) ∧ All2 (DeedC H') t2 d2 ∧ t2.length ≤ j ∧ FitsP T sn d2)
          ⟨[], [], Ex.new nD, upd_same, All2.nil, Nat.zero_le _, fun e h => nomatch h⟩ (fun j H' _ _ => hSi H') ?_ ?_
        · rintro j x H6 hx ⟨t2, d2, e6, hD, h26, l6, f6⟩
          have jl : j < 2 := (List.getElem?_eq_some_iff.mp hx).1
          obtain ⟨right, rfl⟩ : ∃ right, x = .str (sideS right) := by
            match j, hx with
            | 0, hx => exact ⟨false, (Option.some.inj hx).symm⟩
            | 1, hx => exact ⟨true, (Option.some.inj hx).symm⟩
            | j + 2, hx => simp at hx
          refine ⟨rfl, ?_⟩
          refine et_notN (Evl.ev_call (dvs := []) (Evl.ea_cons (Evl.ev_var (i := 4) rfl) (Evl.ea_cons (Evl.ev_var (i := 5) rfl) (Evl.ea_cons (Evl.ev_var (i := 1) rfl) Evl.ea_nil))) (pv_fitting right (e6 _ _ hz) (e6 _ _ hts5))) H6 (Ex.refl H6) _ fun H7 e7 => ?_
          rw [← fc]
          by_cases c : fitC T n' right sn = .non
          · rw [decide_eq_true c]
            refine iteF ?_
            exact ⟨t2, d2, e6.trans e7, e7 _ _ hD, All2.imp h26 fun _ _ => DeedC.ex e7, by omega, f6⟩
          · rw [decide_eq_false c]
            refine iteT ?_
            refine Evl.eu_tup (vs := [.int (n' : Int), .str (sideS right)]) (Evl.ea_cons (Evl.ev_var (i := 3) rfl) (Evl.ea_cons (Evl.ev_var (i := 5) rfl) Evl.ea_nil)) (by show 2 ≤ _; decide) H7 (Ex.refl H7) _ fun y H8 ny e8 hy => ?_
            have hD8 := e8 _ _ (e7 _ _ hD)
            refine ⟨_, hD8, by rw [List.length_map]; exact small1000 (by omega), t2 ++ [y], d2 ++ [(n', right)], Ex.mut ((e6.trans e7).trans e8) nD, by rw [upd_same, List.map_append]; rfl, ?_, by rw [List.length_append]; exact Nat.succ_le_succ l6, fun e he => ?_⟩
            · refine All2.imp (R := DeedC H8) ((All2.imp h26 fun _ _ h => DeedC.ex (e7.trans e8) h).app (.one (x := y) (y := (n', right)) hy)) fun _ _ h => DeedC.keep hD8 h
            · rcases List.mem_append.mp he with he | he
              · exact f6 e he
              · rw [List.mem_singleton.mp he]
                exact ⟨l60, hi, c⟩
        · rintro H6 ⟨t2, d2, e6, hD, h26, l6, f6⟩
          have hp6 := e6 _ _ hp5
          have l6 : t2.length ≤ 2 := l6
          refine ⟨p, D, tt.map V.ref, t2.map V.ref, rfl, rfl, hp6, hD, ?_, tt ++ t2, ds ++ d2, Ex.mut ((e4.trans e5).trans e6) np, by rw [upd_same, List.map_append], ?_, by rw [List.length_append]; omega, fun e he => ?_, _, _, _, rfl⟩
          · rw [List.length_map, List.length_map]
            exact Nat.le_of_lt (small1000 (by omega))
          · exact All2.imp (R := DeedC H6) ((All2.imp h24 fun _ _ h => DeedC.ex (e5.trans e6) h).app h26) fun _ _ h => DeedC.keep hp6 h
          · rcases List.mem_append.mp he with he | he
            · exact f4 e he
            · exact f6 e he
      · rw [num_is hi] at h
        cases h
    · rintro σ' H4 ⟨tt, ds, e4, hp4, h24, l4, f4, x3, x4, x5, rfl⟩
      refine ⟨_, rfl, q sn rfl g p H4 ds (e02.trans e4) ⟨tt, hp4, h24⟩ ?_ f4⟩
      have := h24.1
      rw [Int.toNat_natCast] at l4
      omega
end
end Sw
namespace Sw
open PySem PySem.Spec PyProof.Rows L2
open Evl (Ex Ex.refl Ex.trans Ex.new Ex.mut ex_l ex_t ex_rd fresh_back Ev EvL EvU EvT EvA RV RC RCL SpV SpL)
/-! ### what is due -/
def wPut : Str := "put"
def wBegin : Str := "begin"
def wFits : Str := "fits"
def wChain : Str := "chain"
def wEnds : Str := "ends"
def wBack : Str := "back"
def due9 (T : Tb) (w : Str) (dn ds dt : PyData) : Option Nat :=
  if w = wPut then putDue T dn ds dt else if w = wBegin then begDue T dt else if w = wFits then (if stoneB dt = false then some 0 else none)
  else if w = wChain then (if numB dn ((T.cs.length : Int) - 1) = false then some 2 else none) else if w = wEnds then (if numB dn ((T.cs.length : Int) - 1) = false then some 2 else none)
  else if T.st = [] then some 5 else none
theorem et_eqS {σ : L2.St} {H : Hp} {te : TE} {x : Str} (y : Str) (h : Ev te σ H (.str x)) : EvT (tTest (tOp rEq te (tC (.str y)))) σ H (decide (x = y)) := Evl.et_test (Evl.ev_is (Evl.ev_op h Evl.ev_c (Evl.rv_eq rfl)) (decV ⟨fun h => V.str.inj h, fun h => by rw [h]⟩))
theorem beg_due {T : Tb} {d : PyData} (h : begDue T d = none) : ∃ s, d = dPair s ∧ GoodS s ∧ T.st.length < 60 := by
  unfold begDue at h
  split at h
  · cases h
  · rename_i k
    split at h
    · cases h
    · rename_i l
      obtain ⟨s, e, g⟩ := stone_get (d := d) (by cases hb : stoneB d <;> first | rfl | exact absurd hb k)
      exact ⟨s, e, g, by omega⟩
theorem put_due {T : Tb} {dn ds dt : PyData} (h : putDue T dn ds dt = none) : ∃ (n : Nat) (right : Bool) (s : Int × Int) (tn : Nat), dn = .int (n : Int) ∧ ds = .str (sideS right) ∧ dt = dPair s ∧ GoodS s ∧ n < T.cs.length ∧ fitC T n right s = .int (tn : Int) ∧ tn ≤ 1 ∧ T.st.length < 60 := by
  have h0 : stoneB dt = true := by
    cases hb : stoneB dt with
    | true => rfl
    | false =>
      rw [put_due0 hb] at h
      cases h
  have h1 : T.st.length < 60 := by
    refine Nat.lt_of_not_le fun k => ?_
    rw [put_due1 h0 k] at h
    cases h
  have h2 : numB dn ((T.cs.length : Int) - 1) = true := by
    cases hb : numB dn ((T.cs.length : Int) - 1) with
    | true => rfl
    | false =>
      rw [put_due2 h0 h1 hb] at h
      cases h
  have h3 : sideB ds = true := by
    cases hb : sideB ds with
    | true => rfl
    | false =>
      rw [put_due3 h0 h1 h2 hb] at h
      cases h
  rw [put_due4 h0 h1 h2 h3] at h
  obtain ⟨s, rfl, g⟩ := stone_get h0
  obtain ⟨n, rfl, nl⟩ := num_get h2
  obtain ⟨right, rfl⟩ := side_get h3
  rw [fitD_is] at h
  rcases fitC_cases T n right s with z | ⟨tn, t1, z⟩
  · rw [if_pos z] at h
    cases h
  · exact ⟨n, right, s, tn, rfl, rfl, rfl, g, nl, z, t1, h1⟩
section
variable {P : Program} {w : World} {K : PySem.W.Frag} {mg : Str → Option Value} {base : Heap} {C : Addr}
/-! ### _law_asked -/
theorem scAsked9 : FnScope ["_law_table_here", "_law_word_here", "_law_number", "_law_side", "_law_stone"] ["_law_table_here", "_law_word_here", "_law_number", "_law_side", "_law_stone"] (defScope s_law_asked) := ⟨rfl, rfl, rfl, by decide +kernel, rfl, by decide +kernel, by decide +kernel⟩
def spAsked9 (C : Addr) (R : Nat → Addr) : Sp := fun vs H Q E => ∃ (o : Addr) (A : TAd) (T : Tb) (x : Str) (vn vs' vt : V) (dn ds dt : PyData), vs = [.ref o, .str x, vn, vs', vt] ∧ TabAt C o A T H ∧ Dt H vn dn ∧ Dt H vs' ds ∧ Dt H vt dt ∧
  (∀ r, due9 T x dn ds dt = some r → ∀ H2, Ex H H2 → E (.ref (R r)) none H2) ∧ (due9 T x dn ds dt = none → ∀ v A' T' H', Next C o A A' T' H H' → Q v H')
theorem ok_asked9 {f fP fB fF fC fE fK : Addr} {R : Nat → Addr} {fd fdP fdB fdF fdC fdE fdK : FuncData} (F : Fun K "_law_asked" "_law_asked" s_law_asked f fd) (X : TxtT K mg C)
    (GP : FnOk P w K mg base (L2.CX P w) 6 fP fdP ["self", "number", "side", "stone"] (spPut9 C R)) (mP : Meth K C "put" fP) (bP : Binds K fdP ["self", "number", "side", "stone"] [])
    (GB : FnOk P w K mg base (L2.CX P w) 4 fB fdB ["self", "stone"] (spBegin C R)) (mB : Meth K C "begin" fB) (bB : Binds K fdB ["self", "stone"] [])
    (GF : FnOk P w K mg base (L2.CX P w) 6 fF fdF ["self", "stone"] (spFits C R)) (mF : Meth K C "fits" fF) (bF : Binds K fdF ["self", "stone"] [])
    (GC : FnOk P w K mg base (L2.CX P w) 4 fC fdC ["self", "number"] (spChainM C (R 2))) (mC : Meth K C "chain" fC) (bC : Binds K fdC ["self", "number"] [])
    (GE : FnOk P w K mg base (L2.CX P w) 5 fE fdE ["self", "number"] (spEndsM C (R 2))) (mE : Meth K C "open_ends" fE) (bE : Binds K fdE ["self", "number"] [])
    (GK : FnOk P w K mg base (L2.CX P w) 1 fK fdK ["self"] (spBack C R)) (mK : Meth K C "back" fK) (bK : Binds K fdK ["self"] []) :
    FnOk P w K mg base (L2.CX P w) 7 f fd ["_law_table_here", "_law_word_here", "_law_number", "_law_side", "_law_stone"] (spAsked9 C R) := by
  refine F.okX scAsked9 (fun vs H Q E h => ?_) (fun cdv A outer s H vs Q E hr h => ?_)
  · obtain ⟨o, A, T, x, vn, vs', vt, dn, ds, dt, rfl, _⟩ := h
    rfl
  · obtain ⟨o, A, T, x, vn, vs', vt, dn, ds, dt, rfl, t, hn, hs, ht, qe, q⟩ := h
    have hr5 : Room 5 _ := hr.mono (by decide)
    have hr4 : Room 4 _ := hr.mono (by decide)
    have hr1 : Room 1 _ := hr.mono (by decide)
    refine ⟨_, pss_cons (ps_if (pt_cmpR op_eq (pv 1) pe_str (nomark _)) (pss_one (ps_ret (pe_meth (E := E) (pv 0) X.cl mP GP hr bP .nil (passes_call (W := fun c d _ H => E c d H) (takes_of rfl rfl rfl rfl) (fun _ _ _ _ h => h)) (pa_cons (pv 2) (pa_cons (pv 3) (pa_cons (pv 4) pa_nil)))))) pss_nil)
      (pss_cons (ps_if (pt_cmpR op_eq (pv 1) pe_str (nomark _)) (pss_one (ps_ret (pe_meth (E := E) (pv 0) X.cl mB GB hr4 bB .nil (passes_call (W := fun c d _ H => E c d H) (takes_of rfl rfl rfl rfl) (fun _ _ _ _ h => h)) (pa_cons (pv 4) pa_nil)))) pss_nil)
      (pss_cons (ps_if (pt_cmpR op_eq (pv 1) pe_str (nomark _)) (pss_one (ps_ret (pe_meth (E := E) (pv 0) X.cl mF GF hr bF .nil (passes_call (W := fun c d _ H => E c d H) (takes_of rfl rfl rfl rfl) (fun _ _ _ _ h => h)) (pa_cons (pv 4) pa_nil)))) pss_nil)
      (pss_cons (ps_if (pt_cmpR op_eq (pv 1) pe_str (nomark _)) (pss_one (ps_ret (pe_meth (E := E) (pv 0) X.cl mC GC hr4 bC .nil (passes_call (W := fun c d _ H => E c d H) (takes_of rfl rfl rfl rfl) (fun _ _ _ _ h => h)) (pa_cons (pv 2) pa_nil)))) pss_nil)
      (pss_cons (ps_if (pt_cmpR op_eq (pv 1) pe_str (nomark _)) (pss_one (ps_ret (pe_meth (E := E) (pv 0) X.cl mE GE hr5 bE .nil (passes_call (W := fun c d _ H => E c d H) (takes_of rfl rfl rfl rfl) (fun _ _ _ _ h => h)) (pa_cons (pv 2) pa_nil)))) pss_nil)
      (pss_one (ps_ret (pe_meth0 (E := E) (pv 0) X.cl mK GK hr1 bK .nil (passes_call (W := fun c d _ H => E c d H) (takes_of rfl rfl rfl rfl) (fun _ _ _ _ h => h))))))))), ?_⟩
    refine Evl.q_when (et_eqS wPut (Evl.ev_var rfl)) (fun hb H1 e1 => ?_) fun hb H1 e1 => ?_
    · obtain rfl := of_decide_eq_true hb
      have t1 := t.ex e1
      refine ⟨_, rfl, o, _, _, rfl, t1.ob, tF_no (by decide +kernel) (by decide +kernel) (by decide +kernel), _, rfl, _, rfl, _, rfl, o, A, T, vn, vs', vt, dn, ds, dt, rfl, t1, Dt.ex e1 _ _ hn, Dt.ex e1 _ _ hs, Dt.ex e1 _ _ ht, fun r hd H2 e2 => qe r ((if_pos rfl).trans hd) H2 (e1.trans e2), fun n right s' tn hd _ _ _ _ _ _ _ _ A' H' nx => q ((if_pos rfl).trans hd) _ A' _ H' ⟨nx.t, (Mv.of e1).trans nx.m⟩⟩
    have n1 := of_decide_eq_false hb
    refine Evl.q_when (et_eqS wBegin (Evl.ev_var rfl)) (fun hb H2 e2 => ?_) fun hb H2 e2 => ?_
    · obtain rfl := of_decide_eq_true hb
      have e1 := e1.trans e2
      have t1 := t.ex e1
      have d2 : due9 T wBegin dn ds dt = begDue T dt := (if_neg n1).trans (if_pos rfl)
      refine ⟨_, rfl, o, _, _, rfl, t1.ob, tF_no (by decide +kernel) (by decide +kernel) (by decide +kernel), _, rfl, o, A, T, vt, dt, rfl, t1, Dt.ex e1 _ _ ht, fun r hd H2 e2 => qe r (d2.trans hd) H2 (e1.trans e2), fun s' hd _ _ _ A' H' nx => q (d2.trans hd) _ A' _ H' ⟨nx.t, (Mv.of e1).trans nx.m⟩⟩
    have n2 := of_decide_eq_false hb
    have e1 := e1.trans e2
    refine Evl.q_when (et_eqS wFits (Evl.ev_var rfl)) (fun hb H3 e3 => ?_) fun hb H3 e3 => ?_
    · obtain rfl := of_decide_eq_true hb
      have e1 := e1.trans e3
      have t1 := t.ex e1
      have d2 : due9 T wFits dn ds dt = if stoneB dt = false then some 0 else none := (if_neg n1).trans ((if_neg n2).trans (if_pos rfl))
      refine ⟨_, rfl, o, _, _, rfl, t1.ob, tF_no (by decide +kernel) (by decide +kernel) (by decide +kernel), _, rfl, o, A, T, vt, dt, rfl, t1, Dt.ex e1 _ _ ht, fun hb H2 e2 => qe 0 (d2.trans (if_pos hb)) H2 (e1.trans e2), fun s' hd g p H4 ds' e4 _ _ _ => q (d2.trans (if_neg (by rw [hd, stone_is g]; exact fun z => nomatch z))) _ A T H4 ⟨t1.ex e4, Mv.of (e1.trans e4)⟩⟩
    have n3 := of_decide_eq_false hb
    have e1 := e1.trans e3
    refine Evl.q_when (et_eqS wChain (Evl.ev_var rfl)) (fun hb H4 e4 => ?_) fun hb H4 e4 => ?_
    · obtain rfl := of_decide_eq_true hb
      have e1 := e1.trans e4
      have t1 := t.ex e1
      have d2 : due9 T wChain dn ds dt = if numB dn ((T.cs.length : Int) - 1) = false then some 2 else none := (if_neg n1).trans ((if_neg n2).trans ((if_neg n3).trans (if_pos rfl)))
      refine ⟨_, rfl, o, _, _, rfl, t1.ob, tF_no (by decide +kernel) (by decide +kernel) (by decide +kernel), _, rfl, o, A, T, vn, dn, rfl, t1, Dt.ex e1 _ _ hn, fun n c hd hc z H5 e5 _ => q (d2.trans (if_neg (by rw [hd, num_is (List.getElem?_eq_some_iff.mp hc).1]; exact fun z => nomatch z))) _ A T H5 ⟨t1.ex e5, Mv.of (e1.trans e5)⟩, fun hb H5 e5 => qe 2 (d2.trans (if_pos hb)) H5 (e1.trans e5)⟩
    have n4 := of_decide_eq_false hb
    have e1 := e1.trans e4
    refine Evl.q_when (et_eqS wEnds (Evl.ev_var rfl)) (fun hb H5 e5 => ?_) fun hb H5 e5 => ?_
    · obtain rfl := of_decide_eq_true hb
      have e1 := e1.trans e5
      have t1 := t.ex e1
      have d2 : due9 T wEnds dn ds dt = if numB dn ((T.cs.length : Int) - 1) = false then some 2 else none := (if_neg n1).trans ((if_neg n2).trans ((if_neg n3).trans ((if_neg n4).trans (if_pos rfl))))
      refine ⟨_, rfl, o, _, _, rfl, t1.ob, tF_no (by decide +kernel) (by decide +kernel) (by decide +kernel), _, rfl, o, A, T, vn, dn, rfl, t1, Dt.ex e1 _ _ hn, fun n c hn' hd hc z H6 _ e6 _ => q (d2.trans (if_neg (by rw [hd, num_is (List.getElem?_eq_some_iff.mp hc).1]; exact fun z => nomatch z))) _ A T H6 ⟨t1.ex e6, Mv.of (e1.trans e6)⟩, fun hb H6 e6 => qe 2 (d2.trans (if_pos hb)) H6 (e1.trans e6)⟩
    have n5 := of_decide_eq_false hb
    have e1 := e1.trans e5
    have t1 := t.ex e1
    have d2 : due9 T x dn ds dt = if T.st = [] then some 5 else none := (if_neg n1).trans ((if_neg n2).trans ((if_neg n3).trans ((if_neg n4).trans (if_neg n5))))
    exact ⟨_, rfl, o, _, _, rfl, t1.ob, tF_no (by decide +kernel) (by decide +kernel) (by decide +kernel), o, A, T, rfl, t1, fun hb H6 e6 => qe 5 (d2.trans (if_pos hb)) H6 (e1.trans e6), fun hb v A' T' H' nx _ => q (d2.trans (if_neg hb)) v A' T' H' ⟨nx.t, (Mv.of e1).trans nx.m⟩⟩
end
end Sw
namespace Sw
open PySem PySem.Spec PyProof.Rows L2
/-! ### list.count, flat items -/
theorem countU {y : V} : ∀ {ys : List V} {us : List Value}, Vals ys us → ys.all flatV = true → us.countP (eqU y) = ys.countP fun z => eqV z y
  | _, _, .nil, _ => rfl
  | _, _, .cons r t, h => by
    rw [List.all_cons, Bool.and_eq_true] at h
    rw [List.countP_cons, List.countP_cons, countU t h.2, eqU_of r h.1]
section
variable {X : Cx}
def rCntF (K : PySem.W.Frag) : V → List V → Hp → VK → Prop := fun x xs H Q => ∃ (a : Addr) (ys : List V) (y : V), x = V.ref a ∧ xs = [y] ∧ SqL K H a ys ∧ flatV y = true ∧ ys.all flatV = true ∧ Q (.int ((ys.countP fun z => eqV z y : Nat) : Int)) H
theorem mt_countF : MtR X "list.count" (rCntF X.K) := by
  intro pins s σ H x xs v us Q I rx rxs h
  obtain ⟨a, ys, y, rfl, rfl, hs, fy, fys, q⟩ := h
  cases rx
  obtain ⟨u, rfl, ru⟩ := rxs.one
  obtain ⟨its, rv, ⟨⟨cls, dd, data, sl⟩, n, ho, hc, hdn, hd⟩, hlen⟩ := I.list hs
  simp only at hc hd
  subst hc hd
  refine call_meets PySem.F.slot_list_count ⟨_, ho, rfl⟩ PySem.F.entry_list_count (PySem.F.args_list_count_2 _ _)
    (SeqAt.list_countAt a its.toArray n dd sl u (eqU y)) ⟨ho, fun u' hu' => mem_eqAt ru fy rv fys u' (by simpa using hu'), ?_⟩
  refine ⟨.int ((ys.countP fun z => eqV z y : Nat) : Int), H, I.tok _, ⟨s.toks, ?_⟩, q⟩
  show Value.int ((its.toArray.toList.countP (eqU y) : Nat) : Int) s.toks = _
  rw [show its.toArray.toList = its from rfl, countU rv fys]
end
end Sw
namespace Sw
open PySem PySem.Spec PyProof.Rows L2
open Evl (Ex Ex.refl Ex.trans Ex.new Ex.mut ex_l ex_t ex_rd fresh_back Ev EvL EvU EvT EvA RV RC RCL SpV SpL)
/-! ### _law_word -/
def marks9 (i : Nat) : List V := [.bl (decide (i = 0)), .bl (decide (i = 1)), .bl (decide (i = 2)), .bl (decide (i = 3)), .bl (decide (i = 4)), .bl (decide (i = 5)), .bl (decide (i = 6)), .bl (decide (i = 7)), .bl (decide (i = 8))]
theorem marks9_count : ∀ i, i < 9 → (marks9 i).countP (fun z => eqV z (.bl true)) = 1 := by decide +kernel
theorem marks9_at : ∀ i, i < 9 → (marks9 i)[i]? = some (.bl true) := by decide +kernel
theorem marks9_ahead : ∀ i, i < 9 → ∀ m, m < i → (marks9 i)[m]? = some (.bl false) := by decide +kernel
def words9 : List Str := ["stone", "full", "chain", "side", "fit", "deed", "stones", "text", "laying"]
def word9 (i : Nat) : Str := words9.getD i "other"
theorem word9_at {i : Nat} (h : i < 9) : (words9.map V.str)[i]? = some (.str (word9 i)) := by
  have hl : i < words9.length := h
  unfold word9
  rw [List.getElem?_map, List.getElem?_eq_getElem hl, List.getD_eq_getElem?_getD, List.getElem?_eq_getElem hl]
  rfl
section
variable {P : Program} {w : World} {K : PySem.W.Frag} {mg : Str → Option Value} {base : Heap}
variable {σ : L2.St} {H : Hp} {ta tb te : TE}
theorem el_cat9 {a : Addr} {xs ys : List V} (h : Ev ta σ H (.ref a)) (ha : H a = some (.lst xs)) (k : EvL tb σ H ys) (hz : xs.length + ys.length ≤ 100000) : EvL (tOp rCat ta tb) σ H (xs ++ ys) := fun H1 e Q q =>
  h H1 e _ fun H2 e2 => k H2 (e.trans e2) _ fun p H3 np e3 hp => ⟨a, p, xs, ys, rfl, rfl, e3 _ _ (e2 _ _ (e _ _ ha)), hp, Evl.sz_of hz, fun l nl => q l _ (fresh_back (e2.trans e3) nl) ((e2.trans e3).trans (Ex.new nl)) upd_same⟩
theorem scWord9 : FnScope ["_law_e", "_law_kinds", "_law_words"] ["_law_e"] (defScope s_law_word) := ⟨rfl, rfl, rfl, by decide +kernel, rfl, by decide +kernel, by decide +kernel⟩
def spWord9 (Cs : List Addr) : Sp := fun vs H Q _ => ∃ (e C : Addr) (i : Nat), vs = [.ref e] ∧ i < 9 ∧ Cs[i]? = some C ∧ IsExc H (.ref C) e ∧ Evl.RetV (.str (word9 i)) H Q
theorem ok_word9 {f C0 C1 C2 C3 C4 C5 C6 C7 C8 : Addr} {fd : FuncData} (F : Fun K "_law_word" "_law_word" s_law_word f fd) (mI : mg "isinstance" = none) (mV : mg "ValueError" = none)
    (T : Tab K [C0, C1, C2, C3, C4, C5, C6, C7, C8]) (g0 : mg "NoStone" = some (.ref C0)) (g1 : mg "Full" = some (.ref C1)) (g2 : mg "NoChain" = some (.ref C2)) (g3 : mg "NoSide" = some (.ref C3)) (g4 : mg "NoFit" = some (.ref C4)) (g5 : mg "NoDeed" = some (.ref C5)) (g6 : mg "NoStones" = some (.ref C6)) (g7 : mg "NoText" = some (.ref C7)) (g8 : mg "NoLaying" = some (.ref C8))
    (sV : ∀ D ∈ [C0, C1, C2, C3, C4, C5, C6, C7, C8], PySem.W.subIn K (.ref D) (.type "ValueError") = some true) : FnOk P w K mg base CX0 1 f fd ["_law_e"] (spWord9 [C0, C1, C2, C3, C4, C5, C6, C7, C8]) := by
  refine F.ok scWord9 (fun vs H Q E h => ?_) (fun cdv A outer s H vs Q E hr h => ?_)
  · obtain ⟨e, C, i, rfl, _⟩ := h
    rfl
  · obtain ⟨e, C, i, rfl, i9, hi, he, q⟩ := h
    have is : ∀ {x : Str} {D : Addr} (_ : mg x = some (.ref D)), True := fun _ => trivial
    refine ⟨_, pss_cons (ps_set (i := 1) scWord9.nd rfl (.inl rfl) (pe_lst (pa_cons (pe_callB call_isA (by rfl) mI (by decide +kernel) (pa_cons (pv 0) (pa_cons (pe_glob (v := .ref C0) (by rfl) g0 rfl) pa_nil))) (pa_cons (pe_callB call_isA (by rfl) mI (by decide +kernel) (pa_cons (pv 0) (pa_cons (pe_glob (v := .ref C1) (by rfl) g1 rfl) pa_nil))) (pa_cons (pe_callB call_isA (by rfl) mI (by decide +kernel) (pa_cons (pv 0) (pa_cons (pe_glob (v := .ref C2) (by rfl) g2 rfl) pa_nil))) pa_nil)))))
      (pss_cons (ps_set (i := 1) scWord9.nd rfl (.inl rfl) (pe_op op_cat (pv 1) (pe_lst (pa_cons (pe_callB call_isA (by rfl) mI (by decide +kernel) (pa_cons (pv 0) (pa_cons (pe_glob (v := .ref C3) (by rfl) g3 rfl) pa_nil))) (pa_cons (pe_callB call_isA (by rfl) mI (by decide +kernel) (pa_cons (pv 0) (pa_cons (pe_glob (v := .ref C4) (by rfl) g4 rfl) pa_nil))) (pa_cons (pe_callB call_isA (by rfl) mI (by decide +kernel) (pa_cons (pv 0) (pa_cons (pe_glob (v := .ref C5) (by rfl) g5 rfl) pa_nil))) pa_nil))))))
      (pss_cons (ps_set (i := 1) scWord9.nd rfl (.inl rfl) (pe_op op_cat (pv 1) (pe_lst (pa_cons (pe_callB call_isA (by rfl) mI (by decide +kernel) (pa_cons (pv 0) (pa_cons (pe_glob (v := .ref C6) (by rfl) g6 rfl) pa_nil))) (pa_cons (pe_callB call_isA (by rfl) mI (by decide +kernel) (pa_cons (pv 0) (pa_cons (pe_glob (v := .ref C7) (by rfl) g7 rfl) pa_nil))) (pa_cons (pe_callB call_isA (by rfl) mI (by decide +kernel) (pa_cons (pv 0) (pa_cons (pe_glob (v := .ref C8) (by rfl) g8 rfl) pa_nil))) pa_nil))))))
      (pss_cons (ps_if (PW.pt (pw_or (pt_cmpR op_ne (pe_bm PySem.F.plainAttrs_list PySem.F.slot_list_count PySem.F.type_list_count mt_countF (pv 1) (pa_cons pe_bl pa_nil)) pe_int (nomark _)) (pw_or1 (pt_not (pt_val (pe_callB call_isA (by rfl) mI (by decide +kernel) (pa_cons (pv 0) (pa_cons (pe_bltn (v := .ty "ValueError") (by rfl) mV (by decide +kernel) rfl) pa_nil)))))))) (pss_one ps_never) pss_nil)
      (pss_cons (ps_set (i := 2) scWord9.nd rfl (.inl rfl) (pe_lst (pa_cons pe_str (pa_cons pe_str (pa_cons pe_str (pa_cons pe_str (pa_cons pe_str (pa_cons pe_str (pa_cons pe_str (pa_cons pe_str (pa_cons pe_str pa_nil)))))))))))
      (pss_one (ps_ret (pe_ix (r := rIxL K) ix_list (pv 2) (pe_bm PySem.F.plainAttrs_list PySem.F.slot_list_index PySem.F.type_list_index mt_index (pv 1) (pa_cons pe_bl pa_nil)) (fun _ _ => rfl)))))))), ?_⟩
    have mC : C ∈ [C0, C1, C2, C3, C4, C5, C6, C7, C8] := List.mem_of_getElem? hi
    refine Evl.q_asgL (Evl.el_lst (Evl.ea_cons (ev_mark T rfl he hi (j := 0) rfl) (Evl.ea_cons (ev_mark T rfl he hi (j := 1) rfl) (Evl.ea_cons (ev_mark T rfl he hi (j := 2) rfl) Evl.ea_nil))) (by show 3 ≤ _; decide)) fun p1 H1 np1 e1 h1 => ?_
    have he1 := he.ex e1
    refine Evl.q_asgL (el_cat9 (Evl.ev_var rfl) h1 (Evl.el_lst (Evl.ea_cons (ev_mark T rfl he1 hi (j := 3) rfl) (Evl.ea_cons (ev_mark T rfl he1 hi (j := 4) rfl) (Evl.ea_cons (ev_mark T rfl he1 hi (j := 5) rfl) Evl.ea_nil))) (by show 3 ≤ _; decide)) (by show 3 + 3 ≤ _; decide)) fun p2 H2 np2 e2 h2 => ?_
    have he2 := he1.ex e2
    refine Evl.q_asgL (el_cat9 (Evl.ev_var rfl) h2 (Evl.el_lst (Evl.ea_cons (ev_mark T rfl he2 hi (j := 6) rfl) (Evl.ea_cons (ev_mark T rfl he2 hi (j := 7) rfl) (Evl.ea_cons (ev_mark T rfl he2 hi (j := 8) rfl) Evl.ea_nil))) (by show 3 ≤ _; decide)) (by show 6 + 3 ≤ _; decide)) fun p3 H3 np3 e3 h3 => ?_
    have he3 := he2.ex e3
    have h3 : H3 p3 = some (.lst (marks9 i)) := h3
    have cnt : Ev (tBM K "list" (rCntF K) (tVar 1) (tCons (tC (.bl true)) tNil)) [some (.ref e), some (.ref p3), none] H3 (.int 1) := fun H4 e4 Q' q' => ⟨_, rfl, .inl ⟨rfl, _, SqL.of (e4 _ _ h3)⟩, p3, marks9 i, .bl true, rfl, rfl, SqL.of (e4 _ _ h3), rfl, rfl, by
      rw [marks9_count i i9]
      exact q' H4 (Ex.refl H4)⟩
    refine Evl.q_when (b := false) (Evl.et_or (a := false) (b := false) (ev_neI cnt Evl.ev_c) fun _ => Evl.et_not (a := true) (Evl.et_B (Evl.ev_cb (Evl.ea_cons (Evl.ev_var rfl) (Evl.ea_cons Evl.ev_c Evl.ea_nil)) (rc_isA (.ty "ValueError") (fun H8 x8 => .inr ⟨e, C, rfl, rfl, he3.ex x8, (T.ok C mC).e⟩) (kit_VE (sV C mC)))))) (fun h => nomatch h) fun _ H4 e4 => ?_
    refine Evl.q_asgL (xs := words9.map V.str) (Evl.el_lst (Evl.ea_cons Evl.ev_c (Evl.ea_cons Evl.ev_c (Evl.ea_cons Evl.ev_c (Evl.ea_cons Evl.ev_c (Evl.ea_cons Evl.ev_c (Evl.ea_cons Evl.ev_c (Evl.ea_cons Evl.ev_c (Evl.ea_cons Evl.ev_c (Evl.ea_cons Evl.ev_c Evl.ea_nil))))))))) (by show 9 ≤ _; decide)) fun p5 H5 np5 e5 h5 => ?_
    have h35 := e5 _ _ (e4 _ _ h3)
    have idx : Ev (tBM K "list" (rIndex K) (tVar 1) (tCons (tC (.bl true)) tNil)) [some (.ref e), some (.ref p3), some (.ref p5)] H5 (.int (i : Int)) := fun H6 e6 Q' q' => ⟨_, rfl, .inl ⟨rfl, _, SqL.of (e6 _ _ h35)⟩, p3, marks9 i, .bl true, i, .bl true, rfl, rfl, SqL.of (e6 _ _ h35), rfl, rfl, marks9_at i i9, rfl, fun m z' hm hz => by
      rw [marks9_ahead i i9 m hm] at hz
      obtain rfl := Option.some.inj hz
      rfl, q' H6 (Ex.refl H6)⟩
    exact Evl.s_ret (Evl.ev_op (Evl.ev_var rfl) idx (Evl.rv_ixL (K := K) (SqL.of h5) (atI_nat (word9_at i9)))) fun H6 e6 => q H6 ((((e1.trans e2).trans e3).trans e4).trans (e5.trans e6))
end
end Sw
namespace Sw
open PySem PySem.Spec PyProof.Rows L2
open Evl (Ex Ex.refl Ex.trans Ex.new Ex.mut ex_l ex_t ex_rd fresh_back Ev EvL EvU EvT EvA RV RC RCL SpV SpL)
theorem due9_lt {T : Tb} {x : Str} {dn ds dt : PyData} {r : Nat} (h : due9 T x dn ds dt = some r) : r < 6 := by
  unfold due9 putDue begDue at h
  repeat' split at h
  all_goals first
    | cases h
      done
    | (obtain rfl := Option.some.inj h; decide)
section
variable {P : Program} {w : World} {K : PySem.W.Frag} {mg : Str → Option Value} {base : Heap} {C : Addr}
/-! ### _law_told -/
theorem scTold9 : FnScope ["_law_table_here", "_law_word_here", "_law_number", "_law_side", "_law_stone", "_law_found", "_law_e"] ["_law_table_here", "_law_word_here", "_law_number", "_law_side", "_law_stone"] (defScope s_law_told) := ⟨rfl, rfl, rfl, by decide +kernel, rfl, by decide +kernel, by decide +kernel⟩
def spTold9 (C : Addr) : Sp := fun vs H Q _ => ∃ (o : Addr) (A : TAd) (T : Tb) (x : Str) (vn vs' vt : V) (dn ds dt : PyData), vs = [.ref o, .str x, vn, vs', vt] ∧ TabAt C o A T H ∧ Dt H vn dn ∧ Dt H vs' ds ∧ Dt H vt dt ∧
  (∀ r, due9 T x dn ds dt = some r → ∀ H2, Ex H H2 → Q (.str (word9 r)) H2) ∧ (due9 T x dn ds dt = none → ∀ A' T' H', Next C o A A' T' H H' → Q (.str "") H')
theorem ok_told9 {f fA fW S : Addr} {R : Nat → Addr} {Cs : List Addr} {fd fdA fdW : FuncData} (F : Fun K "_law_told" "_law_told" s_law_told f fd)
    (GA : FnOk P w K mg base (L2.CX P w) 7 fA fdA ["_law_table_here", "_law_word_here", "_law_number", "_law_side", "_law_stone"] (spAsked9 C R)) (gA : mg "_law_asked" = some (.ref fA)) (kA : PySem.W.keepIn K (.ref fA) = true) (bA : Binds K fdA ["_law_table_here", "_law_word_here", "_law_number", "_law_side", "_law_stone"] [])
    (GW : FnOk P w K mg base CX0 1 fW fdW ["_law_e"] (spWord9 Cs)) (gW : mg "_law_word" = some (.ref fW)) (kW : PySem.W.keepIn K (.ref fW) = true) (bW : Binds K fdW ["_law_e"] [])
    (ES : ErrC K S) (gS : mg "StoneError" = some (.ref S)) (hR : ∀ r, r < 6 → Cs[r]? = some (R r)) (sS : ∀ r, r < 6 → PySem.W.subIn K (.ref (R r)) (.ref S) = some true) : FnOk P w K mg base CX0 8 f fd ["_law_table_here", "_law_word_here", "_law_number", "_law_side", "_law_stone"] (spTold9 C) := by
  refine F.ok scTold9 (fun vs H Q E h => ?_) (fun cdv A outer s H vs Q E hr h => ?_)
  · obtain ⟨o, A, T, x, vn, vs', vt, dn, ds, dt, rfl, _⟩ := h
    rfl
  · obtain ⟨o, A, T, x, vn, vs', vt, dn, ds, dt, rfl, t, hn, hs, ht, qe, q⟩ := h
    have hr1 : Room 1 _ := hr.mono (by decide)
    refine ⟨_, pss_cons (ps_set (i := 5) scTold9.nd rfl (.inl rfl) pe_non)
      (pss_cons (ps_try_keep (c := .ref S) (i := 6) (j := 5) (tb := fun W => tDrop (tCallS (spAsked9 C R) (L2.WE W) (tCons (tVar 0) (tCons (tVar 1) (tCons (tVar 2) (tCons (tVar 3) (tCons (tVar 4) tNil))))))) rfl rfl rfl scTold9.nd rfl rfl (by decide) rfl rfl (by decide) (by decide) ⟨rfl, by decide, Or.inl gS⟩
        (fun W pn xe tk _ => pss_one (ps_expr (pe_callS GA hr (by rfl) gA kA bA (fun σ => passAt tk σ) (by exact (pa_cons (pv 0) (pa_cons (pv 1) (pa_cons (pv 2) (pa_cons (pv 3) (pa_cons (pv 4) pa_nil))))))))))
      (pss_cons (ps_if (pt_cmpR op_isN (pv 5) pe_non (by rfl)) (pss_one (ps_ret pe_str)) pss_nil)
      (pss_one (ps_ret (pe_call GW hr1 (by rfl) gW kW bW .nil pass0 (pa_cons (pv 5) pa_nil)))))), ?_⟩
    refine ⟨_, rfl, _, rfl, _, rfl, _, rfl, _, rfl, o, A, T, x, vn, vs', vt, dn, ds, dt, rfl, t, hn, hs, ht, fun r hd H2 e2 => ⟨rfl, exm_err ES (sS r (due9_lt hd)), fun a na => ?_⟩, fun hd v A' T' H' nx => ?_⟩
    · have r6 := due9_lt hd
      dsimp only
      refine Evl.q_when (b := decide (V.ref a = .non)) ?_ ?_ ?_
      · exact et_isNone (Evl.ev_var rfl)
      · exact fun h => absurd (of_decide_eq_true h) (fun z => nomatch z)
      · intro _ H4 e4
        exact ⟨_, rfl, a, R r, r, rfl, by omega, hR r r6, IsExc.ex isExc_K e4, fun H5 e5 => qe r hd H5 (((e2.trans (Ex.new na)).trans e4).trans e5)⟩
    · dsimp only
      refine Evl.q_when (b := decide (V.non = .non)) ?_ ?_ ?_
      · exact et_isNone (Evl.ev_var rfl)
      · exact fun _ H4 e4 => q hd A' T' H4 ⟨nx.t.ex e4, nx.m.trans (Mv.of e4)⟩
      · exact fun h => absurd rfl (of_decide_eq_false h)
end
end Sw
namespace Sw
open PySem PySem.Spec PyProof.Rows L2
open Evl (Ex Ex.refl Ex.trans Ex.new Ex.mut ex_l ex_t ex_rd fresh_back Ev EvL EvU EvT EvA RV RC RCL SpV SpL)
theorem inV_strs (x : Str) : ∀ ws : List Str, inV (.str x) (ws.map V.str) = decide (x ∈ ws)
  | [] => by
    rw [decide_eq_false (List.not_mem_nil)]
    rfl
  | y :: ws => by
    show ((y == x) || inV (.str x) (ws.map V.str)) = _
    rw [inV_strs x ws]
    refine Bool.eq_iff_iff.mpr ?_
    rw [Bool.or_eq_true, beq_iff_eq, decide_eq_true_eq, decide_eq_true_eq, List.mem_cons]
    exact ⟨fun h => h.imp Eq.symm id, fun h => h.imp Eq.symm id⟩
theorem flat_strs (l : List Str) : (l.map V.str).all flatV = true := by
  rw [List.all_eq_true]
  intro v hv
  obtain ⟨k, _, e⟩ := List.mem_map.mp hv
  rw [← e]
  rfl
section
variable {K : PySem.W.Frag} {σ : L2.St} {H : Hp} {te tb : TE} {st : List (Int × Int)}
theorem ev_lenE (h : EvSt te σ H st) : Ev (tCB (Evl.rLenS K) (tCons te tNil)) σ H (.int (st.length : Int)) := fun H1 e Q q => h H1 e _ fun p H2 e2 ⟨ts, t1, t2, _⟩ => ⟨p, _, rfl, .inl (SqL.of t1), by
  rw [List.length_map, t2]
  exact q H2 e2⟩
theorem et_nilE (h : EvSt te σ H st) (hz : st.length ≤ 1000) : EvT (tTest (tOp (rEqD K) te (tLst tNil))) σ H (decide (st = [])) := fun H1 e Q q => h H1 e _ fun p H2 e2 hp => ⟨by show 0 ≤ sizeLine; decide, fun r nr =>
  ⟨dStones st, .list [], Dt.dp _ _ (hp.ex (Ex.new nr)).dt, Dt.dp _ _ (.lst upd_same .nil), (lay_stones st hz).shaped (by decide), (Lay.lst (n := 0) (ds := []) (by decide) (fun d h => absurd h List.not_mem_nil)).shaped (by decide), _, rfl, by
    rw [show PyData.eqv (dStones st) (.list []) = decide (st = []) from eqv_stones st []]
    exact q _ (e2.trans (Ex.new nr))⟩⟩
theorem et_inStrs {x : Str} {ws : List Str} (h : Ev te σ H (.str x)) (k : EvL tb σ H (ws.map V.str)) : EvT (tTest (tOp (rIn K false) te tb)) σ H (decide (x ∈ ws)) := Evl.et_test (Evl.ev_is (Evl.ev_opL h k fun p H1 hp _ => Evl.rv_isL (SqL.of hp) rfl (flat_strs ws)) (by rw [inV_strs]))
theorem et_inInts {x : Int} {b : Addr} {ns : List Int} (h : Ev te σ H (.int x)) (k : Ev tb σ H (.ref b)) (hb : H b = some (.lst (ns.map V.int))) : EvT (tTest (tOp (rIn K false) te tb)) σ H (decide (x ∈ ns)) := Evl.et_test (Evl.ev_is (Evl.ev_op h k (Evl.rv_isL (SqL.of hb) rfl (flat_int2 ns))) (by rw [inV_int2]))
theorem et_eqI9 {x : Int} (y : Int) (h : Ev te σ H (.int x)) : EvT (tTest (tOp rEq te (tC (.int y)))) σ H (decide (x = y)) := Evl.et_test (Evl.ev_is (Evl.ev_op h Evl.ev_c (Evl.rv_eq rfl)) (decV ⟨fun h => V.int.inj h, fun h => by rw [h]⟩))
end
section
variable {P : Program} {w : World} {K : PySem.W.Frag} {mg : Str → Option Value} {base : Heap} {C : Addr}
variable {σ : L2.St} {H : Hp} {E : XK} {i : Nat} {o : Addr} {A : TAd} {T : Tb}
theorem es_stones (hi : σ[i]? = some (some (.ref o))) (t : TabAt C o A T H) : EvSt (tMeth C "stones" (spStonesM C) [] E (tVar i) tNil) σ H T.st := fun H1 e Q q =>
  ⟨_, hi, o, A.dx, _, rfl, (t.ex e).ob, tF_no (by decide +kernel) (by decide +kernel) (by decide +kernel), o, A, T, rfl, t.ex e, fun p H2 _ e2 hp => q p H2 e2 hp⟩
theorem ev_chains (hi : σ[i]? = some (some (.ref o))) (t : TabAt C o A T H) : Ev (tMeth C "chains" (spChainsM C) [] E (tVar i) tNil) σ H (.int (T.cs.length : Int)) := fun H1 e Q q =>
  ⟨_, hi, o, A.dx, _, rfl, (t.ex e).ob, tF_no (by decide +kernel) (by decide +kernel) (by decide +kernel), o, A, T, rfl, t.ex e, fun H2 e2 => q H2 e2⟩
/-! ### where nothing is refused -/
def spEndsC (C : Addr) : Sp := fun vs H Q _ => ∃ (o : Addr) (A : TAd) (T : Tb) (n : Nat) (c : List Step) (hc : c ≠ []), vs = [.ref o, .int (n : Int)] ∧ TabAt C o A T H ∧ T.cs[n]? = some c ∧ ∀ z H2, Ex H H2 → H2 z = some (.tup [.int (endsT T.st c hc).1, .int (endsT T.st c hc).2]) → Q (.ref z) H2
theorem ends_calm {k : Nat} {f CN : Addr} {fd : FuncData} (F : FnOk P w K mg base (L2.CX P w) k f fd ["self", "number"] (spEndsM C CN)) : FnOk P w K mg base CX0 k f fd ["self", "number"] (spEndsC C) := FnOk.calm F fun vs H Q E h => by
  obtain ⟨o, A, T, n, c, hc, rfl, t, hn, q⟩ := h
  refine ⟨o, A, T, _, .int (n : Int), rfl, t, .int _, fun n' c' hc' hd hn' z H2 _ e2 hz => ?_, fun hb => ?_⟩
  · have nn : n' = n := by
      have := PyData.int.inj hd
      omega
    subst nn
    obtain rfl := Option.some.inj (hn.symm.trans hn')
    exact q z H2 e2 hz
  · rw [num_is (List.getElem?_eq_some_iff.mp hn).1] at hb
    cases hb
/-! ### _law_fits_there -/
theorem fitV_some (e : Int × Int) (right : Bool) (s : Int × Int) : inV (.int (if right then e.2 else e.1)) [.int s.1, .int s.2] = !decide (fitV e right s = .non) := by
  rw [show [V.int s.1, .int s.2] = [s.1, s.2].map V.int from rfl, inV_int2]
  refine Bool.eq_iff_iff.mpr ?_
  rw [decide_eq_true_eq, Bool.not_eq_true', decide_eq_false_iff_not, List.mem_cons, List.mem_singleton]
  unfold fitV
  cases right
  · rw [if_neg Bool.false_ne_true, if_neg Bool.false_ne_true]
    by_cases c : s.2 = e.1
    · rw [if_pos c]
      exact ⟨fun _ z => (nomatch z), fun _ => .inr c.symm⟩
    · rw [if_neg c]
      by_cases c2 : s.1 = e.1
      · rw [if_pos c2]
        exact ⟨fun _ z => (nomatch z), fun _ => .inl c2.symm⟩
      · rw [if_neg c2]
        exact ⟨fun h => absurd h (fun h => h.elim (fun z => c2 z.symm) fun z => c z.symm), fun h => absurd rfl h⟩
  · rw [if_pos rfl, if_pos rfl]
    by_cases c : s.1 = e.2
    · rw [if_pos c]
      exact ⟨fun _ z => (nomatch z), fun _ => .inl c.symm⟩
    · rw [if_neg c]
      by_cases c2 : s.2 = e.2
      · rw [if_pos c2]
        exact ⟨fun _ z => (nomatch z), fun _ => .inr c2.symm⟩
      · rw [if_neg c2]
        exact ⟨fun h => absurd h (fun h => h.elim (fun z => c z.symm) fun z => c2 z.symm), fun h => absurd rfl h⟩
theorem scFitsT : FnScope ["_law_table_here", "_law_number", "_law_side", "_law_stone", "_law_end"] ["_law_table_here", "_law_number", "_law_side", "_law_stone"] (defScope s_law_fits_there) := ⟨rfl, rfl, rfl, by decide +kernel, rfl, by decide +kernel, by decide +kernel⟩
def spFitsT (C : Addr) : Sp := fun vs H Q _ => ∃ (o : Addr) (A : TAd) (T : Tb) (n : Nat) (right : Bool) (ts : Addr) (s : Int × Int), vs = [.ref o, .int (n : Int), .str (sideS right), .ref ts] ∧ TabAt C o A T H ∧ n < T.cs.length ∧ H ts = some (.tup [.int s.1, .int s.2]) ∧ Evl.RetV (.bl (!decide (fitC T n right s = .non))) H Q
theorem ok_fitsT {f fE : Addr} {fd fdE : FuncData} (F : Fun K "_law_fits_there" "_law_fits_there" s_law_fits_there f fd) (X : TxtT K mg C) (mN : mg "int" = none)
    (GE : FnOk P w K mg base CX0 5 fE fdE ["self", "number"] (spEndsC C)) (mE : Meth K C "open_ends" fE) (bE : Binds K fdE ["self", "number"] []) : FnOk P w K mg base CX0 6 f fd ["_law_table_here", "_law_number", "_law_side", "_law_stone"] (spFitsT C) := by
  refine F.ok scFitsT (fun vs H Q E h => ?_) (fun cdv A outer s H vs Q E hr h => ?_)
  · obtain ⟨o, A, T, n, right, ts, s, rfl, _⟩ := h
    rfl
  · obtain ⟨o, A, T, n, right, ts, s, rfl, t, nl, hts, q⟩ := h
    refine ⟨_, pss_cons (ps_set (i := 4) scFitsT.nd rfl (.inl rfl) (pe_ix (r := rIxT K) ix_tup (pe_meth (E := E0) (pv 0) X.cl mE GE hr bE .nil pass0 (pa_cons (pv 1) pa_nil)) (pe_callTy (r := rInt1) call_int1 (by rfl) mN PyProof.Rows.boot_int (pa_cons (pe_cmpR op_eq (pv 2) pe_str (nomark _)) pa_nil)) (fun _ _ => rfl)))
      (pss_one (ps_ret (pe_cmpR (r := rIn K false) op_in_seq (pv 4) (pv 3) (by rfl)))), ?_⟩
    obtain ⟨hc, _, _⟩ := t.re.chains _ (List.getElem_mem nl)
    have fc : fitC T n right s = fitV (endsT T.st T.cs[n] hc) right s := by
      unfold fitC
      rw [List.getElem?_eq_getElem nl]
      dsimp only
      rw [dif_pos hc]
    have sr : decide (sideS right = rightS) = right := by cases right <;> decide +kernel
    refine ⟨_, rfl, o, _, _, rfl, t.ob, tF_no (by decide +kernel) (by decide +kernel) (by decide +kernel), _, rfl, o, A, T, n, T.cs[n], hc, rfl, t, List.getElem?_eq_getElem nl, fun z H2 e2 hz => ?_⟩
    have ix : Ev (tCB rInt1 (tCons (tOp rEq (tVar 2) (tC (.str rightS))) tNil)) [some (.ref o), some (.int (n : Int)), some (.str (sideS right)), some (.ref ts), none] H2 (.int (if right then 1 else 0)) := Evl.ev_is (ev_intB (b := decide (sideS right = rightS)) (Evl.ev_is (Evl.ev_op (Evl.ev_var rfl) Evl.ev_c (Evl.rv_eq rfl)) (decV ⟨fun h => V.str.inj h, fun h => by rw [h]⟩))) (by rw [sr])
    refine ix H2 (Ex.refl H2) _ fun H3 e3 => ⟨z, _, _, .int (if right then (endsT T.st T.cs[n] hc).2 else (endsT T.st T.cs[n] hc).1), rfl, rfl, SqT.of (e3 _ _ hz), ?_, ?_⟩
    · cases right
      · exact atI_nat (j := 0) rfl
      · exact atI_nat (j := 1) rfl
    · have e03 := e2.trans e3
      refine Evl.s_ret (v := .bl (!decide (fitC T n right s = .non))) (Evl.ev_is (Evl.ev_op (Evl.ev_var rfl) (Evl.ev_var rfl) (Evl.rv_isT (K := K) (SqT.of (e03 _ _ hts)) rfl rfl)) (by rw [fitV_some, fc])) fun H4 e4 => q H4 (e03.trans e4)
end
end Sw
namespace Sw
open PySem PySem.Spec PyProof.Rows L2
open Evl (Ex Ex.refl Ex.trans Ex.new Ex.mut ex_l ex_t ex_rd fresh_back Ev EvL EvU EvT EvA RV RC RCL SpV SpL)
def BadOk (T : Tb) (bad : List Int) (dn ds dt : PyData) : Prop :=
  ((0 : Int) ∈ bad → stoneB dt = false) ∧ ((0 : Int) ∉ bad → stoneB dt = true) ∧ ((1 : Int) ∈ bad → numB dn ((T.cs.length : Int) - 1) = false) ∧ ((1 : Int) ∉ bad → T.cs ≠ [] → numB dn ((T.cs.length : Int) - 1) = true) ∧ ((2 : Int) ∈ bad → sideB ds = false) ∧ ((2 : Int) ∉ bad → sideB ds = true)
def wordOf9 : Option Nat → Str
  | some r => word9 r
  | none => ""
theorem num_none {d : PyData} {cs : List (List Step)} (h : cs = []) : numB d ((cs.length : Int) - 1) = false := by
  cases hb : numB d ((cs.length : Int) - 1) with
  | false => rfl
  | true =>
    obtain ⟨i, _, hi⟩ := num_get hb
    rw [h] at hi
    cases hi
def words6 : List Str := [wPut, wBegin, wFits, wChain, wEnds, wBack]
theorem due_back {T : Tb} {dn ds dt : PyData} : due9 T wBack dn ds dt = if T.st = [] then some 5 else none := (if_neg (by decide +kernel)).trans ((if_neg (by decide +kernel)).trans ((if_neg (by decide +kernel)).trans ((if_neg (by decide +kernel)).trans (if_neg (by decide +kernel)))))
theorem due_ends {T : Tb} {dn ds dt : PyData} : due9 T wEnds dn ds dt = if numB dn ((T.cs.length : Int) - 1) = false then some 2 else none := (if_neg (by decide +kernel)).trans ((if_neg (by decide +kernel)).trans ((if_neg (by decide +kernel)).trans ((if_neg (by decide +kernel)).trans (if_pos rfl))))
theorem due_chain {T : Tb} {dn ds dt : PyData} : due9 T wChain dn ds dt = if numB dn ((T.cs.length : Int) - 1) = false then some 2 else none := (if_neg (by decide +kernel)).trans ((if_neg (by decide +kernel)).trans ((if_neg (by decide +kernel)).trans (if_pos rfl)))
theorem due_fits {T : Tb} {dn ds dt : PyData} : due9 T wFits dn ds dt = if stoneB dt = false then some 0 else none := (if_neg (by decide +kernel)).trans ((if_neg (by decide +kernel)).trans (if_pos rfl))
theorem due_begin {T : Tb} {dn ds dt : PyData} : due9 T wBegin dn ds dt = begDue T dt := (if_neg (by decide +kernel)).trans (if_pos rfl)
theorem due_put {T : Tb} {dn ds dt : PyData} : due9 T wPut dn ds dt = putDue T dn ds dt := if_pos rfl
section
variable {P : Program} {w : World} {K : PySem.W.Frag} {mg : Str → Option Value} {base : Heap} {C : Addr}
/-! ### _law_wanted -/
theorem scWanted : FnScope ["_law_table_here", "_law_word_here", "_law_bad_here", "_law_number", "_law_side", "_law_stone", "_law_full"] ["_law_table_here", "_law_word_here", "_law_bad_here", "_law_number", "_law_side", "_law_stone"] (defScope s_law_wanted) := ⟨rfl, rfl, rfl, by decide +kernel, rfl, by decide +kernel, by decide +kernel⟩
def spWanted (C : Addr) : Sp := fun vs H Q _ => ∃ (o : Addr) (A : TAd) (T : Tb) (x : Str) (b : Addr) (bad : List Int) (vn vs' vt : V) (dn ds dt : PyData), vs = [.ref o, .str x, .ref b, vn, vs', vt] ∧ TabAt C o A T H ∧ x ∈ words6 ∧ H b = some (.lst (bad.map V.int)) ∧ Dt H vn dn ∧ Dt H vs' ds ∧ Dt H vt dt ∧ BadOk T bad dn ds dt ∧
  Evl.RetV (.str (wordOf9 (due9 T x dn ds dt))) H Q
theorem ok_wanted {f fS fK fT : Addr} {fd fdS fdK fdT : FuncData} (F : Fun K "_law_wanted" "_law_wanted" s_law_wanted f fd) (X : TxtT K mg C) (mL : mg "len" = none)
    (GS : FnOk P w K mg base CX0 1 fS fdS ["self"] (spStonesM C)) (mS : Meth K C "stones" fS) (bS : Binds K fdS ["self"] [])
    (GK : FnOk P w K mg base CX0 1 fK fdK ["self"] (spChainsM C)) (mK : Meth K C "chains" fK) (bK : Binds K fdK ["self"] [])
    (GT : FnOk P w K mg base CX0 6 fT fdT ["_law_table_here", "_law_number", "_law_side", "_law_stone"] (spFitsT C)) (gT : mg "_law_fits_there" = some (.ref fT)) (kT : PySem.W.keepIn K (.ref fT) = true) (bT : Binds K fdT ["_law_table_here", "_law_number", "_law_side", "_law_stone"] []) :
    FnOk P w K mg base CX0 7 f fd ["_law_table_here", "_law_word_here", "_law_bad_here", "_law_number", "_law_side", "_law_stone"] (spWanted C) := by
  refine F.ok scWanted (fun vs H Q E h => ?_) (fun cdv A outer s H vs Q E hr h => ?_)
  · obtain ⟨o, A, T, x, b, bad, vn, vs', vt, dn, ds, dt, rfl, _⟩ := h
    rfl
  · obtain ⟨o, A, T, x, b, bad, vn, vs', vt, dn, ds, dt, rfl, t, hx, hb, hn, hs, ht, ⟨b0, b0', b1, b1', b2, b2'⟩, q⟩ := h
    have hr1 : Room 1 _ := hr.mono (by decide)
    refine ⟨_, pss_cons (ps_set (i := 6) scWanted.nd rfl (.inl rfl) (pe_cmpR op_eq (pe_callB (r := Evl.rLenS K) call_len_seq (by rfl) mL boot_len (pa_cons (pe_meth0 (E := E0) (pv 0) X.cl mS GS hr1 bS .nil pass0) pa_nil)) pe_int (nomark _)))
      (pss_cons (ps_if (pt_cmpR op_eq (pv 1) pe_str (nomark _)) (pss_one (ps_ret (pe_ifExp (pt_cmpR (r := rEqD K) (op_eqD hr.units) (pe_meth0 (E := E0) (pv 0) X.cl mS GS hr1 bS .nil pass0) (pe_lst pa_nil) (nomark _)) pe_str pe_str))) pss_nil)
      (pss_cons (ps_if (PW.pt (pw_and (pt_cmpR (r := rIn K false) op_in_seq pe_int (pv 2) (by rfl)) (pw_and1 (pt_cmpR (r := rIn K false) op_in_seq (pv 1) (pe_lst (pa_cons pe_str (pa_cons pe_str (pa_cons pe_str pa_nil)))) (by rfl))))) (pss_one (ps_ret pe_str)) pss_nil)
      (pss_cons (ps_if (PW.pt (pw_and (pt_val (pv 6)) (pw_and1 (pt_cmpR (r := rIn K false) op_in_seq (pv 1) (pe_lst (pa_cons pe_str (pa_cons pe_str pa_nil))) (by rfl))))) (pss_one (ps_ret pe_str)) pss_nil)
      (pss_cons (ps_if (PW.pt (pw_and (pt_cmpR (r := rIn K false) op_in_seq (pv 1) (pe_lst (pa_cons pe_str (pa_cons pe_str (pa_cons pe_str pa_nil)))) (by rfl)) (pw_and1 (PW.pt (pw_or (pt_cmpR (r := rIn K false) op_in_seq pe_int (pv 2) (by rfl)) (pw_or1 (pt_cmpR op_eq (pe_meth0 (E := E0) (pv 0) X.cl mK GK hr1 bK .nil pass0) pe_int (nomark _)))))))) (pss_one (ps_ret pe_str)) pss_nil)
      (pss_cons (ps_if (PW.pt (pw_and (pt_cmpR op_eq (pv 1) pe_str (nomark _)) (pw_and1 (pt_cmpR (r := rIn K false) op_in_seq pe_int (pv 2) (by rfl))))) (pss_one (ps_ret pe_str)) pss_nil)
      (pss_cons (ps_if (PW.pt (pw_and (pt_cmpR op_eq (pv 1) pe_str (nomark _)) (pw_and1 (pt_not (pt_val (pe_call GT hr (by rfl) gT kT bT .nil pass0 (pa_cons (pv 0) (pa_cons (pv 3) (pa_cons (pv 4) (pa_cons (pv 5) pa_nil)))))))))) (pss_one (ps_ret pe_str)) pss_nil)
      (pss_one (ps_ret pe_str)))))))), ?_⟩
    have s60 := t.go.1
    have inS : ∀ {σ : L2.St} {H : Hp} {te tb : TE} {x : Str} (ws : List Str), Ev te σ H (.str x) → EvL tb σ H (ws.map V.str) → EvT (tTest (tOp (rIn K false) te tb)) σ H (decide (x ∈ ws)) := fun ws h k => et_inStrs h k
    -- full
    refine Evl.q_asg (v := .bl (decide (T.st.length = 60))) (Evl.ev_is (Evl.ev_op (ev_lenE (es_stones rfl t)) Evl.ev_c (Evl.rv_eq rfl)) (decV ⟨fun h => by have := V.int.inj h; omega, fun h => by rw [h]; rfl⟩)) fun H1 e1 => ?_
    have t1 := t.ex e1
    -- back
    refine Evl.q_when (et_eqS wBack (Evl.ev_var rfl)) (fun hb' H2 e2 => ?_) fun hb' H2 e2 => ?_
    · obtain rfl := of_decide_eq_true hb'
      have t2 := t1.ex e2
      refine Evl.s_ret (v := .str (wordOf9 (due9 T wBack dn ds dt))) (Evl.ev_if (b := decide (T.st = [])) (et_nilE (es_stones rfl t2) (by omega)) (fun h => ?_) fun h => ?_) fun H3 e3 => q H3 ((e1.trans e2).trans e3)
      · rw [due_back, if_pos (of_decide_eq_true h)]
        exact Evl.ev_c
      · rw [due_back, if_neg (of_decide_eq_false h)]
        exact Evl.ev_c
    have n0 := of_decide_eq_false hb'
    -- stone
    have hb2 := e2 _ _ (e1 _ _ hb)
    refine Evl.q_when (Evl.et_and (et_inInts (x := 0) Evl.ev_c (Evl.ev_var rfl) hb2) fun _ => inS [wPut, wBegin, wFits] (Evl.ev_var rfl) (Evl.el_lst (Evl.ea_cons Evl.ev_c (Evl.ea_cons Evl.ev_c (Evl.ea_cons Evl.ev_c Evl.ea_nil))) (by show 3 ≤ _; decide))) (fun h H3 e3 => ?_) fun h H3 e3 => ?_
    · rw [Bool.and_eq_true, decide_eq_true_eq, decide_eq_true_eq] at h
      have sb := b0 h.1
      have du : due9 T x dn ds dt = some 0 := by
        have h2 := h.2
        simp only [List.mem_cons, List.not_mem_nil, or_false] at h2
        rcases h2 with rfl | rfl | rfl
        · rw [due_put, put_due0 sb]
        · rw [due_begin]
          exact if_pos sb
        · rw [due_fits, if_pos sb]
      rw [du] at q
      exact q H3 ((e1.trans e2).trans e3)
    have g0 : x = wPut ∨ x = wBegin ∨ x = wFits → stoneB dt = true := fun hx => b0' fun k => by
      have : x ∈ [wPut, wBegin, wFits] := by simpa using hx
      rw [decide_eq_true k, decide_eq_true this] at h
      cases h
    -- full
    have e03 := (e1.trans e2).trans e3
    refine Evl.q_when (b := decide (T.st.length = 60) && decide (x ∈ [wPut, wBegin])) (Evl.et_and (Evl.et_B (Evl.ev_var rfl)) fun _ => inS [wPut, wBegin] (Evl.ev_var rfl) (Evl.el_lst (Evl.ea_cons Evl.ev_c (Evl.ea_cons Evl.ev_c Evl.ea_nil)) (by show 2 ≤ _; decide))) (fun h H4 e4 => ?_) fun h H4 e4 => ?_
    · rw [Bool.and_eq_true, decide_eq_true_eq, decide_eq_true_eq] at h
      have l60 : 60 ≤ T.st.length := by omega
      have du : due9 T x dn ds dt = some 1 := by
        have h2 := h.2
        simp only [List.mem_cons, List.not_mem_nil, or_false] at h2
        rcases h2 with rfl | rfl
        · rw [due_put, put_due1 (g0 (.inl rfl)) l60]
        · rw [due_begin]
          exact (if_neg (by rw [g0 (.inr (.inl rfl))]; exact fun z => nomatch z)).trans (if_pos l60)
      rw [du] at q
      exact q H4 (e03.trans e4)
    have g1 : x = wPut ∨ x = wBegin → T.st.length < 60 := fun hx => by
      have m : x ∈ [wPut, wBegin] := by simpa using hx
      rw [decide_eq_true m, Bool.and_true] at h
      have := of_decide_eq_false h
      omega
    -- chain
    have e04 := e03.trans e4
    have t4 := t.ex e04
    refine Evl.q_when (Evl.et_and (inS [wPut, wChain, wEnds] (Evl.ev_var rfl) (Evl.el_lst (Evl.ea_cons Evl.ev_c (Evl.ea_cons Evl.ev_c (Evl.ea_cons Evl.ev_c Evl.ea_nil))) (by show 3 ≤ _; decide))) fun _ => Evl.et_or (et_inInts (x := 1) Evl.ev_c (Evl.ev_var rfl) (e04 _ _ hb)) fun _ => et_eqI9 0 (ev_chains rfl t4)) (fun h H5 e5 => ?_) fun h H5 e5 => ?_
    · rw [Bool.and_eq_true, Bool.or_eq_true, decide_eq_true_eq, decide_eq_true_eq, decide_eq_true_eq] at h
      have nb : numB dn ((T.cs.length : Int) - 1) = false := h.2.elim b1 fun z => num_none (List.length_eq_zero_iff.mp (by omega))
      have du : due9 T x dn ds dt = some 2 := by
        have h2 := h.1
        simp only [List.mem_cons, List.not_mem_nil, or_false] at h2
        rcases h2 with rfl | rfl | rfl
        · rw [due_put, put_due2 (g0 (.inl rfl)) (g1 (.inl rfl)) nb]
        · rw [due_chain, if_pos nb]
        · rw [due_ends, if_pos nb]
      rw [du] at q
      exact q H5 (e04.trans e5)
    have g2 : x = wPut ∨ x = wChain ∨ x = wEnds → numB dn ((T.cs.length : Int) - 1) = true := fun hx => by
      have m : x ∈ [wPut, wChain, wEnds] := by simpa using hx
      rw [decide_eq_true m, Bool.true_and, Bool.or_eq_false_iff, decide_eq_false_iff_not, decide_eq_false_iff_not] at h
      exact b1' h.1 fun z => h.2 (by rw [z]; rfl)
    -- side
    have e05 := e04.trans e5
    refine Evl.q_when (Evl.et_and (et_eqS wPut (Evl.ev_var rfl)) fun _ => et_inInts (x := 2) Evl.ev_c (Evl.ev_var rfl) (e05 _ _ hb)) (fun h H6 e6 => ?_) fun h H6 e6 => ?_
    · rw [Bool.and_eq_true, decide_eq_true_eq, decide_eq_true_eq] at h
      obtain ⟨rfl, h2⟩ := h
      have du : due9 T wPut dn ds dt = some 3 := by rw [due_put, put_due3 (g0 (.inl rfl)) (g1 (.inl rfl)) (g2 (.inl rfl)) (b2 h2)]
      rw [du] at q
      exact q H6 (e05.trans e6)
    have g3 : x = wPut → sideB ds = true := fun hx => b2' fun k => by
      rw [decide_eq_true hx, decide_eq_true k] at h
      cases h
    -- fit
    have e06 := e05.trans e6
    refine Evl.q_when (b := decide (x = wPut) && decide (fitD T dn ds dt = .non)) (Evl.et_and (et_eqS wPut (Evl.ev_var rfl)) fun h => ?_) (fun h H7 e7 => ?_) fun h H7 e7 => ?_
    · have hx := of_decide_eq_true h
      obtain ⟨sn, rfl, g⟩ := stone_get (g0 (.inl hx))
      obtain ⟨n, rfl, nl⟩ := num_get (g2 (.inl hx))
      obtain ⟨right, rfl⟩ := side_get (g3 hx)
      obtain ⟨ts, u, z, rfl, hts, hu, hz⟩ := dt_two ht
      cases hu
      cases hz
      cases hn
      cases hs
      rw [fitD_is]
      refine Evl.et_is (Evl.et_not (Evl.et_B (Evl.ev_call (dvs := []) (Evl.ea_cons (Evl.ev_var (i := 0) rfl) (Evl.ea_cons (Evl.ev_var (i := 3) rfl) (Evl.ea_cons (Evl.ev_var (i := 4) rfl) (Evl.ea_cons (Evl.ev_var (i := 5) rfl) Evl.ea_nil)))) (z := .bl (!decide (fitC T n right sn = .non))) fun H8 e8 Q' q' _ => ⟨o, A, T, n, right, ts, sn, rfl, t.ex (e06.trans e8), nl, (e06.trans e8) _ _ hts, fun H9 e9 => q' H9 e9⟩))) (Bool.not_not _)
    · rw [Bool.and_eq_true, decide_eq_true_eq, decide_eq_true_eq] at h
      obtain ⟨rfl, h2⟩ := h
      have du : due9 T wPut dn ds dt = some 4 := by rw [due_put, put_due4 (g0 (.inl rfl)) (g1 (.inl rfl)) (g2 (.inl rfl)) (g3 rfl), if_pos h2]
      rw [du] at q
      exact q H7 (e06.trans e7)
    · have du : due9 T x dn ds dt = none := by
        unfold words6 at hx
        simp only [List.mem_cons, List.not_mem_nil, or_false] at hx
        rcases hx with rfl | rfl | rfl | rfl | rfl | rfl
        · rw [decide_eq_true rfl, Bool.true_and] at h
          rw [due_put, put_due4 (g0 (.inl rfl)) (g1 (.inl rfl)) (g2 (.inl rfl)) (g3 rfl), if_neg (of_decide_eq_false h)]
        · rw [due_begin]
          exact (if_neg (by rw [g0 (.inr (.inl rfl))]; exact fun z => nomatch z)).trans (if_neg (by have := g1 (.inr rfl); omega))
        · rw [due_fits, if_neg (by rw [g0 (.inr (.inr rfl))]; exact fun z => nomatch z)]
        · rw [due_chain, if_neg (by rw [g2 (.inr (.inl rfl))]; exact fun z => nomatch z)]
        · rw [due_ends, if_neg (by rw [g2 (.inr (.inr rfl))]; exact fun z => nomatch z)]
        · exact absurd rfl n0
      rw [du] at q
      exact q H7 (e06.trans e7)
end
end Sw
namespace Sw
open PySem PySem.Spec PyProof.Rows L2
open Evl (Ex Ex.refl Ex.trans Ex.new Ex.mut ex_l ex_t ex_rd fresh_back Ev EvL EvU EvT EvA RV RC RCL SpV SpL)
/-! ### _law_state -/
def dChs (cs : List (List Step)) : PyData := .list (cs.map fun c => dStones (castS c))
def stateD (T : Tb) : PyData := .list [dChs T.cs, dStones T.st, .int (T.cs.length : Int)]
theorem dt_chs {H : Hp} {p : Addr} {rs : List Addr} {cs : List (List Step)} (h : H p = some (.lst (rs.map V.ref))) (hc : Chs H rs cs) : Dt H (.ref p) (dChs cs) := .lst h (DtAll.of (by rw [List.length_map, List.length_map, hc.1]) fun i v d e1 e2 => by
  rw [List.getElem?_map] at e1 e2
  obtain ⟨r, hr, rfl⟩ := Option.map_eq_some_iff.mp e1
  obtain ⟨c, hc', rfl⟩ := Option.map_eq_some_iff.mp e2
  exact (hc.2 i r c hr hc').dt)
theorem lay_state {T : Tb} (r : Reach T) (g : Good T.st) : Lay 4 (stateD T) := by
  have l60 := g.1
  have fw := r.few
  refine Lay.lst (by show 3 ≤ 1000; decide) fun d hd => ?_
  simp only [List.mem_cons, List.not_mem_nil, or_false] at hd
  rcases hd with rfl | rfl | rfl
  · refine Lay.lst (by rw [List.length_map]; omega) fun d hd => ?_
    obtain ⟨c, hc, rfl⟩ := List.mem_map.mp hd
    exact lay_stones _ (by rw [castS_len]; have := (r.chains c hc).2.2; omega)
  · exact (lay_stones _ (by omega)).mono (by decide)
  · exact Lay.int _ _
section
variable {P : Program} {w : World} {K : PySem.W.Frag} {mg : Str → Option Value} {base : Heap} {C : Addr}
theorem scState9 : FnScope ["_law_table_here"] ["_law_table_here"] (defScope s_law_state) := ⟨rfl, rfl, rfl, by decide +kernel, rfl, by decide +kernel, by decide +kernel⟩
def spState9 (C : Addr) : Sp := fun vs H Q _ => ∃ (o : Addr) (A : TAd) (T : Tb), vs = [.ref o] ∧ TabAt C o A T H ∧ ∀ p H2, Ex H H2 → Dt H2 (.ref p) (stateD T) → Q (.ref p) H2
theorem ok_state9 {f fL fS fK : Addr} {fd fdL fdS fdK : FuncData} (F : Fun K "_law_state" "_law_state" s_law_state f fd) (X : TxtT K mg C)
    (GL : FnOk P w K mg base CX0 1 fL fdL ["self"] (spLayingM C)) (mLy : Meth K C "laying" fL) (bL : Binds K fdL ["self"] [])
    (GS : FnOk P w K mg base CX0 1 fS fdS ["self"] (spStonesM C)) (mS : Meth K C "stones" fS) (bS : Binds K fdS ["self"] [])
    (GK : FnOk P w K mg base CX0 1 fK fdK ["self"] (spChainsM C)) (mK : Meth K C "chains" fK) (bK : Binds K fdK ["self"] []) : FnOk P w K mg base CX0 2 f fd ["_law_table_here"] (spState9 C) := by
  refine F.ok scState9 (fun vs H Q E h => ?_) (fun cdv A outer s H vs Q E hr h => ?_)
  · obtain ⟨o, A, T, rfl, _⟩ := h
    rfl
  · obtain ⟨o, A, T, rfl, t, q⟩ := h
    refine ⟨_, pss_one (ps_ret (pe_lst (pa_cons (pe_meth0 (E := E0) (pv 0) X.cl mLy GL hr bL .nil pass0) (pa_cons (pe_meth0 (E := E0) (pv 0) X.cl mS GS hr bS .nil pass0) (pa_cons (pe_meth0 (E := E0) (pv 0) X.cl mK GK hr bK .nil pass0) pa_nil))))), ?_⟩
    refine ⟨_, rfl, o, _, _, rfl, t.ob, tF_no (by decide +kernel) (by decide +kernel) (by decide +kernel), o, A, T, rfl, t, fun p rs H1 np e1 hp hc => ?_⟩
    have t1 := t.ex e1
    have d1 := dt_chs hp hc
    refine ⟨_, rfl, o, _, _, rfl, t1.ob, tF_no (by decide +kernel) (by decide +kernel) (by decide +kernel), o, A, T, rfl, t1, fun p2 H2 np2 e2 hp2 => ?_⟩
    have t2 := t1.ex e2
    refine ⟨_, rfl, o, _, _, rfl, t2.ob, tF_no (by decide +kernel) (by decide +kernel) (by decide +kernel), o, A, T, rfl, t2, fun H3 e3 => ⟨by show 3 ≤ sizeLine; decide, fun r nr => ?_⟩⟩
    have x3 : Ex H3 (upd H3 r (.lst [.ref p, .ref p2, .int (T.cs.length : Int)])) := Ex.new nr
    refine q r _ (((e1.trans e2).trans e3).trans x3) (.lst upd_same (.cons ?_ (.cons ?_ (.cons (.int _) .nil))))
    · exact Dt.ex ((e2.trans e3).trans x3) _ _ d1
    · exact Dt.ex (e3.trans x3) _ _ hp2.dt
end
end Sw
namespace Sw
open PySem PySem.Spec PyProof.Rows L2
open Evl (Ex Ex.refl Ex.trans Ex.new Ex.mut ex_l ex_t ex_rd fresh_back Ev EvL EvU EvT EvA RV RC RCL SpV SpL)
section
variable {P : Program} {w : World} {K : PySem.W.Frag} {mg : Str → Option Value} {base : Heap}
/-! ### _law_cell -/
theorem scCell : FnScope ["_law_script", "_law_k", "_law_cell_here", "_law_more"] ["_law_script", "_law_k"] (defScope sCell) := ⟨rfl, rfl, rfl, by decide +kernel, rfl, by decide +kernel, by decide +kernel⟩
def cellH (ns : List Int) (k : Int) : Int := if ns = [] then 7919 * k + 11 else ns.getD (k % (ns.length : Int)).toNat 0 * 48271 + 104729 * k + k.fdiv (ns.length : Int) * 7919
def cellM (z : Int) : Int := z % 2147483647 * (z % 2147483647) % 2147483629
def cellF (ns : List Int) (k : Int) : Int := (cellM (cellH ns k) * cellM (cellH ns k) + 69621 * cellM (cellH ns k) + k) % 2147483587
theorem cellF_0 (ns : List Int) (k : Int) : 0 ≤ cellF ns k := Int.emod_nonneg _ (by decide)
theorem cellF_9 (ns : List Int) (k : Int) : cellF ns k < 2147483587 := Int.emod_lt_of_pos _ (by decide)
def spCellS (K : PySem.W.Frag) : Sp := fun vs H Q _ => ∃ (a : Addr) (ns : List Int) (k : Int), vs = [.ref a, .int k] ∧ SqL K H a (ns.map V.int) ∧ ns.length ≤ 63 ∧ Evl.RetV (.int (cellF ns k)) H Q
theorem pv_cell {a : Addr} {ns : List Int} {k : Int} {H : Hp} (hS : SqL K H a (ns.map V.int)) (hl : ns.length ≤ 63) : SpV (spCellS K) [.ref a, .int k] H (.int (cellF ns k)) := fun H1 e Q q _ => ⟨a, ns, k, rfl, ex_l e hS, hl, q⟩
theorem fmod_of {a b : Int} (h : 0 < b) : a.fmod b = a % b := Int.fmod_eq_emod_of_nonneg a (by omega)
theorem ok_cell {f : Addr} {fd : FuncData} (F : Fun K "_law_cell" "_law_cell" sCell f fd) (mL : mg "len" = none) : FnOk P w K mg base CX0 1 f fd ["_law_script", "_law_k"] (spCellS K) := by
  refine F.ok scCell (fun vs H Q E h => ?_) (fun cdv A outer s H vs Q E hr h => ?_)
  · obtain ⟨a, ns, k, rfl, _⟩ := h
    rfl
  · obtain ⟨a, ns, k, rfl, hS, hl, q⟩ := h
    refine ⟨_, pss_cons (ps_set (i := 2) scCell.nd rfl (.inl rfl) (pe_op op_add (pe_op op_mul pe_int (pv 1)) pe_int))
      (Evl.pss_cut (ps_if (pt_cmpR (op_neD hr.units) (pv 0) (pe_lst pa_nil) (nomark _))
        (pss_cons (ps_set (i := 2) scCell.nd rfl (.inl rfl) (pe_op op_mul (pe_ix ix_list (pv 0) (pe_op op_modN (pv 1) (pe_callB call_len_seq (by rfl) mL boot_len (pa_cons (pv 0) pa_nil))) (fun _ _ => rfl)) pe_int))
        (pss_one (ps_set (i := 2) scCell.nd rfl (.inl rfl) (pe_op op_add (pe_op op_add (pv 2) (pe_op op_mul pe_int (pv 1))) (pe_op op_mul (pe_op op_fdivN (pv 1) (pe_callB call_len_seq (by rfl) mL boot_len (pa_cons (pv 0) pa_nil))) pe_int))))) pss_nil)
      (pss_cons (ps_set (i := 3) scCell.nd rfl (.inl rfl) (pe_op op_mod (pv 2) pe_int))
      (pss_cons (ps_set (i := 3) scCell.nd rfl (.inl rfl) (pe_op op_mod (pe_op op_mul (pv 3) (pv 3)) pe_int))
      (pss_one (ps_ret (pe_op op_mod (pe_op op_add (pe_op op_add (pe_op op_mul (pv 3) (pv 3)) (pe_op op_mul pe_int (pv 3))) (pv 1)) pe_int)))))), ?_⟩
    refine ⟨_, rfl, _, _, rfl, rfl, .inl ⟨by decide, by decide⟩, _, _, rfl, rfl, ?_⟩
    refine ⟨fun σ H' => Ex H H' ∧ σ = [some (.ref a), some (.int k), some (.int (cellH ns k)), none], ?_, ?_⟩
    · refine ⟨_, rfl, Nat.zero_le _, fun p hp => ?_⟩
      have e1 : Ex H (upd H p (.lst [])) := Ex.new hp
      refine ⟨dInts ns, dInts [], dp_ints (ex_l e1 hS), dt_ints (ns := []) upd_same |>.dp, (lay_ints _ (by omega)).shaped (by decide), (lay_ints _ (by decide)).shaped (by decide), _, rfl, ?_⟩
      rw [eqv_dInts]
      by_cases hn : ns = []
      · rw [decide_eq_true hn]
        refine ⟨e1, ?_⟩
        unfold cellH
        rw [if_pos hn]
        rfl
      · rw [decide_eq_false hn]
        refine iteT ?_
        have hpos : 0 < ns.length := List.length_pos_iff.mpr hn
        have hS1 := ex_l (K := K) e1 hS
        have hlen : (ns.map V.int).length = ns.length := List.length_map _
        have hm := Int.emod_nonneg k (show (ns.length : Int) ≠ 0 by omega)
        have hm2 := Int.emod_lt_of_pos k (show 0 < (ns.length : Int) by omega)
        have hj : (k % (ns.length : Int)).toNat < ns.length := by omega
        have hat : (ns.map V.int)[(k % (ns.length : Int)).toNat]? = some (.int (ns.getD (k % (ns.length : Int)).toNat 0)) := by
          rw [List.getElem?_map, List.getElem?_eq_getElem hj, List.getD_eq_getElem?_getD, List.getElem?_eq_getElem hj]
          rfl
        have hix : atI (ns.map V.int) (k.fmod ((ns.map V.int).length : Int)) = some (.int (ns.getD (k % (ns.length : Int)).toNat 0)) := by
          refine at_of ?_ hat
          rw [hlen, fmod_of (by omega)]
          omega
        refine ⟨_, rfl, _, rfl, _, rfl, a, _, rfl, .inl hS1, _, _, rfl, rfl, by rw [List.length_map]; omega, a, _, _, _, rfl, rfl, hS1, hix, _, _, rfl, rfl, .inr ⟨by decide, by decide⟩, ?_⟩
        refine ⟨_, rfl, _, rfl, _, _, rfl, rfl, .inl ⟨by decide, by decide⟩, _, _, rfl, rfl, _, rfl, _, rfl, a, _, rfl, .inl hS1, _, _, rfl, rfl, ⟨by rw [List.length_map]; omega, by rw [List.length_map]; omega⟩, _, _, rfl, rfl, .inr ⟨by decide, by decide⟩, _, _, rfl, rfl, ?_⟩
        refine ⟨e1, ?_⟩
        unfold cellH
        rw [if_neg hn, hlen]
        rfl
    · rintro σ H1 ⟨e1, rfl⟩
      have fin : cellF ns k = (cellM (cellH ns k) * cellM (cellH ns k) + 69621 * cellM (cellH ns k) + k) % 2147483587 := rfl
      generalize cellH ns k = z at fin ⊢
      unfold cellM at fin
      refine ⟨_, rfl, _, _, rfl, rfl, (by show (0 : Int) < 2147483647; decide), ?_⟩
      have a1 := Int.emod_nonneg z (show (2147483647 : Int) ≠ 0 by decide)
      have a2 := Int.emod_lt_of_pos z (show (0 : Int) < 2147483647 by decide)
      refine ⟨_, rfl, _, rfl, _, _, rfl, rfl, .inl ⟨by show _ < z % 2147483647; omega, by show z % 2147483647 < _; omega⟩, _, _, rfl, rfl, (by show (0 : Int) < 2147483629; decide), ?_⟩
      generalize z % 2147483647 * (z % 2147483647) = y at fin
      have b1 := Int.emod_nonneg y (show (2147483629 : Int) ≠ 0 by decide)
      have b2 := Int.emod_lt_of_pos y (show (0 : Int) < 2147483629 by decide)
      refine ⟨_, rfl, _, rfl, _, _, rfl, rfl, .inl ⟨by show _ < y % 2147483629; omega, by show y % 2147483629 < _; omega⟩, _, rfl, _, _, rfl, rfl, .inl ⟨by decide, by decide⟩, _, _, rfl, rfl, _, rfl, _, _, rfl, rfl, _, _, rfl, rfl, (by show (0 : Int) < 2147483587; decide), ?_⟩
      have r := q _ e1
      rw [fin] at r
      exact r
end
end Sw
namespace Sw
open PySem PySem.Spec PyProof.Rows L2
open Evl (Ex Ex.refl Ex.trans Ex.new Ex.mut ex_l ex_t ex_rd fresh_back Ev EvL EvU EvT EvA RV RC RCL SpV SpL)
def dDeed (e : Nat × Bool) : PyData := .tuple [.int (e.1 : Int), .str (sideS e.2)]
theorem DeedsAt.dt {H : Hp} {a : Addr} {ds : List (Nat × Bool)} (h : DeedsAt H a ds) : Dt H (.ref a) (.list (ds.map dDeed)) := by
  obtain ⟨ts, h1, h2, h3⟩ := h
  refine .lst h1 (DtAll.of (by rw [List.length_map, List.length_map, h2]) fun i v d e1 e2 => ?_)
  rw [List.getElem?_map] at e1 e2
  obtain ⟨t, ht, rfl⟩ := Option.map_eq_some_iff.mp e1
  obtain ⟨s, hs, rfl⟩ := Option.map_eq_some_iff.mp e2
  exact .tup (h3 i t s ht hs) (.cons (.int _) (.cons (.str _) .nil))
theorem lay_deeds (ds : List (Nat × Bool)) (hz : ds.length ≤ 1000) : Lay 2 (.list (ds.map dDeed)) := Lay.lst (by rw [List.length_map]; exact hz) fun d hd => by
  obtain ⟨e, _, rfl⟩ := List.mem_map.mp hd
  refine Lay.tup (n := 0) (by show 2 ≤ 1000; decide) fun x hx => ?_
  simp only [List.mem_cons, List.not_mem_nil, or_false] at hx
  rcases hx with rfl | rfl
  · exact Lay.int _ _
  · simp only [Lay]
    cases e.2 <;> decide +kernel
section
variable {K : PySem.W.Frag} {σ : L2.St} {H : Hp}
theorem et_nilD {i : Nat} {a : Addr} {ds : List (Nat × Bool)} (hi : σ[i]? = some (some (.ref a))) (h : DeedsAt H a ds) (hz : ds.length ≤ 1000) : EvT (tTest (tOp (rEqD K) (tVar i) (tLst tNil))) σ H (decide (ds = [])) := fun H1 e Q q => ⟨_, hi, by show 0 ≤ sizeLine; decide, fun r nr =>
  ⟨.list (ds.map dDeed), .list [], Dt.dp _ _ ((h.ex e).ex (Ex.new nr)).dt, Dt.dp _ _ (.lst upd_same .nil), (lay_deeds ds hz).shaped (by decide), (Lay.lst (n := 0) (ds := []) (by decide) (fun d h => absurd h List.not_mem_nil)).shaped (by decide), _, rfl, by
    rw [show PyData.eqv (.list (ds.map dDeed)) (.list []) = decide (ds = []) from by
      cases ds with
      | nil =>
        rw [decide_eq_true rfl]
        rfl
      | cons d r =>
        rw [decide_eq_false (List.cons_ne_nil _ _)]
        rfl]
    exact q _ (Ex.new nr)⟩⟩
theorem rv_mod9 {i j : Int} (h : 0 < j) : RV (rI (fun _ j => 0 < j) fun i j => .int (i % j)) (.int i) (.int j) H (.int (i % j)) := Evl.rv_I (C := fun _ j => 0 < j) (g := fun i j => .int (i % j)) h
theorem rv_div9 {i j : Int} (h : CDiv i j) : RV (rI CDiv fun i j => .int (i / j)) (.int i) (.int j) H (.int (i / j)) := Evl.rv_I (g := fun i j => .int (i / j)) h
end
section
variable {P : Program} {w : World} {K : PySem.W.Frag} {mg : Str → Option Value} {base : Heap} {C : Addr}
/-! ### where nothing is refused -/
theorem beg_none {T : Tb} {s : Int × Int} (g : GoodS s) (l : T.st.length < 60) : begDue T (dPair s) = none := (if_neg (by rw [stone_is g]; exact fun z => nomatch z)).trans (if_neg (by omega))
theorem dt_pair {H : Hp} {t : Addr} {s : Int × Int} (h : H t = some (.tup [.int s.1, .int s.2])) : Dt H (.ref t) (dPair s) := .tup h (.cons (.int _) (.cons (.int _) .nil))
def spBegC (C : Addr) : Sp := fun vs H Q _ => ∃ (o : Addr) (A : TAd) (T : Tb) (t : Addr) (s : Int × Int), vs = [.ref o, .ref t] ∧ TabAt C o A T H ∧ H t = some (.tup [.int s.1, .int s.2]) ∧ GoodS s ∧ T.st.length < 60 ∧ ∀ A' H', Next C o A A' (T.beg s) H H' → Q (.int (T.cs.length : Int)) H'
theorem begin_calm {k : Nat} {f : Addr} {R : Nat → Addr} {fd : FuncData} (F : FnOk P w K mg base (L2.CX P w) k f fd ["self", "stone"] (spBegin C R)) : FnOk P w K mg base CX0 k f fd ["self", "stone"] (spBegC C) := FnOk.calm F fun vs H Q E h => by
  obtain ⟨o, A, T, t, s, rfl, tt, ht, g, l, q⟩ := h
  refine ⟨o, A, T, _, dPair s, rfl, tt, dt_pair ht, fun r hr => ?_, fun s' _ hs _ _ A' H' nx => ?_⟩
  · rw [beg_none g l] at hr
    cases hr
  · have : s = s' := of_decide_eq_true ((eqv_pair s s').symm.trans (by rw [hs, eqv_pair]; exact decide_eq_true rfl))
    subst this
    exact q A' H' nx
def spPutC (C : Addr) : Sp := fun vs H Q _ => ∃ (o : Addr) (A : TAd) (T : Tb) (n : Nat) (right : Bool) (t : Addr) (s : Int × Int), vs = [.ref o, .int (n : Int), .str (sideS right), .ref t] ∧ TabAt C o A T H ∧ H t = some (.tup [.int s.1, .int s.2]) ∧ GoodS s ∧ n < T.cs.length ∧ T.st.length < 60 ∧ fitC T n right s ≠ .non ∧
  ∀ (tn : Nat) A' H', fitC T n right s = .int (tn : Int) → Next C o A A' (T.put n right s tn) H H' → Q .non H'
theorem put_calm {k : Nat} {f : Addr} {R : Nat → Addr} {fd : FuncData} (F : FnOk P w K mg base (L2.CX P w) k f fd ["self", "number", "side", "stone"] (spPut9 C R)) : FnOk P w K mg base CX0 k f fd ["self", "number", "side", "stone"] (spPutC C) := FnOk.calm F fun vs H Q E h => by
  obtain ⟨o, A, T, n, right, t, s, rfl, tt, ht, g, nl, l, fit, q⟩ := h
  refine ⟨o, A, T, _, _, _, .int (n : Int), .str (sideS right), dPair s, rfl, tt, .int _, .str _, dt_pair ht, fun r hr => ?_, fun n' right' s' tn _ hn hs hd _ _ hf _ _ A' H' nx => ?_⟩
  · rw [put_due4 (stone_is g) l (num_is nl) (side_is right), fitD_is, if_neg fit] at hr
    cases hr
  · have e1 : n = n' := by
      have := PyData.int.inj hn
      omega
    have e2 : right = right' := side_inj (PyData.str.inj hs)
    have e3 : s = s' := of_decide_eq_true ((eqv_pair s s').symm.trans (by rw [hd, eqv_pair]; exact decide_eq_true rfl))
    subst e1 e2 e3
    exact q tn A' H' hf nx
def spFitsC (C : Addr) : Sp := fun vs H Q _ => ∃ (o : Addr) (A : TAd) (T : Tb) (t : Addr) (s : Int × Int), vs = [.ref o, .ref t] ∧ TabAt C o A T H ∧ H t = some (.tup [.int s.1, .int s.2]) ∧ GoodS s ∧ ∀ p H2 ds, Ex H H2 → DeedsAt H2 p ds → ds.length ≤ 200 → FitsP T s ds → Q (.ref p) H2
theorem fits_calm {k : Nat} {f : Addr} {R : Nat → Addr} {fd : FuncData} (F : FnOk P w K mg base (L2.CX P w) k f fd ["self", "stone"] (spFits C R)) : FnOk P w K mg base CX0 k f fd ["self", "stone"] (spFitsC C) := FnOk.calm F fun vs H Q E h => by
  obtain ⟨o, A, T, t, s, rfl, tt, ht, g, q⟩ := h
  refine ⟨o, A, T, _, dPair s, rfl, tt, dt_pair ht, fun hb => ?_, fun s' hs _ p H2 ds e2 hd hl hp => ?_⟩
  · rw [stone_is g] at hb
    cases hb
  · have : s = s' := of_decide_eq_true ((eqv_pair s s').symm.trans (by rw [hs, eqv_pair]; exact decide_eq_true rfl))
    subst this
    exact q p H2 ds e2 hd hl hp
def spBackC (C : Addr) : Sp := fun vs H Q _ => ∃ (o : Addr) (A : TAd) (T : Tb), vs = [.ref o] ∧ TabAt C o A T H ∧ T.st ≠ [] ∧ ∀ v A' T' H', Next C o A A' T' H H' → T'.st.length + 1 = T.st.length → Q v H'
theorem back_calm {k : Nat} {f : Addr} {R : Nat → Addr} {fd : FuncData} (F : FnOk P w K mg base (L2.CX P w) k f fd ["self"] (spBack C R)) : FnOk P w K mg base CX0 k f fd ["self"] (spBackC C) := FnOk.calm F fun vs H Q E h => by
  obtain ⟨o, A, T, rfl, tt, hn, q⟩ := h
  exact ⟨o, A, T, rfl, tt, fun h => absurd h hn, fun _ => q⟩
def spChainC (C : Addr) : Sp := fun vs H Q _ => ∃ (o : Addr) (A : TAd) (T : Tb) (n : Nat) (c : List Step), vs = [.ref o, .int (n : Int)] ∧ TabAt C o A T H ∧ T.cs[n]? = some c ∧ ∀ z H2, Ex H H2 → StonesAt H2 z (c.map (lie T.st)) → Q (.ref z) H2
theorem chain_calm {k : Nat} {f CN : Addr} {fd : FuncData} (F : FnOk P w K mg base (L2.CX P w) k f fd ["self", "number"] (spChainM C CN)) : FnOk P w K mg base CX0 k f fd ["self", "number"] (spChainC C) := FnOk.calm F fun vs H Q E h => by
  obtain ⟨o, A, T, n, c, rfl, t, hn, q⟩ := h
  refine ⟨o, A, T, _, .int (n : Int), rfl, t, .int _, fun n' c' hd hn' z H2 e2 hz => ?_, fun hb => ?_⟩
  · have nn : n' = n := by
      have := PyData.int.inj hd
      omega
    subst nn
    obtain rfl := Option.some.inj (hn.symm.trans hn')
    exact q z H2 e2 hz
  · rw [num_is (List.getElem?_eq_some_iff.mp hn).1] at hb
    cases hb
/-! ### _law_table -/
theorem scTable9 : FnScope ["_law_script", "_law_table_here", "_law_many", "_law_k", "_law_cell_here", "_law_stone", "_law_here", "_law_number", "_law_side"] ["_law_script"] (defScope s_law_table) := ⟨rfl, rfl, rfl, by decide +kernel, rfl, by decide +kernel, by decide +kernel⟩
def spTable9 (K : PySem.W.Frag) (C : Addr) : Sp := fun vs H Q _ => ∃ (a : Addr) (ns : List Int), vs = [.ref a] ∧ SqL K H a (ns.map V.int) ∧ ns.length ≤ 63 ∧ ∀ o A T H', Ex H H' → TabAt C o A T H' → (∀ a ∈ A.cells, H a = none) → Q (.ref o) H'
def many9 (c1 c2 : Int) : Int := if c2 % 8 < 6 then c1 % 14 else if c2 % 8 = 6 then 0 else 60
theorem many9_in (c1 c2 : Int) : 0 ≤ many9 c1 c2 ∧ many9 c1 c2 ≤ 60 := by
  unfold many9
  have a := Int.emod_nonneg c1 (show (14 : Int) ≠ 0 by decide)
  have b := Int.emod_lt_of_pos c1 (show (0 : Int) < 14 by decide)
  split
  · omega
  · split <;> omega
theorem ok_table9 {f fI fC fF fB fP : Addr} {fd fdI fdC fdF fdB fdP : FuncData} (F : Fun K "_law_table" "_law_table" s_law_table f fd) (X : TxtT K mg C) (mL : mg "len" = none) (mN : mg "int" = none) (mR : mg "range" = none)
    (M : Mk K C fI) (GI : FnOk P w K mg base CX0 1 fI fdI ["self"] (spInit9 C)) (bI : Binds K fdI ["self"] [])
    (GC : FnOk P w K mg base CX0 1 fC fdC ["_law_script", "_law_k"] (spCellS K)) (gC : mg "_law_cell" = some (.ref fC)) (kC : PySem.W.keepIn K (.ref fC) = true) (bC : Binds K fdC ["_law_script", "_law_k"] [])
    (GF : FnOk P w K mg base CX0 6 fF fdF ["self", "stone"] (spFitsC C)) (mF : Meth K C "fits" fF) (bF : Binds K fdF ["self", "stone"] [])
    (GB : FnOk P w K mg base CX0 4 fB fdB ["self", "stone"] (spBegC C)) (mB : Meth K C "begin" fB) (bB : Binds K fdB ["self", "stone"] [])
    (GP : FnOk P w K mg base CX0 6 fP fdP ["self", "number", "side", "stone"] (spPutC C)) (mP : Meth K C "put" fP) (bP : Binds K fdP ["self", "number", "side", "stone"] []) : FnOk P w K mg base CX0 7 f fd ["_law_script"] (spTable9 K C) := by
  refine F.ok scTable9 (fun vs H Q E h => ?_) (fun cdv A outer s H vs Q E hr h => ?_)
  · obtain ⟨a, ns, rfl, _⟩ := h
    rfl
  · obtain ⟨sc, ns, rfl, hN, hn, q⟩ := h
    have hr4 : Room 4 _ := hr.mono (by decide)
    have hr2 : Room 2 _ := hr.mono (by decide)
    have hr1 : Room 1 _ := hr.mono (by decide)
    refine ⟨_, pss_cons (ps_set (i := 1) scTable9.nd rfl (.inl rfl) (pe_make0 (E := E0) M GI hr2 (by rfl) X.g bI .nil pass0))
      (pss_cons (ps_set (i := 2) scTable9.nd rfl (.inl rfl) (pe_ix (r := rIxL K) ix_list (pe_lst (pa_cons (pe_op op_mod (pe_call GC hr1 (by rfl) gC kC bC .nil pass0 (pa_cons (pv 0) (pa_cons pe_int pa_nil))) pe_int) (pa_cons pe_int (pa_cons pe_int pa_nil))))
          (pe_op op_add (pe_op op_fdiv (pe_op op_mod (pe_call GC hr1 (by rfl) gC kC bC .nil pass0 (pa_cons (pv 0) (pa_cons pe_int pa_nil))) pe_int) pe_int) (pe_callTy (r := rInt1) call_int1 (by rfl) mN PyProof.Rows.boot_int (pa_cons (pe_cmpR op_eq (pe_op op_mod (pe_call GC hr1 (by rfl) gC kC bC .nil pass0 (pa_cons (pv 0) (pa_cons pe_int pa_nil))) pe_int) pe_int (nomark _)) pa_nil))) (fun _ _ => rfl)))
      (pss_cons (ps_for PassesOwn.never rfl (pi_range1 (by rfl) mR (pa_cons (pv 2) pa_nil)) (pg_name (i := 3) scTable9.nd rfl (.inl rfl))
        (pss_cons (ps_set (i := 4) scTable9.nd rfl (.inl rfl) (pe_call GC hr1 (by rfl) gC kC bC .nil pass0 (pa_cons (pv 0) (pa_cons (pe_op op_add pe_int (pv 3)) pa_nil))))
        (pss_cons (ps_set (i := 5) scTable9.nd rfl (.inl rfl) (pe_tup (pa_cons (pe_op op_mod (pv 4) pe_int) (pa_cons (pe_op op_mod (pe_op op_fdiv (pv 4) pe_int) pe_int) pa_nil))))
        (pss_cons (ps_set (i := 6) scTable9.nd rfl (.inl rfl) (pe_meth (E := E0) (pv 1) X.cl mF GF hr bF .nil pass0 (pa_cons (pv 5) pa_nil)))
        (pss_one (ps_if (PW.pt (pw_or (pt_cmpR (r := rEqD K) (op_eqD hr.units) (pv 6) (pe_lst pa_nil) (nomark _)) (pw_or1 (pt_cmpR op_eq (pe_op op_mod (pe_op op_fdiv (pv 4) pe_int) pe_int) pe_int (nomark _)))))
          (pss_one (ps_expr (pe_meth (E := E0) (pv 1) X.cl mB GB hr4 bB .nil pass0 (pa_cons (pv 5) pa_nil))))
          (pss_cons (ps_asg (pe_ix (r := rIxL K) ix_list (pv 6) (pe_op op_mod (pe_op op_fdiv (pv 4) pe_int) (pe_callB (r := Evl.rLenS K) call_len_seq (by rfl) mL boot_len (pa_cons (pv 6) pa_nil))) (fun _ _ => rfl)) (pg_tup rfl (pgs_cons (pg_name (i := 7) scTable9.nd rfl (.inl rfl)) (pgs_cons (pg_name (i := 8) scTable9.nd rfl (.inl rfl)) pgs_nil))))
          (pss_one (ps_expr (pe_meth (E := E0) (pv 1) X.cl mP GP hr bP .nil pass0 (pa_cons (pv 7) (pa_cons (pv 8) (pa_cons (pv 5) pa_nil)))))))))))))
      (pss_one (ps_ret (pv 1))))), ?_⟩
    refine fun x dx nx ndx nex => ⟨x, dx, rfl, upd_same, fun H1 A0 t1 fr nw0 => ⟨rfl, ?_⟩⟩
    have ndx2 : (upd H dx (.own x)) x = none := by
      rw [upd_ne fun z => nex z.symm]
      exact nx
    have e00 : Ex H (upd (upd H dx (.own x)) x (.ins C dx [])) := (Ex.new ndx).trans (Ex.new ndx2)
    have e1 : Ex H H1 := fun a u ha => fr a u (e00 _ _ ha) fun z => by rw [z, nx] at ha; cases ha
    have c1 : ∀ a ∈ A0.cells, H a = none := fun a ha => fresh_back e00 (nw0 a ha)
    have hN1 := ex_l (K := K) e1 hN
    -- how many
    have c8 : ∀ c : Int, 0 ≤ c % 8 ∧ c % 8 < 8 := fun c => ⟨Int.emod_nonneg _ (by decide), Int.emod_lt_of_pos _ (by decide)⟩
    have cell : ∀ {σ : L2.St} {H' : Hp} (k : Int), σ[0]? = some (some (.ref sc)) → Ex H H' → Ev (tCall (spCellS K) [] E0 (tCons (tVar 0) (tCons (tC (.int k)) tNil))) σ H' (.int (cellF ns k)) := fun {σ H'} k h e => Evl.ev_call (Evl.ea_cons (Evl.ev_var h) (Evl.ea_cons Evl.ev_c Evl.ea_nil)) (pv_cell (ex_l e hN) hn)
    have d8 : CDiv (cellF ns 2 % 8) 6 := ⟨by decide, by decide⟩
    refine Evl.q_asg (v := .int (many9 (cellF ns 1) (cellF ns 2))) (Evl.ev_opL1 (xs := [.int (cellF ns 1 % 14), .int 0, .int 60]) (y := .int (cellF ns 2 % 8 / 6 + if decide (cellF ns 2 % 8 = 7) then 1 else 0)) (Evl.el_lst (Evl.ea_cons (Evl.ev_op (cell 1 rfl e1) Evl.ev_c (rv_mod9 (by decide))) (Evl.ea_cons Evl.ev_c (Evl.ea_cons Evl.ev_c Evl.ea_nil))) (by show 3 ≤ _; decide))
      (fun H2 e2 => Evl.ev_op (Evl.ev_op (Evl.ev_op (cell 2 rfl (e1.trans e2)) Evl.ev_c (rv_mod9 (by decide))) Evl.ev_c (rv_div9 d8)) (ev_intB (Evl.ev_is (Evl.ev_op (Evl.ev_op (cell 2 rfl (e1.trans e2)) Evl.ev_c (rv_mod9 (by decide))) Evl.ev_c (Evl.rv_eq rfl)) (decV ⟨fun h => V.int.inj h, fun h => by rw [h]⟩))) (Evl.rv_I0 (g := fun i j => .int (i + j)))) fun p H2 hp e2 => Evl.rv_ixL (K := K) (SqL.of hp) ?_) fun H2 e2 => ?_
    · have c8 := c8 (cellF ns 2)
      unfold many9
      by_cases z : cellF ns 2 % 8 < 6
      · rw [if_pos z, decide_eq_false (by omega), show cellF ns 2 % 8 / 6 + (if false = true then 1 else 0) = ((0 : Nat) : Int) from by rw [if_neg Bool.false_ne_true]; omega]
        exact atI_nat rfl
      · rw [if_neg z]
        by_cases y : cellF ns 2 % 8 = 6
        · rw [if_pos y, decide_eq_false (by omega), show cellF ns 2 % 8 / 6 + (if false = true then 1 else 0) = ((1 : Nat) : Int) from by rw [if_neg Bool.false_ne_true]; omega]
          exact atI_nat rfl
        · rw [if_neg y, decide_eq_true (by omega), show cellF ns 2 % 8 / 6 + (if true = true then 1 else 0) = ((2 : Nat) : Int) from by rw [if_pos rfl]; omega]
          exact atI_nat rfl
    have mn := many9_in (cellF ns 1) (cellF ns 2)
    generalize many9 (cellF ns 1) (cellF ns 2) = mny at mn ⊢
    refine Evl.q_forR1 (n := mny) (Evl.ea_cons (Evl.ev_var rfl) Evl.ea_nil) (by omega)
      (fun k σ' H' => ∃ (A : TAd) (T : Tb), Ex H H' ∧ TabAt C x A T H' ∧ (∀ a ∈ A.cells, H a = none) ∧ T.st.length = k ∧ ∃ x3 x4 x5 x6 x7 x8 : Option V, σ' = [some (.ref sc), some (.ref x), some (.int mny), x3, x4, x5, x6, x7, x8])
      (fun H3 e3 => ⟨A0, .nil, (e1.trans e2).trans e3, t1.ex (e2.trans e3), c1, rfl, _, _, _, _, _, _, rfl⟩) ?_ ?_
    · rintro k σ' H3 hk ⟨A, T, e3, t3, cA, lk, x3, x4, x5, x6, x7, x8, rfl⟩
      refine Evl.q_asg (Evl.ev_call (dvs := []) (Evl.ea_cons (Evl.ev_var rfl) (Evl.ea_cons (Evl.ev_op Evl.ev_c (Evl.ev_var rfl) (Evl.rv_I0 (g := fun i j => .int (i + j)))) Evl.ea_nil)) (pv_cell (ex_l (K := K) e3 hN) hn)) fun H4 e4 => ?_
      generalize cellF ns (10 + (k : Int)) = c
      have g : GoodS (c % 4, c / 4 % 4) := by
        have a1 := Int.emod_nonneg c (show (4 : Int) ≠ 0 by decide)
        have a2 := Int.emod_lt_of_pos c (show (0 : Int) < 4 by decide)
        have b1 := Int.emod_nonneg (c / 4) (show (4 : Int) ≠ 0 by decide)
        have b2 := Int.emod_lt_of_pos (c / 4) (show (0 : Int) < 4 by decide)
        exact ⟨⟨a1, by show c % 4 ≤ 999999; omega⟩, b1, by show c / 4 % 4 ≤ 999999; omega⟩
      refine Evl.q_asgU (xs := [.int (c % 4), .int (c / 4 % 4)]) (Evl.eu_tup (Evl.ea_cons (Evl.ev_op (Evl.ev_var rfl) Evl.ev_c (rv_mod9 (by decide))) (Evl.ea_cons (Evl.ev_op (Evl.ev_op (Evl.ev_var rfl) Evl.ev_c (rv_div9 ⟨by decide, by decide⟩)) Evl.ev_c (rv_mod9 (by decide))) Evl.ea_nil)) (by show 2 ≤ _; decide)) fun ts H5 nts e5 hts => ?_
      have t5 := t3.ex (e4.trans e5)
      have e05 := (e3.trans e4).trans e5
      have l60 : T.st.length < 60 := by omega
      refine ⟨_, rfl, x, _, _, rfl, t5.ob, tF_no (by decide +kernel) (by decide +kernel) (by decide +kernel), _, rfl, x, A, T, ts, (c % 4, c / 4 % 4), rfl, t5, hts, g, fun p H6 ds e6 hd hl hp => ?_⟩
      have next : ∀ (A' : TAd) (T' : Tb) (H7 H8 : Hp) (x6 x7 x8 : Option V), Ex H5 H7 → Next C x A A' T' H7 H8 → T'.st.length = k + 1 → ∃ (A : TAd) (T : Tb), Ex H H8 ∧ TabAt C x A T H8 ∧ (∀ a ∈ A.cells, H a = none) ∧ T.st.length = k + 1 ∧ ∃ y3 y4 y5 y6 y7 y8 : Option V, [some (.ref sc), some (.ref x), some (.int mny), some (.int (k : Int)), some (.int c), some (.ref ts), x6, x7, x8] = [some (.ref sc), some (.ref x), some (.int mny), y3, y4, y5, y6, y7, y8] := fun A' T' H7 H8 x6 x7 x8 e7 nx hl => by
        obtain ⟨f1, f2⟩ := nx.m.fr H (e05.trans e7) cA
        exact ⟨A', T', f1, nx.t, f2, hl, _, _, _, _, _, _, rfl⟩
      have lb : ∀ s : Int × Int, (T.st ++ [s]).length = k + 1 := fun s => by
        rw [List.length_append, lk]
        rfl
      dsimp only
      refine Evl.s_if (b := decide (ds = []) || decide (c / 16 % 4 = 1)) ?_ ?_ ?_
      · exact Evl.et_or (et_nilD rfl hd (by omega)) fun _ => et_eqI9 1 (Evl.ev_op (Evl.ev_op (Evl.ev_var rfl) Evl.ev_c (rv_div9 ⟨by decide, by decide⟩)) Evl.ev_c (rv_mod9 (by decide)))
      · intro hb H7 e7
        have t7 := t5.ex (e6.trans e7)
        exact ⟨_, rfl, x, _, _, rfl, t7.ob, tF_no (by decide +kernel) (by decide +kernel) (by decide +kernel), _, rfl, x, A, T, ts, (c % 4, c / 4 % 4), rfl, t7, (e6.trans e7) _ _ hts, g, l60, fun A' H8 nx => next A' _ H7 H8 _ _ _ (e6.trans e7) nx (lb _)⟩
      · intro hb H7 e7
        rw [Bool.or_eq_false_iff, decide_eq_false_iff_not] at hb
        have dp : 0 < ds.length := List.length_pos_iff.mpr hb.1
        obtain ⟨us, u1, u2⟩ := hd.ex e7
        have ul : us.length = ds.length := u2.1
        have j1 := Int.emod_nonneg (c / 64) (show (ds.length : Int) ≠ 0 by omega)
        have j2 := Int.emod_lt_of_pos (c / 64) (show (0 : Int) < (ds.length : Int) by omega)
        obtain ⟨j, hj⟩ := Int.eq_ofNat_of_zero_le j1
        have jl : j < ds.length := by omega
        have jl' : j < us.length := by omega
        have hpair := u2.2 j us[j] ds[j] (List.getElem?_eq_getElem jl') (List.getElem?_eq_getElem jl)
        obtain ⟨_, nl, fit⟩ := hp ds[j] (List.getElem_mem jl)
        have ev : Ev (tOp (rIxL K) (tVar 6) (tOp (rI (fun _ j => 0 < j) fun i j => .int (i % j)) (tOp (rI CDiv fun i j => .int (i / j)) (tVar 4) (tC (.int 64))) (tCB (Evl.rLenS K) (tCons (tVar 6) tNil)))) [some (.ref sc), some (.ref x), some (.int mny), some (.int (k : Int)), some (.int c), some (.ref ts), some (.ref p), x7, x8] H7 (.ref us[j]) :=
          Evl.ev_op (Evl.ev_var rfl) (Evl.ev_is (w := .int (j : Int)) (Evl.ev_op (Evl.ev_op (Evl.ev_var rfl) Evl.ev_c (rv_div9 ⟨by decide, by decide⟩)) (Evl.ev_is (w := .int (ds.length : Int)) (Evl.ev_len (K := K) (Evl.ev_var rfl) (SqL.of u1)) (by rw [List.length_map, ul])) (rv_mod9 (by omega))) (by rw [← hj])) (Evl.rv_ixL (K := K) (SqL.of u1) (atI_nat (by rw [List.getElem?_map, List.getElem?_eq_getElem jl']; rfl)))
        refine ev H7 (Ex.refl H7) _ fun H8 e8 => ⟨us[j], [.int (ds[j].1 : Int), .str (sideS ds[j].2)], rfl, SqT.of (e8 _ _ hpair), rfl, .int (ds[j].1 : Int), [.str (sideS ds[j].2)], rfl, .str (sideS ds[j].2), [], rfl, rfl, ?_⟩
        have e58 := (e6.trans e7).trans e8
        have t8 := t5.ex e58
        exact ⟨_, rfl, x, _, _, rfl, t8.ob, tF_no (by decide +kernel) (by decide +kernel) (by decide +kernel), _, rfl, _, rfl, _, rfl, x, A, T, ds[j].1, ds[j].2, ts, (c % 4, c / 4 % 4), rfl, t8, e58 _ _ hts, g, nl, l60, fit, fun tn A' H9 hf nx => next A' _ H8 H9 _ _ _ e58 nx (lb _)⟩
    · rintro σ' H3 ⟨A, T, e3, t3, cA, lk, x3, x4, x5, x6, x7, x8, rfl⟩
      exact ⟨_, rfl, q x A T H3 e3 t3 cA⟩
end
end Sw
namespace Sw
open PySem PySem.Spec PyProof.Rows L2
open Evl (Ex Ex.refl Ex.trans Ex.new Ex.mut ex_l ex_t ex_rd fresh_back Ev EvL EvU EvT EvA RV RC RCL SpV SpL)
/-! ### what tells a thing of some kind -/
abbrev Kd := Hp → V → Prop
def Lasts (P : Kd) : Prop := ∀ H H' v, Ex H H' → P H v → P H' v
def EvP (te : TE) (σ : L2.St) (H : Hp) (P : Kd) : Prop := ∀ H1, Ex H H1 → ∀ Q : VK, (∀ v H2, Ex H1 H2 → P H2 v → Q v H2) → te σ H1 Q
def EvPs (ta : TA) (σ : L2.St) (H : Hp) (P : Kd) (n : Nat) : Prop := ∀ H1, Ex H H1 → ∀ Q : List V → Hp → Prop, (∀ xs H2, Ex H1 H2 → xs.length = n → (∀ x ∈ xs, P H2 x) → Q xs H2) → ta σ H1 Q
def DtK (d : PyData) : Kd := fun H v => Dt H v d
def EvDs (ta : TA) (σ : L2.St) (H : Hp) (ds : List PyData) : Prop := ∀ H1, Ex H H1 → ∀ Q : List V → Hp → Prop, (∀ xs H2, Ex H1 H2 → DtAll H2 xs ds → Q xs H2) → ta σ H1 Q
section
variable {K : PySem.W.Frag} {σ : L2.St} {H : Hp} {ta tb te : TE} {tr : TA} {P P1 P2 P3 : Kd}
theorem lasts_dt (d : PyData) : Lasts (DtK d) := fun _ _ v e h => Dt.ex e d v h
theorem evp_imp (h : EvP te σ H P) (k : ∀ H v, P H v → P1 H v) : EvP te σ H P1 := fun H1 e Q q => h H1 e Q fun v H2 e2 hv => q v H2 e2 (k H2 v hv)
theorem evp_ev {v : V} (h : Ev te σ H v) (hp : ∀ H1, Ex H H1 → P H1 v) : EvP te σ H P := fun H1 e Q q => h H1 e Q fun H2 e2 => q v H2 e2 (hp H2 (e.trans e2))
theorem evs_nil : EvPs tNil σ H P 0 := fun H1 e Q q => q [] H1 (Ex.refl H1) rfl fun x hx => nomatch hx
theorem evs_cons {n : Nat} (L : Lasts P) (h : EvP te σ H P) (k : EvPs tr σ H P n) : EvPs (tCons te tr) σ H P (n + 1) := fun H1 e Q q => h H1 e _ fun v H2 e2 hv => k H2 (e.trans e2) _ fun xs H3 e3 hl hx => q (v :: xs) H3 (e2.trans e3) (by rw [List.length_cons, hl]) fun x m => by
  rcases List.mem_cons.mp m with z | m
  · rw [z]
    exact L _ _ _ e3 hv
  · exact hx x m
theorem eds_nil : EvDs tNil σ H [] := fun H1 e Q q => q [] H1 (Ex.refl H1) .nil
theorem eds_cons {d : PyData} {ds : List PyData} (h : EvP te σ H (DtK d)) (k : EvDs tr σ H ds) : EvDs (tCons te tr) σ H (d :: ds) := fun H1 e Q q => h H1 e _ fun v H2 e2 hv => k H2 (e.trans e2) _ fun xs H3 e3 hx => q (v :: xs) H3 (e2.trans e3) (.cons (Dt.ex e3 d v hv) hx)
theorem ed_tup {ds : List PyData} (h : EvDs tr σ H ds) (hz : ds.length ≤ 1000) : EvP (tTup tr) σ H (DtK (.tuple ds)) := fun H1 e Q q => h H1 e _ fun xs H2 e2 hx => ⟨by
  rw [hx.len]
  exact Evl.sz_of (by omega), fun p np => q (.ref p) _ (e2.trans (Ex.new np)) (.tup upd_same (DtAll.ex (Ex.new np) ds xs hx))⟩
theorem ed_lst {ds : List PyData} (h : EvDs tr σ H ds) (hz : ds.length ≤ 1000) : EvP (tLst tr) σ H (DtK (.list ds)) := fun H1 e Q q => h H1 e _ fun xs H2 e2 hx => ⟨by
  rw [hx.len]
  exact Evl.sz_of (by omega), fun p np => q (.ref p) _ (e2.trans (Ex.new np)) (.lst upd_same (DtAll.ex (Ex.new np) ds xs hx))⟩
theorem ed_int {i : Int} : EvP (tC (.int i)) σ H (DtK (.int i)) := evp_ev Evl.ev_c fun _ _ => .int i
theorem ed_str {x : Str} : EvP (tC (.str x)) σ H (DtK (.str x)) := evp_ev Evl.ev_c fun _ _ => .str x
theorem ed_bl {b : Bool} : EvP (tC (.bl b)) σ H (DtK (.bool b)) := evp_ev Evl.ev_c fun _ _ => .bl b
theorem ed_non : EvP (tC .non) σ H (DtK .none) := evp_ev Evl.ev_c fun _ _ => .non
theorem ed_neg {i : Int} : EvP (tUn (rU fun i => .int (-i)) (tC (.int i))) σ H (DtK (.int (-i))) := evp_ev (Evl.ev_un Evl.ev_c fun H1 _ Q q => ⟨i, rfl, q H1 (Ex.refl H1)⟩) fun _ _ => .int _
/-- [..][i] -/
theorem evp_ix {n : Nat} {i : Int} (L : Lasts P) (h : EvPs tr σ H P n) (k : Ev tb σ H (.int i)) (hi : 0 ≤ i ∧ i < (n : Int)) (hz : n ≤ 1000) : EvP (tOp (rIxL K) (tLst tr) tb) σ H P := fun H1 e Q q => h H1 e _ fun xs H2 e2 hl hx => ⟨by
  rw [hl]
  exact Evl.sz_of (by omega), fun p np => k _ ((e.trans e2).trans (Ex.new np)) _ fun H3 e3 => by
    obtain ⟨m, rfl⟩ := Int.eq_ofNat_of_zero_le hi.1
    have ml : m < xs.length := by omega
    exact ⟨p, xs, _, xs[m], rfl, rfl, SqL.of (e3 _ _ upd_same), atI_nat (List.getElem?_eq_getElem ml), q _ H3 ((e2.trans (Ex.new np)).trans e3) (L _ _ _ ((Ex.new np).trans e3) (hx _ (List.getElem_mem ml)))⟩⟩
/-- a list of data, its place -/
theorem dt_list2 {H : Hp} {v : V} {ds : List PyData} (h : Dt H v (.list ds)) : ∃ (a : Addr) (xs : List V), v = .ref a ∧ H a = some (.lst xs) ∧ DtAll H xs ds := by
  cases h with
  | lst h t => exact ⟨_, _, rfl, h, t⟩
theorem dtall_app {H : Hp} : ∀ {xs ys : List V} {ds es : List PyData}, DtAll H xs ds → DtAll H ys es → DtAll H (xs ++ ys) (ds ++ es)
  | _, _, _, _, .nil, k => k
  | _, _, _, _, .cons h t, k => .cons h (dtall_app t k)
theorem dtall_take {H : Hp} : ∀ {xs : List V} {ds : List PyData} (n : Nat), DtAll H xs ds → DtAll H (xs.take n) (ds.take n)
  | _, _, 0, _ => by
    rw [List.take_zero, List.take_zero]
    exact .nil
  | _, _, n + 1, .nil => by
    rw [List.take_nil, List.take_nil]
    exact .nil
  | _, _, n + 1, .cons h t => by
    rw [List.take_succ_cons, List.take_succ_cons]
    exact .cons h (dtall_take n t)
def DLst (R : List PyData → Prop) : Kd := fun H v => ∃ ds, R ds ∧ ds.length ≤ 1000 ∧ Dt H v (.list ds)
theorem lasts_lst (R : List PyData → Prop) : Lasts (DLst R) := fun _ _ v e ⟨ds, h1, h2, h3⟩ => ⟨ds, h1, h2, Dt.ex e _ v h3⟩
theorem ed_cat {R1 R2 R3 : List PyData → Prop} (h : EvP ta σ H (DLst R1)) (k : EvP tb σ H (DLst R2)) (hj : ∀ ds es, R1 ds → R2 es → R3 (ds ++ es) ∧ (ds ++ es).length ≤ 1000) : EvP (tOp rCat ta tb) σ H (DLst R3) := fun H1 e Q q =>
  h H1 e _ fun v H2 e2 ⟨ds, r1, z1, d1⟩ => k H2 (e.trans e2) _ fun u H3 e3 ⟨es, r2, z2, d2⟩ => by
    obtain ⟨a, xs, rfl, ha, hx⟩ := dt_list2 (Dt.ex e3 _ _ d1)
    obtain ⟨b, ys, rfl, hb, hy⟩ := dt_list2 d2
    have c := dtall_app hx hy
    refine ⟨a, b, xs, ys, rfl, rfl, ha, hb, ?_, fun p np => q (.ref p) _ ((e2.trans e3).trans (Ex.new np)) ⟨ds ++ es, (hj ds es r1 r2).1, (hj ds es r1 r2).2, .lst upd_same (DtAll.ex (Ex.new np) _ _ c)⟩⟩
    rw [hx.len, hy.len]
    exact Evl.sz_of (by omega)
theorem ed_take {R1 R3 : List PyData → Prop} {n : Nat} {t1 t2 : TO} (h : EvP te σ H (DLst R1)) (h1 : Evl.EvO t1 σ H none) (h2 : Evl.EvO t2 σ H (some (n : Int))) (hj : ∀ ds, R1 ds → R3 (ds.take n)) : EvP (tSl (rSlL K) te t1 t2) σ H (DLst R3) := fun H1 e Q q =>
  h H1 e _ fun v H2 e2 ⟨ds, r1, z1, d1⟩ => h1 H2 (e.trans e2) _ fun H3 e3 => h2 H3 ((e.trans e2).trans e3) _ fun H4 e4 => by
    obtain ⟨a, xs, rfl, ha, hx⟩ := dt_list2 (Dt.ex (e3.trans e4) _ _ d1)
    refine ⟨a, xs, rfl, SqL.of ha, fun p np => q (.ref p) _ (((e2.trans e3).trans e4).trans (Ex.new np)) ⟨ds.take n, hj ds r1, by rw [List.length_take]; omega, .lst ?_ (DtAll.ex (Ex.new np) _ _ (dtall_take n hx))⟩⟩
    rw [upd_same]
    unfold cutV
    rw [HT.sIx_none, HT.sIx_nat, List.drop_zero, Nat.sub_zero]
    by_cases c : n ≤ xs.length
    · rw [Nat.min_eq_left c]
    · rw [Nat.min_eq_right (by omega), List.take_length, List.take_of_length_le (by omega)]
theorem ed_st {st : List (Int × Int)} (h : EvSt te σ H st) (hz : st.length ≤ 1000) : EvP te σ H (DLst fun ds => ds = st.map dPair) := fun H1 e Q q => h H1 e _ fun p H2 e2 hp => q _ H2 e2 ⟨_, rfl, by rw [List.length_map]; exact hz, hp.dt⟩
end
end Sw
namespace Sw
open PySem PySem.Spec PyProof.Rows L2
open Evl (Ex Ex.refl Ex.trans Ex.new Ex.mut ex_l ex_t ex_rd fresh_back Ev EvL EvU EvT EvA RV RC RCL SpV SpL)
/-! ### what is new in a heap -/
def nw (H0 H : Hp) : Hp := fun a => match H0 a with
  | none => H a
  | some _ => none
theorem nw_of {H0 H : Hp} {a : Addr} {x : HO} (h : nw H0 H a = some x) : H0 a = none ∧ H a = some x := by
  unfold nw at h
  split at h
  · exact ⟨by assumption, h⟩
  · cases h
theorem nw_in {H0 H : Hp} {a : Addr} {x : HO} (n : H0 a = none) (h : H a = some x) : nw H0 H a = some x := by
  unfold nw
  rw [n]
  exact h
theorem nw_ex {H0 H H' : Hp} (e : Ex H H') : Ex (nw H0 H) (nw H0 H') := fun a x h => nw_in (nw_of h).1 (e _ _ (nw_of h).2)
theorem nw_less {H0 H : Hp} : Ex (nw H0 H) H := fun a x h => (nw_of h).2
theorem nw_back {H0 H1 H : Hp} (e : Ex H0 H1) : Ex (nw H1 H) (nw H0 H) := fun a x h => nw_in (fresh_back e (nw_of h).1) (nw_of h).2
theorem nw_back2 {H0 H1 H : Hp} (e : ∀ q, H1 q = none → H0 q = none) : Ex (nw H1 H) (nw H0 H) := fun a x h => nw_in (e a (nw_of h).1) (nw_of h).2
/-- another thing is changed -/
theorem nw_upd {H0 H : Hp} {p : Addr} {x y : HO} (h : H0 p = some x) : Ex (nw H0 H) (nw H0 (upd H p y)) := fun a z k => by
  obtain ⟨k1, k2⟩ := nw_of k
  refine nw_in k1 ?_
  rw [upd_ne fun e => by rw [e, h] at k1; cases k1]
  exact k2
theorem dt_nw {H0 H : Hp} {v : V} {d : PyData} (h : Dt (nw H0 H) v d) : Dt H v d := Dt.ex nw_less d v h
def NwK (H0 : Hp) (d : PyData) : Kd := fun H v => Dt (nw H0 H) v d
def EvDN (ta : TA) (σ : L2.St) (H H0 : Hp) (ds : List PyData) : Prop := ∀ H1, Ex H H1 → ∀ Q : List V → Hp → Prop, (∀ xs H2, Ex H1 H2 → DtAll (nw H0 H2) xs ds → Q xs H2) → ta σ H1 Q
section
variable {σ : L2.St} {H H0 : Hp} {te : TE} {tr : TA}
theorem nd_c {v : V} {d : PyData} (h : ∀ H, Dt H v d) : EvP (tC v) σ H (NwK H0 d) := evp_ev Evl.ev_c fun _ _ => h _
theorem nd_neg {i : Int} : EvP (tUn (rU fun i => .int (-i)) (tC (.int i))) σ H (NwK H0 (.int (-i))) := evp_ev (Evl.ev_un Evl.ev_c fun H1 _ Q q => ⟨i, rfl, q H1 (Ex.refl H1)⟩) fun _ _ => .int _
theorem nd_pow : EvP (tOp (rI CPow fun i j => .int (i ^ j.toNat)) (tC (.int 10)) (tC (.int 9))) σ H (NwK H0 (.int 1000000000)) := evp_ev (Evl.ev_is (Evl.ev_op Evl.ev_c Evl.ev_c (Evl.rv_I (g := fun i j => .int (i ^ j.toNat)) (by unfold CPow; decide))) rfl) fun _ _ => .int _
theorem ndn_nil : EvDN tNil σ H H0 [] := fun H1 e Q q => q [] H1 (Ex.refl H1) .nil
theorem ndn_cons {d : PyData} {ds : List PyData} (h : EvP te σ H (NwK H0 d)) (k : EvDN tr σ H H0 ds) : EvDN (tCons te tr) σ H H0 (d :: ds) := fun H1 e Q q => h H1 e _ fun v H2 e2 hv => k H2 (e.trans e2) _ fun xs H3 e3 hx => q (v :: xs) H3 (e2.trans e3) (.cons (Dt.ex (nw_ex e3) d v hv) hx)
theorem nd_tup {ds : List PyData} (e0 : Ex H0 H) (h : EvDN tr σ H H0 ds) (hz : ds.length ≤ 1000) : EvP (tTup tr) σ H (NwK H0 (.tuple ds)) := fun H1 e Q q => h H1 e _ fun xs H2 e2 hx => ⟨by
  rw [hx.len]
  exact Evl.sz_of (by omega), fun p np => q (.ref p) _ (e2.trans (Ex.new np)) (.tup (nw_in (fresh_back (e0.trans (e.trans e2)) np) upd_same) (DtAll.ex (nw_ex (Ex.new np)) ds xs hx))⟩
theorem nd_lst {ds : List PyData} (e0 : Ex H0 H) (h : EvDN tr σ H H0 ds) (hz : ds.length ≤ 1000) : EvP (tLst tr) σ H (NwK H0 (.list ds)) := fun H1 e Q q => h H1 e _ fun xs H2 e2 hx => ⟨by
  rw [hx.len]
  exact Evl.sz_of (by omega), fun p np => q (.ref p) _ (e2.trans (Ex.new np)) (.lst (nw_in (fresh_back (e0.trans (e.trans e2)) np) upd_same) (DtAll.ex (nw_ex (Ex.new np)) ds xs hx))⟩
/-- xs = [e], e data -/
theorem q_oneP {D : Ends} {tz : TS} {i : Nat} {P : Kd} (h : EvP te σ H P) (k : ∀ v H1 p, Ex H H1 → P H1 v → H1 p = none → tz D (σ.set i (some (.ref p))) (upd H1 p (.lst [v]))) : tSeq (tAsg (tLst (tCons te tNil)) (gName i)) tz D σ H := h H (Ex.refl H) _ fun v H1 e1 hv => ⟨by show 1 ≤ sizeLine; decide, fun p np => k v H1 p e1 hv np⟩
/-- xs.append(e), e data -/
theorem q_appP {K : PySem.W.Frag} {ta : TE} {D : Ends} {tz : TS} {l : Addr} {xs : List V} {P : Kd} (hl : H l = some (.lst xs)) (ha : Ev ta σ H (.ref l)) (h : EvP te σ H P) (hz : xs.length < 100000) (k : ∀ v H1, Ex H H1 → P H1 v → tz D σ (upd H1 l (.lst (xs ++ [v])))) :
    tSeq (tDrop (tBM K "list" rAppend ta (tCons te tNil))) tz D σ H := ha H (Ex.refl H) _ fun H1 e1 => ⟨Or.inl ⟨rfl, xs, Evl.sq_of (e1 l _ hl)⟩, h H1 e1 _ fun v H2 e2 hv => ⟨l, xs, v, rfl, rfl, e2 _ _ (e1 _ _ hl), Evl.sz_lt hz, k v H2 (e1.trans e2) hv⟩⟩
end
/-! ### _law_bad -/
def badRow0 : List PyData := [.none, .int 5, .tuple [.int 1], .tuple [.int 1, .int 2, .int 3], .list [.int 1, .int 2], .tuple [.int (-1), .int 2], .tuple [.int 1, .int 1000000], .tuple [.bool true, .int 1], .str ("1-2" : Str), .tuple [.int 1, .str ("2" : Str)]]
def badRow1 : List PyData := [.bool true, .none, .int (-1), .str ("0" : Str), .int 60, .int (1000000000), .tuple [.int 0], .bool false, .list [.int 0], .int 99]
def badRow2 : List PyData := [.str ("" : Str), .str ("Left" : Str), .none, .int 0, .str ("up" : Str), .list [.str ("left" : Str)], .str ("lefts" : Str), .bool true, .tuple [.str ("right" : Str)], .str ("l" : Str)]
theorem badRow0_no : ∀ d ∈ badRow0, stoneB d = false := by decide +kernel
theorem badRow2_no : ∀ d ∈ badRow2, sideB d = false := by decide +kernel
theorem badRow1_no {n : Nat} (hn : n ≤ 60) : ∀ d ∈ badRow1, numB d ((n : Int) - 1) = false := by
  intro d hd
  have big : ∀ i : Int, i < 0 ∨ 60 ≤ i → numB (.int i) ((n : Int) - 1) = false := fun i hi => by
    show (decide (0 ≤ i) && decide (i ≤ (n : Int) - 1)) = false
    rcases hi with h | h
    · rw [decide_eq_false (by omega)]
      rfl
    · rw [decide_eq_false (p := i ≤ (n : Int) - 1) (by omega), Bool.and_false]
  unfold badRow1 at hd
  simp only [List.mem_cons, List.not_mem_nil, or_false] at hd
  rcases hd with rfl | rfl | rfl | rfl | rfl | rfl | rfl | rfl | rfl | rfl
  · rfl
  · rfl
  · exact big _ (by decide)
  · rfl
  · exact big _ (by decide)
  · exact big _ (by decide)
  · rfl
  · rfl
  · rfl
  · exact big _ (by decide)
def BadD (k : Int) (d : PyData) : Prop := (k = 0 → stoneB d = false) ∧ (k = 1 → ∀ n : Nat, n ≤ 60 → numB d ((n : Int) - 1) = false) ∧ (k = 2 → sideB d = false)
section
variable {P : Program} {w : World} {K : PySem.W.Frag} {mg : Str → Option Value} {base : Heap}
theorem scBad9 : FnScope ["_law_k", "_law_cell_here", "_law_some"] ["_law_k", "_law_cell_here"] (defScope s_law_bad) := ⟨rfl, rfl, rfl, by decide +kernel, rfl, by decide +kernel, by decide +kernel⟩
def spBad9 : Sp := fun vs H Q _ => ∃ (k c : Int), vs = [.int k, .int c] ∧ 0 ≤ k ∧ k ≤ 2 ∧ 0 ≤ c ∧ ∀ v H2 d, Ex H H2 → Dt (nw H H2) v d → BadD k d → Q v H2
theorem ok_bad9 {f : Addr} {fd : FuncData} (F : Fun K "_law_bad" "_law_bad" s_law_bad f fd) : FnOk P w K mg base CX0 1 f fd ["_law_k", "_law_cell_here"] spBad9 := by
  refine F.ok scBad9 (fun vs H Q E h => ?_) (fun cdv A outer s H vs Q E hr h => ?_)
  · obtain ⟨k, c, rfl, _⟩ := h
    rfl
  · obtain ⟨k, c, rfl, k0, k2, c0, q⟩ := h
    refine ⟨_, pss_cons (ps_set (i := 2) scBad9.nd rfl (.inl rfl) (pe_lst (pa_cons (pe_lst (pa_cons pe_non (pa_cons pe_int (pa_cons (pe_tup (pa_cons pe_int pa_nil)) (pa_cons (pe_tup (pa_cons pe_int (pa_cons pe_int (pa_cons pe_int pa_nil)))) (pa_cons (pe_lst (pa_cons pe_int (pa_cons pe_int pa_nil))) (pa_cons (pe_tup (pa_cons (pe_un un_neg pe_int) (pa_cons pe_int pa_nil))) (pa_cons (pe_tup (pa_cons pe_int (pa_cons pe_int pa_nil))) (pa_cons (pe_tup (pa_cons pe_bl (pa_cons pe_int pa_nil))) (pa_cons pe_str (pa_cons (pe_tup (pa_cons pe_int (pa_cons pe_str pa_nil))) pa_nil))))))))))) pa_nil)))
      (pss_cons (ps_expr (pe_bm PySem.F.plainAttrs_list PySem.F.slot_list_append PySem.F.type_list_append mt_append (pv 2) (pa_cons (pe_lst (pa_cons pe_bl (pa_cons pe_non (pa_cons (pe_un un_neg pe_int) (pa_cons pe_str (pa_cons pe_int (pa_cons (pe_op op_pow pe_int pe_int) (pa_cons (pe_tup (pa_cons pe_int pa_nil)) (pa_cons pe_bl (pa_cons (pe_lst (pa_cons pe_int pa_nil)) (pa_cons pe_int pa_nil))))))))))) pa_nil)))
      (pss_cons (ps_expr (pe_bm PySem.F.plainAttrs_list PySem.F.slot_list_append PySem.F.type_list_append mt_append (pv 2) (pa_cons (pe_lst (pa_cons pe_str (pa_cons pe_str (pa_cons pe_non (pa_cons pe_int (pa_cons pe_str (pa_cons (pe_lst (pa_cons pe_str pa_nil)) (pa_cons pe_str (pa_cons pe_bl (pa_cons (pe_tup (pa_cons pe_str pa_nil)) (pa_cons pe_str pa_nil))))))))))) pa_nil)))
      (pss_one (ps_ret (pe_ix (r := rIxL K) ix_list (pe_ix (r := rIxL K) ix_list (pv 2) (pv 0) (fun _ _ => rfl)) (pe_op op_mod (pv 1) pe_int) (fun _ _ => rfl)))))), ?_⟩
    have r0 : ∀ (σ : L2.St) (H0 H1 : Hp), Ex H0 H1 → EvP (tLst (tCons (tC .non) (tCons (tC (.int 5)) (tCons (tTup (tCons (tC (.int 1)) tNil)) (tCons (tTup (tCons (tC (.int 1)) (tCons (tC (.int 2)) (tCons (tC (.int 3)) tNil)))) (tCons (tLst (tCons (tC (.int 1)) (tCons (tC (.int 2)) tNil))) (tCons (tTup (tCons (tUn (rU fun i => .int (-i)) (tC (.int 1))) (tCons (tC (.int 2)) tNil))) (tCons (tTup (tCons (tC (.int 1)) (tCons (tC (.int 1000000)) tNil))) (tCons (tTup (tCons (tC (.bl true)) (tCons (tC (.int 1)) tNil))) (tCons (tC (.str "1-2")) (tCons (tTup (tCons (tC (.int 1)) (tCons (tC (.str "2")) tNil))) tNil))))))))))) σ H1 (NwK H0 (.list badRow0)) := fun σ H0 H1 e0 => nd_lst e0 (ndn_cons (nd_c fun _ => .non) (ndn_cons (nd_c fun _ => .int 5) (ndn_cons (nd_tup e0 (ndn_cons (nd_c fun _ => .int 1) ndn_nil) (by decide)) (ndn_cons (nd_tup e0 (ndn_cons (nd_c fun _ => .int 1) (ndn_cons (nd_c fun _ => .int 2) (ndn_cons (nd_c fun _ => .int 3) ndn_nil))) (by decide)) (ndn_cons (nd_lst e0 (ndn_cons (nd_c fun _ => .int 1) (ndn_cons (nd_c fun _ => .int 2) ndn_nil)) (by decide)) (ndn_cons (nd_tup e0 (ndn_cons (nd_neg) (ndn_cons (nd_c fun _ => .int 2) ndn_nil)) (by decide)) (ndn_cons (nd_tup e0 (ndn_cons (nd_c fun _ => .int 1) (ndn_cons (nd_c fun _ => .int 1000000) ndn_nil)) (by decide)) (ndn_cons (nd_tup e0 (ndn_cons (nd_c fun _ => .bl true) (ndn_cons (nd_c fun _ => .int 1) ndn_nil)) (by decide)) (ndn_cons (nd_c fun _ => .str ("1-2" : Str)) (ndn_cons (nd_tup e0 (ndn_cons (nd_c fun _ => .int 1) (ndn_cons (nd_c fun _ => .str ("2" : Str)) ndn_nil)) (by decide)) ndn_nil)))))))))) (by decide)
    have r1 : ∀ (σ : L2.St) (H0 H1 : Hp), Ex H0 H1 → EvP (tLst (tCons (tC (.bl true)) (tCons (tC .non) (tCons (tUn (rU fun i => .int (-i)) (tC (.int 1))) (tCons (tC (.str "0")) (tCons (tC (.int 60)) (tCons (tOp (rI CPow fun i j => .int (i ^ j.toNat)) (tC (.int 10)) (tC (.int 9))) (tCons (tTup (tCons (tC (.int 0)) tNil)) (tCons (tC (.bl false)) (tCons (tLst (tCons (tC (.int 0)) tNil)) (tCons (tC (.int 99)) tNil))))))))))) σ H1 (NwK H0 (.list badRow1)) := fun σ H0 H1 e0 => nd_lst e0 (ndn_cons (nd_c fun _ => .bl true) (ndn_cons (nd_c fun _ => .non) (ndn_cons (nd_neg) (ndn_cons (nd_c fun _ => .str ("0" : Str)) (ndn_cons (nd_c fun _ => .int 60) (ndn_cons (nd_pow) (ndn_cons (nd_tup e0 (ndn_cons (nd_c fun _ => .int 0) ndn_nil) (by decide)) (ndn_cons (nd_c fun _ => .bl false) (ndn_cons (nd_lst e0 (ndn_cons (nd_c fun _ => .int 0) ndn_nil) (by decide)) (ndn_cons (nd_c fun _ => .int 99) ndn_nil)))))))))) (by decide)
    have r2 : ∀ (σ : L2.St) (H0 H1 : Hp), Ex H0 H1 → EvP (tLst (tCons (tC (.str "")) (tCons (tC (.str "Left")) (tCons (tC .non) (tCons (tC (.int 0)) (tCons (tC (.str "up")) (tCons (tLst (tCons (tC (.str "left")) tNil)) (tCons (tC (.str "lefts")) (tCons (tC (.bl true)) (tCons (tTup (tCons (tC (.str "right")) tNil)) (tCons (tC (.str "l")) tNil))))))))))) σ H1 (NwK H0 (.list badRow2)) := fun σ H0 H1 e0 => nd_lst e0 (ndn_cons (nd_c fun _ => .str ("" : Str)) (ndn_cons (nd_c fun _ => .str ("Left" : Str)) (ndn_cons (nd_c fun _ => .non) (ndn_cons (nd_c fun _ => .int 0) (ndn_cons (nd_c fun _ => .str ("up" : Str)) (ndn_cons (nd_lst e0 (ndn_cons (nd_c fun _ => .str ("left" : Str)) ndn_nil) (by decide)) (ndn_cons (nd_c fun _ => .str ("lefts" : Str)) (ndn_cons (nd_c fun _ => .bl true) (ndn_cons (nd_tup e0 (ndn_cons (nd_c fun _ => .str ("right" : Str)) ndn_nil) (by decide)) (ndn_cons (nd_c fun _ => .str ("l" : Str)) ndn_nil)))))))))) (by decide)
    refine q_oneP (P := NwK H (.list badRow0)) ?_ ?_
    · exact r0 _ H H (Ex.refl H)
    intro a0 H1 p e1 h0 np
    have x2 : Ex H1 (upd H1 p (.lst [a0])) := Ex.new np
    have p2 : (upd H1 p (.lst [a0])) p = some (.lst [a0]) := upd_same
    generalize upd H1 p (.lst [a0]) = H2 at x2 p2 ⊢
    refine q_appP (P := NwK H2 (.list badRow1)) p2 (Evl.ev_var rfl) ?_ (by show 1 < _; decide) ?_
    · exact r1 _ H2 H2 (Ex.refl H2)
    intro a1 H3 e3 h1
    have x4 : Ex H1 (upd H3 p (.lst ([a0] ++ [a1]))) := Ex.mut (x2.trans e3) np
    have p4 : (upd H3 p (.lst ([a0] ++ [a1]))) p = some (.lst ([a0] ++ [a1])) := upd_same
    have h1 : Dt (nw H2 (upd H3 p (.lst ([a0] ++ [a1])))) a1 (.list badRow1) := Dt.ex (nw_upd p2) _ _ h1
    have n4 : ∀ q, (upd H3 p (.lst ([a0] ++ [a1]))) q = none → H2 q = none := fun q hq => by
      refine fresh_back e3 ?_
      rw [upd_ne fun z => by rw [z, upd_same] at hq; cases hq] at hq
      exact hq
    generalize upd H3 p (.lst ([a0] ++ [a1])) = H4 at x4 p4 h1 n4 ⊢
    refine q_appP (P := NwK H2 (.list badRow2)) p4 (Evl.ev_var rfl) ?_ (by show 2 < _; decide) ?_
    · exact evp_imp (r2 _ H4 H4 (Ex.refl H4)) fun _ _ h => Dt.ex (nw_back2 n4) _ _ h
    intro a2 H5 e5 h2
    have x6 : Ex H1 (upd H5 p (.lst ([a0] ++ [a1] ++ [a2]))) := Ex.mut (x4.trans e5) np
    have p6 : (upd H5 p (.lst ([a0] ++ [a1] ++ [a2]))) p = some (.lst [a0, a1, a2]) := upd_same
    have k0 : Dt (nw H (upd H5 p (.lst ([a0] ++ [a1] ++ [a2])))) a0 (.list badRow0) := Dt.ex (nw_ex x6) _ _ h0
    have g2 : Ex H H2 := e1.trans x2
    have k1 : Dt (nw H (upd H5 p (.lst ([a0] ++ [a1] ++ [a2])))) a1 (.list badRow1) := Dt.ex (nw_back g2) _ _ (Dt.ex (nw_upd p2) _ _ (Dt.ex (nw_ex e5) _ _ h1))
    have k2 : Dt (nw H (upd H5 p (.lst ([a0] ++ [a1] ++ [a2])))) a2 (.list badRow2) := Dt.ex (nw_back g2) _ _ (Dt.ex (nw_upd p2) _ _ h2)
    generalize upd H5 p (.lst ([a0] ++ [a1] ++ [a2])) = H6 at x6 p6 k0 k1 k2 ⊢
    -- the row, the item
    have fin : ∀ (j : Nat) (a : V) (ds : List PyData), [a0, a1, a2][j]? = some a → k = (j : Int) → ds.length = 10 → Dt (nw H H6) a (.list ds) → (∀ d ∈ ds, BadD (j : Int) d) → tRet (tOp (rIxL K) (tOp (rIxL K) (tVar 2) (tVar 0)) (tOp (rI (fun _ j => 0 < j) fun i j => .int (i % j)) (tVar 1) (tC (.int 10)))) { nx := fun _ H' => Q .non H', rt := Q } [some (.int k), some (.int c), some (.ref p)] H6 := fun j a ds ha kj hl hd hb => by
      obtain ⟨r, xs, rfl, hr, hx⟩ := dt_list2 hd
      have c1 : 0 ≤ c % 10 := Int.emod_nonneg _ (by decide)
      have c2 : c % 10 < 10 := Int.emod_lt_of_pos _ (by decide)
      obtain ⟨m, hm⟩ := Int.eq_ofNat_of_zero_le c1
      have ml : m < xs.length := by rw [hx.len, hl]; omega
      obtain ⟨d, hdm, hxd⟩ := hx.at m xs[m] (List.getElem?_eq_getElem ml)
      refine Evl.s_ret (v := xs[m]) (Evl.ev_op (Evl.ev_op (Evl.ev_var rfl) (Evl.ev_var rfl) (Evl.rv_ixL (K := K) (v := .ref r) (SqL.of p6) (by rw [kj]; exact atI_nat ha))) (Evl.ev_is (w := .int (m : Int)) (Evl.ev_op (Evl.ev_var rfl) Evl.ev_c (Evl.rv_I (C := fun _ j => 0 < j) (g := fun i j => .int (i % j)) (by show (0 : Int) < 10; decide))) (by rw [← hm])) (Evl.rv_ixL (K := K) (SqL.of (nw_of hr).2) (atI_nat (List.getElem?_eq_getElem ml)))) fun H7 e7 => ?_
      rw [kj] at q
      exact q _ H7 d (e1.trans (x6.trans e7)) (Dt.ex (nw_ex e7) _ _ hxd) (hb d (List.mem_of_getElem? hdm))
    have k012 : k = 0 ∨ k = 1 ∨ k = 2 := by omega
    rcases k012 with z | z | z
    · exact fin 0 a0 badRow0 rfl z rfl k0 fun d hd => ⟨fun _ => badRow0_no d hd, fun h => by omega, fun h => by omega⟩
    · exact fin 1 a1 badRow1 rfl z rfl k1 fun d hd => ⟨fun h => by omega, fun _ n hn => badRow1_no hn d hd, fun h => by omega⟩
    · exact fin 2 a2 badRow2 rfl z rfl k2 fun d hd => ⟨fun h => by omega, fun h => by omega, fun _ => badRow2_no d hd⟩
end
end Sw
namespace Sw
open PySem PySem.Spec PyProof.Rows L2
open Evl (Ex Ex.refl Ex.trans Ex.new Ex.mut ex_l ex_t ex_rd fresh_back Ev EvL EvU EvT EvA RV RC RCL SpV SpL)
section
variable {P : Program} {w : World} {K : PySem.W.Frag} {mg : Str → Option Value} {base : Heap}
/-! ### _law_alike -/
theorem scAlike : FnScope ["_law_found", "_law_due", "_law_k"] ["_law_found", "_law_due"] (defScope sAlike) := ⟨rfl, rfl, rfl, by decide +kernel, rfl, by decide +kernel, by decide +kernel⟩
def spAlike (n : Nat) : Sp := fun vs H Q _ => ∃ (x y : V) (d : PyData), vs = [x, y] ∧ Dt H x d ∧ Dt H y d ∧ Lay n d ∧ Evl.RetV (.bl true) H Q
def isSeq : PyData → Bool
  | .list _ => true
  | .tuple _ => true
  | _ => false
theorem isSeq_kind (d : PyData) : isSeq d = (decide (kindOf d = "tuple") || decide (kindOf d = "list")) := by cases d <;> simp [isSeq, kindOf]
theorem kit_seq (d : PyData) : PySem.W.kitAny K (.type (kindOf d)) [.type "tuple", .type "list"] = some (isSeq d) := by
  refine kitAny_cons (kit_tuple d) (fun h => ?_) (fun h => by rw [isSeq_kind, h]; rfl)
  refine kitAny_cons (kit_list d) (fun h2 => ?_) (fun h2 => by rw [isSeq_kind, h2]; exact Bool.or_true _)
  rw [isSeq_kind, h, h2]
  rfl
theorem rc_seq {x : V} {d : PyData} {H : Hp} {p : Addr} (hx : Dt H x d) (hp : H p = some (.tup [.ty "tuple", .ty "list"])) : RC (rIsiT K) [x, .ref p] H (.bl (isSeq d)) := fun H1 e Q q =>
  ⟨x, p, _, _, _, _, rfl, e _ _ hp, .cons (.ty _) (.cons (.ty _) .nil), (Dt.ex e d _ hx).ty, kit_seq d, q H1 (Ex.refl H1)⟩
theorem rc_kind {x : V} {d : PyData} {H : Hp} {T : String} {b : Bool} (hx : Dt H x d) (hk : PySem.W.kitOne K (.type (kindOf d)) (.type T) = some b) : RC (rIsi K) [x, .ty T] H (.bl b) :=
  rc_isi (.ty T) (fun H1 e => (Dt.ex e d _ hx).ty) hk
theorem leaf_same {H : Hp} {x y : V} {d : PyData} (hs : isSeq d = false) (hx : Dt H x d) (hy : Dt H y d) : x = y ∧ scal x y = true := by
  cases hx with
  | non =>
    cases hy
    exact ⟨rfl, rfl⟩
  | bl b =>
    cases hy
    exact ⟨rfl, rfl⟩
  | int i =>
    cases hy
    exact ⟨rfl, rfl⟩
  | str z =>
    cases hy
    exact ⟨rfl, rfl⟩
  | lst h t => exact absurd hs Bool.noConfusion
  | tup h t => exact absurd hs Bool.noConfusion
theorem ev_isi {σ : L2.St} {H : Hp} {x : V} {d : PyData} {T : String} {b : Bool} {i : Nat} (hi : σ[i]? = some (some x)) (hx : Dt H x d) (hk : PySem.W.kitOne K (.type (kindOf d)) (.type T) = some b) :
    Ev (tCB (rIsi K) (tCons (tVar i) (tCons (tC (.ty T)) tNil))) σ H (.bl b) := Evl.ev_cb (Evl.ea_cons (Evl.ev_var hi) (Evl.ea_cons Evl.ev_c Evl.ea_nil)) (rc_kind hx hk)
theorem alike_leaf {f : Addr} {fd : FuncData} (F : Fun K "_law_alike" "_law_alike" sAlike f fd) (mI : mg "isinstance" = none) (mB : mg "bool" = none) (mT : mg "tuple" = none) (mLi : mg "list" = none) : FnOk P w K mg base CX0 1 f fd ["_law_found", "_law_due"] (spAlike 0) := by
  refine F.ok scAlike (fun vs H Q E h => ?_) (fun cdv A outer s H vs Q E hr h => ?_)
  · obtain ⟨x, y, d, rfl, _⟩ := h
    rfl
  · obtain ⟨x, y, d, rfl, hx, hy, hd, q⟩ := h
    refine ⟨_, pss_cons (ps_if (pt_val (pe_callB call_isiT (by rfl) mI (by decide +kernel) (pa_cons (pv 1) (pa_cons (pe_tup (pa_cons (pe_bltn (v := .ty "tuple") (by rfl) mT (by decide +kernel) rfl) (pa_cons (pe_bltn (v := .ty "list") (by rfl) mLi (by decide +kernel) rfl) pa_nil))) pa_nil))))
        (pss_cons ps_never (pss_one ps_never)) pss_nil)
      (pss_one (ps_ret (pe_and (pe_cmpR op_eq (pe_callB call_isi (by rfl) mI (by decide +kernel) (pa_cons (pv 0) (pa_cons (pe_bltn (v := .ty "bool") (by rfl) mB (by decide +kernel) rfl) pa_nil))) (pe_callB call_isi (by rfl) mI (by decide +kernel) (pa_cons (pv 1) (pa_cons (pe_bltn (v := .ty "bool") (by rfl) mB (by decide +kernel) rfl) pa_nil))) (nomark _))
        (pe_one (pe_cmpR op_eq (pv 0) (pv 1) (nomark _)))))), ?_⟩
    have hs : isSeq d = false := by
      cases d with
      | list ds => exact hd.lst_pos.elim
      | tuple ds => exact hd.tup_pos.elim
      | _ => rfl
    refine ⟨y, rfl, by show 2 ≤ sizeLine; decide, fun p np => ?_⟩
    have e1 : Ex H (upd H p (.tup [.ty "tuple", .ty "list"])) := Ex.new np
    refine ⟨y, p, _, _, _, _, rfl, upd_same, .cons (.ty _) (.cons (.ty _) .nil), (Dt.ex e1 d y hy).ty, kit_seq d, _, rfl, ?_⟩
    rw [hs]
    refine iteF ?_
    refine st_next ?_
    dsimp only
    have e3 := e1
    obtain ⟨exy, hsc⟩ := leaf_same hs hx hy
    subst exy
    have hx2 := Dt.ex e3 d x hx
    refine Evl.s_ret (v := .bl (true && true)) (Evl.ev_andV ?_ fun _ => ?_) fun H4 e4 => q H4 (e3.trans e4)
    · exact Evl.ev_is (Evl.ev_op (ev_isi rfl hx2 (kit_bool d)) (ev_isi rfl hx2 (kit_bool d)) (Evl.rv_eq rfl)) (by rw [decide_eq_true rfl])
    · exact Evl.ev_is (Evl.ev_op (Evl.ev_var rfl) (Evl.ev_var rfl) (Evl.rv_eq hsc)) (by rw [decide_eq_true rfl])
/-- a list or a tuple of items -/
theorem seq_of {H : Hp} {x : V} {d : PyData} (hs : isSeq d = true) (hx : Dt H x d) : ∃ (a : Addr) (xs : List V) (ds : List PyData), x = .ref a ∧ ((d = .list ds ∧ H a = some (.lst xs)) ∨ (d = .tuple ds ∧ H a = some (.tup xs))) ∧ DtAll H xs ds := by
  cases hx with
  | lst h t => exact ⟨_, _, _, rfl, .inl ⟨rfl, h⟩, t⟩
  | tup h t => exact ⟨_, _, _, rfl, .inr ⟨rfl, h⟩, t⟩
  | _ => exact absurd hs Bool.noConfusion
theorem kinds_seq {d : PyData} (hs : isSeq d = true) : ∀ (ds : List PyData), (d = .list ds ∨ d = .tuple ds) → True := fun _ _ => trivial
theorem at_all {H : Hp} {xs : List V} {ds : List PyData} (h : DtAll H xs ds) {i : Nat} (hi : i < ds.length) : ∃ x, xs[i]? = some x ∧ Dt H x ds[i] := by
  have hx : i < xs.length := by rw [h.len]; exact hi
  obtain ⟨d, e1, e2⟩ := h.at i _ (List.getElem?_eq_getElem hx)
  rw [List.getElem?_eq_getElem hi] at e1
  have e1 := Option.some.inj e1
  rw [← e1] at e2
  exact ⟨_, List.getElem?_eq_getElem hx, e2⟩
/-- an item of a list or a tuple -/
theorem rv_item {H : Hp} {a : Addr} {xs : List V} {i : Nat} {v : V} (h : H a = some (.lst xs) ∨ H a = some (.tup xs)) (hi : xs[i]? = some v) : RV (rIx K) (.ref a) (.int (i : Nat)) H v := fun H1 e Q q => by
  rcases h with h | h
  · exact .inl ⟨a, xs, _, v, rfl, rfl, SqL.of (e _ _ h), atI_nat hi, q H1 (Ex.refl H1)⟩
  · exact .inr (.inl ⟨a, xs, _, v, rfl, rfl, SqT.of (e _ _ h), atI_nat hi, q H1 (Ex.refl H1)⟩)
theorem ev_lenS {σ : L2.St} {te : TE} {H : Hp} {a : Addr} {xs : List V} (h : H a = some (.lst xs) ∨ H a = some (.tup xs)) (ha : Ev te σ H (.ref a)) : Ev (tCB (Evl.rLenS K) (tCons te tNil)) σ H (.int (xs.length : Int)) := fun H1 e Q q =>
  ha H1 e _ fun H2 e2 => by
    rcases h with h | h
    · exact ⟨a, xs, rfl, .inl (SqL.of (e.trans e2 _ _ h)), q H2 e2⟩
    · exact ⟨a, xs, rfl, .inr (SqT.of (e.trans e2 _ _ h)), q H2 e2⟩
theorem alike_step {n : Nat} {f : Addr} {fd : FuncData} (F : Fun K "_law_alike" "_law_alike" sAlike f fd) (mI : mg "isinstance" = none) (mB : mg "bool" = none) (mT : mg "tuple" = none) (mLi : mg "list" = none) (mL : mg "len" = none) (mA : mg "all" = none) (mR : mg "range" = none)
    (GA : FnOk P w K mg base CX0 (n + 1) f fd ["_law_found", "_law_due"] (spAlike n)) (gA : mg "_law_alike" = some (.ref f)) (kA : PySem.W.keepIn K (.ref f) = true) (bA : Binds K fd ["_law_found", "_law_due"] []) : FnOk P w K mg base CX0 (n + 2) f fd ["_law_found", "_law_due"] (spAlike (n + 1)) := by
  refine F.ok scAlike (fun vs H Q E h => ?_) (fun cdv A outer s H vs Q E hr h => ?_)
  · obtain ⟨x, y, d, rfl, _⟩ := h
    rfl
  · obtain ⟨x, y, d, rfl, hx, hy, hd, q⟩ := h
    refine ⟨_, pss_cons (ps_if (pt_val (pe_callB call_isiT (by rfl) mI (by decide +kernel) (pa_cons (pv 1) (pa_cons (pe_tup (pa_cons (pe_bltn (v := .ty "tuple") (by rfl) mT (by decide +kernel) rfl) (pa_cons (pe_bltn (v := .ty "list") (by rfl) mLi (by decide +kernel) rfl) pa_nil))) pa_nil))))
        (pss_cons (ps_if (PW.pt (pw_or (pt_cmpR op_ne (pe_callB call_isi (by rfl) mI (by decide +kernel) (pa_cons (pv 0) (pa_cons (pe_bltn (v := .ty "tuple") (by rfl) mT (by decide +kernel) rfl) pa_nil))) (pe_callB call_isi (by rfl) mI (by decide +kernel) (pa_cons (pv 1) (pa_cons (pe_bltn (v := .ty "tuple") (by rfl) mT (by decide +kernel) rfl) pa_nil))) (nomark _))
            (pw_or1 (pt_cmpR op_ne (pe_callB call_isi (by rfl) mI (by decide +kernel) (pa_cons (pv 0) (pa_cons (pe_bltn (v := .ty "list") (by rfl) mLi (by decide +kernel) rfl) pa_nil))) (pe_callB call_isi (by rfl) mI (by decide +kernel) (pa_cons (pv 1) (pa_cons (pe_bltn (v := .ty "list") (by rfl) mLi (by decide +kernel) rfl) pa_nil))) (nomark _)))))
          (pss_one ps_never) pss_nil)
        (pss_one (ps_ret (pe_and (pe_cmpR op_eq (pe_callB call_len_seq (by rfl) mL boot_len (pa_cons (pv 0) pa_nil)) (pe_callB call_len_seq (by rfl) mL boot_len (pa_cons (pv 1) pa_nil)) (nomark _))
          (pe_one (pe_callB (cr_all rfl) (by rfl) mA (by decide +kernel) (pa_cons (pe_lc (own := [("_law_k", 2)]) (g := gName 2) (tt := tYes) rfl scAlike.nd (pi_range1 (by rfl) mR (pa_cons (pe_callB call_len_seq (by rfl) mL boot_len (pa_cons (pv 1) pa_nil)) pa_nil)) (blkOk_by (N := ["_law_found", "_law_due", "_law_k"]) (sc := defScope sAlike) (by decide +kernel))
            (fun _ _ _ _ _ => pg_name (i := 2) scAlike.nd rfl (Or.inl rfl)) (fun _ _ _ _ _ => pts_nil) (fun _ _ _ _ _ => pe_call GA hr (by rfl) gA kA bA .nil pass0 (pa_cons (pe_ix (r := rIx K) ix_seq (pv 0) (pv 2) (fun _ _ => rfl)) (pa_cons (pe_ix (r := rIx K) ix_seq (pv 1) (pv 2) (fun _ _ => rfl)) pa_nil)))) pa_nil))))))) pss_nil)
      (pss_one (ps_ret (pe_and (pe_cmpR op_eq (pe_callB call_isi (by rfl) mI (by decide +kernel) (pa_cons (pv 0) (pa_cons (pe_bltn (v := .ty "bool") (by rfl) mB (by decide +kernel) rfl) pa_nil))) (pe_callB call_isi (by rfl) mI (by decide +kernel) (pa_cons (pv 1) (pa_cons (pe_bltn (v := .ty "bool") (by rfl) mB (by decide +kernel) rfl) pa_nil))) (nomark _))
        (pe_one (pe_cmpR op_eq (pv 0) (pv 1) (nomark _)))))), ?_⟩
    refine ⟨y, rfl, by show 2 ≤ sizeLine; decide, fun p np => ?_⟩
    have e3 : Ex H (upd H p (.tup [.ty "tuple", .ty "list"])) := Ex.new np
    refine ⟨y, p, _, _, _, _, rfl, upd_same, .cons (.ty _) (.cons (.ty _) .nil), (Dt.ex e3 d y hy).ty, kit_seq d, _, rfl, ?_⟩
    have hx2 := Dt.ex e3 d x hx
    have hy2 := Dt.ex e3 d y hy
    generalize upd H p (.tup [.ty "tuple", .ty "list"]) = H2 at e3 hx2 hy2
    cases hs : isSeq d with
    | false =>
      refine iteF ?_
      refine st_next ?_
      dsimp only
      obtain ⟨exy, hsc⟩ := leaf_same hs hx hy
      subst exy
      refine Evl.s_ret (v := .bl (true && true)) (Evl.ev_andV ?_ fun _ => ?_) fun H4 e4 => q H4 (e3.trans e4)
      · exact Evl.ev_is (Evl.ev_op (ev_isi rfl hx2 (kit_bool d)) (ev_isi rfl hx2 (kit_bool d)) (Evl.rv_eq rfl)) (by rw [decide_eq_true rfl])
      · exact Evl.ev_is (Evl.ev_op (Evl.ev_var rfl) (Evl.ev_var rfl) (Evl.rv_eq hsc)) (by rw [decide_eq_true rfl])
    | true =>
      refine iteT ?_
      obtain ⟨a, xs, ds, rfl, ea, ax⟩ := seq_of hs hx2
      obtain ⟨b, ys, ds2, rfl, eb, ay⟩ := seq_of hs hy2
      have hds : ds2 = ds ∧ ds.length ≤ 1000 ∧ ∀ d' ∈ ds, Lay n d' := by
        rcases ea with ⟨rfl, _⟩ | ⟨rfl, _⟩
        · rcases eb with ⟨z, _⟩ | ⟨z, _⟩
          · cases z
            exact ⟨rfl, hd.lst_inv⟩
          · cases z
        · rcases eb with ⟨z, _⟩ | ⟨z, _⟩
          · cases z
          · cases z
            exact ⟨rfl, hd.tup_inv⟩
      obtain ⟨hq, hz, hl⟩ := hds
      subst hq
      have ha : H2 a = some (.lst xs) ∨ H2 a = some (.tup xs) := ea.imp And.right And.right
      have hb : H2 b = some (.lst ys) ∨ H2 b = some (.tup ys) := eb.imp And.right And.right
      refine Evl.q_when (b := false) ?_ (fun z => nomatch z) fun _ H3 e4 => ?_
      · refine Evl.et_is (Evl.et_or (a := false) (Evl.et_test (Evl.ev_is (Evl.ev_op (ev_isi rfl hx2 (kit_tuple d)) (ev_isi rfl hy2 (kit_tuple d)) (Evl.rv_ne rfl)) ?_)) fun _ => Evl.et_test (Evl.ev_is (Evl.ev_op (ev_isi rfl hx2 (kit_list d)) (ev_isi rfl hy2 (kit_list d)) (Evl.rv_ne rfl)) (w := .bl false) ?_)) rfl
        · rw [decide_eq_true rfl]
          rfl
        · rw [decide_eq_true rfl]
          rfl
      · have e5 := e3.trans e4
        have ha3 : H3 a = some (.lst xs) ∨ H3 a = some (.tup xs) := ha.imp (e4 _ _) (e4 _ _)
        have hb3 : H3 b = some (.lst ys) ∨ H3 b = some (.tup ys) := hb.imp (e4 _ _) (e4 _ _)
        refine Evl.s_ret (v := .bl (true && true)) (Evl.ev_andV ?_ fun _ => ?_) fun H4 e6 => q H4 (e5.trans e6)
        · refine Evl.ev_is (Evl.ev_op (ev_lenS ha3 (Evl.ev_var rfl)) (ev_lenS hb3 (Evl.ev_var rfl)) (Evl.rv_eq rfl)) ?_
          rw [ax.len, ay.len, decide_eq_true rfl]
        · have ax3 := DtAll.ex e4 _ _ ax
          have ay3 := DtAll.ex e4 _ _ ay
          refine ev_cbN (Evl.el_lcR1 (n := (ys.length : Int)) (fun _ => true) (fun _ => V.bl true) (Evl.ea_cons (ev_lenS hb3 (Evl.ev_var rfl)) Evl.ea_nil) ⟨by omega, ?_⟩ (fun _ => rfl) (fun i H1 e hx H2 e2 Q q => q H2 (Ex.refl H2)) fun i H1 e hi _ => ?_) fun p H1 hp e => ?_
          · have := ay.len
            omega
          · have hi2 : i < ds2.length := by
              rw [← ay.len]
              omega
            obtain ⟨u, hu, du⟩ := at_all ax3 hi2
            obtain ⟨v, hv, dv⟩ := at_all ay3 hi2
            refine Evl.ev_call (vs := [u, v]) (Evl.ea_cons (Evl.ev_op (Evl.ev_var rfl) (Evl.ev_var rfl) (rv_item (ha3.imp (e _ _) (e _ _)) hu)) (Evl.ea_cons (Evl.ev_op (Evl.ev_var rfl) (Evl.ev_var rfl) (rv_item (hb3.imp (e _ _) (e _ _)) hv)) Evl.ea_nil)) ?_
            exact fun H5 e5 Q q _ => ⟨u, v, _, rfl, Dt.ex (e.trans e5) _ _ du, Dt.ex (e.trans e5) _ _ dv, hl _ (List.getElem_mem hi2), q⟩
          · rw [given_all] at hp
            have e1 : (List.range ((ys.length : Int)).toNat).map (fun _ => V.bl true) = ((List.range ((ys.length : Int)).toNat).map fun _ => true).map V.bl := by
              rw [List.map_map]
              rfl
            rw [e1] at hp
            have r := rc_all (K := K) hp
            have e2 : (((List.range ((ys.length : Int)).toNat).map fun _ => true).all id) = true := by
              rw [List.all_eq_true]
              intro b hb
              obtain ⟨_, _, e⟩ := List.mem_map.mp hb
              exact e.symm
            rw [e2] at r
            exact r
end
end Sw
namespace Sw
open PySem PySem.Spec PyProof.Rows L2
open Evl (Ex Ex.refl Ex.trans Ex.new Ex.mut ex_l ex_t ex_rd fresh_back Ev EvL EvU EvT EvA RV RC RCL SpV SpL)
/-! ### the two stones at the end -/
theorem getD_snoc (st : List (Int × Int)) (s : Int × Int) : (st ++ [s]).getD st.length (0, 0) = s := by
  rw [List.getD_eq_getElem?_getD, List.getElem?_append_right (Nat.le_refl _), Nat.sub_self]
  rfl
theorem end_fit (T : Tb) : fitC (T.beg (7, 8)) T.cs.length true (9, 8) = .int 1 := by
  have hc : (T.beg (7, 8)).cs[T.cs.length]? = some [(T.st.length, 0)] := by
    show (T.cs ++ [_])[T.cs.length]? = _
    rw [List.getElem?_append_right (Nat.le_refl _), Nat.sub_self]
    rfl
  have hl : lie (T.beg (7, 8)).st (T.st.length, 0) = (7, 8) := by
    unfold lie sa sb
    rw [if_pos rfl]
    show (((T.st ++ [((7 : Int), (8 : Int))]).getD T.st.length (0, 0)).1, ((T.st ++ [((7 : Int), (8 : Int))]).getD T.st.length (0, 0)).2) = _
    rw [getD_snoc]
  unfold fitC
  rw [hc]
  dsimp only
  rw [dif_pos (List.cons_ne_nil _ _)]
  unfold endsT
  rw [show ([(T.st.length, 0)] : List Step).head (List.cons_ne_nil _ _) = (T.st.length, 0) from rfl, show ([(T.st.length, 0)] : List Step).getLast (List.cons_ne_nil _ _) = (T.st.length, 0) from rfl, hl]
  rfl
theorem end_chain (T : Tb) : ((T.beg (7, 8)).put T.cs.length true (9, 8) 1).cs[T.cs.length]? = some [(T.st.length, 0), (T.st.length + 1, 1)] := by
  have hg : (T.beg (7, 8)).cs.getD T.cs.length [] = [(T.st.length, 0)] := getD_mid _ _
  have hl : (T.beg (7, 8)).st.length = T.st.length + 1 := by
    show (T.st ++ [_]).length = _
    rw [List.length_append]
    rfl
  unfold Tb.put
  dsimp only
  rw [hg, hl, List.getElem?_set_self (by
    show _ < (T.cs ++ [_]).length
    rw [List.length_append]
    exact Nat.lt_succ_self _)]
  rfl
theorem end_lies (T : Tb) : ([(T.st.length, 0), (T.st.length + 1, 1)] : List Step).map (lie ((T.beg (7, 8)).put T.cs.length true (9, 8) 1).st) = [(7, 8), (8, 9)] := by
  have e1 : ((T.st ++ [((7 : Int), (8 : Int))]) ++ [((9 : Int), (8 : Int))]).getD (T.st.length + 1) (0, 0) = (9, 8) := by
    have := getD_snoc (T.st ++ [((7 : Int), (8 : Int))]) (9, 8)
    rw [List.length_append] at this
    exact this
  have e0 : ((T.st ++ [((7 : Int), (8 : Int))]) ++ [((9 : Int), (8 : Int))]).getD T.st.length (0, 0) = (7, 8) := by
    rw [List.getD_eq_getElem?_getD, List.getElem?_append_left (by rw [List.length_append]; exact Nat.lt_succ_self _), ← List.getD_eq_getElem?_getD]
    exact getD_snoc _ _
  show [lie ((T.st ++ [((7 : Int), (8 : Int))]) ++ [((9 : Int), (8 : Int))]) (T.st.length, 0), lie ((T.st ++ [((7 : Int), (8 : Int))]) ++ [((9 : Int), (8 : Int))]) (T.st.length + 1, 1)] = _
  unfold lie sa sb
  rw [if_pos rfl, if_neg (show ¬ ((1 : Nat) = 0) from by decide), e0, e1]
/-! ### the words, what is bad -/
def words8 : List Str := [wPut, wPut, wPut, wBegin, wFits, wChain, wEnds, wBack]
theorem words8_in : ∀ x ∈ words8, x ∈ words6 := by decide +kernel
theorem word9_ne : ∀ r, r < 6 → word9 r ≠ "" := by decide +kernel
theorem due_word {T : Tb} {x : Str} {dn ds dt : PyData} : wordOf9 (due9 T x dn ds dt) = "" ↔ due9 T x dn ds dt = none := by
  cases h : due9 T x dn ds dt with
  | none => exact ⟨fun _ => rfl, fun _ => rfl⟩
  | some r => exact ⟨fun k => absurd k (word9_ne r (due9_lt h)), fun k => nomatch k⟩
def badF (c : Int) (i : Nat) : Bool := decide (c / 8 / (([1, 3, 9] : List Int).getD i 1) % 3 = 0)
def badN (c : Int) : List Nat := (List.range 3).filter (badF c)
def badL (c : Int) : List Int := (badN c).map fun i : Nat => (i : Int)
theorem badN_lt {c : Int} {i : Nat} (h : i ∈ badN c) : i < 3 := List.mem_range.mp (List.mem_filter.mp h).1
theorem badN_nodup (c : Int) : (badN c).Nodup := List.nodup_range.filter _
/-- all but the list that is filled -/
def onlyH (p : Addr) : Hp := fun a => if a = p then some (.lst []) else none
theorem only_at (p : Addr) : onlyH p p = some (.lst []) := if_pos rfl
theorem only_ne {p a : Addr} (h : a ≠ p) : onlyH p a = none := if_neg h
/-- what lies in the list behind some of the bad ones -/
structure Fill (p : Addr) (bad : List Nat) (D0 : Nat → PyData) (i : Nat) (vs : List V) (D : Nat → PyData) (H : Hp) : Prop where
  at_ : H p = some (.lst vs)
  ln : vs.length = 3
  dt : ∀ j v, vs[j]? = some v → Dt (nw (onlyH p) H) v (D j)
  bd : ∀ j : Nat, j < 3 → (j ∈ bad.take i → BadD (j : Int) (D j)) ∧ (j ∉ bad.take i → D j = D0 j)
theorem Fill.ex {p : Addr} {bad : List Nat} {D0 D : Nat → PyData} {i : Nat} {vs : List V} {H H' : Hp} (h : Fill p bad D0 i vs D H) (e : Ex H H') : Fill p bad D0 i vs D H' := ⟨e _ _ h.at_, h.ln, fun j v k => Dt.ex (nw_ex e) _ _ (h.dt j v k), h.bd⟩
theorem Fill.step {p : Addr} {bad : List Nat} {D0 D : Nat → PyData} {i m : Nat} {vs : List V} {v : V} {d : PyData} {H H' : Hp} (h : Fill p bad D0 i vs D H) (hm : bad[i]? = some m) (m3 : m < 3) (e : Ex H H') (hd : Dt (nw H H') v d) (hb : BadD (m : Int) d) :
    Fill p bad D0 (i + 1) (vs.set m v) (fun j => if j = m then d else D j) (upd H' p (.lst (vs.set m v))) := by
  have back : ∀ q, H q = none → onlyH p q = none := fun q hq => only_ne fun z => by
    rw [z, h.at_] at hq
    cases hq
  refine ⟨upd_same, by rw [List.length_set]; exact h.ln, fun j u hj => ?_, fun j hj => ?_⟩
  · rw [List.getElem?_set] at hj
    by_cases c : m = j
    · subst c
      rw [if_pos rfl] at hj
      split at hj
      · obtain rfl := Option.some.inj hj
        rw [if_pos rfl]
        exact Dt.ex (nw_upd (only_at p)) _ _ (Dt.ex (nw_back2 back) _ _ hd)
      · cases hj
    · rw [if_neg c] at hj
      rw [if_neg fun z => c z.symm]
      exact Dt.ex (nw_upd (only_at p)) _ _ (Dt.ex (nw_ex e) _ _ (h.dt j u hj))
  · rw [List.take_add_one, hm]
    by_cases c : j = m
    · subst c
      rw [if_pos rfl]
      exact ⟨fun _ => hb, fun k => absurd (List.mem_append_right _ (by simp)) k⟩
    · rw [if_neg c]
      have mm : j ∈ bad.take i ++ (some m).toList ↔ j ∈ bad.take i := by
        rw [List.mem_append]
        exact ⟨fun k => k.elim id fun k => absurd (by simpa using k) c, .inl⟩
      rw [mm]
      exact h.bd j hj
end Sw
namespace Sw
open PySem PySem.Spec PyProof.Rows L2
open Evl (Ex Ex.refl Ex.trans Ex.new Ex.mut ex_l ex_t ex_rd fresh_back Ev EvL EvU EvT EvA RV RC RCL SpV SpL)
section
variable {σ : L2.St} {H : Hp} {te ta tb : TE} {D : Ends} {tz : TS}
/-- xs = [(..), e] -/
theorem q_two {i : Nat} {xs : List V} {y : V} (h : EvU te σ H xs) (k : Ev tb σ H y) (q : ∀ t p H1, Ex H H1 → H1 t = some (.tup xs) → H1 p = none → tz D (σ.set i (some (.ref p))) (upd H1 p (.lst [.ref t, y]))) : tSeq (tAsg (tLst (tCons te (tCons tb tNil))) (gName i)) tz D σ H := h H (Ex.refl H) _ fun t H2 nt e2 ht => k H2 e2 _ fun H3 e3 =>
  ⟨by show 2 ≤ sizeLine; decide, fun p np => q t p H3 (e2.trans e3) (e3 _ _ ht) np⟩
/-- xs[j] = f(..) -/
theorem s_setC {l : Addr} {xs : List V} {j : Nat} {R : V → Hp → Prop} (hl : H l = some (.lst xs)) (h : ∀ Q : VK, (∀ v H1, Ex H H1 → R v H1 → Q v H1) → te σ H Q) (ho : Ev ta σ H (.ref l)) (hi : Ev tb σ H (.int (j : Int))) (hj : j < xs.length)
    (k : ∀ v H1 H2, Ex H H1 → R v H1 → Ex H1 H2 → D.nx σ (upd H2 l (.lst (xs.set j v)))) : tAsg te (gSub ta tb rSetL) D σ H := h _ fun v H1 e1 r => ho H1 e1 _ fun H2 e2 => hi H2 (e1.trans e2) _ fun H3 e3 =>
  ⟨l, xs, (j : Int), j, rfl, rfl, ((e1.trans e2).trans e3) l _ hl, Evl.ixN_nat hj, k v H1 H3 e1 r (e2.trans e3)⟩
end
section
variable {σ : L2.St} {H : Hp} {C o : Addr} {A : TAd} {T : Tb} {x y : Str} {vn vs' vt : V} {dn ds dt : PyData}
/-- if _law_told(..) != y: .. -/
theorem t_told {E : XK} {args : TA} {tb : TE} {tu tw : TS} {D : Ends} (ha : EvA args σ H [.ref o, .str x, vn, vs', vt]) (t : TabAt C o A T H) (hn : Dt H vn dn) (hs : Dt H vs' ds) (ht : Dt H vt dt) (hb : ∀ (H' : Hp) (Q : VK), Q (.str y) H' → tb σ H' Q)
    (h1 : ∀ r, due9 T x dn ds dt = some r → word9 r = y ∧ ∀ H1, Ex H H1 → tw D σ H1) (h2 : due9 T x dn ds dt = none → "" = y ∧ ∀ A' T' H1, Next C o A A' T' H H1 → tw D σ H1) : tIfS (tTest (tOp rNe (tCall (spTold9 C) [] E args) tb)) tu tw D σ H := ha H (Ex.refl H) _ fun H1 e1 =>
  ⟨o, A, T, x, vn, vs', vt, dn, ds, dt, rfl, t.ex e1, Dt.ex e1 _ _ hn, Dt.ex e1 _ _ hs, Dt.ex e1 _ _ ht, fun r hr H2 e2 => hb H2 _ ⟨rfl, false, by rw [(h1 r hr).1, decide_eq_true rfl]; rfl, iteF ((h1 r hr).2 H2 (e1.trans e2))⟩,
    fun hd A' T' H2 nx => hb H2 _ ⟨rfl, false, by rw [(h2 hd).1, decide_eq_true rfl]; rfl, iteF ((h2 hd).2 A' T' H2 ⟨nx.t, (Mv.of e1).trans nx.m⟩)⟩⟩
end
section
variable {P : Program} {w : World} {K : PySem.W.Frag} {mg : Str → Option Value} {base : Heap} {C : Addr}
/-! ### the law -/
theorem scLaw : FnScope ["_law_script", "_law_table_here", "_law_k", "_law_cell_here", "_law_word_here", "_law_bad_here", "_law_one", "_law_good", "_law_due", "_law_state_here", "_law_number"] ["_law_script"] (defScope sLaw) := ⟨rfl, rfl, rfl, by decide +kernel, rfl, by decide +kernel, by decide +kernel⟩
def spLaw (K : PySem.W.Frag) : Sp := fun vs H Q _ => ∃ (a : Addr) (ns : List Int), vs = [.ref a] ∧ SqL K H a (ns.map V.int) ∧ ns.length ≤ 63 ∧ ∀ H', Q (.bl true) H'
theorem ok_law {f fT fC fX fW fS fO fA fK fR fG fB fP fH : Addr} {fd fdT fdC fdX fdW fdS fdO fdA fdK fdR fdG fdB fdP fdH : FuncData} (F : Fun K "law" "law" sLaw f fd) (X : TxtT K mg C) (mR : mg "range" = none) (mX : mg "max" = none) (mL : mg "len" = none)
    (GT : FnOk P w K mg base CX0 7 fT fdT ["_law_script"] (spTable9 K C)) (gT : mg "_law_table" = some (.ref fT)) (kT : PySem.W.keepIn K (.ref fT) = true) (bT : Binds K fdT ["_law_script"] [])
    (GC : FnOk P w K mg base CX0 1 fC fdC ["_law_script", "_law_k"] (spCellS K)) (gC : mg "_law_cell" = some (.ref fC)) (kC : PySem.W.keepIn K (.ref fC) = true) (bC : Binds K fdC ["_law_script", "_law_k"] [])
    (GX : FnOk P w K mg base CX0 1 fX fdX ["_law_k", "_law_cell_here"] spBad9) (gX : mg "_law_bad" = some (.ref fX)) (kX : PySem.W.keepIn K (.ref fX) = true) (bX : Binds K fdX ["_law_k", "_law_cell_here"] [])
    (GW : FnOk P w K mg base CX0 7 fW fdW ["_law_table_here", "_law_word_here", "_law_bad_here", "_law_number", "_law_side", "_law_stone"] (spWanted C)) (gW : mg "_law_wanted" = some (.ref fW)) (kW : PySem.W.keepIn K (.ref fW) = true) (bW : Binds K fdW ["_law_table_here", "_law_word_here", "_law_bad_here", "_law_number", "_law_side", "_law_stone"] [])
    (GS : FnOk P w K mg base CX0 2 fS fdS ["_law_table_here"] (spState9 C)) (gS : mg "_law_state" = some (.ref fS)) (kS : PySem.W.keepIn K (.ref fS) = true) (bS : Binds K fdS ["_law_table_here"] [])
    (GO : FnOk P w K mg base CX0 8 fO fdO ["_law_table_here", "_law_word_here", "_law_number", "_law_side", "_law_stone"] (spTold9 C)) (gO : mg "_law_told" = some (.ref fO)) (kO : PySem.W.keepIn K (.ref fO) = true) (bO : Binds K fdO ["_law_table_here", "_law_word_here", "_law_number", "_law_side", "_law_stone"] [])
    (GA : FnOk P w K mg base CX0 5 fA fdA ["_law_found", "_law_due"] (spAlike 4)) (gA : mg "_law_alike" = some (.ref fA)) (kA : PySem.W.keepIn K (.ref fA) = true) (bA : Binds K fdA ["_law_found", "_law_due"] [])
    (GK : FnOk P w K mg base CX0 1 fK fdK ["self"] (spChainsM C)) (mK : Meth K C "chains" fK) (bK : Binds K fdK ["self"] [])
    (GR : FnOk P w K mg base CX0 1 fR fdR ["self"] (spStonesM C)) (mSt : Meth K C "stones" fR) (bR : Binds K fdR ["self"] [])
    (GG : FnOk P w K mg base CX0 1 fG fdG ["self"] (spBackC C)) (mG : Meth K C "back" fG) (bG : Binds K fdG ["self"] [])
    (GB : FnOk P w K mg base CX0 4 fB fdB ["self", "stone"] (spBegC C)) (mB : Meth K C "begin" fB) (bB : Binds K fdB ["self", "stone"] [])
    (GP : FnOk P w K mg base CX0 6 fP fdP ["self", "number", "side", "stone"] (spPutC C)) (mP : Meth K C "put" fP) (bP : Binds K fdP ["self", "number", "side", "stone"] [])
    (GH : FnOk P w K mg base CX0 4 fH fdH ["self", "number"] (spChainC C)) (mH : Meth K C "chain" fH) (bH : Binds K fdH ["self", "number"] []) : FnOk P w K mg base CX0 9 f fd ["_law_script"] (spLaw K) := by
  refine F.ok scLaw (fun vs H Q E h => ?_) (fun cdv A outer s H vs Q E hr h => ?_)
  · obtain ⟨a, ns, rfl, _⟩ := h
    rfl
  · obtain ⟨sc, ns, rfl, hN, hn, q⟩ := h
    have hr7 : Room 7 _ := hr.mono (by decide)
    have hr6 : Room 6 _ := hr.mono (by decide)
    have hr5 : Room 5 _ := hr.mono (by decide)
    have hr4 : Room 4 _ := hr.mono (by decide)
    have hr2 : Room 2 _ := hr.mono (by decide)
    have hr1 : Room 1 _ := hr.mono (by decide)
    refine ⟨_, pss_cons (ps_set (i := 1) scLaw.nd rfl (.inl rfl) (pe_call GT hr7 (by rfl) gT kT bT .nil pass0 (pa_cons (pv 0) pa_nil)))
      (Evl.pss_cut (ps_for PassesOwn.never rfl (pi_range1 (by rfl) mR (pa_cons pe_int pa_nil)) (pg_name (i := 2) scLaw.nd rfl (.inl rfl))
        (pss_cons (ps_set (i := 3) scLaw.nd rfl (.inr rfl) (pe_call GC hr1 (by rfl) gC kC bC .nil pass0 (pa_cons (pv 0) (pa_cons (pe_op op_add pe_int (pv 2)) pa_nil))))
        (pss_cons (ps_set (i := 4) scLaw.nd rfl (.inl rfl) (pe_ix (r := rIxL K) ix_list (pe_lst (pa_cons pe_str (pa_cons pe_str (pa_cons pe_str (pa_cons pe_str (pa_cons pe_str (pa_cons pe_str (pa_cons pe_str (pa_cons pe_str pa_nil))))))))) (pe_op op_mod (pv 3) pe_int) (fun _ _ => rfl)))
        (pss_cons (ps_setLc (i := 5) (own := [("_law_one", 6)]) (g := gName 6) (tt := tTest (tOp rEq (tOp (rI (fun _ j => 0 < j) fun i j => .int (i % j)) (tOp (rI CDiv fun i j => .int (i / j)) (tOp (rI CDiv fun i j => .int (i / j)) (tVar 3) (tC (.int 8))) (tOp (rIxL K) (tLst (tCons (tC (.int 1)) (tCons (tC (.int 3)) (tCons (tC (.int 9)) tNil)))) (tVar 6))) (tC (.int 3))) (tC (.int 0)))) (te := tVar 6) rfl scLaw.nd rfl rfl (sw_true rfl rfl rfl (by decide +kernel)) (pi_range1 (by rfl) mR (pa_cons pe_int pa_nil))
            (blkOk_by (own := [("_law_one", 6)]) (N := ["_law_script", "_law_table_here", "_law_k", "_law_cell_here", "_law_word_here", "_law_bad_here", "_law_one", "_law_good", "_law_due", "_law_state_here", "_law_number"]) (sc := defScope sLaw) (by decide +kernel))
            (fun _ _ _ _ _ => pg_name (i := 6) scLaw.nd rfl (Or.inl rfl)) (fun _ _ _ _ _ => pts_one (pt_cmpR op_eq (pe_op op_mod (pe_op op_fdiv (pe_op op_fdiv (pv 3) pe_int) (pe_ix (r := rIxL K) ix_list (pe_lst (pa_cons pe_int (pa_cons pe_int (pa_cons pe_int pa_nil)))) (pv 6) (fun _ _ => rfl))) pe_int) pe_int (nomark _))) (fun _ _ _ _ _ => pv 6))
        (pss_cons (ps_set (i := 7) scLaw.nd rfl (.inl rfl) (pe_lst (pa_cons (pe_tup (pa_cons (pe_op op_mod (pe_op op_fdiv (pv 3) pe_int) pe_int) (pa_cons (pe_op op_mod (pe_op op_fdiv (pv 3) pe_int) pe_int) pa_nil))) (pa_cons (pe_op (r := rI (fun _ j => 0 < j) fun i j => .int (i % j)) op_mod (pe_op op_fdiv (pv 3) pe_int) (pe_callB (r := Evl.rMax2) (call_max2 rfl) (by rfl) mX (by decide +kernel) (pa_cons pe_int (pa_cons (pe_meth0 (E := E0) (pv 1) X.cl mK GK hr1 bK .nil pass0) pa_nil)))) pa_nil))))
        (pss_cons (ps_expr (pe_bm PySem.F.plainAttrs_list PySem.F.slot_list_append PySem.F.type_list_append mt_append (pv 7) (pa_cons (pe_ix (r := rIxL K) ix_list (pe_lst (pa_cons pe_str (pa_cons pe_str pa_nil))) (pe_op op_mod (pe_op op_fdiv (pv 3) pe_int) pe_int) (fun _ _ => rfl)) pa_nil)))
        (Evl.pss_cut (ps_for PassesOwn.never rfl (pi_list (pv 5)) (pg_name (i := 6) scLaw.nd rfl (.inl rfl))
            (pss_one (ps_asg (pe_call GX hr1 (by rfl) gX kX bX .nil pass0 (pa_cons (pv 6) (pa_cons (pe_call GC hr1 (by rfl) gC kC bC .nil pass0 (pa_cons (pv 0) (pa_cons (pe_op op_add (pe_op op_add pe_int (pe_op op_mul pe_int (pv 2))) (pv 6)) pa_nil))) pa_nil))) (pg_sub (pv 7) (pv 6) set_list))))
        (pss_cons (ps_set (i := 8) scLaw.nd rfl (.inl rfl) (pe_call GW hr7 (by rfl) gW kW bW .nil pass0 (pa_cons (pv 1) (pa_cons (pv 4) (pa_cons (pv 5) (pa_cons (pe_ix (r := rIxL K) ix_list (pv 7) pe_int (fun _ _ => rfl)) (pa_cons (pe_ix (r := rIxL K) ix_list (pv 7) pe_int (fun _ _ => rfl)) (pa_cons (pe_ix (r := rIxL K) ix_list (pv 7) pe_int (fun _ _ => rfl)) pa_nil))))))))
        (pss_cons (ps_set (i := 9) scLaw.nd rfl (.inl rfl) (pe_call GS hr2 (by rfl) gS kS bS .nil pass0 (pa_cons (pv 1) pa_nil)))
        (pss_one (ps_if (pt_cmpR op_eq (pv 8) pe_str (nomark _))
          (pss_one (ps_if (pt_cmpR op_ne (pe_call GO hr (by rfl) gO kO bO .nil pass0 (pa_cons (pv 1) (pa_cons (pv 4) (pa_cons (pe_ix (r := rIxL K) ix_list (pv 7) pe_int (fun _ _ => rfl)) (pa_cons (pe_ix (r := rIxL K) ix_list (pv 7) pe_int (fun _ _ => rfl)) (pa_cons (pe_ix (r := rIxL K) ix_list (pv 7) pe_int (fun _ _ => rfl)) pa_nil)))))) pe_str (nomark _)) (pss_one ps_never) pss_nil))
          (pss_one (ps_if (pt_cmpR op_ne (pe_call GO hr (by rfl) gO kO bO .nil pass0 (pa_cons (pv 1) (pa_cons (pv 4) (pa_cons (pe_ix (r := rIxL K) ix_list (pv 7) pe_int (fun _ _ => rfl)) (pa_cons (pe_ix (r := rIxL K) ix_list (pv 7) pe_int (fun _ _ => rfl)) (pa_cons (pe_ix (r := rIxL K) ix_list (pv 7) pe_int (fun _ _ => rfl)) pa_nil)))))) (pv 8) (nomark _)) (pss_one ps_never)
            (pss_one (ps_if (pt_not (pt_val (pe_call GA hr5 (by rfl) gA kA bA .nil pass0 (pa_cons (pe_call GS hr2 (by rfl) gS kS bS .nil pass0 (pa_cons (pv 1) pa_nil)) (pa_cons (pv 9) pa_nil))))) (pss_one ps_never) pss_nil)))))))))))))))
      (Evl.pss_cut (ps_while PassesOwn.never (pt_cmpR op_gt (pe_callB (r := Evl.rLenS K) call_len_seq (by rfl) mL boot_len (pa_cons (pe_meth0 (E := E0) (pv 1) X.cl mSt GR hr1 bR .nil pass0) pa_nil)) pe_int (nomark _)) (pss_one (ps_expr (pe_meth0 (E := E0) (pv 1) X.cl mG GG hr1 bG .nil pass0))))
      (pss_cons (ps_set (i := 10) scLaw.nd rfl (.inl rfl) (pe_meth (E := E0) (pv 1) X.cl mB GB hr4 bB .nil pass0 (pa_cons (pe_tup (pa_cons pe_int (pa_cons pe_int pa_nil))) pa_nil)))
      (pss_cons (ps_if (pt_cmpR op_notN (pe_meth (E := E0) (pv 1) X.cl mP GP hr6 bP .nil pass0 (pa_cons (pv 10) (pa_cons pe_str (pa_cons (pe_tup (pa_cons pe_int (pa_cons pe_int pa_nil))) pa_nil)))) pe_non (by rfl)) (pss_one ps_never) pss_nil)
      (pss_one (ps_ret (pe_cmpR (r := rEqD K) (op_eqD hr.units) (pe_meth (E := E0) (pv 1) X.cl mH GH hr4 bH .nil pass0 (pa_cons (pv 10) pa_nil)) (pe_lst (pa_cons (pe_tup (pa_cons pe_int (pa_cons pe_int pa_nil))) (pa_cons (pe_tup (pa_cons pe_int (pa_cons pe_int pa_nil))) pa_nil))) (nomark _)))))))), ?_⟩
    refine ⟨_, rfl, sc, ns, rfl, hN, hn, fun o A0 T0 H1 e1 t1 c1 => ?_⟩
    have cell : ∀ {σ : L2.St} {H' : Hp} {te : TE} {k : Int}, σ[0]? = some (some (.ref sc)) → Ex H H' → Ev te σ H' (.int k) → Ev (tCall (spCellS K) [] E0 (tCons (tVar 0) (tCons te tNil))) σ H' (.int (cellF ns k)) := fun {σ H' te k} h e ht => Evl.ev_call (Evl.ea_cons (Evl.ev_var h) (Evl.ea_cons ht Evl.ea_nil)) (pv_cell (ex_l e hN) hn)
    -- the ten deeds
    refine Evl.q_cut (M := fun σ' H' => ∃ (A : TAd) (T : Tb), Ex H H' ∧ TabAt C o A T H' ∧ (∀ a ∈ A.cells, H a = none) ∧ ∃ x2 x3 x4 x5 x6 x7 x8 x9 x10 : Option V, σ' = [some (.ref sc), some (.ref o), x2, x3, x4, x5, x6, x7, x8, x9, x10]) ?_ ?_
    · refine Evl.s_forR1 (n := 10) (Evl.ea_cons Evl.ev_c Evl.ea_nil) (by decide) (fun _ σ' H' => ∃ (A : TAd) (T : Tb), Ex H H' ∧ TabAt C o A T H' ∧ (∀ a ∈ A.cells, H a = none) ∧ ∃ x2 x3 x4 x5 x6 x7 x8 x9 x10 : Option V, σ' = [some (.ref sc), some (.ref o), x2, x3, x4, x5, x6, x7, x8, x9, x10])
        (fun H2 e2 => ⟨A0, T0, e1.trans e2, t1.ex e2, c1, _, _, _, _, _, _, _, _, _, rfl⟩) ?_ fun σ' H' h => h
      rintro k σ' H2 hk ⟨A, T, e2, t2, cA, x2, x3, x4, x5, x6, x7, x8, x9, x10, rfl⟩
      refine Evl.q_asg (cell rfl e2 (Evl.ev_op Evl.ev_c (Evl.ev_var rfl) (Evl.rv_I0 (g := fun i j => .int (i + j))))) fun H3 e3 => ?_
      have c0 := cellF_0 ns (100 + (k : Int))
      generalize cellF ns (100 + (k : Int)) = c at c0 ⊢
      -- the word
      obtain ⟨w8, hw8, h8⟩ : ∃ (x : Str) (j : Nat), (j : Int) = c % 8 ∧ words8[j]? = some x := by
        have a1 := Int.emod_nonneg c (show (8 : Int) ≠ 0 by decide)
        have a2 := Int.emod_lt_of_pos c (show (0 : Int) < 8 by decide)
        obtain ⟨j, hj⟩ := Int.eq_ofNat_of_zero_le a1
        have jl : j < words8.length := by
          show j < 8
          omega
        exact ⟨words8[j], j, hj.symm, List.getElem?_eq_getElem jl⟩
      have xin := words8_in _ (List.mem_of_getElem? h8.2)
      refine Evl.q_asg (v := .str w8) (Evl.ev_opL1 (xs := words8.map V.str) (Evl.el_lst (Evl.ea_cons Evl.ev_c (Evl.ea_cons Evl.ev_c (Evl.ea_cons Evl.ev_c (Evl.ea_cons Evl.ev_c (Evl.ea_cons Evl.ev_c (Evl.ea_cons Evl.ev_c (Evl.ea_cons Evl.ev_c (Evl.ea_cons Evl.ev_c Evl.ea_nil)))))))) (by show 8 ≤ _; decide)) (fun H4 e4 => Evl.ev_op (Evl.ev_var rfl) Evl.ev_c (rv_mod9 (by decide))) fun p H4 hp e4 => Evl.rv_ixL (K := K) (SqL.of hp) (by rw [← h8.1]; exact atI_nat (by rw [List.getElem?_map, h8.2]; rfl))) fun H4 e4 => ?_
      have e34 := e3.trans e4
      -- what is bad
      refine Evl.q_asgL (xs := (badN c).map fun i : Nat => V.int (i : Int)) ?_ fun bp H5 nbp e5 hbp => ?_
      · have h := Evl.el_lcR1 (σ := [some (.ref sc), some (.ref o), some (.int (k : Int)), some (.int c), some (.str w8), x5, x6, x7, x8, x9, x10]) (H := H4) (j := 6) (vs := [6]) (n := 3) (te := tVar 6) (t := tTest (tOp rEq (tOp (rI (fun _ j => 0 < j) fun i j => .int (i % j)) (tOp (rI CDiv fun i j => .int (i / j)) (tOp (rI CDiv fun i j => .int (i / j)) (tVar 3) (tC (.int 8))) (tOp (rIxL K) (tLst (tCons (tC (.int 1)) (tCons (tC (.int 3)) (tCons (tC (.int 9)) tNil)))) (tVar 6))) (tC (.int 3))) (tC (.int 0)))) (badF c) (fun i => .int (i : Int)) (Evl.ea_cons Evl.ev_c Evl.ea_nil) (by decide) (fun _ => rfl)
          (fun i H6 e6 hi => by
            have i3 : i < 3 := by omega
            refine et_eqI9 0 (Evl.ev_op (Evl.ev_op (Evl.ev_op (Evl.ev_var rfl) Evl.ev_c (rv_div9 ⟨by decide, by decide⟩)) (Evl.ev_opL1 (xs := [.int 1, .int 3, .int 9]) (z := .int (([1, 3, 9] : List Int).getD i 1)) (Evl.el_lst (Evl.ea_cons Evl.ev_c (Evl.ea_cons Evl.ev_c (Evl.ea_cons Evl.ev_c Evl.ea_nil))) (by show 3 ≤ _; decide)) (fun H7 e7 => Evl.ev_var rfl) fun p H7 hp e7 => Evl.rv_ixL (K := K) (SqL.of hp) (atI_nat ?_)) (rv_div9 ?_)) Evl.ev_c (rv_mod9 (by decide)))
            · match i, i3 with
              | 0, _ => rfl
              | 1, _ => rfl
              | 2, _ => rfl
            · match i, i3 with
              | 0, _ => exact ⟨by decide, by decide⟩
              | 1, _ => exact ⟨by decide, by decide⟩
              | 2, _ => exact ⟨by decide, by decide⟩)
          (fun i H6 e6 _ _ => Evl.ev_var rfl)
        exact h
      have e25 := e34.trans e5
      have t5 := t2.ex e25
      -- what is good
      have a5 := Int.emod_nonneg (c / 300) (show (5 : Int) ≠ 0 by decide)
      have b5 := Int.emod_lt_of_pos (c / 300) (show (0 : Int) < 5 by decide)
      have a9 := Int.emod_nonneg (c / 1500) (show (9 : Int) ≠ 0 by decide)
      have b9 := Int.emod_lt_of_pos (c / 1500) (show (0 : Int) < 9 by decide)
      have g : GoodS (c / 300 % 5, c / 1500 % 9) := ⟨⟨a5, by show c / 300 % 5 ≤ 999999; omega⟩, a9, by show c / 1500 % 9 ≤ 999999; omega⟩
      have mx : 0 < (if (T.cs.length : Int) > 1 then (T.cs.length : Int) else 1) := by split <;> omega
      obtain ⟨nm, hnm⟩ := Int.eq_ofNat_of_zero_le (Int.emod_nonneg (c / 9) (show (if (T.cs.length : Int) > 1 then (T.cs.length : Int) else 1) ≠ 0 by omega))
      have nml : T.cs ≠ [] → nm < T.cs.length := fun hne => by
        have lt := Int.emod_lt_of_pos (c / 9) mx
        have := List.length_pos_iff.mpr hne
        rw [hnm] at lt
        split at lt <;> omega
      obtain ⟨right, j7, hj7, hright⟩ : ∃ (right : Bool) (j : Nat), c / 7 % 2 = (j : Int) ∧ ([leftS, rightS].map V.str)[j]? = some (.str (sideS right)) := by
        have a2 := Int.emod_nonneg (c / 7) (show (2 : Int) ≠ 0 by decide)
        have b2 := Int.emod_lt_of_pos (c / 7) (show (0 : Int) < 2 by decide)
        obtain ⟨j, hj⟩ := Int.eq_ofNat_of_zero_le a2
        have : j = 0 ∨ j = 1 := by omega
        rcases this with z | z
        · exact ⟨false, j, hj, by rw [z]; rfl⟩
        · exact ⟨true, j, hj, by rw [z]; rfl⟩
      refine q_two (xs := [.int (c / 300 % 5), .int (c / 1500 % 9)]) (y := .int (nm : Int)) (Evl.eu_tup (Evl.ea_cons (Evl.ev_op (Evl.ev_op (Evl.ev_var rfl) Evl.ev_c (rv_div9 ⟨by decide, by decide⟩)) Evl.ev_c (rv_mod9 (by decide))) (Evl.ea_cons (Evl.ev_op (Evl.ev_op (Evl.ev_var rfl) Evl.ev_c (rv_div9 ⟨by decide, by decide⟩)) Evl.ev_c (rv_mod9 (by decide))) Evl.ea_nil)) (by show 2 ≤ _; decide))
        (Evl.ev_is (Evl.ev_op (Evl.ev_op (Evl.ev_var rfl) Evl.ev_c (rv_div9 ⟨by decide, by decide⟩)) (Evl.ev_max2 Evl.ev_c (ev_chains rfl t5)) (rv_mod9 mx)) (by rw [hnm])) fun ts gp Hb eb hts ngp => ?_
      have tb := t5.ex eb
      have e0b := e25.trans eb
      have hg1 : (upd Hb gp (.lst [.ref ts, .int (nm : Int)])) gp = some (.lst [.ref ts, .int (nm : Int)]) := upd_same
      have x7 : Ex Hb (upd Hb gp (.lst [.ref ts, .int (nm : Int)])) := Ex.new ngp
      generalize upd Hb gp (.lst [.ref ts, .int (nm : Int)]) = H7 at hg1 x7 ⊢
      refine Evl.q_app hg1 (Evl.ev_var rfl) (Evl.ev_opL1 (xs := [leftS, rightS].map V.str) (y := .int (j7 : Int)) (z := .str (sideS right)) (Evl.el_lst (Evl.ea_cons Evl.ev_c (Evl.ea_cons Evl.ev_c Evl.ea_nil)) (by show 2 ≤ _; decide)) (fun H8 e8 => Evl.ev_is (Evl.ev_op (Evl.ev_op (Evl.ev_var rfl) Evl.ev_c (rv_div9 ⟨by decide, by decide⟩)) Evl.ev_c (rv_mod9 (by decide))) (by rw [hj7])) fun p H8 hp e8 => Evl.rv_ixL (K := K) (SqL.of hp) (atI_nat hright)) (by show 2 < _; decide) fun H8 e8 => ?_
      have x9 : Ex Hb (upd H8 gp (.lst ([.ref ts, .int (nm : Int)] ++ [.str (sideS right)]))) := Ex.mut (x7.trans e8) ngp
      have hg9 : (upd H8 gp (.lst ([.ref ts, .int (nm : Int)] ++ [.str (sideS right)]))) gp = some (.lst [.ref ts, .int (nm : Int), .str (sideS right)]) := upd_same
      generalize upd H8 gp (.lst ([.ref ts, .int (nm : Int)] ++ [.str (sideS right)])) = H9 at x9 hg9 ⊢
      have tg : ts ≠ gp := fun z => by
        rw [z, ngp] at hts
        cases hts
      generalize hD0 : (fun j : Nat => if j = 0 then dPair (c / 300 % 5, c / 1500 % 9) else if j = 1 then PyData.int (nm : Int) else .str (sideS right)) = D0
      have f0 : Fill gp (badN c) D0 0 [.ref ts, .int (nm : Int), .str (sideS right)] D0 H9 := by
        refine ⟨hg9, rfl, fun j v hj => ?_, fun j hj => ⟨fun h => by simp at h, fun _ => rfl⟩⟩
        subst hD0
        match j, hj with
        | 0, hj =>
          obtain rfl := Option.some.inj hj
          exact .tup (nw_in (only_ne tg) (x9 _ _ hts)) (.cons (.int _) (.cons (.int _) .nil))
        | 1, hj =>
          obtain rfl := Option.some.inj hj
          exact .int _
        | 2, hj =>
          obtain rfl := Option.some.inj hj
          exact .str _
        | j + 3, hj => simp at hj
      have hbpb := eb _ _ hbp
      refine Evl.q_cut (M := fun σ' H' => ∃ (vs : List V) (D : Nat → PyData), Ex Hb H' ∧ Fill gp (badN c) D0 (badN c).length vs D H' ∧ ∃ y6 y8 y9 y10 : Option V, σ' = [some (.ref sc), some (.ref o), some (.int (k : Int)), some (.int c), some (.str w8), some (.ref bp), y6, some (.ref gp), y8, y9, y10]) ?_ ?_
      · refine Evl.s_forLn (K := K) (a := bp) (xs := (badN c).map fun i : Nat => V.int (i : Int)) (Evl.ev_var rfl) (SqL.of (x9 _ _ hbpb)) (fun i σ' H' => ∃ (vs : List V) (D : Nat → PyData), Ex Hb H' ∧ Fill gp (badN c) D0 i vs D H' ∧ ∃ y6 y8 y9 y10 : Option V, σ' = [some (.ref sc), some (.ref o), some (.int (k : Int)), some (.int c), some (.str w8), some (.ref bp), y6, some (.ref gp), y8, y9, y10])
          (fun H10 e10 => ⟨_, _, x9.trans e10, f0.ex e10, _, _, _, _, rfl⟩) (fun i σ' H' _ ⟨_, _, e, _⟩ => SqL.of (e _ _ hbpb)) ?_ ?_
        · rintro i v σ' H10 hv ⟨vs, D, e10, fl, y6, y8, y9, y10, rfl⟩
          rw [List.getElem?_map] at hv
          obtain ⟨m, hm, rfl⟩ := Option.map_eq_some_iff.mp hv
          have m3 := badN_lt (List.mem_of_getElem? hm)
          refine s_setC (j := m) (R := fun v H' => ∃ d, Dt (nw H10 H') v d ∧ BadD (m : Int) d) fl.at_ (fun Q' q' => ⟨_, rfl, ?_⟩) (Evl.ev_var rfl) (Evl.ev_var rfl) (by rw [fl.ln]; exact m3) fun v H11 H12 e11 ⟨d, hd, hb⟩ e12 => ⟨_, _, Ex.mut ((e10.trans e11).trans e12) ngp, fl.step hm m3 (e11.trans e12) (Dt.ex (nw_ex e12) _ _ hd) hb, _, _, _, _, rfl⟩
          refine cell (k := 200 + 3 * (k : Int) + (m : Int)) rfl (e2.trans (e0b.trans e10)) (Evl.ev_op (Evl.ev_op Evl.ev_c (Evl.ev_op Evl.ev_c (Evl.ev_var rfl) (Evl.rv_I (C := CMul) (g := fun i j => .int (i * j)) (.inl ⟨by decide, by decide⟩))) (Evl.rv_I0 (g := fun i j => .int (i + j)))) (Evl.ev_var rfl) (Evl.rv_I0 (g := fun i j => .int (i + j)))) H10 (Ex.refl H10) _ fun H11 e11 => ⟨(m : Int), _, rfl, by omega, by omega, cellF_0 _ _, fun v H12 d e12 hd hb => q' v H12 (e11.trans e12) ⟨d, Dt.ex (nw_back e11) _ _ hd, hb⟩⟩
        · rintro σ' H10 ⟨vs, D, e10, fl, hσ⟩
          rw [List.length_map] at fl
          exact ⟨vs, D, e10, fl, hσ⟩
      rintro σ' H10 ⟨vs, D, e10, fl, y6, y8, y9, y10, rfl⟩
      obtain ⟨v0, v1, v2, rfl⟩ : ∃ v0 v1 v2, vs = [v0, v1, v2] := by
        have := fl.ln
        match vs, this with
        | [v0, v1, v2], _ => exact ⟨v0, v1, v2, rfl⟩
      have d0 : Dt H10 v0 (D 0) := dt_nw (fl.dt 0 v0 rfl)
      have d1 : Dt H10 v1 (D 1) := dt_nw (fl.dt 1 v1 rfl)
      have d2 : Dt H10 v2 (D 2) := dt_nw (fl.dt 2 v2 rfl)
      have t10 := tb.ex e10
      have hb10 : H10 bp = some (.lst ((badL c).map V.int)) := by
        rw [e10 _ _ hbpb]
        unfold badL
        rw [List.map_map]
        rfl
      have inB : ∀ j : Nat, (j : Int) ∈ badL c ↔ j ∈ (badN c).take (badN c).length := fun j => by
        rw [List.take_length]
        unfold badL
        rw [List.mem_map]
        refine ⟨fun ⟨i, hi, e⟩ => ?_, fun h => ⟨j, h, rfl⟩⟩
        rwa [show j = i from by omega]
      have f60 : T.cs.length ≤ 60 := Nat.le_trans t2.re.few t2.go.1
      have bad : BadOk T (badL c) (D 1) (D 2) (D 0) := by
        obtain ⟨p0, q0⟩ := fl.bd 0 (by decide)
        obtain ⟨p1, q1⟩ := fl.bd 1 (by decide)
        obtain ⟨p2, q2⟩ := fl.bd 2 (by decide)
        refine ⟨fun h => (p0 ((inB 0).mp h)).1 rfl, fun h => ?_, fun h => (p1 ((inB 1).mp h)).2.1 rfl _ f60, fun h hne => ?_, fun h => (p2 ((inB 2).mp h)).2.2 rfl, fun h => ?_⟩
        · rw [q0 fun z => h ((inB 0).mpr z), ← hD0]
          exact stone_is g
        · rw [q1 fun z => h ((inB 1).mpr z), ← hD0]
          exact num_is (nml hne)
        · rw [q2 fun z => h ((inB 2).mpr z), ← hD0]
          exact side_is right
      -- what is due
      refine Evl.q_asg (v := .str (wordOf9 (due9 T w8 (D 1) (D 2) (D 0)))) (Evl.ev_call (dvs := []) (Evl.ea_cons (Evl.ev_var rfl) (Evl.ea_cons (Evl.ev_var rfl) (Evl.ea_cons (Evl.ev_var rfl) (Evl.ea_cons (Evl.ev_op (Evl.ev_var rfl) Evl.ev_c (Evl.rv_ixL (K := K) (v := v1) (SqL.of fl.at_) (atI_nat (j := 1) rfl))) (Evl.ea_cons (Evl.ev_op (Evl.ev_var rfl) Evl.ev_c (Evl.rv_ixL (K := K) (v := v2) (SqL.of fl.at_) (atI_nat (j := 2) rfl))) (Evl.ea_cons (Evl.ev_op (Evl.ev_var rfl) Evl.ev_c (Evl.rv_ixL (K := K) (v := v0) (SqL.of fl.at_) (atI_nat (j := 0) rfl))) Evl.ea_nil))))))
        fun Hx ex Q' q' _ => ⟨o, A, T, w8, bp, badL c, v1, v2, v0, D 1, D 2, D 0, rfl, t10.ex ex, xin, ex _ _ hb10, Dt.ex ex _ _ d1, Dt.ex ex _ _ d2, Dt.ex ex _ _ d0, bad, fun H' e' => q' H' e'⟩) fun H11 e11 => ?_
      -- the state
      refine ⟨_, rfl, o, A, T, rfl, t10.ex e11, fun sp H12 e12 hsp => ?_⟩
      have e1012 := e11.trans e12
      have e02 := e2.trans (e0b.trans (e10.trans e1012))
      dsimp only
      refine Evl.s_if (b := decide (wordOf9 (due9 T w8 (D 1) (D 2) (D 0)) = "")) ?_ ?_ ?_
      · exact et_eqS "" (Evl.ev_var rfl)
      · intro hb H13 e13
        have hd := due_word.mp (of_decide_eq_true hb)
        have e113 := e1012.trans e13
        refine t_told (y := "") (Evl.ea_cons (Evl.ev_var rfl) (Evl.ea_cons (Evl.ev_var rfl) (Evl.ea_cons (Evl.ev_op (Evl.ev_var rfl) Evl.ev_c (Evl.rv_ixL (K := K) (v := v1) (SqL.of (e113 _ _ fl.at_)) (atI_nat (j := 1) rfl))) (Evl.ea_cons (Evl.ev_op (Evl.ev_var rfl) Evl.ev_c (Evl.rv_ixL (K := K) (v := v2) (SqL.of (e113 _ _ fl.at_)) (atI_nat (j := 2) rfl))) (Evl.ea_cons (Evl.ev_op (Evl.ev_var rfl) Evl.ev_c (Evl.rv_ixL (K := K) (v := v0) (SqL.of (e113 _ _ fl.at_)) (atI_nat (j := 0) rfl))) Evl.ea_nil))))) (t10.ex e113) (Dt.ex e113 _ _ d1) (Dt.ex e113 _ _ d2) (Dt.ex e113 _ _ d0) (fun _ _ q => q)
          (fun r hr => by rw [hd] at hr; cases hr) fun _ => ⟨rfl, fun A' T' H14 nx => ?_⟩
        obtain ⟨x1, x2⟩ := nx.m.fr H (e02.trans e13) cA
        exact ⟨A', T', x1, nx.t, x2, _, _, _, _, _, _, _, _, _, rfl⟩
      · intro hb H13 e13
        have hb := of_decide_eq_false hb
        have e113 := e1012.trans e13
        refine t_told (y := wordOf9 (due9 T w8 (D 1) (D 2) (D 0))) (Evl.ea_cons (Evl.ev_var rfl) (Evl.ea_cons (Evl.ev_var rfl) (Evl.ea_cons (Evl.ev_op (Evl.ev_var rfl) Evl.ev_c (Evl.rv_ixL (K := K) (v := v1) (SqL.of (e113 _ _ fl.at_)) (atI_nat (j := 1) rfl))) (Evl.ea_cons (Evl.ev_op (Evl.ev_var rfl) Evl.ev_c (Evl.rv_ixL (K := K) (v := v2) (SqL.of (e113 _ _ fl.at_)) (atI_nat (j := 2) rfl))) (Evl.ea_cons (Evl.ev_op (Evl.ev_var rfl) Evl.ev_c (Evl.rv_ixL (K := K) (v := v0) (SqL.of (e113 _ _ fl.at_)) (atI_nat (j := 0) rfl))) Evl.ea_nil))))) (t10.ex e113) (Dt.ex e113 _ _ d1) (Dt.ex e113 _ _ d2) (Dt.ex e113 _ _ d0) (fun _ _ q => ⟨_, rfl, q⟩)
          (fun r hr => ⟨by rw [hr]; rfl, fun H14 e14 => ?_⟩) fun hd => absurd (due_word.mpr hd) hb
        have e1214 := e13.trans e14
        have t14 := t10.ex (e1012.trans e1214)
        refine ⟨_, rfl, o, A, T, rfl, t14, fun sp2 H15 e15 hsp2 => ⟨_, rfl, .ref sp2, .ref sp, stateD T, rfl, hsp2, Dt.ex (e1214.trans e15) _ _ hsp, lay_state t2.re t2.go, fun H16 e16 => ⟨true, rfl, iteF ?_⟩⟩⟩
        have e1216 := (e1214.trans e15).trans e16
        exact ⟨A, T, e02.trans e1216, t10.ex (e1012.trans e1216), cA, _, _, _, _, _, _, _, _, _, rfl⟩
    -- behind them
    rintro σ' H2 ⟨A, T, e2, t2, cA, x2, x3, x4, x5, x6, x7, x8, x9, x10, rfl⟩
    refine Evl.q_cut (M := fun σ' H' => ∃ (A : TAd) (T : Tb), TabAt C o A T H' ∧ T.st.length ≤ 50 ∧ σ' = [some (.ref sc), some (.ref o), x2, x3, x4, x5, x6, x7, x8, x9, x10]) ?_ ?_
    · refine Evl.s_while (fun m σ' H' => ∃ (A : TAd) (T : Tb), TabAt C o A T H' ∧ T.st.length = m ∧ σ' = [some (.ref sc), some (.ref o), x2, x3, x4, x5, x6, x7, x8, x9, x10]) T.st.length ⟨A, T, t2, rfl, rfl⟩ ?_
      rintro m σ' H3 ⟨A, T, t3, lm, rfl⟩
      refine ⟨decide (50 < T.st.length), Evl.et_test (Evl.ev_is (Evl.ev_op (ev_lenE (es_stones rfl t3)) Evl.ev_c (Evl.rv_I0 (g := fun i j => .bl (decide (j < i))))) (congrArg V.bl (Bool.eq_iff_iff.mpr (by rw [decide_eq_true_eq, decide_eq_true_eq]; omega)))), fun hb H4 e4 => ?_, fun hb H4 e4 => ⟨A, T, t3.ex e4, by have := of_decide_eq_false hb; omega, rfl⟩⟩
      have hb := of_decide_eq_true hb
      refine ⟨fun σ2 H5 => ∃ (A : TAd) (T : Tb), TabAt C o A T H5 ∧ T.st.length + 1 = m ∧ σ2 = [some (.ref sc), some (.ref o), x2, x3, x4, x5, x6, x7, x8, x9, x10], fun σ2 H5 ⟨A', T', t5, l5, hσ⟩ => ⟨T'.st.length, by omega, A', T', t5, rfl, hσ⟩, ?_⟩
      have t4 := t3.ex e4
      exact ⟨_, rfl, o, _, _, rfl, t4.ob, tF_no (by decide +kernel) (by decide +kernel) (by decide +kernel), o, A, T, rfl, t4, (fun z => by rw [z] at hb; exact absurd hb (by decide)), fun v A' T' H5 nx hl => ⟨A', T', nx.t, hl.trans lm, rfl⟩⟩
    rintro σ' H3 ⟨A, T, t3, l50, rfl⟩
    -- begin((7, 8))
    refine ⟨_, rfl, o, _, _, rfl, t3.ob, tF_no (by decide +kernel) (by decide +kernel) (by decide +kernel), by show 2 ≤ sizeLine; decide, fun ts nts => ⟨o, A, T, ts, (7, 8), rfl, t3.ex (Ex.new nts), upd_same, ⟨by decide, by decide⟩, by omega, fun A1 H4 nx => ?_⟩⟩
    have t4 := nx.t
    -- put(number, "right", (9, 8))
    refine ⟨_, rfl, o, _, _, rfl, t4.ob, tF_no (by decide +kernel) (by decide +kernel) (by decide +kernel), _, rfl, by show 2 ≤ sizeLine; decide, fun tu ntu => ⟨o, A1, T.beg (7, 8), T.cs.length, true, tu, (9, 8), rfl, t4.ex (Ex.new ntu), upd_same, ⟨by decide, by decide⟩, ?_, ?_, (by rw [end_fit]; exact fun z => (nomatch z)), fun tn A2 H5 hf nx2 => ?_⟩⟩
    · show T.cs.length < (T.cs ++ [_]).length
      rw [List.length_append]
      exact Nat.lt_succ_self _
    · show (T.st ++ [_]).length < 60
      rw [List.length_append]
      show _ + 1 < 60
      omega
    rw [end_fit] at hf
    have tn1 : tn = 1 := by
      have := V.int.inj hf
      omega
    subst tn1
    have t5 := nx2.t
    refine ⟨rfl, false, rfl, iteF ?_⟩
    -- chain(number) == [(7, 8), (8, 9)]
    refine ⟨_, rfl, o, _, _, rfl, t5.ob, tF_no (by decide +kernel) (by decide +kernel) (by decide +kernel), _, rfl, o, A2, _, T.cs.length, _, rfl, t5, end_chain T, fun z H6 e6 hz => ⟨by show 2 ≤ sizeLine; decide, fun p1 np1 => ⟨by show 2 ≤ sizeLine; decide, fun p2 np2 => ⟨by show 2 ≤ sizeLine; decide, fun p3 np3 => ?_⟩⟩⟩⟩
    rw [end_lies] at hz
    have y1 : Ex H6 (upd H6 p1 (.tup [.int 7, .int 8])) := Ex.new np1
    have hp1 : (upd H6 p1 (.tup [.int 7, .int 8])) p1 = some (.tup [.int 7, .int 8]) := upd_same
    generalize upd H6 p1 (.tup [.int 7, .int 8]) = H7 at y1 hp1 np2 np3 ⊢
    have y2 : Ex H7 (upd H7 p2 (.tup [.int 8, .int 9])) := Ex.new np2
    have hp2 : (upd H7 p2 (.tup [.int 8, .int 9])) p2 = some (.tup [.int 8, .int 9]) := upd_same
    generalize upd H7 p2 (.tup [.int 8, .int 9]) = H8 at y2 hp2 np3 ⊢
    have y3 : Ex H8 (upd H8 p3 (.lst [.ref p1, .ref p2])) := Ex.new np3
    have ly : Lay 2 (dStones [(7, 8), (8, 9)]) := lay_stones _ (by decide)
    refine ⟨dStones [(7, 8), (8, 9)], dStones [(7, 8), (8, 9)], Dt.dp _ _ (hz.ex ((y1.trans y2).trans y3)).dt, Dt.dp _ _ (.lst upd_same (.cons ?_ (.cons ?_ .nil))), ly.shaped (by decide), ly.shaped (by decide), ?_⟩
    · exact .tup (y3 _ _ (y2 _ _ hp1)) (.cons (.int _) (.cons (.int _) .nil))
    · exact .tup (y3 _ _ hp2) (.cons (.int _) (.cons (.int _) .nil))
    · rw [eqv_stones, decide_eq_true rfl]
      exact q _
end
end Sw
namespace Sw
open PySem PySem.Spec PyProof.Rows L2
/-! ### what the top has written -/
set_option maxHeartbeats 0 in
theorem all_mk {l : PySem.W.OpenLaw} {w : World} {K : PySem.W.Frag} {h : Heap} {mg : Str → Option Value} {fa f1 f2 f3 f4 f5 f6 f7 f8 f9 f10 f11 f12 f13 f14 f15 f16 f17 f18 fm0 fm1 fm2 fm3 fm4 fm5 fm6 fm7 fm8 fm9 fm10 fm11 fm12 fm13 c_StoneError c_NoStone c_Full c_NoChain c_NoSide c_NoFit c_NoDeed c_NoStones c_NoText c_NoLaying pS cT : Addr} (X : K.In h) (G : h.Ns mainGlobals mg) (hfa : mg "law" = some (.ref fa))
    {od1 an1 od2 an2 od3 an3 od4 an4 od5 an5 od6 an6 od7 an7 od8 an8 od9 an9 od10 an10 od11 an11 od12 an12 od13 an13 od14 an14 od15 an15 od16 an16 od17 an17 od18 an18 odm0 anm0 odm1 anm1 odm2 anm2 odm3 anm3 odm4 anm4 odm5 anm5 odm6 anm6 odm7 anm7 odm8 anm8 odm9 anm9 odm10 anm10 odm11 anm11 odm12 anm12 odm13 anm13 odS : Option Addr} {sl1 sl2 sl3 sl4 sl5 sl6 sl7 sl8 sl9 sl10 sl11 sl12 sl13 sl14 sl15 sl16 sl17 sl18 slm0 slm1 slm2 slm3 slm4 slm5 slm6 slm7 slm8 slm9 slm10 slm11 slm12 slm13 slS : Array (Option Value)} {oc1 kV1 dc1 pm1 cd1 ct1 oc2 kV2 dc2 pm2 cd2 ct2 oc3 kV3 dc3 pm3 cd3 ct3 oc4 kV4 dc4 pm4 cd4 ct4 oc5 kV5 dc5 pm5 cd5 ct5 oc6 kV6 dc6 pm6 cd6 ct6 oc7 kV7 dc7 pm7 cd7 ct7 oc8 kV8 dc8 pm8 cd8 ct8 oc9 kV9 dc9 pm9 cd9 ct9 oc10 kV10 dc10 pm10 cd10 ct10 oc11 kV11 dc11 pm11 cd11 ct11 oc12 kV12 dc12 pm12 cd12 ct12 oc13 kV13 dc13 pm13 cd13 ct13 oc14 kV14 dc14 pm14 cd14 ct14 oc15 kV15 dc15 pm15 cd15 ct15 oc16 kV16 dc16 pm16 cd16 ct16 oc17 kV17 dc17 pm17 cd17 ct17 oc18 kV18 dc18 pm18 cd18 ct18 ocm0 kVm0 dcm0 pmm0 cdm0 ctm0 ocm1 kVm1 dcm1 pmm1 cdm1 ctm1 ocm2 kVm2 dcm2 pmm2 cdm2 ctm2 ocm3 kVm3 dcm3 pmm3 cdm3 ctm3 ocm4 kVm4 dcm4 pmm4 cdm4 ctm4 ocm5 kVm5 dcm5 pmm5 cdm5 ctm5 ocm6 kVm6 dcm6 pmm6 cdm6 ctm6 ocm7 kVm7 dcm7 pmm7 cdm7 ctm7 ocm8 kVm8 dcm8 pmm8 cdm8 ctm8 ocm9 kVm9 dcm9 pmm9 cdm9 ctm9 ocm10 kVm10 dcm10 pmm10 cdm10 ctm10 ocm11 kVm11 dcm11 pmm11 cdm11 ctm11 ocm12 kVm12 dcm12 pmm12 cdm12 ctm12 ocm13 kVm13 dcm13 pmm13 cdm13 ctm13 : Value} {tk0 tk1 tS1 tS2 : Tok} {nS : Nat}
    (a1 : PySem.W.nsIn K mainGlobals "is_number" = some (some (.ref f1))) (l1 : K.lookup f1 = some ⟨oc1, od1, .func (PySem.W.fnOf "is_number" "is_number" (defArgs sNum) (defBody sNum) (defScope sNum) .none kV1 dc1 pm1 an1 cd1 ct1), sl1⟩) (c1 : PySem.W.codeIn K cd1 "is_number" = true) (k1 : PySem.W.keepIn K (.ref f1) = true)
    (a2 : PySem.W.nsIn K mainGlobals "is_stone" = some (some (.ref f2))) (l2 : K.lookup f2 = some ⟨oc2, od2, .func (PySem.W.fnOf "is_stone" "is_stone" (defArgs sStone) (defBody sStone) (defScope sStone) .none kV2 dc2 pm2 an2 cd2 ct2), sl2⟩) (c2 : PySem.W.codeIn K cd2 "is_stone" = true) (k2 : PySem.W.keepIn K (.ref f2) = true)
    (a3 : PySem.W.nsIn K mainGlobals "need_stone" = some (some (.ref f3))) (l3 : K.lookup f3 = some ⟨oc3, od3, .func (PySem.W.fnOf "need_stone" "need_stone" (defArgs sNeed1) (defBody sNeed1) (defScope sNeed1) .none kV3 dc3 pm3 an3 cd3 ct3), sl3⟩) (c3 : PySem.W.codeIn K cd3 "need_stone" = true) (k3 : PySem.W.keepIn K (.ref f3) = true)
    (a4 : PySem.W.nsIn K mainGlobals "lying" = some (some (.ref f4))) (l4 : K.lookup f4 = some ⟨oc4, od4, .func (PySem.W.fnOf "lying" "lying" (defArgs sLying) (defBody sLying) (defScope sLying) .none kV4 dc4 pm4 an4 cd4 ct4), sl4⟩) (c4 : PySem.W.codeIn K cd4 "lying" = true) (k4 : PySem.W.keepIn K (.ref f4) = true)
    (a5 : PySem.W.nsIn K mainGlobals "lies" = some (some (.ref f5))) (l5 : K.lookup f5 = some ⟨oc5, od5, .func (PySem.W.fnOf "lies" "lies" (defArgs sLies) (defBody sLies) (defScope sLies) .none kV5 dc5 pm5 an5 cd5 ct5), sl5⟩) (c5 : PySem.W.codeIn K cd5 "lies" = true) (k5 : PySem.W.keepIn K (.ref f5) = true)
    (a6 : PySem.W.nsIn K mainGlobals "row" = some (some (.ref f6))) (l6 : K.lookup f6 = some ⟨oc6, od6, .func (PySem.W.fnOf "row" "row" (defArgs sRow) (defBody sRow) (defScope sRow) .none kV6 dc6 pm6 an6 cd6 ct6), sl6⟩) (c6 : PySem.W.codeIn K cd6 "row" = true) (k6 : PySem.W.keepIn K (.ref f6) = true)
    (a7 : PySem.W.nsIn K mainGlobals "_fitting" = some (some (.ref f7))) (l7 : K.lookup f7 = some ⟨oc7, od7, .func (PySem.W.fnOf "_fitting" "_fitting" (defArgs s_fitting) (defBody s_fitting) (defScope s_fitting) .none kV7 dc7 pm7 an7 cd7 ct7), sl7⟩) (c7 : PySem.W.codeIn K cd7 "_fitting" = true) (k7 : PySem.W.keepIn K (.ref f7) = true)
    (a8 : PySem.W.nsIn K mainGlobals "_law_cell" = some (some (.ref f8))) (l8 : K.lookup f8 = some ⟨oc8, od8, .func (PySem.W.fnOf "_law_cell" "_law_cell" (defArgs sCell) (defBody sCell) (defScope sCell) .none kV8 dc8 pm8 an8 cd8 ct8), sl8⟩) (c8 : PySem.W.codeIn K cd8 "_law_cell" = true) (k8 : PySem.W.keepIn K (.ref f8) = true)
    (a9 : PySem.W.nsIn K mainGlobals "_law_alike" = some (some (.ref f9))) (l9 : K.lookup f9 = some ⟨oc9, od9, .func (PySem.W.fnOf "_law_alike" "_law_alike" (defArgs sAlike) (defBody sAlike) (defScope sAlike) .none kV9 dc9 pm9 an9 cd9 ct9), sl9⟩) (c9 : PySem.W.codeIn K cd9 "_law_alike" = true) (k9 : PySem.W.keepIn K (.ref f9) = true)
    (a10 : PySem.W.nsIn K mainGlobals "_law_bad" = some (some (.ref f10))) (l10 : K.lookup f10 = some ⟨oc10, od10, .func (PySem.W.fnOf "_law_bad" "_law_bad" (defArgs s_law_bad) (defBody s_law_bad) (defScope s_law_bad) .none kV10 dc10 pm10 an10 cd10 ct10), sl10⟩) (c10 : PySem.W.codeIn K cd10 "_law_bad" = true) (k10 : PySem.W.keepIn K (.ref f10) = true)
    (a11 : PySem.W.nsIn K mainGlobals "_law_word" = some (some (.ref f11))) (l11 : K.lookup f11 = some ⟨oc11, od11, .func (PySem.W.fnOf "_law_word" "_law_word" (defArgs s_law_word) (defBody s_law_word) (defScope s_law_word) .none kV11 dc11 pm11 an11 cd11 ct11), sl11⟩) (c11 : PySem.W.codeIn K cd11 "_law_word" = true) (k11 : PySem.W.keepIn K (.ref f11) = true)
    (a12 : PySem.W.nsIn K mainGlobals "_law_asked" = some (some (.ref f12))) (l12 : K.lookup f12 = some ⟨oc12, od12, .func (PySem.W.fnOf "_law_asked" "_law_asked" (defArgs s_law_asked) (defBody s_law_asked) (defScope s_law_asked) .none kV12 dc12 pm12 an12 cd12 ct12), sl12⟩) (c12 : PySem.W.codeIn K cd12 "_law_asked" = true) (k12 : PySem.W.keepIn K (.ref f12) = true)
    (a13 : PySem.W.nsIn K mainGlobals "_law_told" = some (some (.ref f13))) (l13 : K.lookup f13 = some ⟨oc13, od13, .func (PySem.W.fnOf "_law_told" "_law_told" (defArgs s_law_told) (defBody s_law_told) (defScope s_law_told) .none kV13 dc13 pm13 an13 cd13 ct13), sl13⟩) (c13 : PySem.W.codeIn K cd13 "_law_told" = true) (k13 : PySem.W.keepIn K (.ref f13) = true)
    (a14 : PySem.W.nsIn K mainGlobals "_law_fits_there" = some (some (.ref f14))) (l14 : K.lookup f14 = some ⟨oc14, od14, .func (PySem.W.fnOf "_law_fits_there" "_law_fits_there" (defArgs s_law_fits_there) (defBody s_law_fits_there) (defScope s_law_fits_there) .none kV14 dc14 pm14 an14 cd14 ct14), sl14⟩) (c14 : PySem.W.codeIn K cd14 "_law_fits_there" = true) (k14 : PySem.W.keepIn K (.ref f14) = true)
    (a15 : PySem.W.nsIn K mainGlobals "_law_wanted" = some (some (.ref f15))) (l15 : K.lookup f15 = some ⟨oc15, od15, .func (PySem.W.fnOf "_law_wanted" "_law_wanted" (defArgs s_law_wanted) (defBody s_law_wanted) (defScope s_law_wanted) .none kV15 dc15 pm15 an15 cd15 ct15), sl15⟩) (c15 : PySem.W.codeIn K cd15 "_law_wanted" = true) (k15 : PySem.W.keepIn K (.ref f15) = true)
    (a16 : PySem.W.nsIn K mainGlobals "_law_table" = some (some (.ref f16))) (l16 : K.lookup f16 = some ⟨oc16, od16, .func (PySem.W.fnOf "_law_table" "_law_table" (defArgs s_law_table) (defBody s_law_table) (defScope s_law_table) .none kV16 dc16 pm16 an16 cd16 ct16), sl16⟩) (c16 : PySem.W.codeIn K cd16 "_law_table" = true) (k16 : PySem.W.keepIn K (.ref f16) = true)
    (a17 : PySem.W.nsIn K mainGlobals "_law_state" = some (some (.ref f17))) (l17 : K.lookup f17 = some ⟨oc17, od17, .func (PySem.W.fnOf "_law_state" "_law_state" (defArgs s_law_state) (defBody s_law_state) (defScope s_law_state) .none kV17 dc17 pm17 an17 cd17 ct17), sl17⟩) (c17 : PySem.W.codeIn K cd17 "_law_state" = true) (k17 : PySem.W.keepIn K (.ref f17) = true)
    (a18 : PySem.W.nsIn K mainGlobals "law" = some (some (.ref f18))) (l18 : K.lookup f18 = some ⟨oc18, od18, .func (PySem.W.fnOf "law" "law" (defArgs sLaw) (defBody sLaw) (defScope sLaw) .none kV18 dc18 pm18 an18 cd18 ct18), sl18⟩) (c18 : PySem.W.codeIn K cd18 "law" = true) (k18 : PySem.W.keepIn K (.ref f18) = true)
    (aT : PySem.W.nsIn K mainGlobals "Table" = some (some (.ref cT)))
    (am0 : PySem.W.findIn K (.ref cT) "__init__" = some (some (.ref fm0))) (im0 : PySem.W.isFn K (.ref fm0) = true) (lm0 : K.lookup fm0 = some ⟨ocm0, odm0, .func (PySem.W.fnOf "__init__" "Table.__init__" (defArgs (sTab 0)) (defBody (sTab 0)) (defScope (sTab 0)) .none kVm0 dcm0 pmm0 anm0 cdm0 ctm0), slm0⟩) (cm0 : PySem.W.codeIn K cdm0 "Table.__init__" = true) (km0 : PySem.W.keepIn K (.ref fm0) = true)
    (am1 : PySem.W.findIn K (.ref cT) "begin" = some (some (.ref fm1))) (im1 : PySem.W.isFn K (.ref fm1) = true) (lm1 : K.lookup fm1 = some ⟨ocm1, odm1, .func (PySem.W.fnOf "begin" "Table.begin" (defArgs (sTab 1)) (defBody (sTab 1)) (defScope (sTab 1)) .none kVm1 dcm1 pmm1 anm1 cdm1 ctm1), slm1⟩) (cm1 : PySem.W.codeIn K cdm1 "Table.begin" = true) (km1 : PySem.W.keepIn K (.ref fm1) = true)
    (am2 : PySem.W.findIn K (.ref cT) "put" = some (some (.ref fm2))) (im2 : PySem.W.isFn K (.ref fm2) = true) (lm2 : K.lookup fm2 = some ⟨ocm2, odm2, .func (PySem.W.fnOf "put" "Table.put" (defArgs (sTab 2)) (defBody (sTab 2)) (defScope (sTab 2)) .none kVm2 dcm2 pmm2 anm2 cdm2 ctm2), slm2⟩) (cm2 : PySem.W.codeIn K cdm2 "Table.put" = true) (km2 : PySem.W.keepIn K (.ref fm2) = true)
    (am3 : PySem.W.findIn K (.ref cT) "back" = some (some (.ref fm3))) (im3 : PySem.W.isFn K (.ref fm3) = true) (lm3 : K.lookup fm3 = some ⟨ocm3, odm3, .func (PySem.W.fnOf "back" "Table.back" (defArgs (sTab 3)) (defBody (sTab 3)) (defScope (sTab 3)) .none kVm3 dcm3 pmm3 anm3 cdm3 ctm3), slm3⟩) (cm3 : PySem.W.codeIn K cdm3 "Table.back" = true) (km3 : PySem.W.keepIn K (.ref fm3) = true)
    (am4 : PySem.W.findIn K (.ref cT) "chain" = some (some (.ref fm4))) (im4 : PySem.W.isFn K (.ref fm4) = true) (lm4 : K.lookup fm4 = some ⟨ocm4, odm4, .func (PySem.W.fnOf "chain" "Table.chain" (defArgs (sTab 4)) (defBody (sTab 4)) (defScope (sTab 4)) .none kVm4 dcm4 pmm4 anm4 cdm4 ctm4), slm4⟩) (cm4 : PySem.W.codeIn K cdm4 "Table.chain" = true) (km4 : PySem.W.keepIn K (.ref fm4) = true)
    (am5 : PySem.W.findIn K (.ref cT) "open_ends" = some (some (.ref fm5))) (im5 : PySem.W.isFn K (.ref fm5) = true) (lm5 : K.lookup fm5 = some ⟨ocm5, odm5, .func (PySem.W.fnOf "open_ends" "Table.open_ends" (defArgs (sTab 5)) (defBody (sTab 5)) (defScope (sTab 5)) .none kVm5 dcm5 pmm5 anm5 cdm5 ctm5), slm5⟩) (cm5 : PySem.W.codeIn K cdm5 "Table.open_ends" = true) (km5 : PySem.W.keepIn K (.ref fm5) = true)
    (am6 : PySem.W.findIn K (.ref cT) "fits" = some (some (.ref fm6))) (im6 : PySem.W.isFn K (.ref fm6) = true) (lm6 : K.lookup fm6 = some ⟨ocm6, odm6, .func (PySem.W.fnOf "fits" "Table.fits" (defArgs (sTab 6)) (defBody (sTab 6)) (defScope (sTab 6)) .none kVm6 dcm6 pmm6 anm6 cdm6 ctm6), slm6⟩) (cm6 : PySem.W.codeIn K cdm6 "Table.fits" = true) (km6 : PySem.W.keepIn K (.ref fm6) = true)
    (am7 : PySem.W.findIn K (.ref cT) "chains" = some (some (.ref fm7))) (im7 : PySem.W.isFn K (.ref fm7) = true) (lm7 : K.lookup fm7 = some ⟨ocm7, odm7, .func (PySem.W.fnOf "chains" "Table.chains" (defArgs (sTab 7)) (defBody (sTab 7)) (defScope (sTab 7)) .none kVm7 dcm7 pmm7 anm7 cdm7 ctm7), slm7⟩) (cm7 : PySem.W.codeIn K cdm7 "Table.chains" = true) (km7 : PySem.W.keepIn K (.ref fm7) = true)
    (am8 : PySem.W.findIn K (.ref cT) "stones" = some (some (.ref fm8))) (im8 : PySem.W.isFn K (.ref fm8) = true) (lm8 : K.lookup fm8 = some ⟨ocm8, odm8, .func (PySem.W.fnOf "stones" "Table.stones" (defArgs (sTab 8)) (defBody (sTab 8)) (defScope (sTab 8)) .none kVm8 dcm8 pmm8 anm8 cdm8 ctm8), slm8⟩) (cm8 : PySem.W.codeIn K cdm8 "Table.stones" = true) (km8 : PySem.W.keepIn K (.ref fm8) = true)
    (am9 : PySem.W.findIn K (.ref cT) "laying" = some (some (.ref fm9))) (im9 : PySem.W.isFn K (.ref fm9) = true) (lm9 : K.lookup fm9 = some ⟨ocm9, odm9, .func (PySem.W.fnOf "laying" "Table.laying" (defArgs (sTab 9)) (defBody (sTab 9)) (defScope (sTab 9)) .none kVm9 dcm9 pmm9 anm9 cdm9 ctm9), slm9⟩) (cm9 : PySem.W.codeIn K cdm9 "Table.laying" = true) (km9 : PySem.W.keepIn K (.ref fm9) = true)
    (am10 : PySem.W.findIn K (.ref cT) "_is_full" = some (some (.ref fm10))) (im10 : PySem.W.isFn K (.ref fm10) = true) (lm10 : K.lookup fm10 = some ⟨ocm10, odm10, .func (PySem.W.fnOf "_is_full" "Table._is_full" (defArgs (sTab 10)) (defBody (sTab 10)) (defScope (sTab 10)) .none kVm10 dcm10 pmm10 anm10 cdm10 ctm10), slm10⟩) (cm10 : PySem.W.codeIn K cdm10 "Table._is_full" = true) (km10 : PySem.W.keepIn K (.ref fm10) = true)
    (am11 : PySem.W.findIn K (.ref cT) "_need_room" = some (some (.ref fm11))) (im11 : PySem.W.isFn K (.ref fm11) = true) (lm11 : K.lookup fm11 = some ⟨ocm11, odm11, .func (PySem.W.fnOf "_need_room" "Table._need_room" (defArgs (sTab 11)) (defBody (sTab 11)) (defScope (sTab 11)) .none kVm11 dcm11 pmm11 anm11 cdm11 ctm11), slm11⟩) (cm11 : PySem.W.codeIn K cdm11 "Table._need_room" = true) (km11 : PySem.W.keepIn K (.ref fm11) = true)
    (am12 : PySem.W.findIn K (.ref cT) "_need_chain" = some (some (.ref fm12))) (im12 : PySem.W.isFn K (.ref fm12) = true) (lm12 : K.lookup fm12 = some ⟨ocm12, odm12, .func (PySem.W.fnOf "_need_chain" "Table._need_chain" (defArgs (sTab 12)) (defBody (sTab 12)) (defScope (sTab 12)) .none kVm12 dcm12 pmm12 anm12 cdm12 ctm12), slm12⟩) (cm12 : PySem.W.codeIn K cdm12 "Table._need_chain" = true) (km12 : PySem.W.keepIn K (.ref fm12) = true)
    (am13 : PySem.W.findIn K (.ref cT) "_place" = some (some (.ref fm13))) (im13 : PySem.W.isFn K (.ref fm13) = true) (lm13 : K.lookup fm13 = some ⟨ocm13, odm13, .func (PySem.W.fnOf "_place" "Table._place" (defArgs (sTab 13)) (defBody (sTab 13)) (defScope (sTab 13)) .none kVm13 dcm13 pmm13 anm13 cdm13 ctm13), slm13⟩) (cm13 : PySem.W.codeIn K cdm13 "Table._place" = true) (km13 : PySem.W.keepIn K (.ref fm13) = true)
    (pg : PySem.W.plainGet K cT Str.empty = true) (hd : PySem.W.hasDictIn K cT = true) (po : PySem.W.plainOver K cT = true) (sa : PySem.W.findIn K (.ref cT) "__setattr__" = some (some (.builtin "object.__setattr__"))) (mk : PySem.W.makesIn K cT = true) (kc : PySem.W.keepIn K (.ref cT) = true)
    (nSt : PySem.W.findIn K (.ref cT) "_stones" = some none) (nCh : PySem.W.findIn K (.ref cT) "_chains" = some none) (nDe : PySem.W.findIn K (.ref cT) "_deeds" = some none)
    (aS : PySem.W.nsIn K mainGlobals "SIDES" = some (some (.ref pS))) (lS : K.lookup pS = some ⟨.type "tuple", odS, .seq #[.str leftS tS1, .str rightS tS2] nS, slS⟩)
    (z0 : PySem.W.nsIn K mainGlobals "isinstance" = some none)
    (z1 : PySem.W.nsIn K mainGlobals "bool" = some none)
    (z2 : PySem.W.nsIn K mainGlobals "int" = some none)
    (z3 : PySem.W.nsIn K mainGlobals "tuple" = some none)
    (z4 : PySem.W.nsIn K mainGlobals "list" = some none)
    (z5 : PySem.W.nsIn K mainGlobals "len" = some none)
    (z6 : PySem.W.nsIn K mainGlobals "all" = some none)
    (z7 : PySem.W.nsIn K mainGlobals "range" = some none)
    (z8 : PySem.W.nsIn K mainGlobals "max" = some none)
    (z9 : PySem.W.nsIn K mainGlobals "str" = some none)
    (z10 : PySem.W.nsIn K mainGlobals "ValueError" = some none)
    (q0 : PySem.W.nsIn K mainGlobals "HIGHEST_END" = some (some (.int 999999 tk0)))
    (q1 : PySem.W.nsIn K mainGlobals "MOST_STONES" = some (some (.int 60 tk1)))
    (u_StoneError : PySem.W.nsIn K mainGlobals "StoneError" = some (some (.ref c_StoneError)))
    (ux_StoneError : PySem.W.excIn K c_StoneError [.type "ValueError", .type "Exception", .type "BaseException", .type "object"] "ValueError.__new__" = true) (uk_StoneError : PySem.W.keepIn K (.ref c_StoneError) = true) (ut_StoneError : PySem.W.typeIn K (.ref c_StoneError) = some (.type "type")) (ui_StoneError : PySem.W.isClsIn K c_StoneError = true)
    (ug_StoneError : PySem.W.findIn K (.ref c_StoneError) "__getattribute__" = some (some (.builtin "BaseException.__getattribute__"))) (un_StoneError : PySem.W.findIn K (.ref c_StoneError) "__getattr__" = some none) (us_StoneError : PySem.W.subIn K (.ref c_StoneError) (.type "BaseException") = some true) (ud_StoneError : PySem.W.hasDictIn K c_StoneError = true) (uc_StoneError : PySem.W.findIn K (.ref c_StoneError) "__class__" = some (some (.builtin "object.__class__"))) (um_StoneError : PySem.W.mroIn K c_StoneError (.type "object") = some true)
    (u_NoStone : PySem.W.nsIn K mainGlobals "NoStone" = some (some (.ref c_NoStone)))
    (ux_NoStone : PySem.W.excIn K c_NoStone [.type "ValueError", .type "Exception", .type "BaseException", .type "object"] "ValueError.__new__" = true) (uk_NoStone : PySem.W.keepIn K (.ref c_NoStone) = true) (ut_NoStone : PySem.W.typeIn K (.ref c_NoStone) = some (.type "type")) (ui_NoStone : PySem.W.isClsIn K c_NoStone = true)
    (ug_NoStone : PySem.W.findIn K (.ref c_NoStone) "__getattribute__" = some (some (.builtin "BaseException.__getattribute__"))) (un_NoStone : PySem.W.findIn K (.ref c_NoStone) "__getattr__" = some none) (us_NoStone : PySem.W.subIn K (.ref c_NoStone) (.type "BaseException") = some true) (ud_NoStone : PySem.W.hasDictIn K c_NoStone = true) (uc_NoStone : PySem.W.findIn K (.ref c_NoStone) "__class__" = some (some (.builtin "object.__class__"))) (um_NoStone : PySem.W.mroIn K c_NoStone (.type "object") = some true)
    (u_Full : PySem.W.nsIn K mainGlobals "Full" = some (some (.ref c_Full)))
    (ux_Full : PySem.W.excIn K c_Full [.type "ValueError", .type "Exception", .type "BaseException", .type "object"] "ValueError.__new__" = true) (uk_Full : PySem.W.keepIn K (.ref c_Full) = true) (ut_Full : PySem.W.typeIn K (.ref c_Full) = some (.type "type")) (ui_Full : PySem.W.isClsIn K c_Full = true)
    (ug_Full : PySem.W.findIn K (.ref c_Full) "__getattribute__" = some (some (.builtin "BaseException.__getattribute__"))) (un_Full : PySem.W.findIn K (.ref c_Full) "__getattr__" = some none) (us_Full : PySem.W.subIn K (.ref c_Full) (.type "BaseException") = some true) (ud_Full : PySem.W.hasDictIn K c_Full = true) (uc_Full : PySem.W.findIn K (.ref c_Full) "__class__" = some (some (.builtin "object.__class__"))) (um_Full : PySem.W.mroIn K c_Full (.type "object") = some true)
    (u_NoChain : PySem.W.nsIn K mainGlobals "NoChain" = some (some (.ref c_NoChain)))
    (ux_NoChain : PySem.W.excIn K c_NoChain [.type "ValueError", .type "Exception", .type "BaseException", .type "object"] "ValueError.__new__" = true) (uk_NoChain : PySem.W.keepIn K (.ref c_NoChain) = true) (ut_NoChain : PySem.W.typeIn K (.ref c_NoChain) = some (.type "type")) (ui_NoChain : PySem.W.isClsIn K c_NoChain = true)
    (ug_NoChain : PySem.W.findIn K (.ref c_NoChain) "__getattribute__" = some (some (.builtin "BaseException.__getattribute__"))) (un_NoChain : PySem.W.findIn K (.ref c_NoChain) "__getattr__" = some none) (us_NoChain : PySem.W.subIn K (.ref c_NoChain) (.type "BaseException") = some true) (ud_NoChain : PySem.W.hasDictIn K c_NoChain = true) (uc_NoChain : PySem.W.findIn K (.ref c_NoChain) "__class__" = some (some (.builtin "object.__class__"))) (um_NoChain : PySem.W.mroIn K c_NoChain (.type "object") = some true)
    (u_NoSide : PySem.W.nsIn K mainGlobals "NoSide" = some (some (.ref c_NoSide)))
    (ux_NoSide : PySem.W.excIn K c_NoSide [.type "ValueError", .type "Exception", .type "BaseException", .type "object"] "ValueError.__new__" = true) (uk_NoSide : PySem.W.keepIn K (.ref c_NoSide) = true) (ut_NoSide : PySem.W.typeIn K (.ref c_NoSide) = some (.type "type")) (ui_NoSide : PySem.W.isClsIn K c_NoSide = true)
    (ug_NoSide : PySem.W.findIn K (.ref c_NoSide) "__getattribute__" = some (some (.builtin "BaseException.__getattribute__"))) (un_NoSide : PySem.W.findIn K (.ref c_NoSide) "__getattr__" = some none) (us_NoSide : PySem.W.subIn K (.ref c_NoSide) (.type "BaseException") = some true) (ud_NoSide : PySem.W.hasDictIn K c_NoSide = true) (uc_NoSide : PySem.W.findIn K (.ref c_NoSide) "__class__" = some (some (.builtin "object.__class__"))) (um_NoSide : PySem.W.mroIn K c_NoSide (.type "object") = some true)
    (u_NoFit : PySem.W.nsIn K mainGlobals "NoFit" = some (some (.ref c_NoFit)))
    (ux_NoFit : PySem.W.excIn K c_NoFit [.type "ValueError", .type "Exception", .type "BaseException", .type "object"] "ValueError.__new__" = true) (uk_NoFit : PySem.W.keepIn K (.ref c_NoFit) = true) (ut_NoFit : PySem.W.typeIn K (.ref c_NoFit) = some (.type "type")) (ui_NoFit : PySem.W.isClsIn K c_NoFit = true)
    (ug_NoFit : PySem.W.findIn K (.ref c_NoFit) "__getattribute__" = some (some (.builtin "BaseException.__getattribute__"))) (un_NoFit : PySem.W.findIn K (.ref c_NoFit) "__getattr__" = some none) (us_NoFit : PySem.W.subIn K (.ref c_NoFit) (.type "BaseException") = some true) (ud_NoFit : PySem.W.hasDictIn K c_NoFit = true) (uc_NoFit : PySem.W.findIn K (.ref c_NoFit) "__class__" = some (some (.builtin "object.__class__"))) (um_NoFit : PySem.W.mroIn K c_NoFit (.type "object") = some true)
    (u_NoDeed : PySem.W.nsIn K mainGlobals "NoDeed" = some (some (.ref c_NoDeed)))
    (ux_NoDeed : PySem.W.excIn K c_NoDeed [.type "ValueError", .type "Exception", .type "BaseException", .type "object"] "ValueError.__new__" = true) (uk_NoDeed : PySem.W.keepIn K (.ref c_NoDeed) = true) (ut_NoDeed : PySem.W.typeIn K (.ref c_NoDeed) = some (.type "type")) (ui_NoDeed : PySem.W.isClsIn K c_NoDeed = true)
    (ug_NoDeed : PySem.W.findIn K (.ref c_NoDeed) "__getattribute__" = some (some (.builtin "BaseException.__getattribute__"))) (un_NoDeed : PySem.W.findIn K (.ref c_NoDeed) "__getattr__" = some none) (us_NoDeed : PySem.W.subIn K (.ref c_NoDeed) (.type "BaseException") = some true) (ud_NoDeed : PySem.W.hasDictIn K c_NoDeed = true) (uc_NoDeed : PySem.W.findIn K (.ref c_NoDeed) "__class__" = some (some (.builtin "object.__class__"))) (um_NoDeed : PySem.W.mroIn K c_NoDeed (.type "object") = some true)
    (u_NoStones : PySem.W.nsIn K mainGlobals "NoStones" = some (some (.ref c_NoStones)))
    (ux_NoStones : PySem.W.excIn K c_NoStones [.type "ValueError", .type "Exception", .type "BaseException", .type "object"] "ValueError.__new__" = true) (uk_NoStones : PySem.W.keepIn K (.ref c_NoStones) = true) (ut_NoStones : PySem.W.typeIn K (.ref c_NoStones) = some (.type "type")) (ui_NoStones : PySem.W.isClsIn K c_NoStones = true)
    (ug_NoStones : PySem.W.findIn K (.ref c_NoStones) "__getattribute__" = some (some (.builtin "BaseException.__getattribute__"))) (un_NoStones : PySem.W.findIn K (.ref c_NoStones) "__getattr__" = some none) (us_NoStones : PySem.W.subIn K (.ref c_NoStones) (.type "BaseException") = some true) (ud_NoStones : PySem.W.hasDictIn K c_NoStones = true) (uc_NoStones : PySem.W.findIn K (.ref c_NoStones) "__class__" = some (some (.builtin "object.__class__"))) (um_NoStones : PySem.W.mroIn K c_NoStones (.type "object") = some true)
    (u_NoText : PySem.W.nsIn K mainGlobals "NoText" = some (some (.ref c_NoText)))
    (ux_NoText : PySem.W.excIn K c_NoText [.type "ValueError", .type "Exception", .type "BaseException", .type "object"] "ValueError.__new__" = true) (uk_NoText : PySem.W.keepIn K (.ref c_NoText) = true) (ut_NoText : PySem.W.typeIn K (.ref c_NoText) = some (.type "type")) (ui_NoText : PySem.W.isClsIn K c_NoText = true)
    (ug_NoText : PySem.W.findIn K (.ref c_NoText) "__getattribute__" = some (some (.builtin "BaseException.__getattribute__"))) (un_NoText : PySem.W.findIn K (.ref c_NoText) "__getattr__" = some none) (us_NoText : PySem.W.subIn K (.ref c_NoText) (.type "BaseException") = some true) (ud_NoText : PySem.W.hasDictIn K c_NoText = true) (uc_NoText : PySem.W.findIn K (.ref c_NoText) "__class__" = some (some (.builtin "object.__class__"))) (um_NoText : PySem.W.mroIn K c_NoText (.type "object") = some true)
    (u_NoLaying : PySem.W.nsIn K mainGlobals "NoLaying" = some (some (.ref c_NoLaying)))
    (ux_NoLaying : PySem.W.excIn K c_NoLaying [.type "ValueError", .type "Exception", .type "BaseException", .type "object"] "ValueError.__new__" = true) (uk_NoLaying : PySem.W.keepIn K (.ref c_NoLaying) = true) (ut_NoLaying : PySem.W.typeIn K (.ref c_NoLaying) = some (.type "type")) (ui_NoLaying : PySem.W.isClsIn K c_NoLaying = true)
    (ug_NoLaying : PySem.W.findIn K (.ref c_NoLaying) "__getattribute__" = some (some (.builtin "BaseException.__getattribute__"))) (un_NoLaying : PySem.W.findIn K (.ref c_NoLaying) "__getattr__" = some none) (us_NoLaying : PySem.W.subIn K (.ref c_NoLaying) (.type "BaseException") = some true) (ud_NoLaying : PySem.W.hasDictIn K c_NoLaying = true) (uc_NoLaying : PySem.W.findIn K (.ref c_NoLaying) "__class__" = some (some (.builtin "object.__class__"))) (um_NoLaying : PySem.W.mroIn K c_NoLaying (.type "object") = some true)
    (w_n : PySem.W.specialIn K (.builtin "object.__class__") "__get__" = some (some (.builtin "getset_descriptor.__get__"))) (w_t : PySem.W.takesIn K (.builtin "object.__class__") = some true)
    (s_NoStone_NoStone : PySem.W.subIn K (.ref c_NoStone) (.ref c_NoStone) = some true)
    (s_NoStone_Full : PySem.W.subIn K (.ref c_NoStone) (.ref c_Full) = some false)
    (s_NoStone_NoChain : PySem.W.subIn K (.ref c_NoStone) (.ref c_NoChain) = some false)
    (s_NoStone_NoSide : PySem.W.subIn K (.ref c_NoStone) (.ref c_NoSide) = some false)
    (s_NoStone_NoFit : PySem.W.subIn K (.ref c_NoStone) (.ref c_NoFit) = some false)
    (s_NoStone_NoDeed : PySem.W.subIn K (.ref c_NoStone) (.ref c_NoDeed) = some false)
    (s_NoStone_NoStones : PySem.W.subIn K (.ref c_NoStone) (.ref c_NoStones) = some false)
    (s_NoStone_NoText : PySem.W.subIn K (.ref c_NoStone) (.ref c_NoText) = some false)
    (s_NoStone_NoLaying : PySem.W.subIn K (.ref c_NoStone) (.ref c_NoLaying) = some false)
    (s_Full_NoStone : PySem.W.subIn K (.ref c_Full) (.ref c_NoStone) = some false)
    (s_Full_Full : PySem.W.subIn K (.ref c_Full) (.ref c_Full) = some true)
    (s_Full_NoChain : PySem.W.subIn K (.ref c_Full) (.ref c_NoChain) = some false)
    (s_Full_NoSide : PySem.W.subIn K (.ref c_Full) (.ref c_NoSide) = some false)
    (s_Full_NoFit : PySem.W.subIn K (.ref c_Full) (.ref c_NoFit) = some false)
    (s_Full_NoDeed : PySem.W.subIn K (.ref c_Full) (.ref c_NoDeed) = some false)
    (s_Full_NoStones : PySem.W.subIn K (.ref c_Full) (.ref c_NoStones) = some false)
    (s_Full_NoText : PySem.W.subIn K (.ref c_Full) (.ref c_NoText) = some false)
    (s_Full_NoLaying : PySem.W.subIn K (.ref c_Full) (.ref c_NoLaying) = some false)
    (s_NoChain_NoStone : PySem.W.subIn K (.ref c_NoChain) (.ref c_NoStone) = some false)
    (s_NoChain_Full : PySem.W.subIn K (.ref c_NoChain) (.ref c_Full) = some false)
    (s_NoChain_NoChain : PySem.W.subIn K (.ref c_NoChain) (.ref c_NoChain) = some true)
    (s_NoChain_NoSide : PySem.W.subIn K (.ref c_NoChain) (.ref c_NoSide) = some false)
    (s_NoChain_NoFit : PySem.W.subIn K (.ref c_NoChain) (.ref c_NoFit) = some false)
    (s_NoChain_NoDeed : PySem.W.subIn K (.ref c_NoChain) (.ref c_NoDeed) = some false)
    (s_NoChain_NoStones : PySem.W.subIn K (.ref c_NoChain) (.ref c_NoStones) = some false)
    (s_NoChain_NoText : PySem.W.subIn K (.ref c_NoChain) (.ref c_NoText) = some false)
    (s_NoChain_NoLaying : PySem.W.subIn K (.ref c_NoChain) (.ref c_NoLaying) = some false)
    (s_NoSide_NoStone : PySem.W.subIn K (.ref c_NoSide) (.ref c_NoStone) = some false)
    (s_NoSide_Full : PySem.W.subIn K (.ref c_NoSide) (.ref c_Full) = some false)
    (s_NoSide_NoChain : PySem.W.subIn K (.ref c_NoSide) (.ref c_NoChain) = some false)
    (s_NoSide_NoSide : PySem.W.subIn K (.ref c_NoSide) (.ref c_NoSide) = some true)
    (s_NoSide_NoFit : PySem.W.subIn K (.ref c_NoSide) (.ref c_NoFit) = some false)
    (s_NoSide_NoDeed : PySem.W.subIn K (.ref c_NoSide) (.ref c_NoDeed) = some false)
    (s_NoSide_NoStones : PySem.W.subIn K (.ref c_NoSide) (.ref c_NoStones) = some false)
    (s_NoSide_NoText : PySem.W.subIn K (.ref c_NoSide) (.ref c_NoText) = some false)
    (s_NoSide_NoLaying : PySem.W.subIn K (.ref c_NoSide) (.ref c_NoLaying) = some false)
    (s_NoFit_NoStone : PySem.W.subIn K (.ref c_NoFit) (.ref c_NoStone) = some false)
    (s_NoFit_Full : PySem.W.subIn K (.ref c_NoFit) (.ref c_Full) = some false)
    (s_NoFit_NoChain : PySem.W.subIn K (.ref c_NoFit) (.ref c_NoChain) = some false)
    (s_NoFit_NoSide : PySem.W.subIn K (.ref c_NoFit) (.ref c_NoSide) = some false)
    (s_NoFit_NoFit : PySem.W.subIn K (.ref c_NoFit) (.ref c_NoFit) = some true)
    (s_NoFit_NoDeed : PySem.W.subIn K (.ref c_NoFit) (.ref c_NoDeed) = some false)
    (s_NoFit_NoStones : PySem.W.subIn K (.ref c_NoFit) (.ref c_NoStones) = some false)
    (s_NoFit_NoText : PySem.W.subIn K (.ref c_NoFit) (.ref c_NoText) = some false)
    (s_NoFit_NoLaying : PySem.W.subIn K (.ref c_NoFit) (.ref c_NoLaying) = some false)
    (s_NoDeed_NoStone : PySem.W.subIn K (.ref c_NoDeed) (.ref c_NoStone) = some false)
    (s_NoDeed_Full : PySem.W.subIn K (.ref c_NoDeed) (.ref c_Full) = some false)
    (s_NoDeed_NoChain : PySem.W.subIn K (.ref c_NoDeed) (.ref c_NoChain) = some false)
    (s_NoDeed_NoSide : PySem.W.subIn K (.ref c_NoDeed) (.ref c_NoSide) = some false)
    (s_NoDeed_NoFit : PySem.W.subIn K (.ref c_NoDeed) (.ref c_NoFit) = some false)
    (s_NoDeed_NoDeed : PySem.W.subIn K (.ref c_NoDeed) (.ref c_NoDeed) = some true)
    (s_NoDeed_NoStones : PySem.W.subIn K (.ref c_NoDeed) (.ref c_NoStones) = some false)
    (s_NoDeed_NoText : PySem.W.subIn K (.ref c_NoDeed) (.ref c_NoText) = some false)
    (s_NoDeed_NoLaying : PySem.W.subIn K (.ref c_NoDeed) (.ref c_NoLaying) = some false)
    (s_NoStones_NoStone : PySem.W.subIn K (.ref c_NoStones) (.ref c_NoStone) = some false)
    (s_NoStones_Full : PySem.W.subIn K (.ref c_NoStones) (.ref c_Full) = some false)
    (s_NoStones_NoChain : PySem.W.subIn K (.ref c_NoStones) (.ref c_NoChain) = some false)
    (s_NoStones_NoSide : PySem.W.subIn K (.ref c_NoStones) (.ref c_NoSide) = some false)
    (s_NoStones_NoFit : PySem.W.subIn K (.ref c_NoStones) (.ref c_NoFit) = some false)
    (s_NoStones_NoDeed : PySem.W.subIn K (.ref c_NoStones) (.ref c_NoDeed) = some false)
    (s_NoStones_NoStones : PySem.W.subIn K (.ref c_NoStones) (.ref c_NoStones) = some true)
    (s_NoStones_NoText : PySem.W.subIn K (.ref c_NoStones) (.ref c_NoText) = some false)
    (s_NoStones_NoLaying : PySem.W.subIn K (.ref c_NoStones) (.ref c_NoLaying) = some false)
    (s_NoText_NoStone : PySem.W.subIn K (.ref c_NoText) (.ref c_NoStone) = some false)
    (s_NoText_Full : PySem.W.subIn K (.ref c_NoText) (.ref c_Full) = some false)
    (s_NoText_NoChain : PySem.W.subIn K (.ref c_NoText) (.ref c_NoChain) = some false)
    (s_NoText_NoSide : PySem.W.subIn K (.ref c_NoText) (.ref c_NoSide) = some false)
    (s_NoText_NoFit : PySem.W.subIn K (.ref c_NoText) (.ref c_NoFit) = some false)
    (s_NoText_NoDeed : PySem.W.subIn K (.ref c_NoText) (.ref c_NoDeed) = some false)
    (s_NoText_NoStones : PySem.W.subIn K (.ref c_NoText) (.ref c_NoStones) = some false)
    (s_NoText_NoText : PySem.W.subIn K (.ref c_NoText) (.ref c_NoText) = some true)
    (s_NoText_NoLaying : PySem.W.subIn K (.ref c_NoText) (.ref c_NoLaying) = some false)
    (s_NoLaying_NoStone : PySem.W.subIn K (.ref c_NoLaying) (.ref c_NoStone) = some false)
    (s_NoLaying_Full : PySem.W.subIn K (.ref c_NoLaying) (.ref c_Full) = some false)
    (s_NoLaying_NoChain : PySem.W.subIn K (.ref c_NoLaying) (.ref c_NoChain) = some false)
    (s_NoLaying_NoSide : PySem.W.subIn K (.ref c_NoLaying) (.ref c_NoSide) = some false)
    (s_NoLaying_NoFit : PySem.W.subIn K (.ref c_NoLaying) (.ref c_NoFit) = some false)
    (s_NoLaying_NoDeed : PySem.W.subIn K (.ref c_NoLaying) (.ref c_NoDeed) = some false)
    (s_NoLaying_NoStones : PySem.W.subIn K (.ref c_NoLaying) (.ref c_NoStones) = some false)
    (s_NoLaying_NoText : PySem.W.subIn K (.ref c_NoLaying) (.ref c_NoText) = some false)
    (s_NoLaying_NoLaying : PySem.W.subIn K (.ref c_NoLaying) (.ref c_NoLaying) = some true)
    (s_NoStone_StoneError : PySem.W.subIn K (.ref c_NoStone) (.ref c_StoneError) = some true)
    (s_Full_StoneError : PySem.W.subIn K (.ref c_Full) (.ref c_StoneError) = some true)
    (s_NoChain_StoneError : PySem.W.subIn K (.ref c_NoChain) (.ref c_StoneError) = some true)
    (s_NoSide_StoneError : PySem.W.subIn K (.ref c_NoSide) (.ref c_StoneError) = some true)
    (s_NoFit_StoneError : PySem.W.subIn K (.ref c_NoFit) (.ref c_StoneError) = some true)
    (s_NoDeed_StoneError : PySem.W.subIn K (.ref c_NoDeed) (.ref c_StoneError) = some true)
    (v_NoStone : PySem.W.subIn K (.ref c_NoStone) (.type "ValueError") = some true)
    (v_Full : PySem.W.subIn K (.ref c_Full) (.type "ValueError") = some true)
    (v_NoChain : PySem.W.subIn K (.ref c_NoChain) (.type "ValueError") = some true)
    (v_NoSide : PySem.W.subIn K (.ref c_NoSide) (.type "ValueError") = some true)
    (v_NoFit : PySem.W.subIn K (.ref c_NoFit) (.type "ValueError") = some true)
    (v_NoDeed : PySem.W.subIn K (.ref c_NoDeed) (.type "ValueError") = some true)
    (v_NoStones : PySem.W.subIn K (.ref c_NoStones) (.type "ValueError") = some true)
    (v_NoText : PySem.W.subIn K (.ref c_NoText) (.type "ValueError") = some true)
    (v_NoLaying : PySem.W.subIn K (.ref c_NoLaying) (.type "ValueError") = some true)
    : ∃ fd : FuncData, (∀ (s : Shared) (v : Value), BindsTo s fd ⟨[v], []⟩ [("_law_script", v)]) ∧ ∀ base : Heap, K.In base → base.Ns mainGlobals mg → FnOk l.prog w K mg base CX0 9 fa fd ["_law_script"] (spLaw K) := by
  have e := hfa.symm.trans (PySem.W.mg_of X G a18)
  cases e
  have F1 := fun_mk (st := sNum) l1 c1 k1
  have g1 := PySem.W.mg_of X G a1
  have b1 := F1.binds (ps := ["thing", "highest"]) fun _ _ _ _ _ _ us hl => match us, hl with | [_, _], _ => rfl
  have F2 := fun_mk (st := sStone) l2 c2 k2
  have g2 := PySem.W.mg_of X G a2
  have b2 := F2.binds (ps := ["thing"]) fun _ _ _ _ _ _ us hl => match us, hl with | [_], _ => rfl
  have F3 := fun_mk (st := sNeed1) l3 c3 k3
  have g3 := PySem.W.mg_of X G a3
  have b3 := F3.binds (ps := ["thing"]) fun _ _ _ _ _ _ us hl => match us, hl with | [_], _ => rfl
  have F4 := fun_mk (st := sLying) l4 c4 k4
  have g4 := PySem.W.mg_of X G a4
  have b4 := F4.binds (ps := ["stone", "turned"]) fun _ _ _ _ _ _ us hl => match us, hl with | [_, _], _ => rfl
  have F5 := fun_mk (st := sLies) l5 c5 k5
  have g5 := PySem.W.mg_of X G a5
  have b5 := F5.binds (ps := ["stones", "step"]) fun _ _ _ _ _ _ us hl => match us, hl with | [_, _], _ => rfl
  have F6 := fun_mk (st := sRow) l6 c6 k6
  have g6 := PySem.W.mg_of X G a6
  have b6 := F6.binds (ps := ["stones", "chain"]) fun _ _ _ _ _ _ us hl => match us, hl with | [_, _], _ => rfl
  have F7 := fun_mk (st := s_fitting) l7 c7 k7
  have g7 := PySem.W.mg_of X G a7
  have b7 := F7.binds (ps := ["ends", "side", "stone"]) fun _ _ _ _ _ _ us hl => match us, hl with | [_, _, _], _ => rfl
  have F8 := fun_mk (st := sCell) l8 c8 k8
  have g8 := PySem.W.mg_of X G a8
  have b8 := F8.binds (ps := ["_law_script", "_law_k"]) fun _ _ _ _ _ _ us hl => match us, hl with | [_, _], _ => rfl
  have F9 := fun_mk (st := sAlike) l9 c9 k9
  have g9 := PySem.W.mg_of X G a9
  have b9 := F9.binds (ps := ["_law_found", "_law_due"]) fun _ _ _ _ _ _ us hl => match us, hl with | [_, _], _ => rfl
  have F10 := fun_mk (st := s_law_bad) l10 c10 k10
  have g10 := PySem.W.mg_of X G a10
  have b10 := F10.binds (ps := ["_law_k", "_law_cell_here"]) fun _ _ _ _ _ _ us hl => match us, hl with | [_, _], _ => rfl
  have F11 := fun_mk (st := s_law_word) l11 c11 k11
  have g11 := PySem.W.mg_of X G a11
  have b11 := F11.binds (ps := ["_law_e"]) fun _ _ _ _ _ _ us hl => match us, hl with | [_], _ => rfl
  have F12 := fun_mk (st := s_law_asked) l12 c12 k12
  have g12 := PySem.W.mg_of X G a12
  have b12 := F12.binds (ps := ["_law_table_here", "_law_word_here", "_law_number", "_law_side", "_law_stone"]) fun _ _ _ _ _ _ us hl => match us, hl with | [_, _, _, _, _], _ => rfl
  have F13 := fun_mk (st := s_law_told) l13 c13 k13
  have g13 := PySem.W.mg_of X G a13
  have b13 := F13.binds (ps := ["_law_table_here", "_law_word_here", "_law_number", "_law_side", "_law_stone"]) fun _ _ _ _ _ _ us hl => match us, hl with | [_, _, _, _, _], _ => rfl
  have F14 := fun_mk (st := s_law_fits_there) l14 c14 k14
  have g14 := PySem.W.mg_of X G a14
  have b14 := F14.binds (ps := ["_law_table_here", "_law_number", "_law_side", "_law_stone"]) fun _ _ _ _ _ _ us hl => match us, hl with | [_, _, _, _], _ => rfl
  have F15 := fun_mk (st := s_law_wanted) l15 c15 k15
  have g15 := PySem.W.mg_of X G a15
  have b15 := F15.binds (ps := ["_law_table_here", "_law_word_here", "_law_bad_here", "_law_number", "_law_side", "_law_stone"]) fun _ _ _ _ _ _ us hl => match us, hl with | [_, _, _, _, _, _], _ => rfl
  have F16 := fun_mk (st := s_law_table) l16 c16 k16
  have g16 := PySem.W.mg_of X G a16
  have b16 := F16.binds (ps := ["_law_script"]) fun _ _ _ _ _ _ us hl => match us, hl with | [_], _ => rfl
  have F17 := fun_mk (st := s_law_state) l17 c17 k17
  have g17 := PySem.W.mg_of X G a17
  have b17 := F17.binds (ps := ["_law_table_here"]) fun _ _ _ _ _ _ us hl => match us, hl with | [_], _ => rfl
  have F18 := fun_mk (st := sLaw) l18 c18 k18
  have g18 := PySem.W.mg_of X G a18
  have Fm0 := fun_mk (st := sTab 0) lm0 cm0 km0
  have bm0 := Fm0.binds (ps := ["self"]) fun _ _ _ _ _ _ us hl => match us, hl with | [_], _ => rfl
  have Mm0 : Meth K cT "__init__" fm0 := ⟨am0, im0, km0⟩
  have Fm1 := fun_mk (st := sTab 1) lm1 cm1 km1
  have bm1 := Fm1.binds (ps := ["self", "stone"]) fun _ _ _ _ _ _ us hl => match us, hl with | [_, _], _ => rfl
  have Mm1 : Meth K cT "begin" fm1 := ⟨am1, im1, km1⟩
  have Fm2 := fun_mk (st := sTab 2) lm2 cm2 km2
  have bm2 := Fm2.binds (ps := ["self", "number", "side", "stone"]) fun _ _ _ _ _ _ us hl => match us, hl with | [_, _, _, _], _ => rfl
  have Mm2 : Meth K cT "put" fm2 := ⟨am2, im2, km2⟩
  have Fm3 := fun_mk (st := sTab 3) lm3 cm3 km3
  have bm3 := Fm3.binds (ps := ["self"]) fun _ _ _ _ _ _ us hl => match us, hl with | [_], _ => rfl
  have Mm3 : Meth K cT "back" fm3 := ⟨am3, im3, km3⟩
  have Fm4 := fun_mk (st := sTab 4) lm4 cm4 km4
  have bm4 := Fm4.binds (ps := ["self", "number"]) fun _ _ _ _ _ _ us hl => match us, hl with | [_, _], _ => rfl
  have Mm4 : Meth K cT "chain" fm4 := ⟨am4, im4, km4⟩
  have Fm5 := fun_mk (st := sTab 5) lm5 cm5 km5
  have bm5 := Fm5.binds (ps := ["self", "number"]) fun _ _ _ _ _ _ us hl => match us, hl with | [_, _], _ => rfl
  have Mm5 : Meth K cT "open_ends" fm5 := ⟨am5, im5, km5⟩
  have Fm6 := fun_mk (st := sTab 6) lm6 cm6 km6
  have bm6 := Fm6.binds (ps := ["self", "stone"]) fun _ _ _ _ _ _ us hl => match us, hl with | [_, _], _ => rfl
  have Mm6 : Meth K cT "fits" fm6 := ⟨am6, im6, km6⟩
  have Fm7 := fun_mk (st := sTab 7) lm7 cm7 km7
  have bm7 := Fm7.binds (ps := ["self"]) fun _ _ _ _ _ _ us hl => match us, hl with | [_], _ => rfl
  have Mm7 : Meth K cT "chains" fm7 := ⟨am7, im7, km7⟩
  have Fm8 := fun_mk (st := sTab 8) lm8 cm8 km8
  have bm8 := Fm8.binds (ps := ["self"]) fun _ _ _ _ _ _ us hl => match us, hl with | [_], _ => rfl
  have Mm8 : Meth K cT "stones" fm8 := ⟨am8, im8, km8⟩
  have Fm9 := fun_mk (st := sTab 9) lm9 cm9 km9
  have bm9 := Fm9.binds (ps := ["self"]) fun _ _ _ _ _ _ us hl => match us, hl with | [_], _ => rfl
  have Mm9 : Meth K cT "laying" fm9 := ⟨am9, im9, km9⟩
  have Fm10 := fun_mk (st := sTab 10) lm10 cm10 km10
  have bm10 := Fm10.binds (ps := ["self"]) fun _ _ _ _ _ _ us hl => match us, hl with | [_], _ => rfl
  have Mm10 : Meth K cT "_is_full" fm10 := ⟨am10, im10, km10⟩
  have Fm11 := fun_mk (st := sTab 11) lm11 cm11 km11
  have bm11 := Fm11.binds (ps := ["self"]) fun _ _ _ _ _ _ us hl => match us, hl with | [_], _ => rfl
  have Mm11 : Meth K cT "_need_room" fm11 := ⟨am11, im11, km11⟩
  have Fm12 := fun_mk (st := sTab 12) lm12 cm12 km12
  have bm12 := Fm12.binds (ps := ["self", "number"]) fun _ _ _ _ _ _ us hl => match us, hl with | [_, _], _ => rfl
  have Mm12 : Meth K cT "_need_chain" fm12 := ⟨am12, im12, km12⟩
  have Fm13 := fun_mk (st := sTab 13) lm13 cm13 km13
  have bm13 := Fm13.binds (ps := ["self", "number", "side", "stone", "turned"]) fun _ _ _ _ _ _ us hl => match us, hl with | [_, _, _, _, _], _ => rfl
  have Mm13 : Meth K cT "_place" fm13 := ⟨am13, im13, km13⟩
  have m_isinstance := PySem.W.mg_none_of X G z0
  have m_bool := PySem.W.mg_none_of X G z1
  have m_int := PySem.W.mg_none_of X G z2
  have m_tuple := PySem.W.mg_none_of X G z3
  have m_list := PySem.W.mg_none_of X G z4
  have m_len := PySem.W.mg_none_of X G z5
  have m_all := PySem.W.mg_none_of X G z6
  have m_range := PySem.W.mg_none_of X G z7
  have m_max := PySem.W.mg_none_of X G z8
  have m_str := PySem.W.mg_none_of X G z9
  have m_ValueError := PySem.W.mg_none_of X G z10
  have m_HIGHEST_END : ∃ t, mg "HIGHEST_END" = some (.int 999999 t) := ⟨_, PySem.W.mg_of X G q0⟩
  have m_MOST_STONES : ∃ t, mg "MOST_STONES" = some (.int 60 t) := ⟨_, PySem.W.mg_of X G q1⟩
  have m_StoneError := PySem.W.mg_of X G u_StoneError
  have E_StoneError : ErrC K c_StoneError := ⟨ux_StoneError, uk_StoneError, ut_StoneError, ui_StoneError, ⟨ug_StoneError, un_StoneError, us_StoneError, ud_StoneError, uc_StoneError, w_n, w_t, um_StoneError⟩⟩
  have m_NoStone := PySem.W.mg_of X G u_NoStone
  have E_NoStone : ErrC K c_NoStone := ⟨ux_NoStone, uk_NoStone, ut_NoStone, ui_NoStone, ⟨ug_NoStone, un_NoStone, us_NoStone, ud_NoStone, uc_NoStone, w_n, w_t, um_NoStone⟩⟩
  have m_Full := PySem.W.mg_of X G u_Full
  have E_Full : ErrC K c_Full := ⟨ux_Full, uk_Full, ut_Full, ui_Full, ⟨ug_Full, un_Full, us_Full, ud_Full, uc_Full, w_n, w_t, um_Full⟩⟩
  have m_NoChain := PySem.W.mg_of X G u_NoChain
  have E_NoChain : ErrC K c_NoChain := ⟨ux_NoChain, uk_NoChain, ut_NoChain, ui_NoChain, ⟨ug_NoChain, un_NoChain, us_NoChain, ud_NoChain, uc_NoChain, w_n, w_t, um_NoChain⟩⟩
  have m_NoSide := PySem.W.mg_of X G u_NoSide
  have E_NoSide : ErrC K c_NoSide := ⟨ux_NoSide, uk_NoSide, ut_NoSide, ui_NoSide, ⟨ug_NoSide, un_NoSide, us_NoSide, ud_NoSide, uc_NoSide, w_n, w_t, um_NoSide⟩⟩
  have m_NoFit := PySem.W.mg_of X G u_NoFit
  have E_NoFit : ErrC K c_NoFit := ⟨ux_NoFit, uk_NoFit, ut_NoFit, ui_NoFit, ⟨ug_NoFit, un_NoFit, us_NoFit, ud_NoFit, uc_NoFit, w_n, w_t, um_NoFit⟩⟩
  have m_NoDeed := PySem.W.mg_of X G u_NoDeed
  have E_NoDeed : ErrC K c_NoDeed := ⟨ux_NoDeed, uk_NoDeed, ut_NoDeed, ui_NoDeed, ⟨ug_NoDeed, un_NoDeed, us_NoDeed, ud_NoDeed, uc_NoDeed, w_n, w_t, um_NoDeed⟩⟩
  have m_NoStones := PySem.W.mg_of X G u_NoStones
  have E_NoStones : ErrC K c_NoStones := ⟨ux_NoStones, uk_NoStones, ut_NoStones, ui_NoStones, ⟨ug_NoStones, un_NoStones, us_NoStones, ud_NoStones, uc_NoStones, w_n, w_t, um_NoStones⟩⟩
  have m_NoText := PySem.W.mg_of X G u_NoText
  have E_NoText : ErrC K c_NoText := ⟨ux_NoText, uk_NoText, ut_NoText, ui_NoText, ⟨ug_NoText, un_NoText, us_NoText, ud_NoText, uc_NoText, w_n, w_t, um_NoText⟩⟩
  have m_NoLaying := PySem.W.mg_of X G u_NoLaying
  have E_NoLaying : ErrC K c_NoLaying := ⟨ux_NoLaying, uk_NoLaying, ut_NoLaying, ui_NoLaying, ⟨ug_NoLaying, un_NoLaying, us_NoLaying, ud_NoLaying, uc_NoLaying, w_n, w_t, um_NoLaying⟩⟩
  have XT : TxtT K mg cT := ⟨⟨pg, hd, po, sa⟩, nSt, nCh, nDe, PySem.W.mg_of X G aT⟩
  have m_SIDES := PySem.W.mg_of X G aS
  have hSi : SidesAt K pS := fun H => Or.inr ⟨_, _, _, lS, rfl, rfl, by show 2 ≤ sizeLine; decide, .cons ⟨_, rfl⟩ (.cons ⟨_, rfl⟩ .nil)⟩
  let R : Nat → Addr := fun r => [c_NoStone, c_Full, c_NoChain, c_NoSide, c_NoFit, c_NoDeed].getD r 0
  have TT : Tab K [c_NoStone, c_Full, c_NoChain, c_NoSide, c_NoFit, c_NoDeed, c_NoStones, c_NoText, c_NoLaying] := by
    refine ⟨fun C hC => ?_, fun i j C D hi hj => ?_⟩
    · simp only [List.mem_cons, List.not_mem_nil, or_false] at hC
      rcases hC with rfl | rfl | rfl | rfl | rfl | rfl | rfl | rfl | rfl
      · exact E_NoStone
      · exact E_Full
      · exact E_NoChain
      · exact E_NoSide
      · exact E_NoFit
      · exact E_NoDeed
      · exact E_NoStones
      · exact E_NoText
      · exact E_NoLaying
    · have li : i < 9 := (List.getElem?_eq_some_iff.mp hi).1
      have lj : j < 9 := (List.getElem?_eq_some_iff.mp hj).1
      have oi : i = 0 ∨ i = 1 ∨ i = 2 ∨ i = 3 ∨ i = 4 ∨ i = 5 ∨ i = 6 ∨ i = 7 ∨ i = 8 := by omega
      have oj : j = 0 ∨ j = 1 ∨ j = 2 ∨ j = 3 ∨ j = 4 ∨ j = 5 ∨ j = 6 ∨ j = 7 ∨ j = 8 := by omega
      rcases oi with rfl | rfl | rfl | rfl | rfl | rfl | rfl | rfl | rfl <;> rcases oj with rfl | rfl | rfl | rfl | rfl | rfl | rfl | rfl | rfl
      · obtain rfl := Option.some.inj hi
        obtain rfl := Option.some.inj hj
        exact s_NoStone_NoStone
      · obtain rfl := Option.some.inj hi
        obtain rfl := Option.some.inj hj
        exact s_NoStone_Full
      · obtain rfl := Option.some.inj hi
        obtain rfl := Option.some.inj hj
        exact s_NoStone_NoChain
      · obtain rfl := Option.some.inj hi
        obtain rfl := Option.some.inj hj
        exact s_NoStone_NoSide
      · obtain rfl := Option.some.inj hi
        obtain rfl := Option.some.inj hj
        exact s_NoStone_NoFit
      · obtain rfl := Option.some.inj hi
        obtain rfl := Option.some.inj hj
        exact s_NoStone_NoDeed
      · obtain rfl := Option.some.inj hi
        obtain rfl := Option.some.inj hj
        exact s_NoStone_NoStones
      · obtain rfl := Option.some.inj hi
        obtain rfl := Option.some.inj hj
        exact s_NoStone_NoText
      · obtain rfl := Option.some.inj hi
        obtain rfl := Option.some.inj hj
        exact s_NoStone_NoLaying
      · obtain rfl := Option.some.inj hi
        obtain rfl := Option.some.inj hj
        exact s_Full_NoStone
      · obtain rfl := Option.some.inj hi
        obtain rfl := Option.some.inj hj
        exact s_Full_Full
      · obtain rfl := Option.some.inj hi
        obtain rfl := Option.some.inj hj
        exact s_Full_NoChain
      · obtain rfl := Option.some.inj hi
        obtain rfl := Option.some.inj hj
        exact s_Full_NoSide
      · obtain rfl := Option.some.inj hi
        obtain rfl := Option.some.inj hj
        exact s_Full_NoFit
      · obtain rfl := Option.some.inj hi
        obtain rfl := Option.some.inj hj
        exact s_Full_NoDeed
      · obtain rfl := Option.some.inj hi
        obtain rfl := Option.some.inj hj
        exact s_Full_NoStones
      · obtain rfl := Option.some.inj hi
        obtain rfl := Option.some.inj hj
        exact s_Full_NoText
      · obtain rfl := Option.some.inj hi
        obtain rfl := Option.some.inj hj
        exact s_Full_NoLaying
      · obtain rfl := Option.some.inj hi
        obtain rfl := Option.some.inj hj
        exact s_NoChain_NoStone
      · obtain rfl := Option.some.inj hi
        obtain rfl := Option.some.inj hj
        exact s_NoChain_Full
      · obtain rfl := Option.some.inj hi
        obtain rfl := Option.some.inj hj
        exact s_NoChain_NoChain
      · obtain rfl := Option.some.inj hi
        obtain rfl := Option.some.inj hj
        exact s_NoChain_NoSide
      · obtain rfl := Option.some.inj hi
        obtain rfl := Option.some.inj hj
        exact s_NoChain_NoFit
      · obtain rfl := Option.some.inj hi
        obtain rfl := Option.some.inj hj
        exact s_NoChain_NoDeed
      · obtain rfl := Option.some.inj hi
        obtain rfl := Option.some.inj hj
        exact s_NoChain_NoStones
      · obtain rfl := Option.some.inj hi
        obtain rfl := Option.some.inj hj
        exact s_NoChain_NoText
      · obtain rfl := Option.some.inj hi
        obtain rfl := Option.some.inj hj
        exact s_NoChain_NoLaying
      · obtain rfl := Option.some.inj hi
        obtain rfl := Option.some.inj hj
        exact s_NoSide_NoStone
      · obtain rfl := Option.some.inj hi
        obtain rfl := Option.some.inj hj
        exact s_NoSide_Full
      · obtain rfl := Option.some.inj hi
        obtain rfl := Option.some.inj hj
        exact s_NoSide_NoChain
      · obtain rfl := Option.some.inj hi
        obtain rfl := Option.some.inj hj
        exact s_NoSide_NoSide
      · obtain rfl := Option.some.inj hi
        obtain rfl := Option.some.inj hj
        exact s_NoSide_NoFit
      · obtain rfl := Option.some.inj hi
        obtain rfl := Option.some.inj hj
        exact s_NoSide_NoDeed
      · obtain rfl := Option.some.inj hi
        obtain rfl := Option.some.inj hj
        exact s_NoSide_NoStones
      · obtain rfl := Option.some.inj hi
        obtain rfl := Option.some.inj hj
        exact s_NoSide_NoText
      · obtain rfl := Option.some.inj hi
        obtain rfl := Option.some.inj hj
        exact s_NoSide_NoLaying
      · obtain rfl := Option.some.inj hi
        obtain rfl := Option.some.inj hj
        exact s_NoFit_NoStone
      · obtain rfl := Option.some.inj hi
        obtain rfl := Option.some.inj hj
        exact s_NoFit_Full
      · obtain rfl := Option.some.inj hi
        obtain rfl := Option.some.inj hj
        exact s_NoFit_NoChain
      · obtain rfl := Option.some.inj hi
        obtain rfl := Option.some.inj hj
        exact s_NoFit_NoSide
      · obtain rfl := Option.some.inj hi
        obtain rfl := Option.some.inj hj
        exact s_NoFit_NoFit
      · obtain rfl := Option.some.inj hi
        obtain rfl := Option.some.inj hj
        exact s_NoFit_NoDeed
      · obtain rfl := Option.some.inj hi
        obtain rfl := Option.some.inj hj
        exact s_NoFit_NoStones
      · obtain rfl := Option.some.inj hi
        obtain rfl := Option.some.inj hj
        exact s_NoFit_NoText
      · obtain rfl := Option.some.inj hi
        obtain rfl := Option.some.inj hj
        exact s_NoFit_NoLaying
      · obtain rfl := Option.some.inj hi
        obtain rfl := Option.some.inj hj
        exact s_NoDeed_NoStone
      · obtain rfl := Option.some.inj hi
        obtain rfl := Option.some.inj hj
        exact s_NoDeed_Full
      · obtain rfl := Option.some.inj hi
        obtain rfl := Option.some.inj hj
        exact s_NoDeed_NoChain
      · obtain rfl := Option.some.inj hi
        obtain rfl := Option.some.inj hj
        exact s_NoDeed_NoSide
      · obtain rfl := Option.some.inj hi
        obtain rfl := Option.some.inj hj
        exact s_NoDeed_NoFit
      · obtain rfl := Option.some.inj hi
        obtain rfl := Option.some.inj hj
        exact s_NoDeed_NoDeed
      · obtain rfl := Option.some.inj hi
        obtain rfl := Option.some.inj hj
        exact s_NoDeed_NoStones
      · obtain rfl := Option.some.inj hi
        obtain rfl := Option.some.inj hj
        exact s_NoDeed_NoText
      · obtain rfl := Option.some.inj hi
        obtain rfl := Option.some.inj hj
        exact s_NoDeed_NoLaying
      · obtain rfl := Option.some.inj hi
        obtain rfl := Option.some.inj hj
        exact s_NoStones_NoStone
      · obtain rfl := Option.some.inj hi
        obtain rfl := Option.some.inj hj
        exact s_NoStones_Full
      · obtain rfl := Option.some.inj hi
        obtain rfl := Option.some.inj hj
        exact s_NoStones_NoChain
      · obtain rfl := Option.some.inj hi
        obtain rfl := Option.some.inj hj
        exact s_NoStones_NoSide
      · obtain rfl := Option.some.inj hi
        obtain rfl := Option.some.inj hj
        exact s_NoStones_NoFit
      · obtain rfl := Option.some.inj hi
        obtain rfl := Option.some.inj hj
        exact s_NoStones_NoDeed
      · obtain rfl := Option.some.inj hi
        obtain rfl := Option.some.inj hj
        exact s_NoStones_NoStones
      · obtain rfl := Option.some.inj hi
        obtain rfl := Option.some.inj hj
        exact s_NoStones_NoText
      · obtain rfl := Option.some.inj hi
        obtain rfl := Option.some.inj hj
        exact s_NoStones_NoLaying
      · obtain rfl := Option.some.inj hi
        obtain rfl := Option.some.inj hj
        exact s_NoText_NoStone
      · obtain rfl := Option.some.inj hi
        obtain rfl := Option.some.inj hj
        exact s_NoText_Full
      · obtain rfl := Option.some.inj hi
        obtain rfl := Option.some.inj hj
        exact s_NoText_NoChain
      · obtain rfl := Option.some.inj hi
        obtain rfl := Option.some.inj hj
        exact s_NoText_NoSide
      · obtain rfl := Option.some.inj hi
        obtain rfl := Option.some.inj hj
        exact s_NoText_NoFit
      · obtain rfl := Option.some.inj hi
        obtain rfl := Option.some.inj hj
        exact s_NoText_NoDeed
      · obtain rfl := Option.some.inj hi
        obtain rfl := Option.some.inj hj
        exact s_NoText_NoStones
      · obtain rfl := Option.some.inj hi
        obtain rfl := Option.some.inj hj
        exact s_NoText_NoText
      · obtain rfl := Option.some.inj hi
        obtain rfl := Option.some.inj hj
        exact s_NoText_NoLaying
      · obtain rfl := Option.some.inj hi
        obtain rfl := Option.some.inj hj
        exact s_NoLaying_NoStone
      · obtain rfl := Option.some.inj hi
        obtain rfl := Option.some.inj hj
        exact s_NoLaying_Full
      · obtain rfl := Option.some.inj hi
        obtain rfl := Option.some.inj hj
        exact s_NoLaying_NoChain
      · obtain rfl := Option.some.inj hi
        obtain rfl := Option.some.inj hj
        exact s_NoLaying_NoSide
      · obtain rfl := Option.some.inj hi
        obtain rfl := Option.some.inj hj
        exact s_NoLaying_NoFit
      · obtain rfl := Option.some.inj hi
        obtain rfl := Option.some.inj hj
        exact s_NoLaying_NoDeed
      · obtain rfl := Option.some.inj hi
        obtain rfl := Option.some.inj hj
        exact s_NoLaying_NoStones
      · obtain rfl := Option.some.inj hi
        obtain rfl := Option.some.inj hj
        exact s_NoLaying_NoText
      · obtain rfl := Option.some.inj hi
        obtain rfl := Option.some.inj hj
        exact s_NoLaying_NoLaying
  have SV : ∀ D ∈ [c_NoStone, c_Full, c_NoChain, c_NoSide, c_NoFit, c_NoDeed, c_NoStones, c_NoText, c_NoLaying], PySem.W.subIn K (.ref D) (.type "ValueError") = some true := by
    intro D hD
    simp only [List.mem_cons, List.not_mem_nil, or_false] at hD
    rcases hD with rfl | rfl | rfl | rfl | rfl | rfl | rfl | rfl | rfl
    · exact v_NoStone
    · exact v_Full
    · exact v_NoChain
    · exact v_NoSide
    · exact v_NoFit
    · exact v_NoDeed
    · exact v_NoStones
    · exact v_NoText
    · exact v_NoLaying
  have hR : ∀ r, r < 6 → [c_NoStone, c_Full, c_NoChain, c_NoSide, c_NoFit, c_NoDeed, c_NoStones, c_NoText, c_NoLaying][r]? = some (R r) := fun r hr => match r, hr with
    | 0, _ => rfl
    | 1, _ => rfl
    | 2, _ => rfl
    | 3, _ => rfl
    | 4, _ => rfl
    | 5, _ => rfl
  have sS : ∀ r, r < 6 → PySem.W.subIn K (.ref (R r)) (.ref c_StoneError) = some true := fun r hr => match r, hr with
    | 0, _ => s_NoStone_StoneError
    | 1, _ => s_Full_StoneError
    | 2, _ => s_NoChain_StoneError
    | 3, _ => s_NoSide_StoneError
    | 4, _ => s_NoFit_StoneError
    | 5, _ => s_NoDeed_StoneError
  refine ⟨PySem.W.fnOf "law" "law" (defArgs sLaw) (defBody sLaw) (defScope sLaw) .none kV18 dc18 pm18 an18 cd18 ct18, fun s v => .of_eq rfl, fun base _ _ => ?_⟩
  have H1 := ok_num (P := l.prog) (w := w) (mg := mg) (base := base) F1 m_isinstance m_bool m_int
  have H2 := ok_stone (P := l.prog) (w := w) (mg := mg) (base := base) F2 m_isinstance m_tuple m_len m_HIGHEST_END H1 g1 k1 b1
  have H3 := ok_need1 (P := l.prog) (w := w) (mg := mg) (base := base) F3 H2 g2 k2 b2 E_NoStone m_NoStone
  have H4 := ok_lying (P := l.prog) (w := w) (mg := mg) (base := base) F4
  have H5 := ok_lies (P := l.prog) (w := w) (mg := mg) (base := base) F5 H4 g4 k4 b4
  have H6 := ok_row (P := l.prog) (w := w) (mg := mg) (base := base) F6 H5 g5 k5 b5
  have H7 := ok_fitting (P := l.prog) (w := w) (mg := mg) (base := base) F7 H4 g4 k4 b4
  have Hm0 := ok_init9 (P := l.prog) (w := w) (mg := mg) (base := base) Fm0 XT
  have Hm10 := ok_fullM (P := l.prog) (w := w) (mg := mg) (base := base) Fm10 XT m_len m_MOST_STONES
  have Hm11 := ok_roomM (P := l.prog) (w := w) (mg := mg) (base := base) Fm11 XT Hm10 Mm10 bm10 E_Full m_Full
  have Hm12 := ok_needC (P := l.prog) (w := w) (mg := mg) (base := base) Fm12 XT m_len H1 g1 k1 b1 E_NoChain m_NoChain
  have Hm4 := ok_chainM (P := l.prog) (w := w) (mg := mg) (base := base) Fm4 XT Hm12 Mm12 bm12 H6 g6 k6 b6
  have Hm5 := ok_endsM (P := l.prog) (w := w) (mg := mg) (base := base) Fm5 XT Hm4 Mm4 bm4
  have Hm7 := ok_chainsM (P := l.prog) (w := w) (mg := mg) (base := base) Fm7 XT m_len
  have Hm8 := ok_stonesM (P := l.prog) (w := w) (mg := mg) (base := base) Fm8 XT m_list
  have Hm9 := ok_layingM (P := l.prog) (w := w) (mg := mg) (base := base) Fm9 XT m_list
  have Hm13 := ok_place9 (P := l.prog) (w := w) (mg := mg) (base := base) Fm13 XT m_len
  have Hm1 := ok_begin (R := R) (P := l.prog) (w := w) (mg := mg) (base := base) Fm1 XT m_len H3 g3 k3 b3 Hm11 Mm11 bm11 Hm13 Mm13 bm13
  have Hm2 := ok_put9 (R := R) (P := l.prog) (w := w) (mg := mg) (base := base) Fm2 XT m_isinstance m_str H3 g3 k3 b3 Hm11 Mm11 bm11 Hm12 Mm12 bm12 m_SIDES hSi E_NoSide m_NoSide Hm5 Mm5 bm5 H7 g7 k7 b7 E_NoFit m_NoFit Hm13 Mm13 bm13
  have Hm3 := ok_back (R := R) (P := l.prog) (w := w) (mg := mg) (base := base) Fm3 XT m_len E_NoDeed m_NoDeed
  have Hm6 := ok_fits (R := R) (P := l.prog) (w := w) (mg := mg) (base := base) Fm6 XT m_len m_range H3 g3 k3 b3 Hm10 Mm10 bm10 Hm5 Mm5 bm5 H7 g7 k7 b7 m_SIDES hSi
  have H8 := ok_cell (P := l.prog) (w := w) (mg := mg) (base := base) F8 m_len
  have A0 := alike_leaf (P := l.prog) (w := w) (mg := mg) (base := base) F9 m_isinstance m_bool m_tuple m_list
  have A1 := alike_step (P := l.prog) (w := w) (mg := mg) (base := base) F9 m_isinstance m_bool m_tuple m_list m_len m_all m_range A0 g9 k9 b9
  have A2 := alike_step (P := l.prog) (w := w) (mg := mg) (base := base) F9 m_isinstance m_bool m_tuple m_list m_len m_all m_range A1 g9 k9 b9
  have A3 := alike_step (P := l.prog) (w := w) (mg := mg) (base := base) F9 m_isinstance m_bool m_tuple m_list m_len m_all m_range A2 g9 k9 b9
  have A4 := alike_step (P := l.prog) (w := w) (mg := mg) (base := base) F9 m_isinstance m_bool m_tuple m_list m_len m_all m_range A3 g9 k9 b9
  have H10 := ok_bad9 (P := l.prog) (w := w) (mg := mg) (base := base) F10
  have H11 := ok_word9 (P := l.prog) (w := w) (mg := mg) (base := base) F11 m_isinstance m_ValueError TT m_NoStone m_Full m_NoChain m_NoSide m_NoFit m_NoDeed m_NoStones m_NoText m_NoLaying SV
  have H12 := ok_asked9 (R := R) (P := l.prog) (w := w) (mg := mg) (base := base) F12 XT Hm2 Mm2 bm2 Hm1 Mm1 bm1 Hm6 Mm6 bm6 Hm4 Mm4 bm4 Hm5 Mm5 bm5 Hm3 Mm3 bm3
  have H13 := ok_told9 (R := R) (P := l.prog) (w := w) (mg := mg) (base := base) F13 H12 g12 k12 b12 H11 g11 k11 b11 E_StoneError m_StoneError hR sS
  have H14 := ok_fitsT (P := l.prog) (w := w) (mg := mg) (base := base) F14 XT m_int (ends_calm Hm5) Mm5 bm5
  have H15 := ok_wanted (P := l.prog) (w := w) (mg := mg) (base := base) F15 XT m_len Hm8 Mm8 bm8 Hm7 Mm7 bm7 H14 g14 k14 b14
  have H16 := ok_table9 (P := l.prog) (w := w) (mg := mg) (base := base) F16 XT m_len m_int m_range ⟨mk, am0, im0, kc⟩ Hm0 bm0 H8 g8 k8 b8 (fits_calm Hm6) Mm6 bm6 (begin_calm Hm1) Mm1 bm1 (put_calm Hm2) Mm2 bm2
  have H17 := ok_state9 (P := l.prog) (w := w) (mg := mg) (base := base) F17 XT Hm9 Mm9 bm9 Hm8 Mm8 bm8 Hm7 Mm7 bm7
  exact ok_law F18 XT m_range m_max m_len H16 g16 k16 b16 H8 g8 k8 b8 H10 g10 k10 b10 H15 g15 k15 b15 H17 g17 k17 b17 H13 g13 k13 b13 A4 g9 k9 b9 Hm7 Mm7 bm7 Hm8 Mm8 bm8 (back_calm Hm3) Mm3 bm3 (begin_calm Hm1) Mm1 bm1 (put_calm Hm2) Mm2 bm2 (chain_calm Hm4) Mm4 bm4
end Sw
open PySem PySem.W PyProof.Rows
set_option maxHeartbeats 0 in
theorem PySem.Challenge.cw_stonerow_k09_table_refused_holds : PySem.Challenge.rw_stonerow_k09_table_refused.Holds := by
  w_on; o_law; k_head; (case hw => w_witness2)
  k_fill
  refine L2.walk_of (l := PySem.Challenge.rw_stonerow_k09_table_refused) (n := 63) (k := 9) (x := "_law_script") (CX := fun _ => L2.CX0) (sp := fun w => Sw.spLaw _) rfl (by decide) rfl ⟨rfl, by decide, by decide⟩ (fun w h Y => PySem.W.kIn_of Y) ?F (fun _ _ a ns hl _ hS => ⟨a, ns, rfl, hS, hl, fun _ => rfl⟩) (fun _ _ _ _ _ h => h)
  case F =>
    intro w mg fa h KX G hmg
    refine' Sw.all_mk KX G hmg ?a1 ?l1 ?c1 ?k1 ?a2 ?l2 ?c2 ?k2 ?a3 ?l3 ?c3 ?k3 ?a4 ?l4 ?c4 ?k4 ?a5 ?l5 ?c5 ?k5 ?a6 ?l6 ?c6 ?k6 ?a7 ?l7 ?c7 ?k7 ?a8 ?l8 ?c8 ?k8 ?a9 ?l9 ?c9 ?k9 ?a10 ?l10 ?c10 ?k10 ?a11 ?l11 ?c11 ?k11 ?a12 ?l12 ?c12 ?k12 ?a13 ?l13 ?c13 ?k13 ?a14 ?l14 ?c14 ?k14 ?a15 ?l15 ?c15 ?k15 ?a16 ?l16 ?c16 ?k16 ?a17 ?l17 ?c17 ?k17 ?a18 ?l18 ?c18 ?k18 ?aT ?am0 ?im0 ?lm0 ?cm0 ?km0 ?am1 ?im1 ?lm1 ?cm1 ?km1 ?am2 ?im2 ?lm2 ?cm2 ?km2 ?am3 ?im3 ?lm3 ?cm3 ?km3 ?am4 ?im4 ?lm4 ?cm4 ?km4 ?am5 ?im5 ?lm5 ?cm5 ?km5 ?am6 ?im6 ?lm6 ?cm6 ?km6 ?am7 ?im7 ?lm7 ?cm7 ?km7 ?am8 ?im8 ?lm8 ?cm8 ?km8 ?am9 ?im9 ?lm9 ?cm9 ?km9 ?am10 ?im10 ?lm10 ?cm10 ?km10 ?am11 ?im11 ?lm11 ?cm11 ?km11 ?am12 ?im12 ?lm12 ?cm12 ?km12 ?am13 ?im13 ?lm13 ?cm13 ?km13 ?pg ?hd ?po ?sa ?mk ?kc ?nSt ?nCh ?nDe ?aS ?lS ?z0 ?z1 ?z2 ?z3 ?z4 ?z5 ?z6 ?z7 ?z8 ?z9 ?z10 ?q0 ?q1 ?u_StoneError ?ux_StoneError ?uk_StoneError ?ut_StoneError ?ui_StoneError ?ug_StoneError ?un_StoneError ?us_StoneError ?ud_StoneError ?uc_StoneError ?um_StoneError ?u_NoStone ?ux_NoStone ?uk_NoStone ?ut_NoStone ?ui_NoStone ?ug_NoStone ?un_NoStone ?us_NoStone ?ud_NoStone ?uc_NoStone ?um_NoStone ?u_Full ?ux_Full ?uk_Full ?ut_Full ?ui_Full ?ug_Full ?un_Full ?us_Full ?ud_Full ?uc_Full ?um_Full ?u_NoChain ?ux_NoChain ?uk_NoChain ?ut_NoChain ?ui_NoChain ?ug_NoChain ?un_NoChain ?us_NoChain ?ud_NoChain ?uc_NoChain ?um_NoChain ?u_NoSide ?ux_NoSide ?uk_NoSide ?ut_NoSide ?ui_NoSide ?ug_NoSide ?un_NoSide ?us_NoSide ?ud_NoSide ?uc_NoSide ?um_NoSide ?u_NoFit ?ux_NoFit ?uk_NoFit ?ut_NoFit ?ui_NoFit ?ug_NoFit ?un_NoFit ?us_NoFit ?ud_NoFit ?uc_NoFit ?um_NoFit ?u_NoDeed ?ux_NoDeed ?uk_NoDeed ?ut_NoDeed ?ui_NoDeed ?ug_NoDeed ?un_NoDeed ?us_NoDeed ?ud_NoDeed ?uc_NoDeed ?um_NoDeed ?u_NoStones ?ux_NoStones ?uk_NoStones ?ut_NoStones ?ui_NoStones ?ug_NoStones ?un_NoStones ?us_NoStones ?ud_NoStones ?uc_NoStones ?um_NoStones ?u_NoText ?ux_NoText ?uk_NoText ?ut_NoText ?ui_NoText ?ug_NoText ?un_NoText ?us_NoText ?ud_NoText ?uc_NoText ?um_NoText ?u_NoLaying ?ux_NoLaying ?uk_NoLaying ?ut_NoLaying ?ui_NoLaying ?ug_NoLaying ?un_NoLaying ?us_NoLaying ?ud_NoLaying ?uc_NoLaying ?um_NoLaying ?w_n ?w_t ?s_NoStone_NoStone ?s_NoStone_Full ?s_NoStone_NoChain ?s_NoStone_NoSide ?s_NoStone_NoFit ?s_NoStone_NoDeed ?s_NoStone_NoStones ?s_NoStone_NoText ?s_NoStone_NoLaying ?s_Full_NoStone ?s_Full_Full ?s_Full_NoChain ?s_Full_NoSide ?s_Full_NoFit ?s_Full_NoDeed ?s_Full_NoStones ?s_Full_NoText ?s_Full_NoLaying ?s_NoChain_NoStone ?s_NoChain_Full ?s_NoChain_NoChain ?s_NoChain_NoSide ?s_NoChain_NoFit ?s_NoChain_NoDeed ?s_NoChain_NoStones ?s_NoChain_NoText ?s_NoChain_NoLaying ?s_NoSide_NoStone ?s_NoSide_Full ?s_NoSide_NoChain ?s_NoSide_NoSide ?s_NoSide_NoFit ?s_NoSide_NoDeed ?s_NoSide_NoStones ?s_NoSide_NoText ?s_NoSide_NoLaying ?s_NoFit_NoStone ?s_NoFit_Full ?s_NoFit_NoChain ?s_NoFit_NoSide ?s_NoFit_NoFit ?s_NoFit_NoDeed ?s_NoFit_NoStones ?s_NoFit_NoText ?s_NoFit_NoLaying ?s_NoDeed_NoStone ?s_NoDeed_Full ?s_NoDeed_NoChain ?s_NoDeed_NoSide ?s_NoDeed_NoFit ?s_NoDeed_NoDeed ?s_NoDeed_NoStones ?s_NoDeed_NoText ?s_NoDeed_NoLaying ?s_NoStones_NoStone ?s_NoStones_Full ?s_NoStones_NoChain ?s_NoStones_NoSide ?s_NoStones_NoFit ?s_NoStones_NoDeed ?s_NoStones_NoStones ?s_NoStones_NoText ?s_NoStones_NoLaying ?s_NoText_NoStone ?s_NoText_Full ?s_NoText_NoChain ?s_NoText_NoSide ?s_NoText_NoFit ?s_NoText_NoDeed ?s_NoText_NoStones ?s_NoText_NoText ?s_NoText_NoLaying ?s_NoLaying_NoStone ?s_NoLaying_Full ?s_NoLaying_NoChain ?s_NoLaying_NoSide ?s_NoLaying_NoFit ?s_NoLaying_NoDeed ?s_NoLaying_NoStones ?s_NoLaying_NoText ?s_NoLaying_NoLaying ?s_NoStone_StoneError ?s_Full_StoneError ?s_NoChain_StoneError ?s_NoSide_StoneError ?s_NoFit_StoneError ?s_NoDeed_StoneError ?v_NoStone ?v_Full ?v_NoChain ?v_NoSide ?v_NoFit ?v_NoDeed ?v_NoStones ?v_NoText ?v_NoLaying
    (case a1 => k_is)
    (case l1 => k_is)
    (case c1 => k_is)
    (case k1 => k_is)
    (case a2 => k_is)
    (case l2 => k_is)
    (case c2 => k_is)
    (case k2 => k_is)
    (case a3 => k_is)
    (case l3 => k_is)
    (case c3 => k_is)
    (case k3 => k_is)
    (case a4 => k_is)
    (case l4 => k_is)
    (case c4 => k_is)
    (case k4 => k_is)
    (case a5 => k_is)
    (case l5 => k_is)
    (case c5 => k_is)
    (case k5 => k_is)
    (case a6 => k_is)
    (case l6 => k_is)
    (case c6 => k_is)
    (case k6 => k_is)
    (case a7 => k_is)
    (case l7 => k_is)
    (case c7 => k_is)
    (case k7 => k_is)
    (case a8 => k_is)
    (case l8 => k_is)
    (case c8 => k_is)
    (case k8 => k_is)
    (case a9 => k_is)
    (case l9 => k_is)
    (case c9 => k_is)
    (case k9 => k_is)
    (case a10 => k_is)
    (case l10 => k_is)
    (case c10 => k_is)
    (case k10 => k_is)
    (case a11 => k_is)
    (case l11 => k_is)
    (case c11 => k_is)
    (case k11 => k_is)
    (case a12 => k_is)
    (case l12 => k_is)
    (case c12 => k_is)
    (case k12 => k_is)
    (case a13 => k_is)
    (case l13 => k_is)
    (case c13 => k_is)
    (case k13 => k_is)
    (case a14 => k_is)
    (case l14 => k_is)
    (case c14 => k_is)
    (case k14 => k_is)
    (case a15 => k_is)
    (case l15 => k_is)
    (case c15 => k_is)
    (case k15 => k_is)
    (case a16 => k_is)
    (case l16 => k_is)
    (case c16 => k_is)
    (case k16 => k_is)
    (case a17 => k_is)
    (case l17 => k_is)
    (case c17 => k_is)
    (case k17 => k_is)
    (case a18 => k_is)
    (case l18 => k_is)
    (case c18 => k_is)
    (case k18 => k_is)
    (case aT => k_is)
    (case am0 => k_is)
    (case im0 => k_is)
    (case lm0 => k_is)
    (case cm0 => k_is)
    (case km0 => k_is)
    (case am1 => k_is)
    (case im1 => k_is)
    (case lm1 => k_is)
    (case cm1 => k_is)
    (case km1 => k_is)
    (case am2 => k_is)
    (case im2 => k_is)
    (case lm2 => k_is)
    (case cm2 => k_is)
    (case km2 => k_is)
    (case am3 => k_is)
    (case im3 => k_is)
    (case lm3 => k_is)
    (case cm3 => k_is)
    (case km3 => k_is)
    (case am4 => k_is)
    (case im4 => k_is)
    (case lm4 => k_is)
    (case cm4 => k_is)
    (case km4 => k_is)
    (case am5 => k_is)
    (case im5 => k_is)
    (case lm5 => k_is)
    (case cm5 => k_is)
    (case km5 => k_is)
    (case am6 => k_is)
    (case im6 => k_is)
    (case lm6 => k_is)
    (case cm6 => k_is)
    (case km6 => k_is)
    (case am7 => k_is)
    (case im7 => k_is)
    (case lm7 => k_is)
    (case cm7 => k_is)
    (case km7 => k_is)
    (case am8 => k_is)
    (case im8 => k_is)
    (case lm8 => k_is)
    (case cm8 => k_is)
    (case km8 => k_is)
    (case am9 => k_is)
    (case im9 => k_is)
    (case lm9 => k_is)
    (case cm9 => k_is)
    (case km9 => k_is)
    (case am10 => k_is)
    (case im10 => k_is)
    (case lm10 => k_is)
    (case cm10 => k_is)
    (case km10 => k_is)
    (case am11 => k_is)
    (case im11 => k_is)
    (case lm11 => k_is)
    (case cm11 => k_is)
    (case km11 => k_is)
    (case am12 => k_is)
    (case im12 => k_is)
    (case lm12 => k_is)
    (case cm12 => k_is)
    (case km12 => k_is)
    (case am13 => k_is)
    (case im13 => k_is)
    (case lm13 => k_is)
    (case cm13 => k_is)
    (case km13 => k_is)
    (case pg => k_is)
    (case hd => k_is)
    (case po => k_is)
    (case sa => k_is)
    (case mk => k_is)
    (case kc => k_is)
    (case nSt => k_is)
    (case nCh => k_is)
    (case nDe => k_is)
    (case aS => k_is)
    (case lS => k_is)
    (case z0 => k_is)
    (case z1 => k_is)
    (case z2 => k_is)
    (case z3 => k_is)
    (case z4 => k_is)
    (case z5 => k_is)
    (case z6 => k_is)
    (case z7 => k_is)
    (case z8 => k_is)
    (case z9 => k_is)
    (case z10 => k_is)
    (case q0 => k_is)
    (case q1 => k_is)
    (case u_StoneError => k_is)
    (case ux_StoneError => k_exc)
    (case uk_StoneError => k_is)
    (case ut_StoneError => k_is)
    (case ui_StoneError => k_is)
    (case ug_StoneError => k_is)
    (case un_StoneError => k_is)
    (case us_StoneError => k_is)
    (case ud_StoneError => k_is)
    (case uc_StoneError => k_is)
    (case um_StoneError => k_is)
    (case u_NoStone => k_is)
    (case ux_NoStone => k_exc)
    (case uk_NoStone => k_is)
    (case ut_NoStone => k_is)
    (case ui_NoStone => k_is)
    (case ug_NoStone => k_is)
    (case un_NoStone => k_is)
    (case us_NoStone => k_is)
    (case ud_NoStone => k_is)
    (case uc_NoStone => k_is)
    (case um_NoStone => k_is)
    (case u_Full => k_is)
    (case ux_Full => k_exc)
    (case uk_Full => k_is)
    (case ut_Full => k_is)
    (case ui_Full => k_is)
    (case ug_Full => k_is)
    (case un_Full => k_is)
    (case us_Full => k_is)
    (case ud_Full => k_is)
    (case uc_Full => k_is)
    (case um_Full => k_is)
    (case u_NoChain => k_is)
    (case ux_NoChain => k_exc)
    (case uk_NoChain => k_is)
    (case ut_NoChain => k_is)
    (case ui_NoChain => k_is)
    (case ug_NoChain => k_is)
    (case un_NoChain => k_is)
    (case us_NoChain => k_is)
    (case ud_NoChain => k_is)
    (case uc_NoChain => k_is)
    (case um_NoChain => k_is)
    (case u_NoSide => k_is)
    (case ux_NoSide => k_exc)
    (case uk_NoSide => k_is)
    (case ut_NoSide => k_is)
    (case ui_NoSide => k_is)
    (case ug_NoSide => k_is)
    (case un_NoSide => k_is)
    (case us_NoSide => k_is)
    (case ud_NoSide => k_is)
    (case uc_NoSide => k_is)
    (case um_NoSide => k_is)
    (case u_NoFit => k_is)
    (case ux_NoFit => k_exc)
    (case uk_NoFit => k_is)
    (case ut_NoFit => k_is)
    (case ui_NoFit => k_is)
    (case ug_NoFit => k_is)
    (case un_NoFit => k_is)
    (case us_NoFit => k_is)
    (case ud_NoFit => k_is)
    (case uc_NoFit => k_is)
    (case um_NoFit => k_is)
    (case u_NoDeed => k_is)
    (case ux_NoDeed => k_exc)
    (case uk_NoDeed => k_is)
    (case ut_NoDeed => k_is)
    (case ui_NoDeed => k_is)
    (case ug_NoDeed => k_is)
    (case un_NoDeed => k_is)
    (case us_NoDeed => k_is)
    (case ud_NoDeed => k_is)
    (case uc_NoDeed => k_is)
    (case um_NoDeed => k_is)
    (case u_NoStones => k_is)
    (case ux_NoStones => k_exc)
    (case uk_NoStones => k_is)
    (case ut_NoStones => k_is)
    (case ui_NoStones => k_is)
    (case ug_NoStones => k_is)
    (case un_NoStones => k_is)
    (case us_NoStones => k_is)
    (case ud_NoStones => k_is)
    (case uc_NoStones => k_is)
    (case um_NoStones => k_is)
    (case u_NoText => k_is)
    (case ux_NoText => k_exc)
    (case uk_NoText => k_is)
    (case ut_NoText => k_is)
    (case ui_NoText => k_is)
    (case ug_NoText => k_is)
    (case un_NoText => k_is)
    (case us_NoText => k_is)
    (case ud_NoText => k_is)
    (case uc_NoText => k_is)
    (case um_NoText => k_is)
    (case u_NoLaying => k_is)
    (case ux_NoLaying => k_exc)
    (case uk_NoLaying => k_is)
    (case ut_NoLaying => k_is)
    (case ui_NoLaying => k_is)
    (case ug_NoLaying => k_is)
    (case un_NoLaying => k_is)
    (case us_NoLaying => k_is)
    (case ud_NoLaying => k_is)
    (case uc_NoLaying => k_is)
    (case um_NoLaying => k_is)
    (case w_n => k_is)
    (case w_t => k_is)
    (case s_NoStone_NoStone => k_is)
    (case s_NoStone_Full => k_is)
    (case s_NoStone_NoChain => k_is)
    (case s_NoStone_NoSide => k_is)
    (case s_NoStone_NoFit => k_is)
    (case s_NoStone_NoDeed => k_is)
    (case s_NoStone_NoStones => k_is)
    (case s_NoStone_NoText => k_is)
    (case s_NoStone_NoLaying => k_is)
    (case s_Full_NoStone => k_is)
    (case s_Full_Full => k_is)
    (case s_Full_NoChain => k_is)
    (case s_Full_NoSide => k_is)
    (case s_Full_NoFit => k_is)
    (case s_Full_NoDeed => k_is)
    (case s_Full_NoStones => k_is)
    (case s_Full_NoText => k_is)
    (case s_Full_NoLaying => k_is)
    (case s_NoChain_NoStone => k_is)
    (case s_NoChain_Full => k_is)
    (case s_NoChain_NoChain => k_is)
    (case s_NoChain_NoSide => k_is)
    (case s_NoChain_NoFit => k_is)
    (case s_NoChain_NoDeed => k_is)
    (case s_NoChain_NoStones => k_is)
    (case s_NoChain_NoText => k_is)
    (case s_NoChain_NoLaying => k_is)
    (case s_NoSide_NoStone => k_is)
    (case s_NoSide_Full => k_is)
    (case s_NoSide_NoChain => k_is)
    (case s_NoSide_NoSide => k_is)
    (case s_NoSide_NoFit => k_is)
    (case s_NoSide_NoDeed => k_is)
    (case s_NoSide_NoStones => k_is)
    (case s_NoSide_NoText => k_is)
    (case s_NoSide_NoLaying => k_is)
    (case s_NoFit_NoStone => k_is)
    (case s_NoFit_Full => k_is)
    (case s_NoFit_NoChain => k_is)
    (case s_NoFit_NoSide => k_is)
    (case s_NoFit_NoFit => k_is)
    (case s_NoFit_NoDeed => k_is)
    (case s_NoFit_NoStones => k_is)
    (case s_NoFit_NoText => k_is)
    (case s_NoFit_NoLaying => k_is)
    (case s_NoDeed_NoStone => k_is)
    (case s_NoDeed_Full => k_is)
    (case s_NoDeed_NoChain => k_is)
    (case s_NoDeed_NoSide => k_is)
    (case s_NoDeed_NoFit => k_is)
    (case s_NoDeed_NoDeed => k_is)
    (case s_NoDeed_NoStones => k_is)
    (case s_NoDeed_NoText => k_is)
    (case s_NoDeed_NoLaying => k_is)
    (case s_NoStones_NoStone => k_is)
    (case s_NoStones_Full => k_is)
    (case s_NoStones_NoChain => k_is)
    (case s_NoStones_NoSide => k_is)
    (case s_NoStones_NoFit => k_is)
    (case s_NoStones_NoDeed => k_is)
    (case s_NoStones_NoStones => k_is)
    (case s_NoStones_NoText => k_is)
    (case s_NoStones_NoLaying => k_is)
    (case s_NoText_NoStone => k_is)
    (case s_NoText_Full => k_is)
    (case s_NoText_NoChain => k_is)
    (case s_NoText_NoSide => k_is)
    (case s_NoText_NoFit => k_is)
    (case s_NoText_NoDeed => k_is)
    (case s_NoText_NoStones => k_is)
    (case s_NoText_NoText => k_is)
    (case s_NoText_NoLaying => k_is)
    (case s_NoLaying_NoStone => k_is)
    (case s_NoLaying_Full => k_is)
    (case s_NoLaying_NoChain => k_is)
    (case s_NoLaying_NoSide => k_is)
    (case s_NoLaying_NoFit => k_is)
    (case s_NoLaying_NoDeed => k_is)
    (case s_NoLaying_NoStones => k_is)
    (case s_NoLaying_NoText => k_is)
    (case s_NoLaying_NoLaying => k_is)
    (case s_NoStone_StoneError => k_is)
    (case s_Full_StoneError => k_is)
    (case s_NoChain_StoneError => k_is)
    (case s_NoSide_StoneError => k_is)
    (case s_NoFit_StoneError => k_is)
    (case s_NoDeed_StoneError => k_is)
    (case v_NoStone => k_is)
    (case v_Full => k_is)
    (case v_NoChain => k_is)
    (case v_NoSide => k_is)
    (case v_NoFit => k_is)
    (case v_NoDeed => k_is)
    (case v_NoStones => k_is)
    (case v_NoText => k_is)
    (case v_NoLaying => k_is)
