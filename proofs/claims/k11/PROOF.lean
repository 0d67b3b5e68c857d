import PyProof.Rows.All
import Wide.All
import OpenK.AllK
import Wide.FinOn
import HandS.ForMost
import HandS.Strs
import HandS.SetFor
import PyProof.FactsAll.bool_1
import HandS.Sort
import HandS.More
import HandS.Conv
import HandS.DictComp
import HandS.SortInts
import HandS.Style
import HandS.Evl
import HandS.IsInst
import HandS.Zip
import HandS.FStr
import HandS.Text
import HandS.ExcValue
import HandS.ExcIs
import HandS.ExcOwn
import KE.GoesRaise
import HandS.WordsExc
import HandS.Steps
import HandS.SetKeys
import HandS.Flow
import PyProof.P3Eq
import PySem.Challenge.RW_stonerow_k11_texts_refused
set_option Elab.async false
set_option linter.all false
set_option maxRecDepth 100000
namespace Sw
/-! ## numbers that hang together -/
inductive Conn (st : List (Int × Int)) : Int → Int → Prop
  | refl (x : Int) : Conn st x x
  | edge {a b : Int} : (a, b) ∈ st → Conn st a b
  | symm {x y : Int} : Conn st x y → Conn st y x
  | trans {x y z : Int} : Conn st x y → Conn st y z → Conn st x z

def IsEnd (st : List (Int × Int)) (x : Int) : Prop := ∃ s ∈ st, x = s.1 ∨ x = s.2

theorem Conn.mono {st st' : List (Int × Int)} (h : ∀ s ∈ st, s ∈ st') {x y : Int} (c : Conn st x y) : Conn st' x y := by
  induction c with
  | refl x => exact .refl x
  | edge e => exact .edge (h _ e)
  | symm _ ih => exact .symm ih
  | trans _ _ i1 i2 => exact .trans i1 i2

theorem Conn.isEnd {st : List (Int × Int)} {x y : Int} (c : Conn st x y) : x = y ∨ (IsEnd st x ∧ IsEnd st y) := by
  induction c with
  | refl x => exact .inl rfl
  | edge e => exact .inr ⟨⟨_, e, .inl rfl⟩, ⟨_, e, .inr rfl⟩⟩
  | symm _ ih =>
    rcases ih with h | ⟨h, h'⟩
    · exact .inl h.symm
    · exact .inr ⟨h', h⟩
  | trans _ _ i1 i2 =>
    rcases i1 with h | ⟨h, h'⟩
    · subst h
      exact i2
    · rcases i2 with k | ⟨_, k'⟩
      · subst k
        exact .inr ⟨h, h'⟩
      · exact .inr ⟨h, k'⟩

/-- how one stone more joins -/
theorem conn_snoc {st : List (Int × Int)} {a b x y : Int} : Conn (st ++ [(a, b)]) x y ↔ Conn st x y ∨ (Conn st x a ∧ Conn st b y) ∨ (Conn st x b ∧ Conn st a y) := by
  constructor
  · intro c
    induction c with
    | refl x => exact .inl (.refl x)
    | edge e =>
      rcases List.mem_append.mp e with h | h
      · exact .inl (.edge h)
      · have h := List.mem_singleton.mp h
        cases h
        exact .inr (.inl ⟨.refl _, .refl _⟩)
    | symm _ ih =>
      rcases ih with h | ⟨h, h'⟩ | ⟨h, h'⟩
      · exact .inl h.symm
      · exact .inr (.inr ⟨h'.symm, h.symm⟩)
      · exact .inr (.inl ⟨h'.symm, h.symm⟩)
    | trans _ _ i1 i2 =>
      rcases i1 with h | ⟨h, h'⟩ | ⟨h, h'⟩
      · rcases i2 with k | ⟨k, k'⟩ | ⟨k, k'⟩
        · exact .inl (h.trans k)
        · exact .inr (.inl ⟨h.trans k, k'⟩)
        · exact .inr (.inr ⟨h.trans k, k'⟩)
      · rcases i2 with k | ⟨k, k'⟩ | ⟨k, k'⟩
        · exact .inr (.inl ⟨h, h'.trans k⟩)
        · exact .inr (.inl ⟨h, k'⟩)
        · exact .inl (h.trans k')
      · rcases i2 with k | ⟨k, k'⟩ | ⟨k, k'⟩
        · exact .inr (.inr ⟨h, h'.trans k⟩)
        · exact .inl (h.trans k')
        · exact .inr (.inr ⟨h, k'⟩)
  · have up : ∀ {u v : Int}, Conn st u v → Conn (st ++ [(a, b)]) u v := fun c => c.mono fun s h => List.mem_append.mpr (.inl h)
    have e : Conn (st ++ [(a, b)]) a b := .edge (List.mem_append.mpr (.inr (List.mem_singleton.mpr rfl)))
    rintro (h | ⟨h, h'⟩ | ⟨h, h'⟩)
    · exact up h
    · exact (up h).trans (e.trans (up h'))
    · exact (up h).trans (e.symm.trans (up h'))

/-! ## the labels, as the program gives them -/
def look (l : List (Int × Int)) (x : Int) : Option Int := (l.find? fun p => decide (p.1 = x)).map (·.2)
def setd (l : List (Int × Int)) (x v : Int) : List (Int × Int) := if (look l x).isSome then l else l ++ [(x, v)]
def relab (o n : Int) (l : List (Int × Int)) : List (Int × Int) := l.map fun p => (p.1, if p.2 = o then n else p.2)
def labStep (l : List (Int × Int)) (s : Int × Int) : List (Int × Int) :=
  let l2 := setd (setd l s.1 s.1) s.2 s.2
  let o := (look l2 s.1).getD 0
  let n := (look l2 s.2).getD 0
  if o ≠ n then relab o n l2 else l2
def labOf (st : List (Int × Int)) : List (Int × Int) := st.foldl labStep []

theorem look_append (l r : List (Int × Int)) (x : Int) : look (l ++ r) x = (look l x).or (look r x) := by
  unfold look
  rw [List.find?_append]
  cases List.find? (fun p => decide (p.1 = x)) l <;> rfl
theorem look_cons (p : Int × Int) (l : List (Int × Int)) (x : Int) : look (p :: l) x = if p.1 = x then some p.2 else look l x := by
  unfold look
  rw [List.find?_cons]
  by_cases h : p.1 = x
  · rw [if_pos h, decide_eq_true h]
    rfl
  · rw [if_neg h, decide_eq_false h]
theorem look_nil (x : Int) : look [] x = none := rfl
theorem look_setd (l : List (Int × Int)) (x v y : Int) : look (setd l x v) y = if y = x then some ((look l x).getD v) else look l y := by
  unfold setd
  cases h : look l x with
  | some w =>
    show look l y = _
    by_cases e : y = x
    · rw [if_pos e, e, h]
      rfl
    · rw [if_neg e]
  | none =>
    show look (l ++ [(x, v)]) y = _
    rw [look_append, look_cons, look_nil]
    by_cases e : y = x
    · rw [if_pos e, e, h, if_pos rfl]
      rfl
    · rw [if_neg e, if_neg (fun z => e z.symm)]
      cases look l y <;> rfl
theorem look_relab (o n : Int) (l : List (Int × Int)) (x : Int) : look (relab o n l) x = (look l x).map fun m => if m = o then n else m := by
  induction l with
  | nil => rfl
  | cons p l ih =>
    show look ((p.1, if p.2 = o then n else p.2) :: relab o n l) x = _
    rw [look_cons, look_cons, ih]
    by_cases e : p.1 = x
    · rw [if_pos e, if_pos e]
      rfl
    · rw [if_neg e, if_neg e]

structure LabOk (pre l : List (Int × Int)) : Prop where
  key : ∀ x, (look l x).isSome = true ↔ IsEnd pre x
  to : ∀ x m, look l x = some m → Conn pre x m
  same : ∀ x y m k, look l x = some m → look l y = some k → Conn pre x y → m = k

theorem isEnd_snoc {pre : List (Int × Int)} {s : Int × Int} {x : Int} : IsEnd (pre ++ [s]) x ↔ IsEnd pre x ∨ x = s.1 ∨ x = s.2 := by
  constructor
  · rintro ⟨t, ht, e⟩
    rcases List.mem_append.mp ht with h | h
    · exact .inl ⟨t, h, e⟩
    · rw [List.mem_singleton.mp h] at e
      exact .inr e
  · rintro (⟨t, ht, e⟩ | e)
    · exact ⟨t, List.mem_append.mpr (.inl ht), e⟩
    · exact ⟨s, List.mem_append.mpr (.inr (List.mem_singleton.mpr rfl)), e⟩

theorem look_of_not {l : List (Int × Int)} {x : Int} (h : ¬ (look l x).isSome = true) : look l x = none := by
  cases e : look l x with
  | none => rfl
  | some m => rw [e] at h; exact absurd rfl h

/-- keys may lie beyond the ends: the extra set -/
structure LabX (pre : List (Int × Int)) (ex : Int → Prop) (l : List (Int × Int)) : Prop where
  key : ∀ x, (look l x).isSome = true ↔ IsEnd pre x ∨ ex x
  to : ∀ x m, look l x = some m → Conn pre x m
  same : ∀ x y m k, look l x = some m → look l y = some k → Conn pre x y → m = k
theorem LabX.setd {pre : List (Int × Int)} {ex : Int → Prop} {l : List (Int × Int)} (h : LabX pre ex l) (a : Int) : LabX pre (fun x => ex x ∨ x = a) (setd l a a) := by
  have hd : ∀ x m, look (Sw.setd l a a) x = some m → (look l x = some m) ∨ (x = a ∧ m = a ∧ look l a = none) := by
    intro x m e
    rw [look_setd] at e
    by_cases q : x = a
    · rw [if_pos q] at e
      cases ha : look l a with
      | none =>
        rw [ha] at e
        exact .inr ⟨q, (Option.some.inj e).symm, rfl⟩
      | some w =>
        rw [ha] at e
        left
        rw [q, ha]
        exact e
    · rw [if_neg q] at e
      exact .inl e
  have fresh : look l a = none → ∀ y, Conn pre a y → y = a := by
    intro hn y c
    have na : ¬ (IsEnd pre a ∨ ex a) := fun z => by
      have := (h.key a).mpr z
      rw [hn] at this
      cases this
    rcases c.isEnd with e | ⟨e, _⟩
    · exact e.symm
    · exact absurd (.inl e) na
  refine ⟨fun x => ?_, fun x m e => ?_, fun x y m k e1 e2 c => ?_⟩
  · rw [look_setd]
    by_cases q : x = a
    · rw [if_pos q]
      exact ⟨fun _ => .inr (.inr q), fun _ => rfl⟩
    · rw [if_neg q, h.key]
      constructor
      · rintro (z | z)
        · exact .inl z
        · exact .inr (.inl z)
      · rintro (z | z | z)
        · exact .inl z
        · exact .inr z
        · exact absurd z q
  · rcases hd x m e with z | ⟨rfl, rfl, _⟩
    · exact h.to x m z
    · exact .refl _
  · rcases hd x m e1 with z1 | ⟨rfl, rfl, n1⟩
    · rcases hd y k e2 with z2 | ⟨rfl, rfl, n2⟩
      · exact h.same x y m k z1 z2 c
      · have := fresh n2 x c.symm
        rw [this, n2] at z1
        cases z1
    · rcases hd y k e2 with z2 | ⟨rfl, rfl, n2⟩
      · have := fresh n1 y c
        rw [this, n1] at z2
        cases z2
      · rfl

theorem labStep_ok {pre l : List (Int × Int)} (h : LabOk pre l) (s : Int × Int) : LabOk (pre ++ [s]) (labStep l s) := by
  obtain ⟨a, b⟩ := s
  have h0 : LabX pre (fun _ => False) l := ⟨fun x => (h.key x).trans ⟨.inl, fun z => z.resolve_right id⟩, h.to, h.same⟩
  have h2 := (h0.setd a).setd b
  generalize el : setd (setd l a a) b b = l2 at h2
  have ka : (look l2 a).isSome = true := (h2.key a).mpr (.inr (.inl (.inr rfl)))
  have kb : (look l2 b).isSome = true := (h2.key b).mpr (.inr (.inr rfl))
  obtain ⟨o, eo⟩ := Option.isSome_iff_exists.mp ka
  obtain ⟨n, en⟩ := Option.isSome_iff_exists.mp kb
  have es : labStep l (a, b) = if o ≠ n then relab o n l2 else l2 := by
    show (if (look (setd (setd l a a) b b) a).getD 0 ≠ (look (setd (setd l a a) b b) b).getD 0 then relab ((look (setd (setd l a a) b b) a).getD 0) ((look (setd (setd l a a) b b) b).getD 0) (setd (setd l a a) b b) else setd (setd l a a) b b) = _
    rw [el, eo, en]
    rfl
  have up : ∀ {u v : Int}, Conn pre u v → Conn (pre ++ [(a, b)]) u v := fun c => c.mono fun s h => List.mem_append.mpr (.inl h)
  have eab : Conn (pre ++ [(a, b)]) a b := .edge (List.mem_append.mpr (.inr (List.mem_singleton.mpr rfl)))
  have lk : ∀ x, look (labStep l (a, b)) x = (look l2 x).map fun m => if m = o then n else m := by
    intro x
    rw [es]
    by_cases q : o = n
    · rw [if_neg (fun z => z q)]
      cases look l2 x with
      | none => rfl
      | some m =>
        show some m = some (if m = o then n else m)
        by_cases z : m = o
        · rw [if_pos z, z, q]
        · rw [if_neg z]
    · rw [if_pos q, look_relab]
  have ao : Conn pre a o := h2.to a o eo
  have bn : Conn pre b n := h2.to b n en
  refine ⟨fun x => ?_, fun x m e => ?_, fun x y m k e1 e2 c => ?_⟩
  · rw [lk, Option.isSome_map, h2.key, isEnd_snoc]
    constructor
    · rintro (z | (z | z) | z)
      · exact .inl z
      · exact z.elim
      · exact .inr (.inl z)
      · exact .inr (.inr z)
    · rintro (z | z | z)
      · exact .inl z
      · exact .inr (.inl (.inr z))
      · exact .inr (.inr z)
  · rw [lk] at e
    cases e1 : look l2 x with
    | none =>
      rw [e1] at e
      cases e
    | some m0 =>
      rw [e1] at e
      have e : (if m0 = o then n else m0) = m := Option.some.inj e
      have c0 := h2.to x m0 e1
      by_cases q : m0 = o
      · rw [if_pos q] at e
        rw [← e]
        rw [q] at c0
        exact (up c0).trans ((up ao).symm.trans (eab.trans (up bn)))
      · rw [if_neg q] at e
        rw [← e]
        exact up c0
  · rw [lk] at e1 e2
    cases f1 : look l2 x with
    | none =>
      rw [f1] at e1
      cases e1
    | some m0 =>
      cases f2 : look l2 y with
      | none =>
        rw [f2] at e2
        cases e2
      | some k0 =>
        rw [f1] at e1
        rw [f2] at e2
        have e1 : (if m0 = o then n else m0) = m := Option.some.inj e1
        have e2 : (if k0 = o then n else k0) = k := Option.some.inj e2
        rcases conn_snoc.mp c with c | ⟨c, c'⟩ | ⟨c, c'⟩
        · have q := h2.same x y m0 k0 f1 f2 c
          rw [← e1, ← e2, q]
        · have q1 := h2.same x a m0 o f1 eo c
          have q2 := h2.same b y n k0 en f2 c'
          rw [← e1, ← e2, q1, ← q2, if_pos rfl]
          by_cases z : n = o
          · rw [if_pos z]
          · rw [if_neg z]
        · have q1 := h2.same x b m0 n f1 en c
          have q2 := h2.same a y o k0 eo f2 c'
          rw [← e1, ← e2, q1, ← q2, if_pos rfl]
          by_cases z : n = o
          · rw [if_pos z]
          · rw [if_neg z]

theorem labFold_ok : ∀ (r pre l : List (Int × Int)), LabOk pre l → LabOk (pre ++ r) (r.foldl labStep l)
  | [], pre, l, h => by
    rw [List.append_nil]
    exact h
  | s :: r, pre, l, h => by
    have := labFold_ok r (pre ++ [s]) (labStep l s) (labStep_ok h s)
    rw [List.append_assoc] at this
    exact this
theorem labOk_nil : LabOk [] [] := by
  refine ⟨fun x => ⟨fun z => ?_, fun z => ?_⟩, fun x m e => ?_, fun x y m k e => ?_⟩
  · cases z
  · obtain ⟨s, hs, _⟩ := z
    cases hs
  · cases e
  · cases e
theorem labOf_ok (st : List (Int × Int)) : LabOk st (labOf st) := labFold_ok st [] [] labOk_nil

/-- the label of a number -/
def lab (st : List (Int × Int)) (x : Int) : Int := (look (labOf st) x).getD 0
theorem lab_iff {st : List (Int × Int)} {x y : Int} (hx : IsEnd st x) (hy : IsEnd st y) : lab st x = lab st y ↔ Conn st x y := by
  have L := labOf_ok st
  obtain ⟨m, em⟩ := Option.isSome_iff_exists.mp ((L.key x).mpr hx)
  obtain ⟨k, ek⟩ := Option.isSome_iff_exists.mp ((L.key y).mpr hy)
  unfold lab
  rw [em, ek]
  show m = k ↔ _
  constructor
  · intro e
    have c1 := L.to x m em
    have c2 := L.to y k ek
    rw [e] at c1
    exact c1.trans c2.symm
  · exact L.same x y m k em ek

/-- the length and the keys, for the dict -/
theorem setd_keys (l : List (Int × Int)) (x v : Int) (h : (l.map (·.1)).Nodup) : ((setd l x v).map (·.1)).Nodup := by
  unfold setd
  cases e : look l x with
  | some w => exact h
  | none =>
    show ((l ++ [(x, v)]).map (·.1)).Nodup
    rw [List.map_append]
    refine List.nodup_append.mpr ⟨h, by simp, fun a ha b hb => ?_⟩
    have hb : b = x := List.mem_singleton.mp hb
    intro q
    obtain ⟨p, hp, ep⟩ := List.mem_map.mp ha
    have := List.find?_eq_none.mp (Option.map_eq_none_iff.mp e) p hp
    exact this (decide_eq_true (ep.trans (q.trans hb)))
theorem setd_len (l : List (Int × Int)) (x v : Int) : (setd l x v).length ≤ l.length + 1 := by
  unfold setd
  split
  · omega
  · rw [List.length_append]
    exact Nat.le_refl _
theorem relab_keys (o n : Int) (l : List (Int × Int)) : (relab o n l).map (·.1) = l.map (·.1) := by
  unfold relab
  rw [List.map_map]
  rfl
end Sw
namespace Sw
theorem relab_len (o n : Int) (l : List (Int × Int)) : (relab o n l).length = l.length := List.length_map _
theorem labStep_len (l : List (Int × Int)) (s : Int × Int) : (labStep l s).length ≤ l.length + 2 := by
  have h1 := setd_len l s.1 s.1
  have h2 := setd_len (setd l s.1 s.1) s.2 s.2
  unfold labStep
  dsimp only
  split
  · rw [relab_len]
    omega
  · omega
theorem labStep_keys (l : List (Int × Int)) (s : Int × Int) (h : (l.map (·.1)).Nodup) : ((labStep l s).map (·.1)).Nodup := by
  have h2 := setd_keys _ s.2 s.2 (setd_keys l s.1 s.1 h)
  unfold labStep
  dsimp only
  split
  · rw [relab_keys]
    exact h2
  · exact h2
theorem labTake_ok (st : List (Int × Int)) : ∀ i, ((st.take i).foldl labStep []).length ≤ 2 * i ∧ (((st.take i).foldl labStep []).map (·.1)).Nodup
  | 0 => ⟨Nat.le_refl _, List.nodup_nil⟩
  | i + 1 => by
    obtain ⟨h1, h2⟩ := labTake_ok st i
    rw [List.take_add_one]
    cases e : st[i]? with
    | none =>
      rw [Option.toList_none, List.append_nil]
      exact ⟨by omega, h2⟩
    | some s =>
      show ((st.take i ++ [s]).foldl labStep []).length ≤ _ ∧ (((st.take i ++ [s]).foldl labStep []).map (·.1)).Nodup
      rw [List.foldl_append]
      exact ⟨Nat.le_trans (labStep_len _ s) (by omega), labStep_keys _ s h2⟩
theorem labTake_succ {st : List (Int × Int)} {i : Nat} {s : Int × Int} (h : st[i]? = some s) : (st.take (i + 1)).foldl labStep [] = labStep ((st.take i).foldl labStep []) s := by
  rw [List.take_add_one, h, Option.toList_some, List.foldl_append]
  rfl
/-- the label of the first number is as it was when the second is put in -/
theorem look_second (l : List (Int × Int)) (a b : Int) : (look (setd (setd l a a) b b) a).getD 0 = (look (setd l a a) a).getD 0 := by
  rw [look_setd]
  by_cases e : a = b
  · rw [if_pos e]
    subst e
    rw [look_setd, if_pos rfl]
    rfl
  · rw [if_neg e]
/-- a list grown by what it had not -/
theorem look_none {l : List (Int × Int)} {x : Int} (h : x ∉ l.map (·.1)) : look l x = none := by
  refine look_of_not fun z => ?_
  obtain ⟨m, hm⟩ := Option.isSome_iff_exists.mp z
  unfold look at hm
  obtain ⟨p, hp, _⟩ := Option.map_eq_some_iff.mp hm
  have h1 := List.mem_of_find?_eq_some hp
  have h2 := List.find?_some hp
  exact h (List.mem_map.mpr ⟨p, h1, of_decide_eq_true h2⟩)
end Sw
namespace Sw
theorem nodup_take {α : Type} {l : List α} {j : Nat} {x : α} (h : l.Nodup) (hx : l[j]? = some x) : x ∉ l.take j := by
  intro m
  obtain ⟨i, hi⟩ := List.mem_iff_getElem?.mp m
  rw [List.getElem?_take] at hi
  by_cases c : i < j
  · rw [if_pos c] at hi
    obtain ⟨h1, e1⟩ := List.getElem?_eq_some_iff.mp hi
    obtain ⟨h2, e2⟩ := List.getElem?_eq_some_iff.mp hx
    have := (List.getElem_inj h).mp (e1.trans e2.symm)
    omega
  · rw [if_neg c] at hi
    cases hi
theorem relab_at {o n : Int} {l : List (Int × Int)} {j : Nat} {p : Int × Int} (h : l[j]? = some p) : (relab o n l)[j]? = some (p.1, if p.2 = o then n else p.2) := by
  unfold relab
  rw [List.getElem?_map, h]
  rfl
theorem relab_take_look {o n : Int} {l : List (Int × Int)} {j : Nat} {p : Int × Int} (hn : (l.map (·.1)).Nodup) (h : l[j]? = some p) : look ((relab o n l).take j) p.1 = none := by
  refine look_none ?_
  rw [List.map_take, relab_keys]
  exact nodup_take hn (by rw [List.getElem?_map, h]; rfl)
end Sw
namespace Sw
/-! ## groups by a class function on places -/
/-- the groups of a rising list of places: the first of each class, then all of its class -/
def grpsL (c : Nat → Int) (l : List Nat) : List (List Nat) := (l.filter fun p => l.all fun q => decide (q < p → c q ≠ c p)).map fun p => l.filter fun q => decide (c q = c p)

/-- what the program's dict holds after the places ahead of i -/
def grpD (c : Nat → Int) (i : Nat) : List (Int × List Nat) :=
  ((List.range i).filter fun p => (List.range i).all fun q => decide (q < p → c q ≠ c p)).map fun p => (c p, (List.range i).filter fun q => decide (c q = c p))
theorem grpD_snd (c : Nat → Int) (i : Nat) : (grpD c i).map (·.2) = grpsL c (List.range i) := by
  unfold grpD grpsL
  rw [List.map_map]
  rfl
theorem grpD_zero (c : Nat → Int) : grpD c 0 = [] := rfl
theorem grpD_fst (c : Nat → Int) (i : Nat) : (grpD c i).map (·.1) = ((List.range i).filter fun p => (List.range i).all fun q => decide (q < p → c q ≠ c p)).map c := by
  unfold grpD
  rw [List.map_map]
  rfl
theorem first_range (c : Nat → Int) (i p : Nat) (hp : p < i) : ((List.range (i + 1)).all fun q => decide (q < p → c q ≠ c p)) = (List.range i).all fun q => decide (q < p → c q ≠ c p) := by
  rw [List.range_succ, List.all_append]
  have : ([i].all fun q => decide (q < p → c q ≠ c p)) = true := by
    rw [List.all_cons, List.all_nil, Bool.and_true]
    exact decide_eq_true fun h => absurd h (by omega)
  rw [this, Bool.and_true]
theorem firsts_succ (c : Nat → Int) (i : Nat) : ((List.range (i + 1)).filter fun p => (List.range (i + 1)).all fun q => decide (q < p → c q ≠ c p)) =
    ((List.range i).filter fun p => (List.range i).all fun q => decide (q < p → c q ≠ c p)) ++ if ((List.range i).all fun q => decide (c q ≠ c i)) = true then [i] else [] := by
  have e1 : ((List.range (i + 1)).filter fun p => (List.range (i + 1)).all fun q => decide (q < p → c q ≠ c p)) =
      ((List.range i).filter fun p => (List.range (i + 1)).all fun q => decide (q < p → c q ≠ c p)) ++ ([i].filter fun p => (List.range (i + 1)).all fun q => decide (q < p → c q ≠ c p)) := by
    rw [← List.filter_append, ← List.range_succ]
  rw [e1]
  congr 1
  · exact List.filter_congr fun p hp => first_range c i p (List.mem_range.mp hp)
  · have e2 : ((List.range (i + 1)).all fun q => decide (q < i → c q ≠ c i)) = (List.range i).all fun q => decide (c q ≠ c i) := by
      rw [List.range_succ, List.all_append]
      have : ([i].all fun q => decide (q < i → c q ≠ c i)) = true := by
        rw [List.all_cons, List.all_nil, Bool.and_true]
        exact decide_eq_true fun h => absurd h (by omega)
      rw [this, Bool.and_true]
      refine Bool.eq_iff_iff.mpr ?_
      rw [List.all_eq_true, List.all_eq_true]
      constructor
      · intro h q hq
        have := of_decide_eq_true (h q hq) (List.mem_range.mp hq)
        exact decide_eq_true this
      · intro h q hq
        exact decide_eq_true fun _ => of_decide_eq_true (h q hq)
    rw [List.filter_cons, e2]
    rfl
theorem class_succ (c : Nat → Int) (i : Nat) (k : Int) : ((List.range (i + 1)).filter fun q => decide (c q = k)) = ((List.range i).filter fun q => decide (c q = k)) ++ if c i = k then [i] else [] := by
  rw [List.range_succ, List.filter_append, List.filter_cons]
  by_cases h : c i = k
  · rw [if_pos h, if_pos (decide_eq_true h)]
    rfl
  · rw [if_neg h, if_neg (by rw [decide_eq_false h]; exact Bool.false_ne_true)]
    rfl
/-- a class that is met for the first time -/
theorem grpD_new (c : Nat → Int) (i : Nat) (h : ∀ q, q < i → c q ≠ c i) : grpD c (i + 1) = grpD c i ++ [(c i, [i])] := by
  unfold grpD
  rw [firsts_succ, if_pos (List.all_eq_true.mpr fun q hq => decide_eq_true (h q (List.mem_range.mp hq))), List.map_append]
  congr 1
  · refine List.map_congr_left fun p hp => ?_
    have hp := List.mem_range.mp (List.mem_filter.mp hp).1
    rw [class_succ, if_neg (fun z => h p hp z.symm), List.append_nil]
  · show [(c i, _)] = [(c i, [i])]
    rw [class_succ, if_pos rfl]
    have : ((List.range i).filter fun q => decide (c q = c i)) = [] := List.filter_eq_nil_iff.mpr fun q hq z => h q (List.mem_range.mp hq) (of_decide_eq_true z)
    rw [this]
    rfl
/-- a class that was met -/
theorem grpD_old (c : Nat → Int) (i : Nat) (h : ∃ q, q < i ∧ c q = c i) : grpD c (i + 1) = (grpD c i).map fun e => (e.1, if e.1 = c i then e.2 ++ [i] else e.2) := by
  unfold grpD
  obtain ⟨q, hq, e⟩ := h
  have hno : ¬ ((List.range i).all fun q => decide (c q ≠ c i)) = true := fun z => by
    have z2 : c q ≠ c i := of_decide_eq_true (List.all_eq_true.mp z q (List.mem_range.mpr hq))
    exact z2 e
  rw [firsts_succ, if_neg hno, List.append_nil, List.map_map]
  refine List.map_congr_left fun p hp => ?_
  show (c p, _) = (c p, if c p = c i then _ else _)
  rw [class_succ]
  by_cases z : c i = c p
  · rw [if_pos z, if_pos z.symm]
  · rw [if_neg z, if_neg (fun y => z y.symm), List.append_nil]
/-- which keys it holds -/
theorem exists_first (c : Nat → Int) (k : Int) : ∀ (n q : Nat), q ≤ n → c q = k → ∃ p, p ≤ q ∧ c p = k ∧ ∀ r, r < p → c r ≠ k
  | 0, q, hq, e => ⟨q, Nat.le_refl _, e, fun r hr => absurd hr (by omega)⟩
  | n + 1, q, hq, e => by
    by_cases h : ∃ r, r < q ∧ c r = k
    · obtain ⟨r, hr, er⟩ := h
      obtain ⟨p, hp, ep, fp⟩ := exists_first c k n r (by omega) er
      exact ⟨p, by omega, ep, fp⟩
    · exact ⟨q, Nat.le_refl _, e, fun r hr z => h ⟨r, hr, z⟩⟩
theorem grpD_key (c : Nat → Int) (i : Nat) (k : Int) : k ∈ (grpD c i).map (·.1) ↔ ∃ q, q < i ∧ c q = k := by
  rw [grpD_fst]
  constructor
  · intro h
    obtain ⟨p, hp, e⟩ := List.mem_map.mp h
    exact ⟨p, List.mem_range.mp (List.mem_filter.mp hp).1, e⟩
  · rintro ⟨q, hq, e⟩
    obtain ⟨p, hp, ep, fp⟩ := exists_first c k q q (Nat.le_refl _) e
    refine List.mem_map.mpr ⟨p, List.mem_filter.mpr ⟨List.mem_range.mpr (by omega), List.all_eq_true.mpr fun r _ => decide_eq_true fun hr => ?_⟩, ep⟩
    rw [ep]
    exact fp r hr
theorem grpD_len (c : Nat → Int) (i : Nat) : (grpD c i).length ≤ i := by
  unfold grpD
  rw [List.length_map]
  have h := List.length_filter_le (fun p => (List.range i).all fun q => decide (q < p → c q ≠ c p)) (List.range i)
  rw [List.length_range] at h
  exact h
theorem grpD_nodup (c : Nat → Int) : ∀ i, ((grpD c i).map (·.1)).Nodup
  | 0 => List.nodup_nil
  | i + 1 => by
    by_cases h : ∃ q, q < i ∧ c q = c i
    · rw [grpD_old c i h, List.map_map]
      exact grpD_nodup c i
    · have h' : ∀ q, q < i → c q ≠ c i := fun q hq e => h ⟨q, hq, e⟩
      rw [grpD_new c i h', List.map_append]
      refine List.nodup_append.mpr ⟨grpD_nodup c i, by simp, fun a ha b hb e => ?_⟩
      have hb : b = c i := List.mem_singleton.mp hb
      rw [e, hb] at ha
      obtain ⟨q, hq, z⟩ := (grpD_key c i (c i)).mp ha
      exact h' q hq z

/-! ## the same by walks: one class out of the list at a time -/
theorem grpsL_nil (c : Nat → Int) : grpsL c [] = [] := rfl
theorem grpsL_cons (c : Nat → Int) (p : Nat) (r : List Nat) (hs : (p :: r).Pairwise (· < ·)) :
    grpsL c (p :: r) = ((p :: r).filter fun q => decide (c q = c p)) :: grpsL c (r.filter fun q => decide (c q ≠ c p)) := by
  obtain ⟨h1, h2⟩ := List.pairwise_cons.mp hs
  unfold grpsL
  have f1 : ((p :: r).all fun q => decide (q < p → c q ≠ c p)) = true := by
    refine List.all_eq_true.mpr fun q hq => decide_eq_true fun hlt => ?_
    rcases List.mem_cons.mp hq with e | e
    · omega
    · have := h1 q e
      omega
  rw [List.filter_cons, if_pos f1, List.map_cons]
  congr 1
  have f2 : (r.filter fun q => (p :: r).all fun q' => decide (q' < q → c q' ≠ c q)) = ((r.filter fun q => decide (c q ≠ c p)).filter fun q => (r.filter fun q => decide (c q ≠ c p)).all fun q' => decide (q' < q → c q' ≠ c q)) := by
    rw [List.filter_filter]
    refine List.filter_congr fun q hq => ?_
    refine Bool.eq_iff_iff.mpr ?_
    rw [Bool.and_eq_true, List.all_eq_true, List.all_eq_true]
    constructor
    · intro h
      refine ⟨fun q' hq' => ?_, ?_⟩
      · exact h q' (List.mem_cons.mpr (.inr (List.mem_filter.mp hq').1))
      · have := of_decide_eq_true (h p List.mem_cons_self) (h1 q hq)
        exact decide_eq_true fun z => this z.symm
    · rintro ⟨h, h'⟩ q' hq'
      have h' := of_decide_eq_true h'
      refine decide_eq_true fun hlt => ?_
      rcases List.mem_cons.mp hq' with e | e
      · rw [e]
        exact fun z => h' z.symm
      · by_cases z : c q' = c p
        · rw [z]
          exact fun y => h' y.symm
        · exact of_decide_eq_true (h q' (List.mem_filter.mpr ⟨e, decide_eq_true z⟩)) hlt
  rw [f2]
  refine List.map_congr_left fun q hq => ?_
  have hq' := of_decide_eq_true (List.mem_filter.mp (List.mem_filter.mp hq).1).2
  rw [List.filter_cons, if_neg (by rw [decide_eq_false (fun z => hq' z.symm)]; exact Bool.false_ne_true), List.filter_filter]
  refine List.filter_congr fun x _ => ?_
  refine Bool.eq_iff_iff.mpr ?_
  rw [Bool.and_eq_true, decide_eq_true_eq, decide_eq_true_eq]
  exact ⟨fun z => ⟨z, by rw [z]; exact hq'⟩, fun z => z.1⟩

/-- each place of the list stands in just one of the groups -/
theorem grpsL_perm (c : Nat → Int) : ∀ (n : Nat) (l : List Nat), l.length ≤ n → l.Pairwise (· < ·) → (grpsL c l).flatten.Perm l
  | 0, [], _, _ => List.Perm.refl _
  | n + 1, [], _, _ => List.Perm.refl _
  | n + 1, p :: r, hn, hs => by
    rw [grpsL_cons c p r hs, List.flatten_cons]
    have h2 := (List.pairwise_cons.mp hs).2
    have ih := grpsL_perm c n (r.filter fun q => decide (c q ≠ c p)) (Nat.le_trans (List.length_filter_le _ _) (Nat.le_of_succ_le_succ hn)) (h2.filter _)
    refine (List.Perm.append_left _ ih).trans ?_
    have e : (r.filter fun q => decide (c q ≠ c p)) = (p :: r).filter fun q => !decide (c q = c p) := by
      rw [List.filter_cons, if_neg (by rw [decide_eq_true rfl]; exact Bool.false_ne_true)]
      refine List.filter_congr fun x _ => ?_
      by_cases z : c x = c p
      · rw [decide_eq_true z, decide_eq_false (fun y => y z)]
        rfl
      · rw [decide_eq_false z, decide_eq_true z]
        rfl
    rw [e]
    exact List.filter_append_perm _ _
end Sw
namespace Sw
/-! ## two rising lists of the same items -/
theorem perm_sorted_eq : ∀ {l m : List Int}, l.Perm m → l.Pairwise (· ≤ ·) → m.Pairwise (· ≤ ·) → l = m
  | [], m, h, _, _ => (List.nil_perm.mp h).symm
  | a :: l, [], h, _, _ => by
    have := h.length_eq
    simp at this
  | a :: l, b :: m, h, hl, hm => by
    obtain ⟨l1, l2⟩ := List.pairwise_cons.mp hl
    obtain ⟨m1, m2⟩ := List.pairwise_cons.mp hm
    have e : a = b := by
      have ha : a ∈ b :: m := h.mem_iff.mp List.mem_cons_self
      have hb : b ∈ a :: l := h.mem_iff.mpr List.mem_cons_self
      rcases List.mem_cons.mp ha with e | ha
      · exact e
      rcases List.mem_cons.mp hb with e | hb
      · exact e.symm
      have := m1 a ha
      have := l1 b hb
      omega
    subst e
    rw [perm_sorted_eq h.cons_inv l2 m2]
theorem sorted_ext {l m : List Int} (hl : l.Pairwise (· < ·)) (hm : m.Pairwise (· < ·)) (h : ∀ k, k ∈ l ↔ k ∈ m) : l = m := by
  have nd : ∀ {l : List Int}, l.Pairwise (· < ·) → l.Nodup := fun h => h.imp fun h => by omega
  have le : ∀ {l : List Int}, l.Pairwise (· < ·) → l.Pairwise (· ≤ ·) := fun h => h.imp fun h => by omega
  exact perm_sorted_eq ((List.perm_ext_iff_of_nodup (nd hl) (nd hm)).mpr h) (le hl) (le hm)
theorem nat_sorted_ext {l m : List Nat} (hl : l.Pairwise (· < ·)) (hm : m.Pairwise (· < ·)) (h : ∀ k, k ∈ l ↔ k ∈ m) : l = m := by
  have up : ∀ {l : List Nat}, l.Pairwise (· < ·) → (l.map fun n : Nat => (n : Int)).Pairwise (· < ·) := fun h => List.pairwise_map.mpr (h.imp fun h => by omega)
  have e := sorted_ext (up hl) (up hm) fun k => by
    rw [List.mem_map, List.mem_map]
    exact ⟨fun ⟨a, ha, e⟩ => ⟨a, (h a).mp ha, e⟩, fun ⟨a, ha, e⟩ => ⟨a, (h a).mpr ha, e⟩⟩
  exact (List.map_inj_right (f := fun n : Nat => (n : Int)) (fun a b (e : (a : Int) = b) => by omega)).mp e

/-! ## places and their stones -/
def sa (st : List (Int × Int)) (p : Nat) : Int := (st.getD p (0, 0)).1
def sb (st : List (Int × Int)) (p : Nat) : Int := (st.getD p (0, 0)).2
def cls (st : List (Int × Int)) (p : Nat) : Int := lab st (sa st p)
theorem st_at {st : List (Int × Int)} {p : Nat} (h : p < st.length) : st[p]? = some (sa st p, sb st p) := by
  unfold sa sb
  rw [List.getD_eq_getElem?_getD, List.getElem?_eq_getElem h]
  rfl
theorem st_mem {st : List (Int × Int)} {p : Nat} (h : p < st.length) : (sa st p, sb st p) ∈ st := List.mem_of_getElem? (st_at h)
theorem st_ends {st : List (Int × Int)} {p : Nat} (h : p < st.length) : IsEnd st (sa st p) ∧ IsEnd st (sb st p) := ⟨⟨_, st_mem h, .inl rfl⟩, ⟨_, st_mem h, .inr rfl⟩⟩
theorem conn_of_cls {st : List (Int × Int)} {p q : Nat} (hp : p < st.length) (hq : q < st.length) : cls st p = cls st q ↔ Conn st (sa st p) (sa st q) := lab_iff (st_ends hp).1 (st_ends hq).1
/-- the groups of the stones -/
def grps (st : List (Int × Int)) : List (List Nat) := grpsL (cls st) (List.range st.length)

/-! ## the law's walk: one group -/
def touch (st : List (Int × Int)) (ns : List Int) (q : Nat) : Bool := decide (sa st q ∈ ns) || decide (sb st q ∈ ns)
def endsOf (st : List (Int × Int)) (l : List Nat) : List Int := l.flatMap fun q => [sa st q, sb st q]
theorem mem_endsOf {st : List (Int × Int)} {l : List Nat} {x : Int} : x ∈ endsOf st l ↔ ∃ q ∈ l, x = sa st q ∨ x = sb st q := by
  unfold endsOf
  rw [List.mem_flatMap]
  constructor
  · rintro ⟨q, hq, h⟩
    refine ⟨q, hq, ?_⟩
    rcases List.mem_cons.mp h with h | h
    · exact .inl h
    · exact .inr (List.mem_singleton.mp h)
  · rintro ⟨q, hq, h⟩
    refine ⟨q, hq, ?_⟩
    rcases h with h | h
    · exact List.mem_cons.mpr (.inl h)
    · exact List.mem_cons.mpr (.inr (List.mem_singleton.mpr h))
theorem endsOf_append (st : List (Int × Int)) (l m : List Nat) : endsOf st (l ++ m) = endsOf st l ++ endsOf st m := List.flatMap_append

/-- a rising list of places that holds whole groups -/
structure Whole (st : List (Int × Int)) (l : List Nat) : Prop where
  up : l.Pairwise (· < ·)
  lt : ∀ q ∈ l, q < st.length
  all : ∀ q ∈ l, ∀ k, k < st.length → cls st k = cls st q → k ∈ l
theorem whole_range (st : List (Int × Int)) : Whole st (List.range st.length) :=
  ⟨List.pairwise_lt_range, fun _ h => List.mem_range.mp h, fun _ _ _ h _ => List.mem_range.mpr h⟩
theorem Whole.rest {st : List (Int × Int)} {p : Nat} {r : List Nat} (h : Whole st (p :: r)) : Whole st (r.filter fun q => decide (cls st q ≠ cls st p)) := by
  refine ⟨(List.pairwise_cons.mp h.up).2.filter _, fun q hq => h.lt q (List.mem_cons.mpr (.inr (List.mem_filter.mp hq).1)), fun q hq k hk e => ?_⟩
  obtain ⟨h1, h2⟩ := List.mem_filter.mp hq
  have h2 : cls st q ≠ cls st p := of_decide_eq_true h2
  have hm := h.all q (List.mem_cons.mpr (.inr h1)) k hk e
  rcases List.mem_cons.mp hm with z | z
  · rw [z] at e
    exact absurd e.symm h2
  · exact List.mem_filter.mpr ⟨z, decide_eq_true (by rw [e]; exact h2)⟩

/-- what the walk knows: the places of the group so far, those that are left -/
structure Walk1 (st : List (Int × Int)) (p : Nat) (r left group : List Nat) (ns : List Int) : Prop where
  left : left = r.filter fun q => decide (q ∉ group)
  nd : group.Nodup
  has : p ∈ group
  sub : ∀ q ∈ group, q ∈ p :: r ∧ cls st q = cls st p
  num : ∀ x, x ∈ ns ↔ x ∈ endsOf st group
theorem walk1_start {st : List (Int × Int)} {p : Nat} {r : List Nat} (h : Whole st (p :: r)) : Walk1 st p r r [p] [sa st p, sb st p] := by
  refine ⟨?_, by simp, List.mem_singleton.mpr rfl, fun q hq => ?_, fun x => Iff.rfl⟩
  · symm
    refine List.filter_eq_self.mpr fun q hq => decide_eq_true fun z => ?_
    have := (List.pairwise_cons.mp h.up).1 q hq
    have := List.mem_singleton.mp z
    omega
  · have e := List.mem_singleton.mp hq
    rw [e]
    exact ⟨List.mem_cons_self, rfl⟩
theorem cls_touch {st : List (Int × Int)} {q k : Nat} (hq : q < st.length) (hk : k < st.length) {x : Int} (e1 : x = sa st q ∨ x = sb st q) (e2 : x = sa st k ∨ x = sb st k) : cls st q = cls st k := by
  refine (conn_of_cls hq hk).mpr ?_
  have c1 : Conn st (sa st q) x := by
    rcases e1 with e | e
    · rw [e]
      exact .refl _
    · rw [e]
      exact .edge (st_mem hq)
  have c2 : Conn st (sa st k) x := by
    rcases e2 with e | e
    · rw [e]
      exact .refl _
    · rw [e]
      exact .edge (st_mem hk)
  exact c1.trans c2.symm
theorem touch_iff {st : List (Int × Int)} {ns : List Int} {q : Nat} : touch st ns q = true ↔ ∃ x, x ∈ ns ∧ (x = sa st q ∨ x = sb st q) := by
  unfold touch
  rw [Bool.or_eq_true, decide_eq_true_eq, decide_eq_true_eq]
  constructor
  · rintro (h | h)
    · exact ⟨_, h, .inl rfl⟩
    · exact ⟨_, h, .inr rfl⟩
  · rintro ⟨x, h, e | e⟩
    · rw [← e]
      exact .inl h
    · rw [← e]
      exact .inr h
theorem Walk1.turn {st : List (Int × Int)} {p : Nat} {r left group : List Nat} {ns ns' : List Int} (h : Whole st (p :: r)) (w : Walk1 st p r left group ns) (e : ns' = ns ++ endsOf st (left.filter (touch st ns))) :
    Walk1 st p r (left.filter fun q => decide (q ∉ left.filter (touch st ns))) (group ++ left.filter (touch st ns)) ns' := by
  have hleft : ∀ q, q ∈ left ↔ q ∈ r ∧ q ∉ group := fun q => by
    rw [w.left, List.mem_filter, decide_eq_true_eq]
  have ndr : r.Nodup := (List.pairwise_cons.mp h.up).2.imp fun h => by omega
  have ndl : left.Nodup := by
    rw [w.left]
    exact ndr.filter _
  refine ⟨?_, ?_, List.mem_append.mpr (.inl w.has), fun q hq => ?_, fun x => ?_⟩
  · rw [w.left, List.filter_filter]
    refine List.filter_congr fun q hq => ?_
    refine Bool.eq_iff_iff.mpr ?_
    rw [Bool.and_eq_true, decide_eq_true_eq, decide_eq_true_eq, decide_eq_true_eq, List.mem_append, not_or]
    exact And.comm
  · refine List.nodup_append.mpr ⟨w.nd, ndl.filter _, fun a ha b hb z => ?_⟩
    rw [z] at ha
    exact ((hleft b).mp (List.mem_filter.mp hb).1).2 ha
  · rcases List.mem_append.mp hq with hq | hq
    · exact w.sub q hq
    · obtain ⟨h1, h2⟩ := List.mem_filter.mp hq
      have hr := ((hleft q).mp h1).1
      refine ⟨List.mem_cons.mpr (.inr hr), ?_⟩
      obtain ⟨x, hx, ex⟩ := touch_iff.mp h2
      obtain ⟨k, hk, ek⟩ := mem_endsOf.mp ((w.num x).mp hx)
      obtain ⟨k1, k2⟩ := w.sub k hk
      rw [← k2]
      exact cls_touch (h.lt q (List.mem_cons.mpr (.inr hr))) (h.lt k k1) ex ek
  · rw [e, endsOf_append, List.mem_append, List.mem_append, w.num]
theorem Walk1.fin {st : List (Int × Int)} {p : Nat} {r left group : List Nat} {ns : List Int} (h : Whole st (p :: r)) (w : Walk1 st p r left group ns) (e : left.filter (touch st ns) = []) :
    (∀ q, q ∈ group ↔ q ∈ (p :: r).filter fun q => decide (cls st q = cls st p)) ∧ left = r.filter fun q => decide (cls st q ≠ cls st p) := by
  have hleft : ∀ q, q ∈ left ↔ q ∈ r ∧ q ∉ group := fun q => by
    rw [w.left, List.mem_filter, decide_eq_true_eq]
  have no : ∀ q ∈ left, touch st ns q = false := fun q hq => by
    cases z : touch st ns q with
    | false => rfl
    | true =>
      have : q ∈ left.filter (touch st ns) := List.mem_filter.mpr ⟨hq, z⟩
      rw [e] at this
      cases this
  -- a stone that touches the numbers lies in the group
  have key : ∀ k, k < st.length → touch st ns k = true → k ∈ group := by
    intro k hk t
    obtain ⟨x, hx, ex⟩ := touch_iff.mp t
    obtain ⟨q, hq, eq⟩ := mem_endsOf.mp ((w.num x).mp hx)
    obtain ⟨q1, q2⟩ := w.sub q hq
    have ck := cls_touch hk (h.lt q q1) ex eq
    have km := h.all q q1 k hk ck
    by_cases kg : k ∈ group
    · exact kg
    · rcases List.mem_cons.mp km with z | z
      · rw [z] at kg
        exact absurd w.has kg
      · have := no k ((hleft k).mpr ⟨z, kg⟩)
        rw [this] at t
        cases t
  have conn : ∀ {x y : Int}, Conn st x y → (x ∈ ns ↔ y ∈ ns) := by
    intro x y c
    induction c with
    | refl x => exact Iff.rfl
    | @edge a b he =>
      obtain ⟨k, hk⟩ := List.mem_iff_getElem?.mp he
      have kl : k < st.length := (List.getElem?_eq_some_iff.mp hk).1
      rw [st_at kl] at hk
      have hk := Option.some.inj hk
      have e1 : sa st k = a := congrArg Prod.fst hk
      have e2 : sb st k = b := congrArg Prod.snd hk
      constructor
      · intro ha
        have kg := key k kl (touch_iff.mpr ⟨a, ha, .inl e1.symm⟩)
        exact (w.num b).mpr (mem_endsOf.mpr ⟨k, kg, .inr e2.symm⟩)
      · intro hb
        have kg := key k kl (touch_iff.mpr ⟨b, hb, .inr e2.symm⟩)
        exact (w.num a).mpr (mem_endsOf.mpr ⟨k, kg, .inl e1.symm⟩)
    | symm _ ih => exact ih.symm
    | trans _ _ i1 i2 => exact i1.trans i2
  have grp : ∀ q, q ∈ group ↔ q ∈ (p :: r).filter fun q => decide (cls st q = cls st p) := by
    intro q
    rw [List.mem_filter, decide_eq_true_eq]
    constructor
    · exact w.sub q
    · rintro ⟨hq, ec⟩
      have hp := h.lt p List.mem_cons_self
      have hql := h.lt q hq
      have c := (conn_of_cls hql hp).mp ec
      have pin : sa st p ∈ ns := (w.num _).mpr (mem_endsOf.mpr ⟨p, w.has, .inl rfl⟩)
      exact key q hql (touch_iff.mpr ⟨_, (conn c).mpr pin, .inl rfl⟩)
  refine ⟨grp, ?_⟩
  rw [w.left]
  refine List.filter_congr fun q hq => ?_
  refine Bool.eq_iff_iff.mpr ?_
  rw [decide_eq_true_eq, decide_eq_true_eq, grp q, List.mem_filter, decide_eq_true_eq]
  constructor
  · intro z y
    exact z ⟨List.mem_cons.mpr (.inr hq), y⟩
  · intro z y
    exact z y.2
/-- the sorted group is the group -/
theorem Walk1.sorted {st : List (Int × Int)} {p : Nat} {r left group : List Nat} {ns : List Int} (h : Whole st (p :: r)) (w : Walk1 st p r left group ns) (e : left.filter (touch st ns) = []) {gs : List Int}
    (hp : gs.Perm (group.map fun n : Nat => (n : Int))) (hs : gs.Pairwise (· ≤ ·)) : gs = ((p :: r).filter fun q => decide (cls st q = cls st p)).map fun n : Nat => (n : Int) := by
  have g := (w.fin h e).1
  have u := h.up.filter fun q => decide (cls st q = cls st p)
  have pm : group.Perm ((p :: r).filter fun q => decide (cls st q = cls st p)) := (List.perm_ext_iff_of_nodup w.nd (u.imp fun h => by omega)).mpr g
  exact perm_sorted_eq (hp.trans (pm.map _)) hs (List.pairwise_map.mpr (u.imp fun h => by omega))
end Sw
namespace Sw
/-! ## numbers that stand an odd number of times -/
def IsOdd (E l : List Int) : Prop := l.Pairwise (· < ·) ∧ ∀ k, k ∈ l ↔ E.count k % 2 = 1
theorem IsOdd.uniq {E l m : List Int} (a : IsOdd E l) (b : IsOdd E m) : l = m := sorted_ext a.1 b.1 fun k => (a.2 k).trans (b.2 k).symm
def tog (x : Int) : List Int → List Int
  | [] => [x]
  | y :: l => if x < y then x :: y :: l else if x = y then l else y :: tog x l
def oddL (E : List Int) : List Int := E.foldr tog []
theorem tog_mem {x k : Int} : ∀ {l : List Int}, l.Pairwise (· < ·) → (k ∈ tog x l ↔ if k = x then x ∉ l else k ∈ l)
  | [], _ => by
    show k ∈ [x] ↔ _
    rw [List.mem_singleton]
    by_cases h : k = x
    · rw [if_pos h]
      exact ⟨fun _ z => (by cases z), fun _ => h⟩
    · rw [if_neg h]
      exact ⟨fun z => absurd z h, fun z => (by cases z)⟩
  | y :: l, hp => by
    obtain ⟨h1, h2⟩ := List.pairwise_cons.mp hp
    have ih := tog_mem (x := x) (k := k) h2
    unfold tog
    by_cases c1 : x < y
    · rw [if_pos c1]
      have nx : x ∉ y :: l := fun z => by
        rcases List.mem_cons.mp z with e | e
        · omega
        · have := h1 x e
          omega
      by_cases h : k = x
      · rw [if_pos h]
        exact ⟨fun _ => nx, fun _ => by rw [h]; exact List.mem_cons_self⟩
      · rw [if_neg h]
        exact ⟨fun z => (List.mem_cons.mp z).resolve_left h, fun z => List.mem_cons.mpr (.inr z)⟩
    · rw [if_neg c1]
      by_cases c2 : x = y
      · rw [if_pos c2]
        have nx : x ∉ l := fun z => by
          have := h1 x z
          omega
        by_cases h : k = x
        · rw [if_pos h]
          rw [h]
          exact ⟨fun z => absurd z nx, fun z => absurd (by rw [c2]; exact List.mem_cons_self) z⟩
        · rw [if_neg h]
          exact ⟨fun z => List.mem_cons.mpr (.inr z), fun z => (List.mem_cons.mp z).resolve_left (by omega)⟩
      · rw [if_neg c2, List.mem_cons, ih]
        by_cases h : k = x
        · rw [if_pos h, if_pos h, List.mem_cons]
          constructor
          · rintro (z | z)
            · omega
            · rintro (y' | y')
              · exact c2 y'
              · exact z y'
          · intro z
            exact .inr fun y' => z (.inr y')
        · rw [if_neg h, if_neg h, List.mem_cons]
theorem tog_up {x : Int} : ∀ {l : List Int}, l.Pairwise (· < ·) → (tog x l).Pairwise (· < ·)
  | [], _ => by
    show ([x] : List Int).Pairwise (· < ·)
    exact List.pairwise_singleton _ _
  | y :: l, hp => by
    obtain ⟨h1, h2⟩ := List.pairwise_cons.mp hp
    have ih := tog_up (x := x) h2
    unfold tog
    by_cases c1 : x < y
    · rw [if_pos c1]
      refine List.pairwise_cons.mpr ⟨fun z hz => ?_, hp⟩
      rcases List.mem_cons.mp hz with e | e
      · omega
      · have := h1 z e
        omega
    · rw [if_neg c1]
      by_cases c2 : x = y
      · rw [if_pos c2]
        exact h2
      · rw [if_neg c2]
        refine List.pairwise_cons.mpr ⟨fun z hz => ?_, ih⟩
        have := (tog_mem h2).mp hz
        by_cases e : z = x
        · omega
        · rw [if_neg e] at this
          exact h1 z this
theorem tog_len (x : Int) : ∀ (l : List Int), (tog x l).length % 2 = (l.length + 1) % 2
  | [] => rfl
  | y :: l => by
    have ih := tog_len x l
    unfold tog
    by_cases c1 : x < y
    · rw [if_pos c1]
      rfl
    · rw [if_neg c1]
      by_cases c2 : x = y
      · rw [if_pos c2, List.length_cons]
        omega
      · rw [if_neg c2, List.length_cons, List.length_cons]
        omega
theorem tog_size (x : Int) : ∀ (l : List Int), (tog x l).length ≤ l.length + 1 ∧ l.length ≤ (tog x l).length + 1
  | [] => ⟨Nat.le_refl _, Nat.zero_le _⟩
  | y :: l => by
    have ih := tog_size x l
    unfold tog
    by_cases c1 : x < y
    · rw [if_pos c1]
      simp only [List.length_cons]
      omega
    · rw [if_neg c1]
      by_cases c2 : x = y
      · rw [if_pos c2]
        simp only [List.length_cons]
        omega
      · rw [if_neg c2]
        simp only [List.length_cons]
        omega
theorem oddL_cons (x : Int) (E : List Int) : oddL (x :: E) = tog x (oddL E) := rfl
theorem oddL_ok : ∀ E : List Int, IsOdd E (oddL E)
  | [] => ⟨List.Pairwise.nil, fun k => ⟨fun z => (by cases z), fun z => by rw [List.count_nil] at z; omega⟩⟩
  | x :: E => by
    have ih := oddL_ok E
    refine ⟨tog_up ih.1, fun k => ?_⟩
    rw [oddL_cons, tog_mem ih.1, List.count_cons]
    by_cases h : k = x
    · rw [if_pos h, ih.2, if_pos (by rw [h]; exact beq_self_eq_true _), h]
      omega
    · rw [if_neg h, ih.2, if_neg (fun z => h (eq_of_beq z).symm)]
      exact Iff.rfl
theorem oddL_len : ∀ E : List Int, (oddL E).length % 2 = E.length % 2
  | [] => rfl
  | x :: E => by
    have := oddL_len E
    rw [oddL_cons, tog_len, List.length_cons]
    omega
theorem oddL_le : ∀ E : List Int, (oddL E).length ≤ E.length
  | [] => Nat.le_refl _
  | x :: E => by
    have := oddL_le E
    have := (tog_size x (oddL E)).1
    rw [oddL_cons, List.length_cons]
    omega
/-- from the sorted keys of the counts -/
theorem isOdd_filter {E ks : List Int} (hp : ks.Pairwise (· < ·)) (hk : ∀ k, k ∈ ks ↔ k ∈ E) : IsOdd E (ks.filter fun k => decide (E.count k % 2 = 1)) := by
  refine ⟨hp.filter _, fun k => ?_⟩
  rw [List.mem_filter, decide_eq_true_eq, hk]
  constructor
  · exact fun z => z.2
  · intro z
    refine ⟨?_, z⟩
    have : 0 < E.count k := by omega
    exact List.count_pos_iff.mp this
theorem isOdd_mem {E l : List Int} (hp : l.Pairwise (· < ·)) (hk : ∀ k, k ∈ l ↔ k ∈ E.filter fun k => decide (E.count k % 2 = 1)) : IsOdd E l := by
  refine ⟨hp, fun k => ?_⟩
  rw [hk, List.mem_filter, decide_eq_true_eq]
  constructor
  · exact fun z => z.2
  · intro z
    exact ⟨List.count_pos_iff.mp (by omega), z⟩
theorem endsOf_len (st : List (Int × Int)) : ∀ l : List Nat, (endsOf st l).length = 2 * l.length
  | [] => rfl
  | q :: l => by
    have := endsOf_len st l
    show (sa st q :: sb st q :: endsOf st l).length = _
    simp only [List.length_cons]
    omega
/-- the odd ends of the stones at these places -/
def odds (st : List (Int × Int)) (l : List Nat) : List Int := oddL (endsOf st l)
theorem odds_even (st : List (Int × Int)) (l : List Nat) : (odds st l).length % 2 = 0 := by
  unfold odds
  rw [oddL_len, endsOf_len]
  omega
theorem lt_of_le_nd : ∀ {l : List Int}, l.Pairwise (· ≤ ·) → l.Nodup → l.Pairwise (· < ·)
  | [], _, _ => List.Pairwise.nil
  | a :: l, h, n => by
    obtain ⟨h1, h2⟩ := List.pairwise_cons.mp h
    obtain ⟨n1, n2⟩ := List.nodup_cons.mp n
    refine List.pairwise_cons.mpr ⟨fun b hb => ?_, lt_of_le_nd h2 n2⟩
    have := h1 b hb
    have : a ≠ b := fun e => n1 (by rw [e]; exact hb)
    omega
/-- how many chains it takes -/
def few (st : List (Int × Int)) : Nat := ((grps st).map fun g => max 1 ((odds st g).length / 2)).sum
end Sw
set_option maxHeartbeats 3200000
namespace Sw
open PySem PySem.Spec PyProof.Rows L2
abbrev emptyS (w : World) : Obj := { cls := .type "set", dict := none, data := .set #[] 0 (.fresh 0 0 (!w.params.followText "set-order")) }
abbrev withS (w : World) (h : Heap) : Heap := h.push (emptyS w)
section
variable {P : Program} {w : World} {A : Around} {E : Value → Shared → Prop} {s : Shared}
/-- set(xs) of a list of ints -/
theorem set_of_ints {at_ : Addr} {us : Array Value} (zs : List Int) {Q : Value → Shared → Prop} (calm : A.handled = none) (hl : s.heap.IsList at_ us) (hi : IntsAre us.toList zs) (few : zs.length + 1 < scanBound)
    (q : ∀ (h' : Heap) (tk n : Nat), SetR w h' s.heap.objs.size (fun j => decide (j ∈ zs)) n → n ≤ zs.length → (∀ b o, s.heap.get? b = some o → h'.get? b = some o) → Q (.ref s.heap.objs.size) { s with heap := h', toks := tk }) :
    wpAny (model P w) A (call (.type "set") [.ref at_]) Q E s := by
  have usz : us.size = zs.length := by
    have z := IntsAre.length hi
    rw [Array.length_toList] at z
    exact z
  obtain ⟨c, tl, mro_⟩ := F.called_set.mro
  have made_ := F.called_set.made
  have sub_ := F.called_set.sub
  refine wpAny_call (codeAny_of_tree ?_)
  show wpAny _ _ (callAny (.type "set") _) _ _ _
  refine wpAny_pure ⟨Code.quiet_builtin _ (by decide +kernel), codeAny_builtin F.entry_type_call ?_⟩
  rw [Around.under_plain (weight_type_call_type "set" [.ref at_] []) rfl]
  have t1 := F.called_set.notType
  have t2 := F.called_set.canCreate
  have t3 := F.typeCall_set_1 (.ref at_)
  repeat (any_goals (first | assumption | wp_step))
  refine codeAny_mono (code_set_led1 (.ref at_) (E := E) (Q₁ := fun ob s1 => ob = .ref s.heap.objs.size ∧ s1 = { s with heap := withS w s.heap }) ⟨rfl, rfl⟩) fun r s1 hr => ?_
  cases r with
  | error e => exact hr
  | ok fl =>
    cases fl with
    | ret ob =>
      obtain ⟨rfl, rfl⟩ := hr
      have new : (withS w s.heap).get? s.heap.objs.size = some (emptyS w) := Heap.get?_push_size _ rfl
      have typ : Shared.TypeIs { s with heap := withS w s.heap } (.ref s.heap.objs.size) "set" := ⟨_, new, rfl⟩
      have i1 := F.called_set.init.lookup
      have i2 := F.called_set.init.bind (.ref s.heap.objs.size)
      repeat (any_goals (first | assumption | wp_step))
      refine codeAny_mono (codeAny_call_builtin (R := wants (fun r s2 => r = .none ∧ ∃ h' tk n, s2 = { s with heap := h', toks := tk } ∧ SetR w h' s.heap.objs.size (fun j => decide (j ∈ zs)) n ∧ n ≤ zs.length ∧
          (∀ b o, s.heap.get? b = some o → h'.get? b = some o)) E) F.called_set.init.plain F.entry_set_init (check_set_init_1 typ ?_)) fun r2 s2 hr2 => ?_
      · obtain ⟨ol, hol, hcl, nl, hdl⟩ := hl
        obtain ⟨ocls, odict, odata, oslots⟩ := ol
        simp only at hcl hdl
        subst hcl
        subst hdl
        have there : (withS w s.heap).get? at_ = some { cls := .type "list", dict := odict, data := .seq us nl, slots := oslots } := Heap.get?_push_of_some _ hol
        have n1 := F.sub_list_set
        have n2 := F.sub_list_frozenset
        have n3 : (Value.type "list" == Value.type "dict") = false := by decide
        have ls1 : (withS w s.heap).IsList at_ us := ⟨_, there, rfl, nl, rfl⟩
        unfold Builtin.«set.__init__» noKeywords Builtin.Frozenset.updateFrom
        generalize ePI : pyIter = PI
        wp_walk
        subst ePI
        refine wpAny_pyIter_list ls1 ?_
        refine wpAny_bind (wpAny_runValue ?_)
        have lt0 : at_ < s.heap.objs.size := Heap.lt_size hol
        have calm3 : A.in1.in1.in1.handled = none := by simp [calm]
        have apart : at_ ≠ (withS w s.heap).objs.size := by
          rw [Heap.size_push]
          exact Nat.ne_of_lt (Nat.lt_succ_of_lt lt0)
        have notIn : s.heap.objs.size ∉ [(withS w s.heap).objs.size, at_] := by
          rw [Heap.size_push]
          simp only [List.mem_cons, List.mem_singleton, List.not_mem_nil, or_false, not_or]
          exact ⟨Nat.ne_of_lt (Nat.lt_succ_self _), Nat.ne_of_gt lt0⟩
        have vals : ∀ (i : Nat) (v : Value), us[i]? = some v → ∃ k t, zs[i]? = some k ∧ v = .int k t := fun i v hv => by
          have lt1 : i < zs.length := by
            rw [← usz]
            exact (Array.getElem?_eq_some_iff.mp hv).1
          obtain ⟨t, e⟩ := PyProof.Rows.IntsAre.int_at hi i v (by rw [Array.getElem?_toList]; exact hv)
          refine ⟨zs[i], t, List.getElem?_eq_getElem lt1, ?_⟩
          rw [e, List.getD_eq_getElem?_getD, List.getElem?_eq_getElem lt1]
          all_goals rfl
        refine set_update_ints ((Walks.list calm3 _ at_ apart us).toS) s.heap.objs.size notIn zs usz few vals (us.size - 0) 0 _ (by omega) (Nat.zero_le _) ⟨⟨_, Heap.get?_push_size _ rfl, rfl, rfl⟩, (ls1.push _)⟩ ?a0 ?a1
        case a0 =>
          have g0 : ((withS w s.heap).push { cls := .type "list_iterator", data := .fields #[.ref at_, .int 0 0] }).get? s.heap.objs.size = some (emptyS w) := Heap.get?_push_of_some _ new
          exact ⟨0, Nat.le_refl 0, setR_new_at g0⟩
        case a1 =>
          intro s' n hm hn hS'
          obtain ⟨h', g2, d', tk', os'⟩ := s'
          have e1 : g2 = s.gens := hm.gens
          have e2 : d' = s.drawn := hm.drawn
          have e3 : os' = s.os := hm.os
          subst e1
          subst e2
          subst e3
          show wpAny _ _ _ _ _ _
          refine wpAny_pure ?_
          show wpAny _ _ (ret Value.none) _ _ _
          rw [usz] at hn
          refine wpAny_pure ⟨rfl, h', tk', n, rfl, hS', hn, fun b o e => ?_⟩
          have b0 : b < s.heap.objs.size := Heap.lt_size e
          have b1 : b ≠ s.heap.objs.size := Nat.ne_of_lt b0
          have b2 : b ≠ (withS w s.heap).objs.size := by
            rw [Heap.size_push]
            exact Nat.ne_of_lt (Nat.lt_succ_of_lt b0)
          exact hm.heap b o (by simp only [List.mem_cons, List.mem_singleton, List.not_mem_nil, or_false, not_or]; exact ⟨b1, b2⟩) (Heap.get?_push_of_some _ (Heap.get?_push_of_some _ e))
      · cases r2 with
        | error e => exact hr2
        | ok fl2 =>
          cases fl2 with
          | ret r =>
            obtain ⟨rfl, h', tk, n, rfl, hS', hn, k'⟩ := hr2
            repeat (any_goals (first | assumption | wp_step))
            exact q _ _ _ hS' hn k'
          | _ => exact hr2.elim
    | _ => exact hr.elim
end
section
variable {X : Cx}
/-- set(xs): at most 62 ints or so -/
def rSetI (K : PySem.W.Frag) (w : World) : List V → Hp → VK → Prop := fun xs H Q => ∃ (l : Addr) (zs : List Int), xs = [.ref l] ∧ SqL K H l (zs.map V.int) ∧ zs.length ≤ 1000 ∧
  ∀ (n : Nat) (p : Addr), n ≤ zs.length → H p = none → Q (.ref p) (upd H p (SetO w p (fun j => decide (j ∈ zs)) n))
theorem cr_setI (hc : X.calm = true) : CallR X (.type "set") (rSetI X.K X.w) := by
  intro pins s σ H xs us Q I r h
  obtain ⟨l, zs, rfl, hl, few, q⟩ := h
  rw [Vals.ref1 r]
  obtain ⟨its, rv, pl, hz⟩ := I.list hl
  have hi : IntsAre its.toArray.toList zs := by
    have := ints_of_vals rv
    simpa using this
  refine set_of_ints zs (I.ok.hd hc) pl.isList hi (by unfold scanBound; omega) fun h' tk n R hn k => ?_
  exact ⟨.ref _, upd H s.heap.objs.size (SetO X.w s.heap.objs.size (fun j => decide (j ∈ zs)) n), I.laid (t' := tk) k (Nat.le_refl _) (setO_new R), rfl, q n _ hn (I.hok.fresh (Nat.le_refl _))⟩
end
end Sw
set_option maxHeartbeats 3200000
namespace Sw
open PySem PySem.Spec PyProof.Rows L2
section
variable {X : Cx}
/-- list(o.values()) of a dict -/
def tListVals (td : TE) : TE := fun σ H Q => td σ H fun x H1 => ∃ a kvs, x = V.ref a ∧ H1 a = some (.dK kvs) ∧ ∀ p, H1 p = none → Q (.ref p) (upd H1 p (.lst (kvs.map (·.2))))
variable {o : Expr} {p pos apos mpos : Pos} {td : TE}
theorem pe_listVals (hc : X.calm = true) (hg : Gl X "list") (hm : X.mg "list" = none) (hd : PE X o td)
    (hb : attributeBase o "values" X.env (eval o X.env) = eval o X.env := by rfl) (hl : (apos.endLine == mpos.line) = true := by rfl)
    (na : starEach [Expr.Call (.Attribute o "values" apos) [] [] mpos] X.env = (false, eval (Expr.Call (.Attribute o "values" apos) [] [] mpos) X.env) :: starEach [] X.env := by rfl) :
    PE X (.Call (.Name "list" p) [.Call (.Attribute o "values" apos) [] [] mpos] [] pos) (tListVals td) := by
  refine ⟨fun pins s σ H Q I h => ?_⟩
  refine Call_ (ld_blt I hg hm PyProof.Rows.boot_list ?_)
  refine PyProof.Rows.callWith_type1 (PyProof.Rows.args_cons (wpAny_Call_method0_late hb hl (thn (hd.run pins s σ H _ I h) fun v s1 ⟨x, H1, I1, r1, a, kvs, ex, ha, q⟩ => ?_)) na) na rfl
  subst ex
  obtain rfl : v = Value.ref a := r1
  obtain ⟨z, lo, vs, rel, dof⟩ := dk_of I1.hok ha
  obtain ⟨ep, dat⟩ := dof.dictAt
  have dat' := dat
  obtain ⟨ob, es, ho, ex, hdat, hko, hpr, hnd⟩ := dat'
  refine ⟨"dict", "dict.values", F.plainAttrs_dict, F.slot_dict_values, F.type_dict_values, ⟨ob, ho, ex.1⟩, fun b e => ?_, Calls.callWith_builtin rfl (PySem.evalArgs_none ?_)⟩
  · cases e
    exact ⟨ob, ho, ex.2.1⟩
  refine call_meetsIn F.slot_dict_values ⟨ob, ho, ex.1⟩ F.entry_dict_values (F.args_dict_values_1 _) (meets_dict_values (mixKind X.prog X.w) a lo) ⟨⟨vs, dof⟩, ?_⟩
  refine PyProof.Rows.args_nil ?_
  have up : ∀ b u, s1.heap.get? b = some u → (s1.heap.push { cls := .type "dict_values", data := .fields #[.ref a] }).get? b = some u := fun b u e => Heap.get?_push_of_some _ e
  have dat1 : (s1.heap.push { cls := .type "dict_values", data := .fields #[.ref a] }).DictAt (mixKind X.prog X.w) a vs ep := dat.keep up
  refine PySem.W.kdl_call (s := { s1 with heap := s1.heap.push { cls := .type "dict_values", data := .fields #[.ref a] } }) (PySem.W.kdl_values (knd := mixKind X.prog X.w) (kvs := vs) (ep := ep) (r := s1.heap.objs.size) (d := a)) (I1.ok.hd hc) ⟨⟨_, Heap.get?_push_size _ rfl, rfl, rfl⟩, dat1⟩ (by rw [← rel.length]; exact z) fun h' tk acc c' hk hD hacc => ?_
  have hv : Vals (kvs.map (·.2)) acc.toList := by
    have el : (kvs.map (·.2)).length = acc.toList.length := by
      rw [List.length_map, rel.length]
      exact hacc.1.symm
    refine vals_of_at el fun j x u e1 e2 => ?_
    obtain ⟨k, hk2⟩ := hacc.2 j u (by rw [← Array.getElem?_toList]; exact e2)
    obtain ⟨x', h1, h2⟩ := KV.at' rel hk2
    rw [List.getElem?_map, h1] at e1
    have e1 := Option.some.inj e1
    rw [← e1]
    exact h2
  have hsz : (s1.heap.push { cls := .type "dict_values", data := .fields #[.ref a] }).objs.size = s1.heap.objs.size + 1 := Heap.size_push _ _
  refine ⟨.ref (s1.heap.push { cls := .type "dict_values", data := .fields #[.ref a] }).objs.size, upd H1 (s1.heap.push { cls := .type "dict_values", data := .fields #[.ref a] }).objs.size (.lst (kvs.map (·.2))), I1.laid (t' := tk) (fun b u e => hk b u (up b u e)) (by rw [hsz]; exact Nat.le_succ _) ?_, rfl, q _ (I1.hok.fresh (by rw [hsz]; exact Nat.le_succ _))⟩
  exact (show ObjOk X.prog X.w _ _ _ (.lst (kvs.map (·.2))) from ⟨by rw [List.length_map]; exact z, acc.toList, c', hv, by rw [Array.toArray_toList]; exact hD⟩)
end
end Sw
set_option maxHeartbeats 3200000
namespace Sw
open PySem PySem.Spec PyProof.Rows L2
section
variable {X : Cx}
/-- name = {..} on one line, the name a local -/
theorem ps_setDc {n : Nat} {nm : Str} {np : Pos} {kx vx tgt iter : Expr} {ifs : List Expr} {sc : Scope} {own : List (Str × Nat)} {p1 p2 : Pos} {wi : TI} {g : TG} {tt : TT} {tk tv : TE} (hc : X.calm = true) (hN : X.N.Nodup) (hn : X.N[n]? = some nm) (hl : X.env.scope.names.lookup nm = some .local)
    (sw : swapsWith (.DictComp kx vx [⟨tgt, iter, ifs, 0⟩] sc p1) (some (.Name nm np)) p2.line X.env = pure true) (hi : PI X tgt iter wi) (ok : BlkOk X.N X.env.scope sc own)
    (h1 : ∀ (s : Shared) (H : Hp) (C : Addr) (cl : List (Str × Addr)) (fp : List Addr), PG (X.blk s H sc (compEnvC sc cl C X.env) fp) tgt g) (h2 : ∀ (s : Shared) (H : Hp) (C : Addr) (cl : List (Str × Addr)) (fp : List Addr), PTs (X.blk s H sc (compEnvC sc cl C X.env) fp) ifs tt)
    (h3 : ∀ (s : Shared) (H : Hp) (C : Addr) (cl : List (Str × Addr)) (fp : List Addr), PE (X.blk s H sc (compEnvC sc cl C X.env) fp) kx tk) (h4 : ∀ (s : Shared) (H : Hp) (C : Addr) (cl : List (Str × Addr)) (fp : List Addr), PE (X.blk s H sc (compEnvC sc cl C X.env) fp) vx tv)
    (fo : ∀ x, foldedSetIterable iter X.env x = pure x := by intro _; rfl) : PS X (.Assign [.Name nm np] (.DictComp kx vx [⟨tgt, iter, ifs, 0⟩] sc p1) p2) (tAsg (tDc wi g tt tk tv (own.map (·.2))) (gName n)) := by
  refine ⟨fun pins s σ H D I h => ?_⟩
  rw [exec_Assign_Name_used _ _ _ _ sw]
  refine wpAny_bind (wpAny_standAt (wpAny_bind ?_))
  show wpAny _ X.A (do let _ ← comprehension (.DictComp kx vx [⟨tgt, iter, ifs, 0⟩] sc p1) sc X.env (firstIterPos [⟨tgt, iter, ifs, 0⟩] p1) newDict false (eval iter X.env) (some (assign (.Name nm np) X.env))) _ _ s
  have h : tDc wi g tt tk tv (own.map (·.2)) σ H (fun x H1 => gName n x σ H1 D.nx) := h
  refine wpAny_bind (thn (dc_core (Qf := fun _ s' => SP X pins D .next s') hc hN I hi ok h1 h2 h3 h4 fo h fun L C s1 m H1 I1 q hm f => ?_) fun _ s1 hq => wpAny_pure (wpAny_pure hq))
  show wpAny _ _ (assign (.Name nm np) X.env (.ref L)) _ _ _
  refine wpAny_assign_Name (store_ok2 (v := V.ref L) I1 hN hn (.inl hl) rfl (fun s2 I2 ⟨a, sb, ha⟩ => ?_) (.inr hl))
  obtain ⟨f0, f1, f2, f3, f4, f5⟩ := f
  have apart : C ≠ a := by
    rcases ha with z | z
    · rw [z]
      exact f1
    · exact fun e => f4 nm a z e.symm
  refine ⟨m, hm.sameBut sb apart, fun h5 sb5 => ?_⟩
  exact ⟨_, H1, I2.turned (t' := s2.toks) (fun b o hb e => (sb5.2 b hb).trans e) f0 f1 f3 f4 f5, q⟩
theorem sw_dict {kx vx : Expr} {gs : List Comprehension} {sc : Scope} {p1 np : Pos} {nm : Str} {l : Nat} {env : Env} (hk : env.scope.kind = .function) (hy : env.scope.names.lookup nm = some .local) (hl : (np.line == p1.line) = true)
    (ha : (sc.names.any fun (n, k) => n == nm && (k == .local || k == .cell)) = false) : swapsWith (.DictComp kx vx gs sc p1) (some (.Name nm np)) l env = pure true := by
  have k1 : env.kindOf nm = some .local := hy
  have k2 : env.blockKind = .function := by
    unfold Env.blockKind
    rw [hk]
    rfl
  unfold swapsWith
  simp only [k2, k1, ha, Expr.pos, hl]
  rfl
end
end Sw
set_option maxHeartbeats 3200000
namespace Sw
open PySem PySem.Spec PyProof.Rows L2
section
variable {prog : Program} {w : World} {A : Around} {E : Value → Shared → Prop} {s : Shared}
/-- the end of sorted: the gathered ints laid in a new list, and that one sorted -/
theorem sort_gathered {vs : List Value} {ns : List Int} {R : PySem.Fin → Shared → Prop} (hi : IntsAre vs ns) (hz : vs.length ≤ sizeLine)
    (h : ∀ (h' : Heap) (out : List Value) (zs : List Int) (c : Nat), (∀ b o, s.heap.get? b = some o → h'.get? b = some o) → h'.get? s.heap.objs.size = some (seqObj "list" out.toArray c) → IntsAre out zs → zs.Perm ns → zs.Pairwise (· ≤ ·) → R (.done (.ret (.ref s.heap.objs.size))) { s with heap := h' }) :
    wpAny (model prog w) A (newList vs >>= fun l => do let _ ← holding [l] (call (.builtin "list.sort") [l] []); ret l) R E s := by
  refine wpAny_bind (wpAny_newList ?_ hz)
  have hoL : (s.heap.push (seqObj "list" vs.toArray 0)).get? s.heap.objs.size = some (seqObj "list" vs.toArray 0) := Heap.get?_push_size _ rfl
  show wpAny _ _ _ _ _ { s with heap := s.heap.push (seqObj "list" vs.toArray 0) }
  refine wpAny_bind (wpAny_holding (wpAny_call_entry PyProof.Rows.slot_list_sort ⟨_, hoL, rfl⟩ PyProof.Rows.entry_list_sort
    (SrtO.list_sort_ord (s := { s with heap := s.heap.push (seqObj "list" vs.toArray 0) }) SrtO.swo_int hoL hz (fun h2 => SrtO.ints_sortable hi h2) fun out h1 h2 => ⟨_, rfl, ?_⟩) (PyProof.Rows.args_list_sort _)))
  obtain ⟨k1, k2, k3⟩ := SrtO.ints_out hi h1 h2
  obtain ⟨ep, he'⟩ := PyProof.Rows.sortedHeap_at (vs := vs) (out := out.toArray) hoL
  refine wpAny_pure (h _ out (out.map SrtO.iv) ep (fun b u e => ?_) he' k1 k2 k3)
  have hb : b < s.heap.objs.size := Heap.lt_size e
  rw [PyProof.Rows.sortedHeap_old (Nat.ne_of_lt hb) (by rw [size_push']; exact Nat.lt_succ_of_lt hb)]
  exact Heap.get?_push_of_some _ e
end
section
variable {X : Cx}
/-- sorted(d), a dict whose keys are ints, any number of them -/
def rSortedKeys : List V → Hp → VK → Prop := fun xs H Q => ∃ (a : Addr) (kvs : List (Key × V)) (ks : List Int), xs = [.ref a] ∧ Rd H a (.dK kvs) ∧ kvs.map (·.1) = ks.map Sum.inl ∧
  ∀ (ys : List Int) (p : Addr), ys.Perm ks → ys.Pairwise (· ≤ ·) → H p = none → Q (.ref p) (upd H p (.lst (ys.map V.int)))
theorem cr_sortedKeys (hc : X.calm = true) : CallR X (.builtin "sorted") rSortedKeys := by
  intro pins s σ H xs us Q I r q
  obtain ⟨a, kvs, ks, ex, hd, hks, q⟩ := q
  subst ex
  rw [Vals.ref1 r]
  obtain ⟨z, lo, vs, rel, dd⟩ := dk_rd I.hok hd
  obtain ⟨ep, hat⟩ := dd.dictAt
  have hkeys : vs.map (·.1) = ks.map Sum.inl := rel.keys.symm.trans hks
  have hl : vs.length = ks.length := by
    have e := congrArg List.length hkeys
    rw [List.length_map, List.length_map] at e
    exact e
  have hz : vs.length ≤ sizeLine := by
    rw [← rel.length]
    exact z
  refine Calls.call_function_entry PyProof.Rows.kind_sorted PyProof.Rows.plain_sorted PyProof.Rows.entry_sorted (PyProof.Rows.args_sorted1 _) ?_
  unfold Builtin.«sorted»
  refine wpAny_bind (m := checkCount "sorted" 1 1 _) (wpAny_pure ?_)
  refine wpAny_bind (PySem.W.kdu_collect (A := X.A.in1) (PySem.W.kdl_dict (knd := mixKind X.prog X.w) (kvs := vs) (ep := ep) lo) (I.ok.hd hc) hat hz fun h' tk acc hk hacc => ?_)
  have hal : acc.toList.length = ks.length := by
    rw [← hl]
    exact hacc.1
  have hS : IntsAre acc.toList ks := ints_each hal fun j v e => by
    obtain ⟨k, x, e1, e2⟩ := hacc.2 j v (by rw [← Array.getElem?_toList]; exact e)
    have e3 : (vs.map (·.1))[j]? = some k := by
      rw [List.getElem?_map, e1]
      rfl
    rw [hkeys, List.getElem?_map] at e3
    obtain ⟨y, e4, e5⟩ := Option.map_eq_some_iff.mp e3
    subst e5
    rcases keyIs_shape (show keyIs (Sum.inl y) v = true from e2) with ⟨i, t, ek, ev⟩ | ⟨z, t, ek, ev⟩
    · cases ek
      exact ⟨y, t, e4, ev⟩
    · cases ek
  have I1 : Inv X pins σ H { s with heap := h', toks := tk } := I.kept hk
  refine sort_gathered (s := { s with heap := h', toks := tk }) hS (by rw [hal, ← hl]; exact hz) fun h2 out zs c k2 hg hi hp hs => ?_
  have hlen : (zs.map V.int).length ≤ sizeLine := by
    rw [List.length_map, hp.length_eq, ← hl]
    exact hz
  exact ⟨_, rfl, .ref h'.objs.size, upd H h'.objs.size (.lst (zs.map V.int)), I1.laid (t' := tk) k2 (Nat.le_refl _) (show ObjOk X.prog X.w _ _ _ (.lst (zs.map V.int)) from ⟨hlen, out, c, vals_of_ints hi, hg⟩), rfl, q zs _ hp hs (I1.hok.fresh (Nat.le_refl _))⟩
/-- sorted(s), a set of ints, any number of them -/
def rSortedSetN (w : World) : List V → Hp → VK → Prop := fun vs H Q => ∃ (a : Addr) (S : Int → Bool) (n : Nat), vs = [V.ref a] ∧ H a = some (SetO w a S n) ∧
  ∀ (ns : List Int) (p : Addr), ns.Pairwise (· < ·) → (∀ k : Int, k ∈ ns ↔ S k = true) → H p = none → Q (.ref p) (upd H p (.lst (ns.map V.int)))
theorem cr_sortedSetN (hc : X.calm = true) : CallR X (.builtin "sorted") (rSortedSetN X.w) := by
  intro pins s σ H vs us Q I r h
  obtain ⟨a, S, n, rfl, ha, q⟩ := h
  obtain ⟨o, es, ep, t, ho, hex, hd, g, nd, hm, hb, hf, hn, hr, hl⟩ := setO_get I ha
  rw [Vals.ref1 r]
  refine Calls.call_function_entry kind_sorted plain_sorted entry_sorted (args_sorted1 _) ?_
  unfold Builtin.«sorted»
  refine wpAny_bind (m := checkCount "sorted" 1 1 _) (wpAny_pure ?_)
  refine wpAny_bind (collect_set (A := X.A.in1) (I.ok.hd hc) ⟨o, ho, hex.1, hd⟩ hf hb hr hl fun s1 vs k1 hz g1 o1 pm => ?_)
  have hvl : vs.length ≤ sizeLine := by
    rw [pm.length_eq, List.length_map, Array.length_toList]
    exact fits_of_scanBound hb
  have hI : IntsAre vs (vs.map Builtin.Re.reRawOf) := ints_of vs fun v hv => by
    obtain ⟨e, he, q⟩ := List.mem_map.mp (pm.mem_iff.mp hv)
    obtain ⟨k, tk, h1, _⟩ := g e he
    exact ⟨k, tk, by rw [← q]; exact h1⟩
  have pk : (vs.map Builtin.Re.reRawOf).Perm (es.toList.map keyOf) := by
    have q := pm.map Builtin.Re.reRawOf
    rw [List.map_map] at q
    exact q
  refine sort_gathered (s := s1) hI hvl fun h2 out zs c k2 hg hi hp hs => ?_
  have pn : zs.Perm (es.toList.map keyOf) := hp.trans pk
  have hlen : (zs.map V.int).length ≤ sizeLine := by
    rw [List.length_map, hp.length_eq, List.length_map]
    exact hvl
  have kk : ∀ b u, s.heap.get? b = some u → h2.get? b = some u := fun b u e => k2 b u (k1 b u e)
  have hfr : H s1.heap.objs.size = none := I.hok.fresh hz
  have J : Inv X pins σ (upd H s1.heap.objs.size (.lst (zs.map V.int))) { s with heap := h2, gens := s1.gens, drawn := s1.drawn, toks := s1.toks } :=
    I.call (ch := []) (Un.laid kk hz hfr) (I.hok.laid kk hz ⟨hlen, out, c, vals_of_ints hi, hg⟩) (by rw [g1]; exact I.bare) (fun _ z => nomatch z)
  have e : { s1 with heap := h2 } = { s with heap := h2, gens := s1.gens, drawn := s1.drawn, toks := s1.toks } := by
    cases s1
    cases s
    cases o1
    rfl
  refine ⟨_, rfl, ?_⟩
  rw [e]
  exact ⟨.ref s1.heap.objs.size, _, J, rfl, q zs _ (L2.lt_of_le_nodup zs hs (pn.nodup_iff.mpr nd)) (fun k => by rw [pn.mem_iff, ← hm k]) hfr⟩
end
end Sw
set_option maxHeartbeats 3200000
namespace Sw
open PySem PySem.Spec PyProof.Rows L2 HT
section
variable {prog : Program} {w : World} {A : Around} {E : Value → Shared → Prop} {s : Shared}
theorem applied_back {sl : Addr} {vs : Value} {Q : Int × Int × Nat → Shared → Prop} (hs : s.heap.IsSliceOf sl .none .none vs) (p : IsPart vs (some (-1))) (h : Q ((1 : Int), -1, 2) s) : wpAny (model prog w) A (Builtin.Slice.sliceApplied (.ref sl) (pure ((2 : Nat) : Int))) Q E s := by
  obtain ⟨os, hos, hcs, hds⟩ := id hs
  unfold Builtin.Slice.sliceApplied Builtin.Slice.sliceFields
  refine wpAny_bind (wpAny_bind (wpAny_field hos hds (x := .none) rfl (wpAny_bind (wpAny_field hos hds (x := .none) rfl (wpAny_bind (wpAny_field hos hds (x := vs) rfl (wpAny_pure ?_)))))))
  refine wpAny_bind (HT.slicePart_ p ?_)
  show wpAny _ _ (if ((-1 : Int) == 0) = true then _ else _) _ _ s
  rw [if_neg (by decide)]
  refine wpAny_bind (slicePart_none (wpAny_bind (slicePart_none (wpAny_bind (wpAny_pure ?_)))))
  show wpAny _ _ (match Builtin.Slice.sliceAdjust none none (-1) ((2 : Nat) : Int) with | (lo, hi) => pure (lo, (-1 : Int), Builtin.Slice.slicePlaces lo hi (-1))) _ _ s
  exact wpAny_pure h
theorem item_back {t sl : Addr} {x y vs : Value} {Q : Value → Shared → Prop} (ht : IsTup s.heap t #[x, y]) (hs : s.heap.IsSliceOf sl .none .none vs) (p : IsPart vs (some (-1)))
    (h : Q (.ref s.heap.objs.size) { s with heap := s.heap.push { cls := .type "tuple", data := .seq #[y, x] } }) : wpAny (model prog w) A (getItem (.ref t) (.ref sl)) Q E s := by
  have fits : sizeOk (.seq #[y, x]) := by
    show 2 ≤ sizeLine
    decide
  obtain ⟨os, hos, hcs, hds⟩ := id hs
  have typ : s.TypeIs (.ref sl) "slice" := ⟨os, hos, hcs⟩
  unfold getItem
  try with_reducible refine wpAny_holding ?_
  first | refine wpAny_bind (wpAny_pure ?_) | skip
  refine wpAny_bind (wpAny_sequenceKey ht.typeIs (by decide) ?_)
  refine wpAny_bind (wpAny_callSpecial?_slot (name := Str.ofString "__getitem__") ht.typeIs PyProof.Rows.slot_tuple_getitem
    (wpAny_call_entry PyProof.Rows.slot_tuple_getitem ht.typeIs entry_tuple_getitem ?_ (args_tuple_getitem _ _)))
  show wpAny _ _ (Builtin.Tuple.tupleItemsOf (.ref t) >>= _) _ _ s
  refine wpAny_bind (tupleItemsOf_ ht ?_)
  refine wpAny_bind (wpAny_typeOf typ ?_)
  rw [if_pos (by decide)]
  refine wpAny_bind (applied_back hs p ?_)
  show wpAny _ _ (if (((1 : Int) == 0 && (-1 : Int) == 1 && (2 : Nat) == 2) = true) then _ else _) _ _ s
  rw [if_neg (by decide)]
  first
    | exact wpAny_bind (m := Builtin.Tuple.tupleExact _) (wpAny_newObj_type (wpAny_pure ⟨_, rfl, wpAny_pure h⟩) fits)
    | exact wpAny_bind (m := Builtin.Tuple.tupleExact _) (wpAny_newObj_type (wpAny_bind (wpAny_pure (wpAny_pure ⟨_, rfl, wpAny_pure h⟩))) fits)
    | exact wpAny_bind (wpAny_bind (m := Builtin.Tuple.tupleExact _) (wpAny_newObj_type (wpAny_pure (wpAny_pure ⟨_, rfl, wpAny_pure h⟩)) fits))
    | exact wpAny_bind (wpAny_bind (m := Builtin.Tuple.tupleExact _) (wpAny_newObj_type (wpAny_pure ⟨_, rfl, wpAny_pure h⟩) fits))
end
section
variable {X : Cx}
/-- t[::-1] of a pair -/
def tRevT (K : PySem.W.Frag) (te : TE) : TE := fun σ H Q => te σ H fun v H1 => ∃ a x y, v = .ref a ∧ SqT K H1 a [x, y] ∧ ∀ p, H1 p = none → Q (.ref p) (upd H1 p (.tup [y, x]))
theorem pe_revT {e : Expr} {te : TE} {k : Nat} {p1 p2 p3 pos : Pos} (he : PE X e te) : PE X (.Subscript e (.Slice none none (some (.UnaryOp .USub (.Constant (.int 1) k p1) p2)) p3) pos) (tRevT X.K te) := by
  refine ⟨fun pins s σ H Q I h => ?_⟩
  refine Subscript_ (thn (he.run pins s σ H _ I h) fun v s1 ⟨z, H1, I1, r1, a, x, y, ex, hx, q⟩ => ?_)
  subst ex
  cases r1
  have part : PO X (some (.UnaryOp .USub (.Constant (.int 1) k p1) p2)) (tPart (tUn (rU fun i => .int (-i)) (tC (.int 1)))) := po_some (pe_un un_neg pe_int)
  refine wpAny_Slice (thn (po_none.run pins s1 σ H1 (fun o H2 => o = none ∧ H2 = H1) I1 ⟨rfl, rfl⟩) fun vl s2 ⟨l, H2, I2, pl, e1, e2⟩ => ?_)
  subst e1 e2
  refine thn (po_none.run pins s2 σ H2 (fun o H3 => o = none ∧ H3 = H2) I2 ⟨rfl, rfl⟩) fun vu s3 ⟨u, H3, I3, pu, e1, e2⟩ => ?_
  subst e1 e2
  refine thn (part.run pins s3 σ H3 (fun o H4 => o = some (-1) ∧ H4 = H3) I3 ⟨1, rfl, -1, rfl, rfl, rfl⟩) fun vs s4 ⟨o, H4, I4, ps, e1, e2⟩ => ?_
  subst e1 e2
  have I5 : Inv X pins σ H4 { s4 with heap := s4.heap.push { cls := .type "slice", data := .fields #[vl, vu, vs] } } := I4.kept (t' := s4.toks) fun b ob q => Heap.get?_push_of_some _ q
  obtain ⟨its, r, ht, hz⟩ := I5.tuple hx
  cases pl
  cases pu
  obtain ⟨u1, u2, rfl, ra, rb⟩ := Vals.two r
  show wpAny (model X.prog X.w) X.A (subscriptTail e (.Slice none none (some (.UnaryOp .USub (.Constant (.int 1) k p1) p2)) p3) (.ref a) (.ref s4.heap.objs.size)) (EP X pins σ Q) X.xe { s4 with heap := s4.heap.push { cls := .type "slice", data := .fields #[.none, .none, vs] } }
  refine tail_any (ops := [.ref a, .ref s4.heap.objs.size]) ht.typeIs (PyProof.Rows.slot_tuple_getitem.lookup) ?_ (by with_unfolding_all rfl)
  refine item_back ht (Heap.IsSliceOf.new _ .none .none vs) ps ?_
  refine ⟨.ref _, _, I5.laid (t' := s4.toks) (o := .tup [y, x]) (fun b ob q => Heap.get?_push_of_some _ q) (Nat.le_refl _) ?_, rfl, q _ (I5.hok.fresh (Nat.le_refl _))⟩
  exact ⟨by show 2 ≤ sizeLine; decide, _, .cons rb (.cons ra .nil), IsTup.new _ _⟩
end
end Sw
namespace Sw
open PySem PySem.Spec PyProof.Rows L2
open Evl (Ex Ex.refl Ex.trans Ex.new Ex.mut ex_l ex_t ex_rd fresh_back Ev EvL EvU EvT EvA RV RC RCL SpV SpL)
section
variable {K : PySem.W.Frag} {σ : L2.St} {H H' : Hp} {ta tb te : TE} {t u : TT} {x y z v : V} {r : R2}
/-- a built-in's call over a new list -/
theorem ev_cbN {r : List V → Hp → VK → Prop} {xs : List V} (h : EvL te σ H xs) (hr : ∀ p H1, H1 p = some (.lst xs) → Ex H H1 → RC r [.ref p] H1 z) : Ev (tCB r (tCons te tNil)) σ H z := fun H1 e Q q =>
  h H1 e _ fun p H2 _ e2 hp => hr p H2 hp (e.trans e2) H2 (Ex.refl H2) Q fun H3 e3 => q H3 (e2.trans e3)
theorem el_cbN {r : List V → Hp → VK → Prop} {xs ys : List V} (h : EvL te σ H xs) (hr : ∀ p H1, H1 p = some (.lst xs) → Ex H H1 → RCL r [.ref p] H1 ys) : EvL (tCB r (tCons te tNil)) σ H ys := fun H1 e Q q =>
  h H1 e _ fun p H2 _ e2 hp => hr p H2 hp (e.trans e2) H2 (Ex.refl H2) Q fun l H3 h3 e3 hl => q l H3 (fresh_back e2 h3) (e2.trans e3) hl
theorem rc_all {p : Addr} {bs : List Bool} (h : H p = some (.lst (bs.map V.bl))) : RC (rAll K) [.ref p] H (.bl (bs.all id)) := fun H1 e Q q => ⟨p, bs, rfl, SqL.of (e _ _ h), q H1 (Ex.refl H1)⟩
theorem rc_isi {x c : V} {t u : Value} {b : Bool} (k : ClsV c u) (ty : ∀ H1, Ex H H1 → TyX K H1 x t) (e : PySem.W.kitOne K t u = some b) : RC (rIsi K) [x, c] H (.bl b) := fun H1 e1 Q q => ⟨x, c, t, u, b, rfl, k, ty H1 e1, e, q H1 (Ex.refl H1)⟩
theorem given_all (n : Nat) (v : Nat → V) : Evl.given n (fun _ => true) v = (List.range n).map v := by
  unfold Evl.given
  rw [List.filter_eq_self.mpr fun _ _ => rfl]
theorem given_list {α : Type} (l : List α) (v : Nat → V) (f : α → V) (h : ∀ i a, l[i]? = some a → v i = f a) : Evl.given l.length (fun _ => true) v = l.map f := by
  rw [given_all]
  refine List.ext_getElem (by rw [List.length_map, List.length_map, List.length_range]) fun i h1 h2 => ?_
  rw [List.length_map] at h2
  rw [List.getElem_map, List.getElem_map, List.getElem_range]
  exact h i _ (List.getElem?_eq_getElem h2)
theorem given_take {α : Type} (l : List α) (f : Nat → Bool) (v : Nat → V) (p : α → Bool) (g : α → V) (h : ∀ i a, l[i]? = some a → f i = p a ∧ (p a = true → v i = g a)) : ∀ n, n ≤ l.length → Evl.given n f v = ((l.take n).filter p).map g
  | 0, _ => rfl
  | n + 1, hn => by
    have ih := given_take l f v p g h n (by omega)
    have hlt : n < l.length := hn
    obtain ⟨h1, h2⟩ := h n _ (List.getElem?_eq_getElem hlt)
    rw [List.take_add_one, List.getElem?_eq_getElem hlt, List.filter_append, List.map_append, ← ih]
    cases hp : p l[n] with
    | true =>
      rw [Evl.given_yes (h1.trans hp), h2 hp]
      show _ = _ ++ ([l[n]].filter p).map g
      rw [List.filter_cons, if_pos hp]
      rfl
    | false =>
      rw [Evl.given_no (h1.trans hp)]
      show _ = _ ++ ([l[n]].filter p).map g
      rw [List.filter_cons, if_neg (by rw [hp]; exact Bool.false_ne_true)]
      show _ = _ ++ []
      rw [List.append_nil]
theorem given_filter {α : Type} (l : List α) (f : Nat → Bool) (v : Nat → V) (p : α → Bool) (g : α → V) (h : ∀ i a, l[i]? = some a → f i = p a ∧ (p a = true → v i = g a)) : Evl.given l.length f v = (l.filter p).map g := by
  rw [given_take l f v p g h l.length (Nat.le_refl _), List.take_length]
/-- a call whose first argument is a new list -/
theorem ev_callN {sp : Sp} {dvs vs : List V} {E : XK} {tr : TA} {xs : List V} (h : EvL te σ H xs) (ht : EvA tr σ H vs) (hs : ∀ p H1, H1 p = some (.lst xs) → Ex H H1 → SpV sp ((.ref p :: vs) ++ dvs) H1 z) : Ev (tCall sp dvs E (tCons te tr)) σ H z := fun H1 e Q q =>
  h H1 e _ fun p H2 _ e2 hp => ht H2 (e.trans e2) _ fun H3 e3 => hs p H3 (e3 _ _ hp) ((e.trans e2).trans e3) H3 (Ex.refl H3) Q (fun H4 e4 => q H4 ((e2.trans e3).trans e4)) E
theorem el_rev {a : Addr} {xs : List V} (h : Ev te σ H (.ref a)) (hx : SqL K H a xs) : EvL (tRevL K te) σ H xs.reverse := fun H1 e Q q =>
  h H1 e _ fun H2 e2 => ⟨a, xs, rfl, ex_l (e.trans e2) hx, fun p np => q p _ (fresh_back e2 np) (e2.trans (Ex.new np)) upd_same⟩
theorem q_call {sp : Sp} {dvs : List V} {E : XK} {ta : TA} {i : Nat} {tz : TS} {D : Ends} (h : ta σ H fun vs H1 => sp (vs ++ dvs) H1 (fun v H2 => tz D (σ.set i (some v)) H2) E) : tSeq (tAsg (tCall sp dvs E ta) (gName i)) tz D σ H := h
end
end Sw
namespace Sw
open PySem PySem.Spec PyProof.Rows L2
open Evl (Ex Ex.refl Ex.trans Ex.new Ex.mut ex_l ex_t ex_rd fresh_back Ev EvL EvU EvT EvA RV RC RCL SpV SpL)
/-! ### data in memory, all tracked -/
mutual
inductive Dt (H : Hp) : V → PyData → Prop
  | non : Dt H .non .none
  | bl (b : Bool) : Dt H (.bl b) (.bool b)
  | int (i : Int) : Dt H (.int i) (.int i)
  | str (x : Str) : Dt H (.str x) (.str x)
  | lst {a : Addr} {xs : List V} {ds : List PyData} : H a = some (.lst xs) → DtAll H xs ds → Dt H (.ref a) (.list ds)
  | tup {a : Addr} {xs : List V} {ds : List PyData} : H a = some (.tup xs) → DtAll H xs ds → Dt H (.ref a) (.tuple ds)
inductive DtAll (H : Hp) : List V → List PyData → Prop
  | nil : DtAll H [] []
  | cons {v : V} {vs : List V} {d : PyData} {ds : List PyData} : Dt H v d → DtAll H vs ds → DtAll H (v :: vs) (d :: ds)
end
mutual
theorem Dt.dp {K : PySem.W.Frag} {H : Hp} : ∀ (d : PyData) (v : V), Dt H v d → Dp K H v d
  | .none, _, .non => .non
  | .bool _, _, .bl b => .bl b
  | .int _, _, .int i => .int i
  | .str _, _, .str x => .str x
  | .list ds, _, .lst h t => .lst (SqL.of h) (DtAll.dp ds _ t)
  | .tuple ds, _, .tup h t => .tup (SqT.of h) (DtAll.dp ds _ t)
theorem DtAll.dp {K : PySem.W.Frag} {H : Hp} : ∀ (ds : List PyData) (vs : List V), DtAll H vs ds → DpAll K H vs ds
  | [], _, .nil => .nil
  | d :: ds, _, .cons h t => .cons (Dt.dp d _ h) (DtAll.dp ds _ t)
end
mutual
theorem Dt.ex {H H' : Hp} (e : Ex H H') : ∀ (d : PyData) (v : V), Dt H v d → Dt H' v d
  | .none, _, .non => .non
  | .bool _, _, .bl b => .bl b
  | .int _, _, .int i => .int i
  | .str _, _, .str x => .str x
  | .list ds, _, .lst h t => .lst (e _ _ h) (DtAll.ex e ds _ t)
  | .tuple ds, _, .tup h t => .tup (e _ _ h) (DtAll.ex e ds _ t)
theorem DtAll.ex {H H' : Hp} (e : Ex H H') : ∀ (ds : List PyData) (vs : List V), DtAll H vs ds → DtAll H' vs ds
  | [], _, .nil => .nil
  | d :: ds, _, .cons h t => .cons (Dt.ex e d _ h) (DtAll.ex e ds _ t)
end
theorem DtAll.len {H : Hp} : ∀ {vs : List V} {ds : List PyData}, DtAll H vs ds → vs.length = ds.length
  | [], [], .nil => rfl
  | _ :: _, _ :: _, .cons _ t => congrArg Nat.succ (DtAll.len t)
theorem DtAll.at {H : Hp} : ∀ {vs : List V} {ds : List PyData}, DtAll H vs ds → ∀ (i : Nat) (v : V), vs[i]? = some v → ∃ d, ds[i]? = some d ∧ Dt H v d
  | [], [], .nil, i, v, e => by simp at e
  | v0 :: vs, d0 :: ds, .cons h t, 0, v, e => by
    have e := Option.some.inj e
    subst e
    exact ⟨d0, rfl, h⟩
  | v0 :: vs, d0 :: ds, .cons h t, i + 1, v, e => DtAll.at t i v e
theorem DtAll.of {H : Hp} : ∀ {vs : List V} {ds : List PyData}, vs.length = ds.length → (∀ (i : Nat) (v : V) (d : PyData), vs[i]? = some v → ds[i]? = some d → Dt H v d) → DtAll H vs ds
  | [], [], _, _ => .nil
  | v0 :: vs, d0 :: ds, hl, h => .cons (h 0 v0 d0 rfl rfl) (DtAll.of (Nat.succ.inj hl) fun i v d e1 e2 => h (i + 1) v d e1 e2)
  | [], _ :: _, hl, _ => by simp at hl
  | _ :: _, [], hl, _ => by simp at hl
/-- of some depth, all can lie, nothing too long -/
def Lay : Nat → PyData → Prop
  | _, .none => True
  | _, .bool _ => True
  | _, .int _ => True
  | _, .str x => PyData.strOk x = true
  | n + 1, .list ds => ds.length ≤ 1000 ∧ ∀ d ∈ ds, Lay n d
  | n + 1, .tuple ds => ds.length ≤ 1000 ∧ ∀ d ∈ ds, Lay n d
  | _, _ => False
theorem layAll {n : Nat} : ∀ {ds : List PyData}, (∀ d ∈ ds, d.canLay0 = true ∧ d.depth ≤ n) → PyData.canLayAll0 ds = true ∧ PyData.depthAll ds ≤ n
  | [], _ => by
    simp only [PyData.canLayAll0, PyData.depthAll]
    exact ⟨trivial, Nat.zero_le _⟩
  | d :: ds, h => by
    obtain ⟨a, b⟩ := layAll fun d hd => h d (List.mem_cons.mpr (.inr hd))
    obtain ⟨c, e⟩ := h d List.mem_cons_self
    simp only [PyData.canLayAll0, PyData.depthAll]
    exact ⟨by rw [a, c]; rfl, by omega⟩
theorem Lay.can : ∀ {n : Nat} {d : PyData}, Lay n d → d.canLay0 = true ∧ d.depth ≤ n
  | n, .none, _ => ⟨by simp only [PyData.canLay0], by simp only [PyData.depth]; exact Nat.zero_le _⟩
  | n, .bool _, _ => ⟨by simp only [PyData.canLay0], by simp only [PyData.depth]; exact Nat.zero_le _⟩
  | n, .int _, _ => ⟨by simp only [PyData.canLay0], by simp only [PyData.depth]; exact Nat.zero_le _⟩
  | n, .str _, h => by
    simp only [Lay] at h
    exact ⟨by simp only [PyData.canLay0]; exact h, by simp only [PyData.depth]; exact Nat.zero_le _⟩
  | 0, .list _, h => by simp only [Lay] at h
  | 0, .tuple _, h => by simp only [Lay] at h
  | 0, .dict _, h => by simp only [Lay] at h
  | n + 1, .dict _, h => by simp only [Lay] at h
  | n + 1, .list ds, h => by
    simp only [Lay] at h
    obtain ⟨a, b⟩ := layAll fun d hd => Lay.can (h.2 d hd)
    exact ⟨by simp only [PyData.canLay0]; exact a, by simp only [PyData.depth]; omega⟩
  | n + 1, .tuple ds, h => by
    simp only [Lay] at h
    obtain ⟨a, b⟩ := layAll fun d hd => Lay.can (h.2 d hd)
    exact ⟨by simp only [PyData.canLay0]; exact a, by simp only [PyData.depth]; omega⟩
theorem Lay.shaped {n : Nat} {d : PyData} (h : Lay n d) (hn : n ≤ 64) : SeqAt.shaped d = true := by
  obtain ⟨a, b⟩ := h.can
  show (d.canLay0 && decide (d.depth ≤ 64)) = true
  rw [Bool.and_eq_true]
  exact ⟨a, decide_eq_true (Nat.le_trans b hn)⟩
theorem Lay.lst {n : Nat} {ds : List PyData} (hz : ds.length ≤ 1000) (h : ∀ d ∈ ds, Lay n d) : Lay (n + 1) (.list ds) := by
  simp only [Lay]
  exact ⟨hz, h⟩
theorem Lay.tup {n : Nat} {ds : List PyData} (hz : ds.length ≤ 1000) (h : ∀ d ∈ ds, Lay n d) : Lay (n + 1) (.tuple ds) := by
  simp only [Lay]
  exact ⟨hz, h⟩
theorem Lay.lst_inv {n : Nat} {ds : List PyData} (h : Lay (n + 1) (.list ds)) : ds.length ≤ 1000 ∧ ∀ d ∈ ds, Lay n d := by
  simp only [Lay] at h
  exact h
theorem Lay.tup_inv {n : Nat} {ds : List PyData} (h : Lay (n + 1) (.tuple ds)) : ds.length ≤ 1000 ∧ ∀ d ∈ ds, Lay n d := by
  simp only [Lay] at h
  exact h
theorem Lay.lst_pos {ds : List PyData} (h : Lay 0 (.list ds)) : False := by simp only [Lay] at h
theorem Lay.tup_pos {ds : List PyData} (h : Lay 0 (.tuple ds)) : False := by simp only [Lay] at h
theorem Lay.int (n : Nat) (i : Int) : Lay n (.int i) := by simp only [Lay]
theorem Lay.bool (n : Nat) (b : Bool) : Lay n (.bool b) := by simp only [Lay]
theorem Lay.mono : ∀ {n m : Nat} {d : PyData}, Lay n d → n ≤ m → Lay m d
  | _, _, .none, _, _ => by simp only [Lay]
  | _, _, .bool _, _, _ => by simp only [Lay]
  | _, _, .int _, _, _ => by simp only [Lay]
  | _, _, .str _, h, _ => by
    simp only [Lay] at h ⊢
    exact h
  | 0, _, .list _, h, _ => by simp only [Lay] at h
  | 0, _, .tuple _, h, _ => by simp only [Lay] at h
  | 0, _, .dict _, h, _ => by simp only [Lay] at h
  | n + 1, _, .dict _, h, _ => by simp only [Lay] at h
  | n + 1, 0, _, _, k => absurd k (by omega)
  | n + 1, m + 1, .list ds, h, k => by
    simp only [Lay] at h ⊢
    exact ⟨h.1, fun d hd => Lay.mono (h.2 d hd) (by omega)⟩
  | n + 1, m + 1, .tuple ds, h, k => by
    simp only [Lay] at h ⊢
    exact ⟨h.1, fun d hd => Lay.mono (h.2 d hd) (by omega)⟩
/-! ### plain data -/
def dInts (ns : List Int) : PyData := .list (ns.map PyData.int)
def dIntss (l : List (List Int)) : PyData := .list (l.map dInts)
def dPair (s : Int × Int) : PyData := .tuple [.int s.1, .int s.2]
def dStones (st : List (Int × Int)) : PyData := .list (st.map dPair)
theorem lay_ints (ns : List Int) (hz : ns.length ≤ 1000) : Lay 1 (dInts ns) := Lay.lst (by rw [List.length_map]; exact hz) fun d hd => by
  obtain ⟨i, _, e⟩ := List.mem_map.mp hd
  rw [← e]
  exact Lay.int _ _
theorem lay_intss (l : List (List Int)) (hz : l.length ≤ 1000) (hy : ∀ g ∈ l, g.length ≤ 1000) : Lay 2 (dIntss l) := Lay.lst (by rw [List.length_map]; exact hz) fun d hd => by
  obtain ⟨i, hi, e⟩ := List.mem_map.mp hd
  rw [← e]
  exact lay_ints _ (hy i hi)
theorem lay_pair (s : Int × Int) : Lay 1 (dPair s) := Lay.tup (by show 2 ≤ 1000; decide) fun d hd => by
  rcases List.mem_cons.mp hd with e | hd
  · rw [e]
    exact Lay.int _ _
  · rw [List.mem_singleton.mp hd]
    exact Lay.int _ _
theorem lay_stones (st : List (Int × Int)) (hz : st.length ≤ 1000) : Lay 2 (dStones st) := Lay.lst (by rw [List.length_map]; exact hz) fun d hd => by
  obtain ⟨i, _, e⟩ := List.mem_map.mp hd
  rw [← e]
  exact lay_pair _
theorem dt_intsAll {H : Hp} : ∀ ns : List Int, DtAll H (ns.map V.int) (ns.map PyData.int)
  | [] => .nil
  | n :: ns => .cons (.int n) (dt_intsAll ns)
theorem dt_ints {H : Hp} {a : Addr} {ns : List Int} (h : H a = some (.lst (ns.map V.int))) : Dt H (.ref a) (dInts ns) := .lst h (dt_intsAll ns)
theorem dp_ints {K : PySem.W.Frag} {H : Hp} {a : Addr} {ns : List Int} (h : SqL K H a (ns.map V.int)) : Dp K H (.ref a) (dInts ns) := .lst h (DtAll.dp _ _ (dt_intsAll ns))
theorem eqv_ints : ∀ ns ms : List Int, PyData.eqvAll (ns.map PyData.int) (ms.map PyData.int) = decide (ns = ms)
  | [], [] => by
    simp [PyData.eqvAll]
  | [], _ :: _ => by simp [PyData.eqvAll]
  | _ :: _, [] => by simp [PyData.eqvAll]
  | n :: ns, m :: ms => by
    rw [List.map_cons, List.map_cons, PyData.eqvAll, eqv_ints ns ms]
    simp only [PyData.eqv]
    refine Bool.eq_iff_iff.mpr ?_
    simp
theorem eqv_dInts (ns ms : List Int) : PyData.eqv (dInts ns) (dInts ms) = decide (ns = ms) := by
  unfold dInts
  rw [PyData.eqv]
  exact eqv_ints ns ms
theorem eqv_pair (s t : Int × Int) : PyData.eqv (dPair s) (dPair t) = decide (s = t) := by
  unfold dPair
  rw [PyData.eqv]
  refine Bool.eq_iff_iff.mpr ?_
  simp only [PyData.eqvAll, PyData.eqv]
  obtain ⟨a, b⟩ := s
  obtain ⟨c, d⟩ := t
  simp
theorem eqv_pairs : ∀ ns ms : List (Int × Int), PyData.eqvAll (ns.map dPair) (ms.map dPair) = decide (ns = ms)
  | [], [] => by
    simp [PyData.eqvAll]
  | [], _ :: _ => by simp [PyData.eqvAll]
  | _ :: _, [] => by simp [PyData.eqvAll]
  | n :: ns, m :: ms => by
    rw [List.map_cons, List.map_cons, PyData.eqvAll, eqv_pairs ns ms, eqv_pair]
    refine Bool.eq_iff_iff.mpr ?_
    simp
theorem eqv_stones (ns ms : List (Int × Int)) : PyData.eqv (dStones ns) (dStones ms) = decide (ns = ms) := by
  unfold dStones
  rw [PyData.eqv]
  exact eqv_pairs ns ms
theorem eqv_intss (ns ms : List (List Int)) : PyData.eqv (dIntss ns) (dIntss ms) = decide (ns = ms) := by
  unfold dIntss
  rw [PyData.eqv]
  induction ns generalizing ms with
  | nil => cases ms <;> simp [PyData.eqvAll]
  | cons n ns ih =>
    cases ms with
    | nil => simp [PyData.eqvAll]
    | cons m ms =>
      rw [List.map_cons, List.map_cons, PyData.eqvAll, ih ms, eqv_dInts]
      refine Bool.eq_iff_iff.mpr ?_
      simp
/-- the kind of a value that is data -/
def kindOf : PyData → String
  | .none => "NoneType"
  | .bool _ => "bool"
  | .int _ => "int"
  | .str _ => "str"
  | .list _ => "list"
  | .tuple _ => "tuple"
  | .dict _ => "dict"
theorem Dt.ty {K : PySem.W.Frag} {H : Hp} {v : V} {d : PyData} (h : Dt H v d) : TyX K H v (.type (kindOf d)) := by
  cases h with
  | non => exact .base .non
  | bl b => exact .base (.bl b)
  | int i => exact .base (.int i)
  | str x => exact .base (.str x)
  | lst h _ => exact .base (.lst h)
  | tup h _ => exact .base (.tup h)
def kinds : List String := ["NoneType", "bool", "int", "str", "list", "tuple", "dict"]
theorem kind_in (d : PyData) : kindOf d ∈ kinds := by cases d <;> simp [kindOf, kinds]
theorem kits : ∀ k ∈ kinds, kitB k "bool" = some (decide (k = "bool")) ∧ kitB k "tuple" = some (decide (k = "tuple")) ∧ kitB k "list" = some (decide (k = "list")) := by decide +kernel
theorem kit_bool {K : PySem.W.Frag} (d : PyData) : PySem.W.kitOne K (.type (kindOf d)) (.type "bool") = some (decide (kindOf d = "bool")) := kit_ty (kits _ (kind_in d)).1
theorem kit_tuple {K : PySem.W.Frag} (d : PyData) : PySem.W.kitOne K (.type (kindOf d)) (.type "tuple") = some (decide (kindOf d = "tuple")) := kit_ty (kits _ (kind_in d)).2.1
theorem kit_list {K : PySem.W.Frag} (d : PyData) : PySem.W.kitOne K (.type (kindOf d)) (.type "list") = some (decide (kindOf d = "list")) := kit_ty (kits _ (kind_in d)).2.2
end Sw
namespace Sw
open PySem PySem.Spec PyProof.Rows L2
open Evl (Ex Ex.refl Ex.trans Ex.new Ex.mut ex_l ex_t ex_rd fresh_back Ev EvL EvU EvT EvA RV RC RCL SpV SpL)
/-! ### stones in memory -/
def GoodS (s : Int × Int) : Prop := (0 ≤ s.1 ∧ s.1 ≤ 999999) ∧ 0 ≤ s.2 ∧ s.2 ≤ 999999
def Good (st : List (Int × Int)) : Prop := st.length ≤ 60 ∧ ∀ s ∈ st, GoodS s
def StonesAt (H : Hp) (a : Addr) (st : List (Int × Int)) : Prop := ∃ ts : List Addr, H a = some (.lst (ts.map V.ref)) ∧ ts.length = st.length ∧ ∀ (i : Nat) (t : Addr) (s : Int × Int), ts[i]? = some t → st[i]? = some s → H t = some (.tup [.int s.1, .int s.2])
theorem StonesAt.ex {H H' : Hp} {a : Addr} {st : List (Int × Int)} (h : StonesAt H a st) (e : Ex H H') : StonesAt H' a st := by
  obtain ⟨ts, h1, h2, h3⟩ := h
  exact ⟨ts, e _ _ h1, h2, fun i t s e1 e2 => e _ _ (h3 i t s e1 e2)⟩
theorem StonesAt.dt {H : Hp} {a : Addr} {st : List (Int × Int)} (h : StonesAt H a st) : Dt H (.ref a) (dStones st) := by
  obtain ⟨ts, h1, h2, h3⟩ := h
  refine .lst h1 (DtAll.of (by rw [List.length_map, List.length_map, h2]) fun i v d e1 e2 => ?_)
  rw [List.getElem?_map] at e1 e2
  obtain ⟨t, ht, rfl⟩ := Option.map_eq_some_iff.mp e1
  obtain ⟨s, hs, rfl⟩ := Option.map_eq_some_iff.mp e2
  exact .tup (h3 i t s ht hs) (.cons (.int _) (.cons (.int _) .nil))
theorem stones_nil {H : Hp} {a : Addr} (h : H a = some (.lst [])) : StonesAt H a [] := ⟨[], h, rfl, fun i t s e => by simp at e⟩
/-- a new tuple, put behind the others -/
theorem StonesAt.app {H : Hp} {a t : Addr} {st : List (Int × Int)} {s : Int × Int} {ts : List Addr} (h1 : H a = some (.lst (ts.map V.ref))) (h2 : ts.length = st.length)
    (h3 : ∀ (i : Nat) (t : Addr) (s : Int × Int), ts[i]? = some t → st[i]? = some s → H t = some (.tup [.int s.1, .int s.2])) (nt : H t = none) :
    StonesAt (upd (upd H t (.tup [.int s.1, .int s.2])) a (.lst (ts.map V.ref ++ [.ref t]))) a (st ++ [s]) := by
  have ta : t ≠ a := fun e => by
    rw [e, h1] at nt
    cases nt
  refine ⟨ts ++ [t], by rw [upd_same, List.map_append]; rfl, by rw [List.length_append, List.length_append, h2]; rfl, fun i t' s' e1 e2 => ?_⟩
  by_cases hi : i < ts.length
  · rw [List.getElem?_append_left hi] at e1
    rw [List.getElem?_append_left (by omega)] at e2
    have q := h3 i t' s' e1 e2
    have n1 : t' ≠ a := fun e => by
      rw [e, h1] at q
      cases q
    have n2 : t' ≠ t := fun e => by
      rw [e, nt] at q
      cases q
    rw [upd_ne n1, upd_ne n2]
    exact q
  · rw [List.getElem?_append_right (by omega)] at e1
    rw [List.getElem?_append_right (by omega)] at e2
    have z : i - ts.length = 0 := by
      have := (List.getElem?_eq_some_iff.mp e1).1
      simp at this
      omega
    have z2 : i - st.length = 0 := by omega
    rw [z] at e1
    rw [z2] at e2
    have e1 : t = t' := Option.some.inj e1
    have e2 : s = s' := Option.some.inj e2
    rw [← e1, ← e2, upd_ne ta, upd_same]
/-- a new tuple, put in the place of one -/
theorem StonesAt.put {H : Hp} {a t : Addr} {st : List (Int × Int)} {s : Int × Int} {ts : List Addr} {j : Nat} (h1 : H a = some (.lst (ts.map V.ref))) (h2 : ts.length = st.length)
    (h3 : ∀ (i : Nat) (t : Addr) (s : Int × Int), ts[i]? = some t → st[i]? = some s → H t = some (.tup [.int s.1, .int s.2])) (nt : H t = none) :
    StonesAt (upd (upd H t (.tup [.int s.1, .int s.2])) a (.lst ((ts.map V.ref).set j (.ref t)))) a (st.set j s) := by
  have ta : t ≠ a := fun e => by
    rw [e, h1] at nt
    cases nt
  refine ⟨ts.set j t, by rw [upd_same, List.map_set], by rw [List.length_set, List.length_set, h2], fun i t' s' e1 e2 => ?_⟩
  rw [List.getElem?_set] at e1 e2
  by_cases hi : j = i
  · subst hi
    rw [if_pos rfl] at e1 e2
    by_cases hl : j < ts.length
    · rw [if_pos hl] at e1
      rw [if_pos (by omega)] at e2
      have e1 : t = t' := Option.some.inj e1
      have e2 : s = s' := Option.some.inj e2
      rw [← e1, ← e2, upd_ne ta, upd_same]
    · rw [if_neg hl] at e1
      cases e1
  · rw [if_neg hi] at e1 e2
    have q := h3 i t' s' e1 e2
    have n1 : t' ≠ a := fun e => by
      rw [e, h1] at q
      cases q
    have n2 : t' ≠ t := fun e => by
      rw [e, nt] at q
      cases q
    rw [upd_ne n1, upd_ne n2]
    exact q
theorem goods_snoc {st : List (Int × Int)} {s : Int × Int} (h : ∀ s ∈ st, GoodS s) (g : GoodS s) : ∀ x ∈ st ++ [s], GoodS x := fun x hx => by
  rcases List.mem_append.mp hx with e | e
  · exact h x e
  · rw [List.mem_singleton.mp e]
    exact g
theorem goods_set {st : List (Int × Int)} {s : Int × Int} {j : Nat} (h : ∀ s ∈ st, GoodS s) (g : GoodS s) : ∀ x ∈ st.set j s, GoodS x := fun x hx => by
  rcases List.mem_or_eq_of_mem_set hx with e | e
  · exact h x e
  · rw [e]
    exact g
end Sw
namespace Sw
open PySem PySem.Spec PyProof.Rows L2
open Evl (Ex Ex.refl Ex.trans Ex.new Ex.mut ex_l ex_t ex_rd fresh_back Ev EvL EvU EvT EvA RV RC RCL SpV SpL)
/-! ### places, lists of places -/
def nats (l : List Nat) : List V := l.map fun p : Nat => V.int (p : Int)
theorem nats_len (l : List Nat) : (nats l).length = l.length := by
  unfold nats
  rw [List.length_map]
theorem nats_at {l : List Nat} {i p : Nat} (h : l[i]? = some p) : (nats l)[i]? = some (.int (p : Int)) := by
  unfold nats
  rw [List.getElem?_map, h]
  rfl
theorem nats_inv {l : List Nat} {i : Nat} {y : V} (h : (nats l)[i]? = some y) : ∃ p : Nat, l[i]? = some p ∧ y = .int (p : Int) := by
  unfold nats at h
  rw [List.getElem?_map] at h
  obtain ⟨p, h1, h2⟩ := Option.map_eq_some_iff.mp h
  exact ⟨p, h1, h2.symm⟩
def ofNats (l : List Nat) : List Int := l.map fun p : Nat => (p : Int)
theorem nats_eq (l : List Nat) : nats l = (ofNats l).map V.int := by
  unfold nats ofNats
  rw [List.map_map]
  rfl
/-- a new list of new lists of places -/
structure NewLL (H H' : Hp) (p : Addr) (T : List (Addr × List Nat)) : Prop where
  np : H p = none
  at_ : H' p = some (.lst (T.map fun t => V.ref t.1))
  nd : (T.map (·.1)).Nodup
  in_ : ∀ t ∈ T, H t.1 = none ∧ t.1 ≠ p ∧ H' t.1 = some (.lst (nats t.2))
def dGroups (gs : List (List Nat)) : PyData := dIntss (gs.map ofNats)
theorem NewLL.dt {H H' : Hp} {p : Addr} {T : List (Addr × List Nat)} (h : NewLL H H' p T) : Dt H' (.ref p) (dGroups (T.map (·.2))) := by
  refine .lst h.at_ (DtAll.of (by rw [List.length_map, List.length_map, List.length_map, List.length_map]) fun i v d e1 e2 => ?_)
  rw [List.getElem?_map] at e1
  rw [List.getElem?_map, List.getElem?_map, List.getElem?_map] at e2
  obtain ⟨t, ht, rfl⟩ := Option.map_eq_some_iff.mp e1
  rw [ht] at e2
  have e2 := Option.some.inj e2
  rw [← e2]
  have q := (h.in_ t (List.mem_of_getElem? ht)).2.2
  rw [nats_eq] at q
  exact dt_ints q
theorem lay_groups {gs : List (List Nat)} (h1 : gs.length ≤ 1000) (h2 : ∀ g ∈ gs, g.length ≤ 1000) : Lay 2 (dGroups gs) := lay_intss _ (by rw [List.length_map]; exact h1) fun g hg => by
  obtain ⟨l, hl, e⟩ := List.mem_map.mp hg
  rw [← e]
  unfold ofNats
  rw [List.length_map]
  exact h2 l hl
/-- the sizes of groups -/
theorem grpsL_size (c : Nat → Int) (l : List Nat) : (grpsL c l).length ≤ l.length ∧ ∀ g ∈ grpsL c l, g.length ≤ l.length := by
  unfold grpsL
  refine ⟨by rw [List.length_map]; exact List.length_filter_le _ _, fun g hg => ?_⟩
  obtain ⟨p, _, e⟩ := List.mem_map.mp hg
  rw [← e]
  exact List.length_filter_le _ _
theorem grps_size (st : List (Int × Int)) : (grps st).length ≤ st.length ∧ ∀ g ∈ grps st, g.length ≤ st.length := by
  have h := grpsL_size (cls st) (List.range st.length)
  rw [List.length_range] at h
  exact h
theorem endsOf_take {st : List (Int × Int)} {ps : List Nat} {i p : Nat} (h : ps[i]? = some p) : endsOf st (ps.take (i + 1)) = endsOf st (ps.take i) ++ [sa st p, sb st p] := by
  rw [List.take_add_one, h, endsOf_append]
  rfl
end Sw
namespace Sw
open PySem PySem.Spec PyProof.Rows L2
open Evl (Ex Ex.refl Ex.trans Ex.new Ex.mut ex_l ex_t ex_rd fresh_back Ev EvL EvU EvT EvA RV RC RCL SpV SpL)
/-- a pair's tuple, its group's list, its odd ends' list, the group -/
structure WE where
  t : Addr
  g : Addr
  o : Addr
  l : List Nat
/-- a new list of new pairs of a new group and its new odd ends -/
structure NewWhy (st : List (Int × Int)) (H H' : Hp) (p : Addr) (T : List WE) : Prop where
  np : H p = none
  at_ : H' p = some (.lst (T.map fun e => V.ref e.t))
  in_ : ∀ e ∈ T, (H e.t = none ∧ H e.g = none ∧ H e.o = none) ∧ (p ≠ e.t ∧ p ≠ e.g ∧ p ≠ e.o) ∧ H' e.t = some (.tup [.ref e.g, .ref e.o]) ∧ H' e.g = some (.lst (nats e.l)) ∧ H' e.o = some (.lst ((odds st e.l).map V.int))
  ng : (T.map WE.g).Nodup
  no : (T.map WE.o).Nodup
  go : ∀ e ∈ T, ∀ f ∈ T, e.g ≠ f.o
  gs : T.map WE.l = grps st
def dWhy (st : List (Int × Int)) (gs : List (List Nat)) : PyData := .list (gs.map fun l => .tuple [dInts (ofNats l), dInts (odds st l)])
theorem NewWhy.dt {st : List (Int × Int)} {H H' : Hp} {p : Addr} {T : List WE} (h : NewWhy st H H' p T) : Dt H' (.ref p) (dWhy st (grps st)) := by
  rw [← h.gs]
  refine .lst h.at_ (DtAll.of (by rw [List.length_map, List.length_map, List.length_map]) fun i v d e1 e2 => ?_)
  rw [List.getElem?_map] at e1
  rw [List.getElem?_map, List.getElem?_map] at e2
  obtain ⟨t, ht, rfl⟩ := Option.map_eq_some_iff.mp e1
  rw [ht] at e2
  have e2 := Option.some.inj e2
  rw [← e2]
  obtain ⟨_, _, q1, q2, q3⟩ := h.in_ t (List.mem_of_getElem? ht)
  rw [nats_eq] at q2
  exact .tup q1 (.cons (dt_ints q2) (.cons (dt_ints q3) .nil))
theorem odds_size (st : List (Int × Int)) (l : List Nat) : (odds st l).length ≤ 2 * l.length := by
  have h := oddL_le (endsOf st l)
  rw [endsOf_len] at h
  exact h
theorem lay_why (st : List (Int × Int)) {gs : List (List Nat)} (h1 : gs.length ≤ 1000) (h2 : ∀ g ∈ gs, g.length ≤ 500) : Lay 3 (dWhy st gs) := Lay.lst (by rw [List.length_map]; exact h1) fun d hd => by
  obtain ⟨l, hl, e⟩ := List.mem_map.mp hd
  rw [← e]
  have a := h2 l hl
  have b := odds_size st l
  refine Lay.tup (by show 2 ≤ 1000; decide) fun d hd => ?_
  rcases List.mem_cons.mp hd with e | hd
  · rw [e]
    exact lay_ints _ (by unfold ofNats; rw [List.length_map]; omega)
  · rw [List.mem_singleton.mp hd]
    exact lay_ints _ (by omega)
theorem grps_lt (st : List (Int × Int)) : ∀ g ∈ grps st, ∀ p ∈ g, p < st.length := by
  intro g hg p hp
  unfold grps grpsL at hg
  obtain ⟨q, _, e⟩ := List.mem_map.mp hg
  rw [← e] at hp
  exact List.mem_range.mp (List.mem_filter.mp hp).1
/-- [(group, f(stones, group)) for group in g(stones)] -/
theorem why_comp {K : PySem.W.Frag} {σ : L2.St} {H : Hp} {tg : TE} {a : Addr} {i j : Nat} {vs : List Nat} {sp : Sp} {E : XK} {st : List (Int × Int)} {Q : VK}
    (h1 : ∀ x, ((wipe σ vs).set j (some x))[i]? = some (some (.ref a))) (h2 : ∀ x, ((wipe σ vs).set j (some x))[j]? = some (some x)) (h3 : ∀ x, wipe ((wipe σ vs).set j (some x)) vs = wipe σ vs)
    (hS : StonesAt H a st) (hl : st.length ≤ 60) (hg : ∀ Q : VK, (∀ p T H1, Ex H H1 → NewLL H H1 p T → T.map (·.2) = grps st → Q (.ref p) H1) → tg σ H Q)
    (hsp : ∀ H' g l, StonesAt H' a st → H' g = some (.lst (nats l)) → (∀ p ∈ l, p < st.length) → l.length ≤ 100 → SpL sp [.ref a, .ref g] H' ((odds st l).map V.int))
    (q : ∀ p T H', Ex H H' → NewWhy st H H' p T → Q (.ref p) H') :
    tLc (iList K tg) (gName j) tYes (tTup (tCons (tVar j) (tCons (tCall sp [] E (tCons (tVar i) (tCons (tVar j) tNil))) tNil))) vs σ H Q := by
  refine hg _ fun p T H1 e1 n1 hT => ⟨p, rfl, ⟨_, SqL.of n1.at_⟩, fun D nD => ?_⟩
  have hsz := (grps_size st)
  refine lc_list (xs := T.map fun t => V.ref t.1) (fun k H' => ∃ W : List WE, (W.map fun e => (e.g, e.l)) = T.take k ∧ Ex H1 H' ∧ H' D = some (.lst (W.map fun e => V.ref e.t)) ∧
      (∀ e ∈ W, H1 e.t = none ∧ H1 e.o = none ∧ D ≠ e.t ∧ D ≠ e.o ∧ H' e.t = some (.tup [.ref e.g, .ref e.o]) ∧ H' e.o = some (.lst ((odds st e.l).map V.int))) ∧ (W.map WE.o).Nodup)
    ⟨[], rfl, Ex.new nD, upd_same, fun e he => (nomatch he), List.nodup_nil⟩ (fun k H' _ ⟨_, _, e, _⟩ => SqL.of (e _ _ n1.at_)) ?_ ?_
  · rintro k x H2 hk ⟨W, hW, e2, hD, hin, hno⟩
    rw [List.getElem?_map] at hk
    obtain ⟨t, ht, rfl⟩ := Option.map_eq_some_iff.mp hk
    have htm := n1.in_ t (List.mem_of_getElem? ht)
    have hgm : t.2 ∈ grps st := by
      rw [← hT]
      exact List.mem_map.mpr ⟨t, List.mem_of_getElem? ht, rfl⟩
    have hg2 := e2 _ _ htm.2.2
    refine ⟨h3 _, ?_⟩
    unfold tYes
    dsimp only
    rw [if_pos rfl]
    refine ⟨_, h2 _, ?_⟩
    refine ⟨_, h1 _, _, h2 _, hsp H2 t.1 t.2 (hS.ex (e1.trans e2)) hg2 (grps_lt st _ hgm) (by have := hsz.2 _ hgm; omega) H2 (Ex.refl H2) _ (fun o H3 no e3 ho => ?_) _⟩
    refine ⟨by show 2 ≤ sizeLine; decide, fun u nu => ?_⟩
    have Do : D ≠ o := ne_of_none hD no
    have Du : D ≠ u := ne_of_none (e3 _ _ hD) nu
    have e4 : Ex H2 (upd H3 u (.tup [.ref t.1, .ref o])) := e3.trans (Ex.new nu)
    have wl : W.length ≤ k := by
      have h5 := congrArg List.length hW
      rw [List.length_map, List.length_take] at h5
      omega
    have tl : T.length ≤ 60 := by
      have h5 := congrArg List.length hT
      rw [List.length_map] at h5
      omega
    have kl : k < T.length := (List.getElem?_eq_some_iff.mp ht).1
    refine ⟨_, e4 _ _ hD, by rw [List.length_map]; exact small1000 (by omega), W ++ [⟨u, t.1, o, t.2⟩], ?_, ?_, ?_, fun e he => ?_, ?_⟩
    · rw [List.map_append, hW, List.take_add_one, ht]
      rfl
    · exact Ex.mut (e2.trans e4) nD
    · rw [upd_same, List.map_append]
      rfl
    · rcases List.mem_append.mp he with he | he
      · obtain ⟨a1, a2, a3, a4, a5, a6⟩ := hin e he
        refine ⟨a1, a2, a3, a4, ?_, ?_⟩
        · rw [upd_ne (fun z => a3 z.symm)]
          exact e4 _ _ a5
        · rw [upd_ne (fun z => a4 z.symm)]
          exact e4 _ _ a6
      · rw [List.mem_singleton.mp he]
        have ou : o ≠ u := ne_of_none ho nu
        refine ⟨fresh_back (e2.trans e3) nu, fresh_back e2 no, Du, Do, ?_, ?_⟩
        · show upd _ D _ u = _
          rw [upd_ne (fun z => Du z.symm), upd_same]
        · show upd _ D _ o = _
          rw [upd_ne (fun z => Do z.symm), upd_ne ou]
          exact ho
    · rw [List.map_append]
      refine List.nodup_append.mpr ⟨hno, by simp, fun x hx y hy z => ?_⟩
      obtain ⟨e, he, ee⟩ := List.mem_map.mp hx
      have hy : y = o := List.mem_singleton.mp hy
      have a6 := (hin e he).2.2.2.2.2
      rw [ee, z, hy, no] at a6
      cases a6
  · rintro H2 ⟨W, hW, e2, hD, hin, hno⟩
    rw [List.length_map, List.take_length] at hW
    have hWT : ∀ e ∈ W, (e.g, e.l) ∈ T := fun e he => by
      rw [← hW]
      exact List.mem_map.mpr ⟨e, he, rfl⟩
    refine q D W H2 (e1.trans e2) ⟨fresh_back e1 nD, hD, fun e he => ?_, ?_, hno, fun e he f hf z => ?_, ?_⟩
    · obtain ⟨a1, a2, a3, a4, a5, a6⟩ := hin e he
      have ht := n1.in_ _ (hWT e he)
      have Dg : D ≠ e.g := fun z => by
        have h5 : H1 e.g = _ := ht.2.2
        rw [← z, nD] at h5
        cases h5
      exact ⟨⟨fresh_back e1 a1, ht.1, fresh_back e1 a2⟩, ⟨a3, Dg, a4⟩, a5, e2 _ _ ht.2.2, a6⟩
    · have h5 : W.map WE.g = T.map (·.1) := by
        rw [← hW, List.map_map]
        rfl
      rw [h5]
      exact n1.nd
    · have h5 : H1 e.g = _ := (n1.in_ _ (hWT e he)).2.2
      rw [z, (hin f hf).2.1] at h5
      cases h5
    · rw [← hT, ← hW, List.map_map]
      rfl
theorem q_why {K : PySem.W.Frag} {σ : L2.St} {H : Hp} {tg : TE} {a : Addr} {i j k : Nat} {vs : List Nat} {sp : Sp} {E : XK} {st : List (Int × Int)} {tz : TS} {D : Ends}
    (h1 : ∀ x, ((wipe σ vs).set j (some x))[i]? = some (some (.ref a))) (h2 : ∀ x, ((wipe σ vs).set j (some x))[j]? = some (some x)) (h3 : ∀ x, wipe ((wipe σ vs).set j (some x)) vs = wipe σ vs)
    (hS : StonesAt H a st) (hl : st.length ≤ 60) (hg : ∀ Q : VK, (∀ p T H1, Ex H H1 → NewLL H H1 p T → T.map (·.2) = grps st → Q (.ref p) H1) → tg σ H Q)
    (hsp : ∀ H' g l, StonesAt H' a st → H' g = some (.lst (nats l)) → (∀ p ∈ l, p < st.length) → l.length ≤ 100 → SpL sp [.ref a, .ref g] H' ((odds st l).map V.int))
    (q : ∀ p T H', Ex H H' → NewWhy st H H' p T → tz D (σ.set k (some (.ref p))) H') :
    tSeq (tAsg (tLc (iList K tg) (gName j) tYes (tTup (tCons (tVar j) (tCons (tCall sp [] E (tCons (tVar i) (tCons (tVar j) tNil))) tNil))) vs) (gName k)) tz D σ H :=
  why_comp (Q := fun x H1 => tz D (σ.set k (some x)) H1) h1 h2 h3 hS hl hg hsp q
end Sw
namespace Sw
open PySem PySem.Spec PyProof.Rows L2
open Evl (Ex Ex.refl Ex.trans Ex.new Ex.mut ex_l ex_t ex_rd fresh_back Ev EvL EvU EvT EvA RV RC RCL SpV SpL)
section
variable {K : PySem.W.Frag} {σ : L2.St} {H H' : Hp} {ta tb te : TE} {st su : List (Int × Int)}
/-- what tells a list of stones, old or new -/
def EvSt (te : TE) (σ : L2.St) (H : Hp) (st : List (Int × Int)) : Prop := ∀ H1, Ex H H1 → ∀ Q : VK, (∀ p H2, Ex H1 H2 → StonesAt H2 p st → Q (.ref p) H2) → te σ H1 Q
theorem EvSt.mono (e : Ex H H') (h : EvSt te σ H st) : EvSt te σ H' st := fun H1 a Q q => h H1 (e.trans a) Q q
theorem EvSt.is (h : EvSt te σ H st) (e : st = su) : EvSt te σ H su := by
  rw [← e]
  exact h
theorem es_var {i : Nat} {a : Addr} (h : σ[i]? = some (some (.ref a))) (hS : StonesAt H a st) : EvSt (tVar i) σ H st := fun H1 e Q q => ⟨_, h, q a H1 (Ex.refl H1) (hS.ex e)⟩
/-- a new list of the tuples of others -/
theorem stones_refs {ts : List Addr} {p : Addr} (h1 : H p = some (.lst (ts.map V.ref))) (h2 : ts.length = st.length) (h3 : ∀ (i : Nat) (t : Addr) (s : Int × Int), ts[i]? = some t → st[i]? = some s → H t = some (.tup [.int s.1, .int s.2])) : StonesAt H p st := ⟨ts, h1, h2, h3⟩
theorem es_sl {tl th : TO} {lo hi : Option Int} (h : EvSt te σ H st) (h1 : Evl.EvO tl σ H lo) (h2 : Evl.EvO th σ H hi) :
    EvSt (tSl (rSlL K) te tl th) σ H ((st.drop (HT.sIx st.length 0 lo)).take (HT.sIx st.length st.length hi - HT.sIx st.length 0 lo)) := fun H1 e Q q =>
  h H1 e _ fun a H2 e2 hS => h1 H2 (e.trans e2) _ fun H3 e3 => h2 H3 ((e.trans e2).trans e3) _ fun H4 e4 => by
    obtain ⟨ts, t1, t2, t3⟩ := hS.ex (e3.trans e4)
    refine ⟨a, ts.map V.ref, rfl, SqL.of t1, fun p np => ?_⟩
    refine q p _ (((e2.trans e3).trans e4).trans (Ex.new np)) ⟨(ts.drop (HT.sIx st.length 0 lo)).take (HT.sIx st.length st.length hi - HT.sIx st.length 0 lo), ?_, ?_, fun i t s g1 g2 => ?_⟩
    · rw [upd_same]
      unfold cutV
      rw [List.length_map, t2, ← List.map_drop, ← List.map_take]
    · rw [List.length_take, List.length_take, List.length_drop, List.length_drop, t2]
    · rw [List.getElem?_take] at g1 g2
      by_cases c : i < HT.sIx st.length st.length hi - HT.sIx st.length 0 lo
      · rw [if_pos c, List.getElem?_drop] at g1 g2
        exact Ex.new np _ _ (t3 _ t s g1 g2)
      · rw [if_neg c] at g1
        cases g1
theorem es_take {n : Nat} {tl th : TO} (h : EvSt te σ H st) (h1 : Evl.EvO tl σ H none) (h2 : Evl.EvO th σ H (some (n : Int))) : EvSt (tSl (rSlL K) te tl th) σ H (st.take n) := (es_sl h h1 h2).is (by
  rw [HT.sIx_none, HT.sIx_nat, List.drop_zero, Nat.sub_zero]
  by_cases c : n ≤ st.length
  · rw [Nat.min_eq_left c]
  · rw [Nat.min_eq_right (by omega), List.take_length, List.take_of_length_le (by omega)])
theorem es_drop {n : Nat} {tl th : TO} (h : EvSt te σ H st) (h1 : Evl.EvO tl σ H (some (n : Int))) (h2 : Evl.EvO th σ H none) : EvSt (tSl (rSlL K) te tl th) σ H (st.drop n) := (es_sl h h1 h2).is (by
  rw [HT.sIx_none, HT.sIx_nat]
  by_cases c : n ≤ st.length
  · rw [Nat.min_eq_left c]
    exact List.take_of_length_le (by rw [List.length_drop]; exact Nat.le_refl _)
  · rw [Nat.min_eq_right (by omega), List.drop_length, List.drop_of_length_le (by omega), List.take_nil])
theorem es_cat (h : EvSt ta σ H st) (k : EvSt tb σ H su) (hz : st.length + su.length ≤ 100000) : EvSt (tOp rCat ta tb) σ H (st ++ su) := fun H1 e Q q =>
  h H1 e _ fun a H2 e2 hS => k H2 (e.trans e2) _ fun b H3 e3 hT => by
    obtain ⟨ts, t1, t2, t3⟩ := hS.ex e3
    obtain ⟨us, u1, u2, u3⟩ := hT
    refine ⟨a, b, _, _, rfl, rfl, t1, u1, by rw [List.length_map, List.length_map, t2, u2]; exact Evl.sz_of hz, fun p np => ?_⟩
    refine q p _ ((e2.trans e3).trans (Ex.new np)) ⟨ts ++ us, by rw [upd_same, List.map_append], by rw [List.length_append, List.length_append, t2, u2], fun i t s g1 g2 => ?_⟩
    by_cases c : i < ts.length
    · rw [List.getElem?_append_left c] at g1
      rw [List.getElem?_append_left (by omega)] at g2
      exact Ex.new np _ _ (t3 i t s g1 g2)
    · rw [List.getElem?_append_right (by omega)] at g1
      rw [List.getElem?_append_right (by omega), ← t2] at g2
      exact Ex.new np _ _ (u3 _ t s g1 g2)
theorem es_rev (h : EvSt te σ H st) : EvSt (tRevL K te) σ H st.reverse := fun H1 e Q q =>
  h H1 e _ fun a H2 e2 hS => by
    obtain ⟨ts, t1, t2, t3⟩ := hS
    refine ⟨a, _, rfl, SqL.of t1, fun p np => q p _ (e2.trans (Ex.new np)) ⟨ts.reverse, by rw [upd_same, List.map_reverse], by rw [List.length_reverse, List.length_reverse, t2], fun i t s g1 g2 => ?_⟩⟩
    have c : i < ts.length := by
      have := (List.getElem?_eq_some_iff.mp g1).1
      rwa [List.length_reverse] at this
    rw [List.getElem?_reverse c] at g1
    rw [List.getElem?_reverse (by omega), ← t2] at g2
    exact Ex.new np _ _ (t3 _ t s g1 g2)
/-- [t] of a tuple -/
theorem es_one {i : Nat} {t : Addr} {x y : Int} (h : σ[i]? = some (some (.ref t))) (ht : H t = some (.tup [.int x, .int y])) : EvSt (tLst (tCons (tVar i) tNil)) σ H [(x, y)] := fun H1 e Q q =>
  ⟨_, h, by show 1 ≤ sizeLine; decide, fun p np => q p _ (Ex.new np) ⟨[t], by rw [upd_same]; rfl, rfl, fun j t' s g1 g2 => by
    cases j with
    | zero =>
      have g1 := Option.some.inj g1
      have g2 := Option.some.inj g2
      subst g1 g2
      exact Ex.new np _ _ (e _ _ ht)
    | succ j => simp at g1⟩⟩
/-- [(x, y)] -/
theorem es_pair {x y : Int} (h : Ev ta σ H (.int x)) (k : Ev tb σ H (.int y)) : EvSt (tLst (tCons (tTup (tCons ta (tCons tb tNil))) tNil)) σ H [(x, y)] := fun H1 e Q q =>
  h H1 e _ fun H2 e2 => k H2 (e.trans e2) _ fun H3 e3 => ⟨by show 2 ≤ sizeLine; decide, fun t nt => ⟨by show 1 ≤ sizeLine; decide, fun p np => q p _ (((e2.trans e3).trans (Ex.new nt)).trans (Ex.new np)) ⟨[t], by rw [upd_same]; rfl, rfl, fun j t' s g1 g2 => by
    cases j with
    | zero =>
      have g1 := Option.some.inj g1
      have g2 := Option.some.inj g2
      subst g1 g2
      exact Ex.new np _ _ upd_same
    | succ j => simp at g1⟩⟩⟩
theorem es_nil : EvSt (tLst tNil) σ H [] := fun H1 e Q q => ⟨Nat.zero_le _, fun p np => q p _ (Ex.new np) (stones_nil upd_same)⟩
theorem q_st {i : Nat} {tz : TS} {D : Ends} (h : EvSt te σ H st) (k : ∀ p H1, Ex H H1 → StonesAt H1 p st → tz D (σ.set i (some (.ref p))) H1) : tSeq (tAsg te (gName i)) tz D σ H := h H (Ex.refl H) _ fun p H1 e hS => k p H1 e hS
theorem ev_lenSt {a : Addr} {i : Nat} (h : σ[i]? = some (some (.ref a))) (hS : StonesAt H a st) : Ev (tCB (Evl.rLenS K) (tCons (tVar i) tNil)) σ H (.int (st.length : Int)) := by
  obtain ⟨ts, t1, t2, t3⟩ := hS
  have h := Evl.ev_len (K := K) (Evl.ev_var (H := H) h) (SqL.of t1)
  rw [List.length_map, t2] at h
  exact h
end
end Sw
namespace Sw
open PySem PySem.Spec PyProof.Rows L2
open Evl (Ex Ex.refl Ex.trans Ex.new Ex.mut ex_l ex_t ex_rd fresh_back Ev EvL EvU EvT EvA RV RC RCL SpV SpL)
section
variable {K : PySem.W.Frag} {σ : L2.St} {H : Hp} {ta tb te tl : TE}
theorem small_lt {n : Nat} (h : n < 100000) : n < sizeLine := Evl.sz_lt h
/-- what tells a new list of stones -/
def EvStN (te : TE) (σ : L2.St) (H : Hp) (st : List (Int × Int)) : Prop := ∀ H1, Ex H H1 → ∀ Q : VK, (∀ p H2, H1 p = none → Ex H1 H2 → StonesAt H2 p st → Q (.ref p) H2) → te σ H1 Q
theorem EvStN.st {su : List (Int × Int)} (h : EvStN te σ H su) : EvSt te σ H su := fun H1 e Q q => h H1 e Q fun p H2 _ e2 hp => q p H2 e2 hp
/-- [e for x in xs], each e a new pair of numbers -/
theorem esn_lc {a : Addr} {xs : List V} {ys : List (Int × Int)} {j : Nat} {vs : List Nat} (h : Ev tl σ H (.ref a)) (hx : SqL K H a xs) (hz : xs.length ≤ 40000) (hl : ys.length = xs.length) (hw : ∀ x, wipe ((wipe σ vs).set j (some x)) vs = wipe σ vs)
    (he : ∀ (i : Nat) (x : V) (s : Int × Int) H1, Ex H H1 → xs[i]? = some x → ys[i]? = some s → ∀ Q : VK, (∀ z H2, Ex H1 H2 → H2 z = some (.tup [.int s.1, .int s.2]) → Q (.ref z) H2) → te ((wipe σ vs).set j (some x)) H1 Q) :
    EvStN (tLc (iList K tl) (gName j) tYes te vs) σ H ys := fun H1 e Q q => h H1 e _ fun H2 e2 => ⟨a, rfl, ⟨xs, ex_l (e.trans e2) hx⟩, fun D nD => by
  refine lc_list (xs := xs) (fun k H' => ∃ zs : List Addr, Ex H2 H' ∧ H' D = some (.lst (zs.map V.ref)) ∧ zs.length = k ∧ ∀ (i : Nat) (z : Addr) (s : Int × Int), zs[i]? = some z → ys[i]? = some s → z ≠ D ∧ H' z = some (.tup [.int s.1, .int s.2]))
    ⟨[], Ex.new nD, upd_same, rfl, fun i z s e => by simp at e⟩ (fun i H' _ h => by obtain ⟨_, e3, _⟩ := h; exact ex_l ((e.trans e2).trans e3) hx) ?_ ?_
  · rintro k v H3 hk ⟨zs, e3, hD, hzs, hin⟩
    have il : k < xs.length := (List.getElem?_eq_some_iff.mp hk).1
    refine ⟨hw v, ?_⟩
    unfold tYes
    dsimp only
    rw [if_pos rfl]
    refine he k v ys[k] H3 ((e.trans e2).trans e3) hk (List.getElem?_eq_getElem (by omega)) _ fun z H4 e4 hz4 => ?_
    have hD4 := e4 _ _ hD
    have zD : z ≠ D := fun e => by
      rw [e, hD4] at hz4
      cases hz4
    refine ⟨_, hD4, small_lt (by rw [List.length_map, hzs]; omega), zs ++ [z], Ex.mut (e3.trans e4) nD, by rw [upd_same, List.map_append]; rfl, by rw [List.length_append, hzs]; rfl, fun i z' s' g1 g2 => ?_⟩
    by_cases c : i < zs.length
    · rw [List.getElem?_append_left c] at g1
      obtain ⟨n1, n2⟩ := hin i z' s' g1 g2
      exact ⟨n1, by rw [upd_ne n1]; exact e4 _ _ n2⟩
    · rw [List.getElem?_append_right (by omega)] at g1
      have zz : i - zs.length = 0 := by
        have := (List.getElem?_eq_some_iff.mp g1).1
        simp at this
        omega
      rw [zz] at g1
      have g1 : z = z' := Option.some.inj g1
      have ik : i = k := by omega
      rw [ik, List.getElem?_eq_getElem (by omega)] at g2
      have g2 := Option.some.inj g2
      rw [← g1, ← g2]
      exact ⟨zD, by rw [upd_ne zD]; exact hz4⟩
  · rintro H3 ⟨zs, e3, hD, hzs, hin⟩
    exact q D H3 (fresh_back e2 nD) (e2.trans e3) ⟨zs, hD, by omega, fun i z s g1 g2 => (hin i z s g1 g2).2⟩⟩
theorem es_lc {a : Addr} {xs : List V} {ys : List (Int × Int)} {j : Nat} {vs : List Nat} (h : Ev tl σ H (.ref a)) (hx : SqL K H a xs) (hz : xs.length ≤ 40000) (hl : ys.length = xs.length) (hw : ∀ x, wipe ((wipe σ vs).set j (some x)) vs = wipe σ vs)
    (he : ∀ (i : Nat) (x : V) (s : Int × Int) H1, Ex H H1 → xs[i]? = some x → ys[i]? = some s → ∀ Q : VK, (∀ z H2, Ex H1 H2 → H2 z = some (.tup [.int s.1, .int s.2]) → Q (.ref z) H2) → te ((wipe σ vs).set j (some x)) H1 Q) :
    EvSt (tLc (iList K tl) (gName j) tYes te vs) σ H ys := (esn_lc h hx hz hl hw he).st
/-- one turn of a comprehension -/
abbrev LcTurn (g : TG) (tt : TT) (te : TE) (vs : List Nat) (σ : L2.St) (D : Addr) (z : V) (J1 : Hp) (Nx : Hp → Prop) : Prop :=
  g z (wipe σ vs) J1 fun s2 J2 => wipe s2 vs = wipe σ vs ∧ tt s2 J2 fun c J3 => if c = true then te s2 J3 fun u J4 => ∃ l, J4 D = some (.lst l) ∧ l.length < sizeLine ∧ Nx (upd J4 D (.lst (l ++ [u]))) else Nx J3
/-- its run over a walked thing -/
abbrev LcRun (J : It) (J0 : Hp) (Qd : Hp → Prop) (turn : V → Hp → (Hp → Prop) → Prop) : Prop := ∃ U : Nat → Nat → Hp → Prop, (∃ n, U 0 n J0) ∧ ∀ i n J1, U i n J1 →
  (J.stop i J1 ∧ Qd J1) ∨ (J.go i J1 ∧ ∃ Nx : Hp → Prop, (∀ J2, Nx J2 → ∃ k, k < n ∧ U (i + 1) k J2) ∧ ∀ z J2, J.yld i J1 z J2 → turn z J2 Nx)
/-- a comprehension over zip -/
theorem lc_zip {a b : Addr} {xs ys : List V} {g : TG} {tt : TT} {vs : List Nat} {J0 : Hp} {D : Addr} {Qd : Hp → Prop} (Pv : Nat → Hp → Prop) (h0 : Pv 0 J0) (hl : ∀ i J, Pv i J → SqL K J a xs ∧ SqL K J b ys)
    (hs : ∀ (i : Nat) (x y : V) (T : Addr) (J : Hp), xs[i]? = some x → ys[i]? = some y → Pv i J → J T = none → LcTurn g tt te vs σ D (.ref T) (upd J T (.tup [x, y])) (Pv (i + 1))) (hd : ∀ J, Pv (min xs.length ys.length) J → Qd J) :
    LcRun (Itz K a b) J0 Qd (LcTurn g tt te vs σ D) := by
  refine ⟨fun i m J => m + i = min xs.length ys.length ∧ Pv i J, ⟨_, rfl, h0⟩, fun i m J ⟨hm, p⟩ => ?_⟩
  obtain ⟨qx, qy⟩ := hl i J p
  cases m with
  | zero =>
    have e : i = min xs.length ys.length := by omega
    refine .inl ⟨⟨xs, ys, qx, qy, by omega⟩, hd J (by rw [← e]; exact p)⟩
  | succ m =>
    have i1 : i < xs.length := by omega
    have i2 : i < ys.length := by omega
    refine .inr ⟨⟨xs, ys, _, _, qx, qy, List.getElem?_eq_getElem i1, List.getElem?_eq_getElem i2⟩, Pv (i + 1), fun H' p' => ⟨m, Nat.lt_succ_self m, by omega, p'⟩, fun v H' yl => ?_⟩
    obtain ⟨T, x, y, rfl, nT, rfl, f1, f2⟩ := yl
    exact hs i x y T J (f1 xs qx) (f2 ys qy) p nT
/-- a comprehension's loop over a list, whatever its turn -/
theorem lc_over {a : Addr} {xs : List V} {J0 : Hp} {Qd : Hp → Prop} {turn : V → Hp → (Hp → Prop) → Prop} (Pv : Nat → Hp → Prop) (h0 : Pv 0 J0) (hl : ∀ i J, Pv i J → SqL K J a xs)
    (hs : ∀ i x J, xs[i]? = some x → Pv i J → turn x J (Pv (i + 1))) (hd : ∀ J, Pv xs.length J → Qd J) : LcRun (Itl K a) J0 Qd turn := by
  refine ⟨fun i m J => m + i = xs.length ∧ Pv i J, ⟨xs.length, rfl, h0⟩, fun i m J ⟨hm, p⟩ => ?_⟩
  have q := hl i J p
  cases m with
  | zero =>
    have e : i = xs.length := by omega
    exact .inl ⟨⟨xs, q, by omega⟩, hd J (by rw [← e]; exact p)⟩
  | succ m =>
    have il : i < xs.length := by omega
    refine .inr ⟨⟨xs, xs[i], q, List.getElem?_eq_getElem il⟩, Pv (i + 1), fun H' p' => ⟨m, Nat.lt_succ_self m, by omega, p'⟩, fun v H' yl => ?_⟩
    obtain ⟨e, f⟩ := yl
    subst e
    exact hs i v _ (f xs q) p
end
end Sw
namespace Sw
open PySem PySem.Spec PyProof.Rows L2 TL
open Evl (Ex Ex.refl Ex.trans Ex.new Ex.mut ex_l ex_t ex_rd fresh_back Ev EvL EvU EvT EvA RV RC RCL SpV SpL)
/-! ### stones as text -/
def numS (i : Int) : Str := (toString i : String)
def dashS : Str := "-"
def gapS : Str := " "
def barS : Str := " | "
def wordS (s : Int × Int) : Str := numS s.1 ++ dashS ++ numS s.2
def lineS (st : List (Int × Int)) : Str := Txt.join gapS (st.map wordS)
theorem tl_numS {i : Int} (h : 0 ≤ i) : tl (numS i) = numL i.toNat := by
  obtain ⟨n, rfl⟩ := Int.eq_ofNat_of_zero_le h
  exact tl_num n
theorem tl_dash : tl dashS = [45] := by decide +kernel
theorem tl_gap : tl gapS = [32] := by decide +kernel
theorem tl_bar : tl barS = [32, 124, 32] := by decide +kernel
theorem numL_six {i : Int} (h1 : i ≤ 999999) : (numL i.toNat).length ≤ 6 := numL_len (by decide) (by omega)
theorem numS_len {i : Int} (h : 0 ≤ i) (h1 : i ≤ 999999) : (numS i).length ≤ 6 := by
  rw [len_tl, tl_numS h]
  exact numL_six h1
theorem numS_free {i : Int} {c : Nat} (h : 0 ≤ i) (hc : c < 48 ∨ 57 < c) : c ∉ tl (numS i) := by
  rw [tl_numS h]
  exact numL_free hc
theorem tl_word (s : Int × Int) : tl (wordS s) = tl (numS s.1) ++ [45] ++ tl (numS s.2) := by
  unfold wordS
  rw [tl_append, tl_append, tl_dash]
theorem word_len {s : Int × Int} (h : GoodS s) : (wordS s).length ≤ 13 := by
  have a := numS_len h.1.1 h.1.2
  have b := numS_len h.2.1 h.2.2
  rw [len_tl] at a b ⊢
  rw [tl_word, List.length_append, List.length_append]
  show _ + 1 + _ ≤ _
  omega
theorem word_free {s : Int × Int} (h : GoodS s) : 32 ∉ tl (wordS s) := by
  rw [tl_word, List.mem_append, List.mem_append]
  rintro ((k | k) | k)
  · exact numS_free h.1.1 (.inl (by decide)) k
  · exact absurd (List.mem_singleton.mp k) (by decide)
  · exact numS_free h.2.1 (.inl (by decide)) k
theorem word_join (s : Int × Int) : wordS s = Txt.join dashS [numS s.1, numS s.2] := by
  rw [join_eq]
  rfl
theorem word_split {s : Int × Int} (h : GoodS s) : Txt.split (wordS s) dashS = [numS s.1, numS s.2] := by
  rw [word_join]
  refine split_join (s := 45) (S := []) tl_dash (by decide +kernel) (List.cons_ne_nil _ _) fun p hp => ?_
  rcases List.mem_cons.mp hp with e | hp
  · rw [e]
    exact numS_free h.1.1 (.inl (by decide))
  · rw [List.mem_singleton.mp hp]
    exact numS_free h.2.1 (.inl (by decide))
theorem line_split {st : List (Int × Int)} (hn : st ≠ []) (h : ∀ s ∈ st, GoodS s) : Txt.split (lineS st) gapS = st.map wordS := by
  refine split_join (s := 32) (S := []) tl_gap (by decide +kernel) (fun e => hn (List.map_eq_nil_iff.mp e)) fun p hp => ?_
  obtain ⟨s, hs, rfl⟩ := List.mem_map.mp hp
  exact word_free (h s hs)
theorem joinL_len (S : List Nat) : ∀ l : List (List Nat), (joinL S l).length ≤ (l.map fun p => p.length + S.length).sum
  | [] => Nat.le_refl _
  | [p] => by
    show p.length ≤ p.length + S.length + 0
    omega
  | p :: q :: r => by
    have ih := joinL_len S (q :: r)
    show (p ++ (S ++ joinL S (q :: r))).length ≤ _
    rw [List.length_append, List.length_append, List.map_cons, List.sum_cons]
    omega
theorem sum_le_mul {α : Type} (f : α → Nat) (k : Nat) : ∀ l : List α, (∀ x ∈ l, f x ≤ k) → (l.map f).sum ≤ l.length * k
  | [], _ => Nat.zero_le _
  | x :: l, h => by
    have ih := sum_le_mul f k l fun y hy => h y (List.mem_cons.mpr (.inr hy))
    have hx := h x List.mem_cons_self
    rw [List.map_cons, List.sum_cons, List.length_cons, Nat.succ_mul]
    omega
theorem line_len {st : List (Int × Int)} (h : ∀ s ∈ st, GoodS s) : (lineS st).length ≤ st.length * 14 := by
  unfold lineS
  rw [len_tl, join_eq, tl_join, tl_gap]
  refine Nat.le_trans (joinL_len _ _) ?_
  rw [List.map_map, List.map_map]
  refine sum_le_mul _ 14 st fun s hs => ?_
  have := word_len (h s hs)
  rw [len_tl] at this
  show (tl (wordS s)).length + 1 ≤ 14
  omega
theorem line_nil : lineS [] = Str.empty := rfl
theorem joinL_pos {S : List Nat} : ∀ {l : List (List Nat)}, l ≠ [] → (∀ p ∈ l, p ≠ []) → joinL S l ≠ []
  | [], h, _ => absurd rfl h
  | [p], _, h => h p List.mem_cons_self
  | p :: q :: r, _, h => fun e => by
    have := List.append_eq_nil_iff.mp (show p ++ (S ++ joinL S (q :: r)) = [] from e)
    exact h p List.mem_cons_self this.1
theorem line_ne {st : List (Int × Int)} (hn : st ≠ []) : lineS st ≠ Str.empty := fun e => by
  have z : tl (lineS st) = [] := by
    rw [e]
    rfl
  unfold lineS at z
  rw [join_eq, tl_join] at z
  refine joinL_pos (fun e => hn (List.map_eq_nil_iff.mp (List.map_eq_nil_iff.mp e))) (fun p hp => ?_) z
  obtain ⟨x, hx, rfl⟩ := List.mem_map.mp hp
  obtain ⟨s, _, rfl⟩ := List.mem_map.mp hx
  rw [tl_word]
  intro e
  have := (List.append_eq_nil_iff.mp (List.append_eq_nil_iff.mp e).1).2
  cases this
theorem int_numS {i : Int} (h : 0 ≤ i) (h1 : i ≤ 999999) : intText? (numS i) = some i := by
  obtain ⟨n, rfl⟩ := Int.eq_ofNat_of_zero_le h
  exact int_num (Nat.le_trans (numL_six (i := (n : Int)) h1) (by decide))
/-! ### numerals -/
def numeralB (l : List Nat) : Bool := (decide (1 ≤ l.length) && decide (l.length ≤ 6)) && ((l.all fun c => decide (c ∈ [48, 49, 50, 51, 52, 53, 54, 55, 56, 57])) && (decide (l = [48]) || !decide (l.head? = some 48)))
theorem numL_head : ∀ (k n : Nat), n ≤ k → n ≠ 0 → (numL n).head? ≠ some 48
  | 0, n, h, hn => absurd (Nat.le_zero.mp h) hn
  | k + 1, n, h, hn => by
    by_cases c : n < 10
    · rw [numL_lt c]
      intro e
      have e := Option.some.inj e
      omega
    · rw [numL_step (by omega)]
      have ih := numL_head k (n / 10) (by omega) (by omega)
      have ne := numL_ne (n / 10)
      cases e : numL (n / 10) with
      | nil => exact absurd e ne
      | cons x r =>
        rw [e] at ih
        exact ih
theorem numeral_num {i : Int} (h : 0 ≤ i) (h1 : i ≤ 999999) : numeralB (tl (numS i)) = true := by
  rw [tl_numS h]
  have l := numL_six h1
  have p := List.length_pos_iff.mpr (numL_ne i.toNat)
  unfold numeralB
  refine Bool.and_eq_true_iff.mpr ⟨?_, Bool.and_eq_true_iff.mpr ⟨?_, ?_⟩⟩
  · rw [decide_eq_true (show 1 ≤ (numL i.toNat).length from p), decide_eq_true l]
    rfl
  · rw [List.all_eq_true]
    intro c hc
    have := numL_digits i.toNat c hc
    refine decide_eq_true ?_
    have a1 := this.1
    have a2 := this.2
    simp only [List.mem_cons, List.not_mem_nil, or_false]
    omega
  · by_cases z : i.toNat = 0
    · rw [z]
      rfl
    · rw [decide_eq_false (numL_head _ _ (Nat.le_refl _) z), Bool.or_eq_true]
      exact .inr rfl
section
variable {K : PySem.W.Frag} {σ : L2.St} {H : Hp} {ta tb te tl' : TE}
/-! ### what tells texts -/
theorem log_ok {i : Int} (h : 0 ≤ i) (h1 : i ≤ 999999) : i.natAbs.log2 < 1920 := by
  by_cases z : i.natAbs = 0
  · rw [z]
    decide
  · have : i.natAbs.log2 < 20 := (Nat.log2_lt z).mpr (by show i.natAbs < 1048576; omega)
    omega
def rStrI : List V → Hp → VK → Prop := fun xs H Q => ∃ i, xs = [.int i] ∧ i.natAbs.log2 < 1920 ∧ Q (.str (toString i)) H
theorem ev_str {i : Int} (h : Ev te σ H (.int i)) (h0 : 0 ≤ i) (h1 : i ≤ 999999) : Ev (tCB rStrI (tCons te tNil)) σ H (.str (numS i)) := fun H1 e Q q => h H1 e _ fun H2 e2 => ⟨i, rfl, log_ok h0 h1, q H2 e2⟩
def rAddS : R2 := fun x y H Q => ∃ i j, x = .str i ∧ y = .str j ∧ i.length + j.length ≤ sizeLine ∧ Q (.str (i ++ j)) H
theorem rv_addS {x y : Str} (h : x.length + y.length ≤ 100000) : RV rAddS (.str x) (.str y) H (.str (x ++ y)) := fun H1 _ Q q => ⟨x, y, rfl, rfl, Evl.sz_of h, q H1 (Ex.refl H1)⟩
abbrev rJoin (K : PySem.W.Frag) : V → List V → Hp → VK → Prop := fun x xs H Q => ∃ a p, ∃ ys : List Str, x = .str a ∧ xs = [.ref p] ∧ (SqL K H p (ys.map V.str) ∨ SqT K H p (ys.map V.str)) ∧
      (ys.map (·.length)).sum + ys.length * a.length ≤ 16777216 ∧ Q (.str (Txt.join a ys)) H
theorem ev_joinN {z : Str} {ys : List Str} (h : Ev ta σ H (.str z)) (k : EvL te σ H (ys.map V.str)) (hz : (ys.map (·.length)).sum + ys.length * z.length ≤ 16777216) : Ev (tM1 (rJoin K) ta te) σ H (.str (Txt.join z ys)) := fun H1 e Q q =>
  h H1 e _ fun H2 e2 => ⟨⟨z, rfl⟩, k H2 (e.trans e2) _ fun p H3 np e3 hp => ⟨z, p, ys, rfl, rfl, .inl (SqL.of hp), hz, q H3 (e2.trans e3)⟩⟩
theorem ev_joinV {z : Str} {ys : List Str} {p : Addr} (h : Ev ta σ H (.str z)) (k : Ev te σ H (.ref p)) (hp : H p = some (.lst (ys.map V.str))) (hz : (ys.map (·.length)).sum + ys.length * z.length ≤ 16777216) : Ev (tM1 (rJoin K) ta te) σ H (.str (Txt.join z ys)) := fun H1 e Q q =>
  h H1 e _ fun H2 e2 => ⟨⟨z, rfl⟩, k H2 (e.trans e2) _ fun H3 e3 => ⟨z, p, ys, rfl, rfl, .inl (SqL.of (((e.trans e2).trans e3) _ _ hp)), hz, q H3 (e2.trans e3)⟩⟩
abbrev rSplit : V → List V → Hp → VK → Prop := fun x xs H Q => ∃ a b, x = .str a ∧ xs = [.str b] ∧ (b.length == 0) = false ∧ a.length + 2 ≤ sizeLine ∧ rNewStrs (Txt.split a b) H Q
theorem el_split {x z : Str} (h : Ev ta σ H (.str x)) (k : Ev te σ H (.str z)) (hz : (z.length == 0) = false) (hx : x.length + 2 ≤ 100000) : EvL (tM1 rSplit ta te) σ H ((Txt.split x z).map V.str) := fun H1 e Q q =>
  h H1 e _ fun H2 e2 => ⟨⟨x, rfl⟩, k H2 (e.trans e2) _ fun H3 e3 => ⟨x, z, rfl, rfl, hz, Evl.sz_of hx, fun p np => q p _ (fresh_back (e2.trans e3) np) ((e2.trans e3).trans (Ex.new np)) upd_same⟩⟩
/-- [e for a, b in stones] -/
theorem el_lcP {a : Addr} {st : List (Int × Int)} {i j : Nat} {vs : List Nat} (v : Nat → V) (h : Ev tl' σ H (.ref a)) (hS : StonesAt H a st) (hz : st.length ≤ 40000) (hw : ∀ x y, wipe (((wipe σ vs).set i (some x)).set j (some y)) vs = wipe σ vs)
    (he : ∀ (k : Nat) (s : Int × Int) H1, Ex H H1 → st[k]? = some s → Ev te (((wipe σ vs).set i (some (.int s.1))).set j (some (.int s.2))) H1 (v k)) :
    EvL (tLc (iList K tl') (gTup K 2 (gCons (gName i) (gCons (gName j) gNil))) tYes te vs) σ H ((List.range st.length).map v) := fun H1 e Q q => h H1 e _ fun H2 e2 => by
  obtain ⟨ts, t1, t2, t3⟩ := hS.ex (e.trans e2)
  refine ⟨a, rfl, ⟨_, SqL.of t1⟩, fun D nD => ?_⟩
  refine lc_over (K := K) (a := a) (xs := ts.map V.ref) (fun k J => Ex H2 J ∧ J D = some (.lst ((List.range k).map v))) ⟨Ex.new nD, upd_same⟩ (fun k J p => SqL.of (p.1 _ _ t1)) ?_ ?_
  · rintro k x J hx ⟨e3, hD⟩
    rw [List.getElem?_map] at hx
    obtain ⟨t, ht, rfl⟩ := Option.map_eq_some_iff.mp hx
    have kl : k < st.length := by
      rw [← t2]
      exact (List.getElem?_eq_some_iff.mp ht).1
    have h3 := e3 _ _ (t3 k t _ ht (List.getElem?_eq_getElem kl))
    refine ⟨t, _, rfl, SqT.of h3, rfl, _, _, rfl, _, _, rfl, rfl, hw _ _, ?_⟩
    unfold tYes
    dsimp only
    rw [if_pos rfl]
    refine he k _ J ((e.trans e2).trans e3) (List.getElem?_eq_getElem kl) J (Ex.refl J) _ fun J2 e4 => ?_
    refine ⟨_, e4 _ _ hD, small_lt (by rw [List.length_map, List.length_range]; omega), Ex.mut (e3.trans e4) nD, ?_⟩
    rw [upd_same, List.range_succ, List.map_append]
    rfl
  · rintro J ⟨e3, hD⟩
    rw [List.length_map, t2] at hD
    exact q D J (fresh_back e2 nD) (e2.trans e3) hD
theorem range_map {α : Type} (l : List α) (v : Nat → V) (f : α → V) (h : ∀ i a, l[i]? = some a → v i = f a) : (List.range l.length).map v = l.map f := by
  rw [← given_all]
  exact given_list l v f h
/-- [e for sign in text] -/
theorem el_lcS {x : Str} {j : Nat} {vs : List Nat} (v : Nat → V) (h : Ev tl' σ H (.str x)) (hz : x.length ≤ 40000) (hw : ∀ y, wipe ((wipe σ vs).set j (some y)) vs = wipe σ vs)
    (he : ∀ (k : Nat) (c : Nat) H1, Ex H H1 → (tl x)[k]? = some c → Ev te ((wipe σ vs).set j (some (.str ⟨#[c]⟩))) H1 (v k)) : EvL (tLc (iStr tl') (gName j) tYes te vs) σ H ((List.range (tl x).length).map v) := fun H1 e Q q => h H1 e _ fun H2 e2 => by
  have sz : x.cps.size = (tl x).length := by
    unfold tl
    rw [Array.length_toList]
  refine ⟨x, rfl, fun D nD => ?_⟩
  refine ⟨fun k m J => m + k = x.cps.size ∧ Ex H2 J ∧ J D = some (.lst ((List.range k).map v)), ⟨_, rfl, Ex.new nD, upd_same⟩, ?_⟩
  rintro k m J ⟨hm, e3, hD⟩
  cases m with
  | zero =>
    have ek : k = x.cps.size := by omega
    refine .inl ⟨?_, q D J (fresh_back e2 nD) (e2.trans e3) ?_⟩
    · show x.cps.size ≤ k
      omega
    · rw [hD, ek, sz]
  | succ m =>
    refine .inr ⟨?_, fun J' => Ex H2 J' ∧ J' D = some (.lst ((List.range (k + 1)).map v)), fun J' p => ⟨m, Nat.lt_succ_self m, by omega, p.1, p.2⟩, ?_⟩
    · show k < x.cps.size
      omega
    · rintro y J' ⟨rfl, c, hc, rfl⟩
      refine ⟨hw _, ?_⟩
      unfold tYes
      dsimp only
      rw [if_pos rfl]
      refine he k c _ ((e.trans e2).trans e3) (by unfold tl; rw [Array.getElem?_toList]; exact hc) _ (Ex.refl _) _ fun J2 e4 => ?_
      refine ⟨_, e4 _ _ hD, small_lt ?_, Ex.mut (e3.trans e4) nD, ?_⟩
      · rw [List.length_map, List.length_range]
        have : x.cps.size = x.length := rfl
        omega
      · rw [upd_same, List.range_succ, List.map_append]
        rfl
end
end Sw
namespace Sw
open PySem PySem.Spec PyProof.Rows L2 TL
open Evl (Ex Ex.refl Ex.trans Ex.new Ex.mut ex_l ex_t ex_rd fresh_back Ev EvL EvU EvT EvA RV RC RCL SpV SpL)
/-! ### texts that may be none -/
theorem pre_one (s c : Nat) (r : List Nat) : pre [s] (c :: r) = decide (c = s) := by
  by_cases h : c = s
  · rw [decide_eq_true h, h]
    exact pre_self [s] r
  · rw [decide_eq_false h]
    exact pre_of_head [] r h
theorem spl_ne (s : Nat) : ∀ (L acc : List Nat), spl [s] 0 acc L ≠ []
  | [], acc => by
    rw [spl_nil]
    exact List.cons_ne_nil _ _
  | c :: r, acc => by
    by_cases h : c = s
    · rw [spl_hit ((pre_one s c r).trans (decide_eq_true h))]
      exact List.cons_ne_nil _ _
    · rw [spl_miss ((pre_one s c r).trans (decide_eq_false h))]
      exact spl_ne s r _
theorem joinL_cons (S p : List Nat) {l : List (List Nat)} (h : l ≠ []) : joinL S (p :: l) = p ++ (S ++ joinL S l) := by
  cases l with
  | nil => exact absurd rfl h
  | cons q r => rfl
theorem join_spl (s : Nat) : ∀ (L acc : List Nat), joinL [s] (spl [s] 0 acc L) = acc ++ L
  | [], acc => by
    rw [spl_nil, List.append_nil]
    rfl
  | c :: r, acc => by
    by_cases h : c = s
    · rw [spl_hit ((pre_one s c r).trans (decide_eq_true h))]
      show joinL [s] (acc :: spl [s] 0 [] r) = _
      rw [joinL_cons _ _ (spl_ne s r []), join_spl s r [], h]
      rfl
    · rw [spl_miss ((pre_one s c r).trans (decide_eq_false h)), join_spl s r, List.append_assoc]
      rfl
theorem split_back {x y : Str} {s : Nat} (ey : tl y = [s]) (hk : y.cps.all (· < 256) = true) : Txt.join y (Txt.split x y) = x := by
  refine ext_tl ?_
  rw [join_eq, tl_join, split_spl x y (by rw [ey]; simp) (kind_ok hk), ey, join_spl]
  rfl
theorem split_ne {x y : Str} {s : Nat} (ey : tl y = [s]) (hk : y.cps.all (· < 256) = true) : Txt.split x y ≠ [] := fun e => by
  have h := split_spl x y (by rw [ey]; simp) (kind_ok hk)
  rw [e, ey] at h
  exact spl_ne s (tl x) [] h.symm
theorem dash_small : dashS.cps.all (· < 256) = true := by decide +kernel
theorem gap_small : gapS.cps.all (· < 256) = true := by decide +kernel
/-! ### numerals are numbers -/
def valL (l : List Nat) : Nat := l.foldl (fun a c => a * 10 + (c - 48)) 0
theorem valL_snoc (l : List Nat) (c : Nat) : valL (l ++ [c]) = valL l * 10 + (c - 48) := by
  unfold valL
  rw [List.foldl_append]
  rfl
def Digits (l : List Nat) : Prop := ∀ c ∈ l, 48 ≤ c ∧ c ≤ 57
theorem numeral_back : ∀ (n : Nat) (l : List Nat), l.length = n → l ≠ [] → Digits l → (l = [48] ∨ l.head? ≠ some 48) → numL (valL l) = l ∧ valL l < 10 ^ n
  | 0, l, hl, hn, _, _ => absurd (List.eq_nil_of_length_eq_zero hl) hn
  | n + 1, l, hl, hn, hd, hz => by
    obtain ⟨m, c, rfl⟩ : ∃ m c, l = m ++ [c] := ⟨l.dropLast, l.getLast hn, (List.dropLast_concat_getLast hn).symm⟩
    have hc := hd c (List.mem_append_right _ (List.mem_singleton.mpr rfl))
    rw [valL_snoc]
    cases m with
    | nil =>
      have : n = 0 := by
        have : (([] : List Nat) ++ [c]).length = 1 := rfl
        omega
      subst this
      have v : valL [] * 10 + (c - 48) = c - 48 := by
        show 0 * 10 + (c - 48) = _
        omega
      rw [v, numL_lt (by omega)]
      refine ⟨?_, by show c - 48 < 10; omega⟩
      show [48 + (c - 48)] = [c]
      rw [show 48 + (c - 48) = c by omega]
    | cons x m =>
      have hm : (x :: m).length = n := by
        rw [List.length_append] at hl
        have : ([c] : List Nat).length = 1 := rfl
        omega
      have hx : (x :: m).head? ≠ some 48 := by
        rcases hz with hz | hz
        · have := congrArg List.length hz
          rw [List.length_append] at this
          simp at this
        · exact hz
      obtain ⟨i1, i2⟩ := numeral_back n (x :: m) hm (List.cons_ne_nil _ _) (fun d h => hd d (List.mem_append_left _ h)) (.inr hx)
      have pos : valL (x :: m) ≠ 0 := fun z => by
        rw [z] at i1
        have e : x = 48 := by
          have h0 : numL 0 = [48] := numL_lt (by decide)
          rw [h0] at i1
          exact (List.cons.inj i1).1.symm
        exact hx (by rw [e]; rfl)
      refine ⟨?_, ?_⟩
      · rw [numL_step (by omega), show (valL (x :: m) * 10 + (c - 48)) / 10 = valL (x :: m) by omega, show 48 + (valL (x :: m) * 10 + (c - 48)) % 10 = c by omega, i1]
      · rw [Nat.pow_succ]
        omega
theorem numeral_get {x : Str} (h : numeralB (tl x) = true) : ∃ i : Int, 0 ≤ i ∧ i ≤ 999999 ∧ x = numS i := by
  unfold numeralB at h
  rw [Bool.and_eq_true, Bool.and_eq_true, Bool.and_eq_true, decide_eq_true_eq, decide_eq_true_eq, Bool.or_eq_true, decide_eq_true_eq, Bool.not_eq_true', decide_eq_false_iff_not, List.all_eq_true] at h
  obtain ⟨⟨l1, l2⟩, hd, hz⟩ := h
  obtain ⟨b1, b2⟩ := numeral_back _ (tl x) rfl (List.length_pos_iff.mp l1) (fun c hc => by
    have := of_decide_eq_true (hd c hc)
    simp only [List.mem_cons, List.not_mem_nil, or_false] at this
    omega) hz
  have b3 : valL (tl x) < 10 ^ 6 := Nat.lt_of_lt_of_le b2 (Nat.pow_le_pow_right (by decide) l2)
  refine ⟨(valL (tl x) : Int), by omega, by rw [show (10 : Nat) ^ 6 = 1000000 from by decide] at b3; omega, ext_tl ?_⟩
  rw [tl_numS (by omega), Int.toNat_natCast, b1]
/-! ### words that are stones -/
def Word (x : Str) (s : Int × Int) : Prop := GoodS s ∧ x = wordS s
theorem numS_inj {i j : Int} (hi : 0 ≤ i) (hj : 0 ≤ j) (h : numS i = numS j) : i = j := by
  have e := congrArg tl h
  rw [tl_numS hi, tl_numS hj] at e
  have := numL_inj e
  omega
theorem word_inj {s t : Int × Int} (hs : GoodS s) (ht : GoodS t) (h : wordS s = wordS t) : s = t := by
  have e := word_split hs
  rw [h, word_split ht] at e
  obtain ⟨a, b⟩ := List.cons.inj e
  have b := (List.cons.inj b).1
  exact (Prod.ext (numS_inj ht.1.1 hs.1.1 a) (numS_inj ht.2.1 hs.2.1 b)).symm
def wordB (x : Str) : Bool := decide ((Txt.split x dashS).length = 2) && (Txt.split x dashS).all fun p => numeralB (tl p)
theorem wordB_iff {x : Str} : wordB x = true ↔ ∃ s, Word x s := by
  unfold wordB
  rw [Bool.and_eq_true, decide_eq_true_eq, List.all_eq_true]
  constructor
  · rintro ⟨h1, h2⟩
    obtain ⟨p, q, e⟩ : ∃ p q, Txt.split x dashS = [p, q] := by
      match h : Txt.split x dashS, h1 with
      | [p, q], _ => exact ⟨p, q, rfl⟩
    rw [e] at h2
    obtain ⟨i, i0, i1, rfl⟩ := numeral_get (h2 p List.mem_cons_self)
    obtain ⟨j, j0, j1, rfl⟩ := numeral_get (h2 q (List.mem_cons.mpr (.inr List.mem_cons_self)))
    refine ⟨(i, j), ⟨⟨i0, i1⟩, j0, j1⟩, ?_⟩
    have b := split_back (x := x) tl_dash dash_small
    rw [e] at b
    rw [word_join]
    exact b.symm
  · rintro ⟨s, hs, rfl⟩
    rw [word_split hs]
    refine ⟨rfl, fun p hp => ?_⟩
    rcases List.mem_cons.mp hp with e | hp
    · rw [e]
      exact numeral_num hs.1.1 hs.1.2
    · rw [List.mem_singleton.mp hp]
      exact numeral_num hs.2.1 hs.2.2
/-! ### lines that are stones -/
def Line (x : Str) (st : List (Int × Int)) : Prop := Good st ∧ x = lineS st
open Classical in
noncomputable def unword (x : Str) : Int × Int := if h : ∃ s, Word x s then h.choose else (0, 0)
theorem unword_ok {x : Str} (h : wordB x = true) : Word x (unword x) := by
  have e := wordB_iff.mp h
  unfold unword
  rw [dif_pos e]
  exact e.choose_spec
def lineB (x : Str) : Bool := decide (x = Str.empty) || (decide ((Txt.split x gapS).length ≤ 60) && (Txt.split x gapS).all wordB)
theorem line_get {x : Str} (hl : (Txt.split x gapS).length ≤ 60) (hw : ∀ p ∈ Txt.split x gapS, wordB p = true) : Line x ((Txt.split x gapS).map unword) := by
  have e : ((Txt.split x gapS).map unword).map wordS = Txt.split x gapS := by
    rw [List.map_map]
    refine (List.map_congr_left fun p hp => ?_).trans (List.map_id _)
    exact (unword_ok (hw p hp)).2.symm
  refine ⟨⟨by rw [List.length_map]; exact hl, fun s hs => ?_⟩, ?_⟩
  · obtain ⟨p, hp, rfl⟩ := List.mem_map.mp hs
    exact (unword_ok (hw p hp)).1
  · unfold lineS
    rw [e]
    exact (split_back tl_gap gap_small).symm
theorem line_words {x : Str} {st : List (Int × Int)} (h : Line x st) (hn : x ≠ Str.empty) : (Txt.split x gapS).length ≤ 60 ∧ (∀ p ∈ Txt.split x gapS, wordB p = true) ∧ (Txt.split x gapS).map unword = st := by
  obtain ⟨hG, rfl⟩ := h
  have ne : st ≠ [] := fun e => hn (by rw [e]; rfl)
  rw [line_split ne hG.2]
  refine ⟨by rw [List.length_map]; exact hG.1, fun p hp => ?_, ?_⟩
  · obtain ⟨s, hs, rfl⟩ := List.mem_map.mp hp
    exact wordB_iff.mpr ⟨s, hG.2 s hs, rfl⟩
  · rw [List.map_map]
    refine (List.map_congr_left fun s hs => ?_).trans (List.map_id st)
    have w := unword_ok (wordB_iff.mpr ⟨s, hG.2 s hs, rfl⟩)
    exact (word_inj (hG.2 s hs) w.1 w.2).symm
theorem lineB_iff {x : Str} : lineB x = true ↔ ∃ st, Line x st := by
  unfold lineB
  rw [Bool.or_eq_true, decide_eq_true_eq, Bool.and_eq_true, decide_eq_true_eq, List.all_eq_true]
  constructor
  · rintro (h | ⟨h1, h2⟩)
    · exact ⟨[], ⟨Nat.zero_le _, fun s h => nomatch h⟩, h⟩
    · exact ⟨_, line_get h1 h2⟩
  · rintro ⟨st, h⟩
    by_cases e : x = Str.empty
    · exact .inl e
    · obtain ⟨a, b, _⟩ := line_words h e
      exact .inr ⟨a, b⟩
theorem line_inj {x : Str} {st su : List (Int × Int)} (h : Line x st) (k : Line x su) : st = su := by
  by_cases e : x = Str.empty
  · have z : ∀ st, Line x st → st = [] := fun st h => by
      by_cases c : st = []
      · exact c
      · exact absurd (h.2.symm.trans e) (line_ne c)
    rw [z st h, z su k]
  · exact (line_words h e).2.2.symm.trans (line_words k e).2.2
end Sw
namespace Sw
open PySem PySem.Spec PyProof.Rows L2
open Evl (Ex)
/-! ### exceptions that are kept -/
/-- an exception's object at a, of the class cls, without a dict of its own -/
def ExK (cls : Value) (a : Addr) : HO := .ext fun h => ∃ (oe : Obj) (vs : Array Value), h.get? a = some oe ∧ Zc cls none oe ∧ oe.data = .fields vs
def IsExc (H : Hp) (cls : Value) (a : Addr) : Prop := ∃ φ, H a = some (.ext φ) ∧ ∀ h, φ h → ∃ (oe : Obj) (vs : Array Value), h.get? a = some oe ∧ Zc cls none oe ∧ oe.data = .fields vs
theorem IsExc.ex {H H' : Hp} {cls : Value} {a : Addr} (x : IsExc H cls a) (e : Ex H H') : IsExc H' cls a := by
  obtain ⟨φ, h1, h2⟩ := x
  exact ⟨φ, e _ _ h1, h2⟩
theorem isExc_K {H : Hp} {cls : Value} {a : Addr} : IsExc (upd H a (ExK cls a)) cls a := ⟨_, upd_same, fun _ z => z⟩
theorem isExc_O {H : Hp} {cls : Value} {a : Addr} : IsExc (upd H a (ExO cls a)) cls a := ⟨_, upd_same, fun _ ⟨oe, vs, e, z, d, _⟩ => ⟨oe, vs, e, z, d⟩⟩
section
variable {X : Cx} {pins : List (Addr × Obj)} {σ : L2.St} {H : Hp} {s : Shared}
/-- an object that is pinned, new since the def began: tracked from now on -/
theorem inv_track {a : Addr} {oe : Obj} {vs : Array Value} {cls : Value} (I : Inv X ((a, oe) :: pins) σ H s) (hz : Zc cls none oe) (hd : oe.data = .fields vs) (h0 : X.s_0.heap.get? a = none) (hp : ∀ p ∈ X.pn ++ pins, p.1 ≠ a) : Inv X pins σ (upd H a (ExK cls a)) s := by
  obtain ⟨g1, g2, g3, g4, g5⟩ := I.pin (a, oe) (List.mem_append_right _ List.mem_cons_self)
  have g1 : s.heap.get? a = some oe := g1
  have g2 : H a = none := g2
  have far : ∀ {b : Addr} {u : HO}, H b = some u → upd H a (ExK cls a) b = some u := fun {b u} e => by
    rw [upd_ne (fun z => by rw [z, g2] at e; cases e)]
    exact e
  have new : ObjOk X.prog X.w (upd H a (ExK cls a)) s.heap a (ExK cls a) := ⟨⟨oe, vs, g1, hz, hd⟩, ⟨oe, g1⟩, fun h1 h2 ⟨o, v, e, z⟩ k => ⟨o, v, k o e, z⟩⟩
  refine ⟨I.ok, I.os, I.bare, ⟨I.base.keep, I.base.slot, fun b u e n x => ?_, I.base.there, fun b xs e => far (I.base.tups b xs e), fun b o u e => far (I.base.frzs b o u e), fun b ps e => ?_⟩, I.loc, I.cell, ?_, fun x c e => ?_, fun p hpm => ?_, I.hok.laidN (fun _ _ z => z) g2 new, I.len⟩
  · rw [upd_ne fun z => by rw [z, h0] at e; cases e]
    exact I.base.free b u e n x
  · obtain ⟨more, q⟩ := I.base.tbls b ps e
    exact ⟨more, far q⟩
  · rw [upd_ne fun z => g3 z.symm]
    exact I.free
  · have ne : c ≠ a := fun z => by
      obtain ⟨v, o, q1, q2⟩ := I.cell x c e
      rw [z, g1] at q1
      cases q1
      exact g5 v q2
    rw [upd_ne ne]
    exact I.freeC x c e
  · obtain ⟨k1, k2, k3⟩ := I.pin p (by
      rcases List.mem_append.mp hpm with m | m
      · exact List.mem_append_left _ m
      · exact List.mem_append_right _ (List.mem_cons_of_mem _ m))
    exact ⟨k1, by rw [upd_ne (hp p hpm)]; exact k2, k3⟩
/-! ### isinstance of data or of a kept exception -/
def Kind (K : PySem.W.Frag) (H : Hp) (x : V) (t : Value) : Prop := TyX K H x t ∨ ∃ a D : Addr, x = .ref a ∧ t = .ref D ∧ IsExc H (.ref D) a ∧ ExcC K D
theorem kind_kit {x : V} {u t : Value} (I : Inv X pins σ H s) (r : RelV x u) (k : Kind X.K H x t) : ∃ P : Heap → Prop, PySem.W.KitX X.K u t P ∧ P s.heap ∧ u ≠ .builtin "__main__.__loader__#opaque" := by
  rcases k with k | ⟨a, D, rfl, rfl, ⟨φ, hφ, hx⟩, C⟩
  · exact kit_of I r k
  · cases r
    obtain ⟨p, _, _⟩ := (show ObjOk X.prog X.w H s.heap a (.ext φ) from I.hok a _ hφ)
    obtain ⟨oe, vs, e, ⟨z1, z2⟩, d⟩ := hx _ p
    obtain ⟨ocl, odi, oda, osl⟩ := oe
    dsimp only at z1 z2 d
    subst z1 z2 d
    exact ⟨_, PySem.W.handS_kitx_exc C.hg C.hk C.hs C.hd C.ha C.hn C.ht C.hm, ⟨e, rfl, rfl, trivial⟩, fun z => nomatch z⟩
def rIsA (K : PySem.W.Frag) : List V → Hp → VK → Prop := fun xs H Q => ∃ (x c : V) (t u : Value) (b : Bool), xs = [x, c] ∧ ClsV c u ∧ Kind K H x t ∧ PySem.W.kitOne K t u = some b ∧ Q (.bl b) H
def rIsAT (K : PySem.W.Frag) : List V → Hp → VK → Prop := fun xs H Q => ∃ (x : V) (tp : Addr) (cs : List V) (t : Value) (us : List Value) (b : Bool), xs = [x, .ref tp] ∧ H tp = some (.tup cs) ∧ Paired ClsV cs us ∧ Kind K H x t ∧ PySem.W.kitAny K t us = some b ∧ Q (.bl b) H
theorem call_isA : CallR X (.builtin "isinstance") (rIsA X.K) := fun pins s σ H xs us Q I r ⟨x, c, t, u, b, ex, k, ty, e, q⟩ => by
  subst ex
  obtain ⟨va, vb, rfl, ra, rb⟩ := vals2 r
  obtain rfl := k.eq rb
  obtain ⟨P, Z, p, hx⟩ := kind_kit I ra ty
  exact PySem.W.kia_one Z I.kIn p e hx fun k' => ⟨.bl b, H, I.tok k', rfl, q⟩
theorem call_isAT : CallR X (.builtin "isinstance") (rIsAT X.K) := fun pins s σ H xs us Q I r ⟨x, tp, cs, t, ws, b, ex, hT, k, ty, e, q⟩ => by
  subst ex
  obtain ⟨va, vb, rfl, ra, rb⟩ := vals2 r
  obtain rfl : vb = Value.ref tp := rb
  obtain ⟨P, Z, p, hx⟩ := kind_kit I ra ty
  obtain ⟨_, its, rv, o, g1, g2, n, g3⟩ := (show ObjOk X.prog X.w H s.heap tp (.tup cs) from I.hok tp _ hT)
  obtain rfl := ClsV.all k rv
  obtain ⟨oc, od, dt, sl⟩ := o
  dsimp only at g2 g3
  subst g2 g3
  exact PySem.W.kia_tup Z I.kIn p g1 e hx fun k' => ⟨.bl b, H, I.tok k', rfl, q⟩
end
/-! ### try: body / except x as n: y = n -/
def wKeep (K : PySem.W.Frag) (c : Value) (i j : Nat) (D : Ends) : WX := fun cls d σ H => d = none ∧ PySem.W.exmOne K cls c = some true ∧ ∀ a, H a = none → D.nx ((σ.set j (some (.ref a))).set i none) (upd H a (ExK cls a))
section
variable {X : Cx} {x n y : Str} {c : Value} {i j : Nat} {body : List Stmt} {np p1 p2 p3 pos pos' : Pos} {tb : WX → TS}
theorem ps_try_keep (hs : X.stack = X.env :: X.outer) (hf : X.env.frame = some X.env.locals) (hex : X.ex = []) (hN : X.N.Nodup) (hi : X.N[i]? = some n) (hj : X.N[j]? = some y) (hij : i ≠ j) (hln : X.env.kindOf n = some .local) (hly : X.env.kindOf y = some .local) (hd : (n == ("__debug__" : Str)) = false) (hcd : (n == ("__classdict__" : Str)) = false) (hc : Names X x c)
    (hb : ∀ (W : WX) (pn : List (Addr × Obj)) (xe : Value → Shared → Prop), Takes (X.tr pn xe) W → PassesOwn (model X.prog X.w) X.A X.env xe → PSs (X.tr pn xe) body (tb W)) :
    PS X (.Try body [.ExceptHandler (some (.Name x np)) (some n) [.Assign [.Name y p1] (.Name n p2) p3] pos'] [] [] pos) (fun D σ H => tb (wKeep X.K c i j D) D σ H) := by
  refine ⟨fun pins s0 σ H D I0 wish => ?_⟩
  have okX := I0.ok
  have frX : X.A.frames = some (X.env :: X.outer) := okX.frames.trans (congrArg some hs)
  have locn : Loc X.env.scope n := .inl hln
  refine wpAny_Try_except (wpAny_mono ((hb (wKeep X.K c i j D) (X.pn ++ pins) _ (fun u sx air => ?_) PassesOwn.looking).run [] s0 σ H D (I0.toTry _) wish) (fun f s1 fin => ?_) fun _ _ z => z)
  · obtain ⟨a, G, sI, pI, σI, HI, cls, d, rfl, JI, hnb, hup, hsky, hna, hos, hag, rfl, hmat, hgo⟩ := air
    have J : Inv X pins σI HI sI := JI.ofTry okX
    rw [show (X.tr (X.pn ++ pins) _).stack = X.env :: X.outer from hs] at hsky
    refine Sky.land Zc.steady frX hf hsky fun hA flA upA => ?_
    obtain ⟨oA, vA, eA, zA, dA⟩ := flA.there
    have JA : Inv X pins σI HI { sx with heap := hA } := J.landed hnb flA.1 (hup.trans upA) hos hag
    have away : a ∉ frs (X.env :: X.outer) := fun m => by
      obtain ⟨_, o2, e2, nf⟩ := flA.2.2.1.mem m
      rw [eA] at e2
      cases e2
      exact nf _ dA
    have gone : sI.heap.get? a = none := by
      cases q : sI.heap.get? a with
      | none => rfl
      | some o2 =>
        have z := hnb a o2 q (by rw [show (X.tr (X.pn ++ pins) _).stack = X.env :: X.outer from hs]; exact away)
        rw [flA.2.1] at z
        cases z
    have born : X.s_0.heap.get? a = none := by
      cases q : X.s_0.heap.get? a with
      | none => rfl
      | some o2 =>
        obtain ⟨o3, z⟩ := J.base.there a o2 q (by rw [hex]; exact List.not_mem_nil)
        rw [gone] at z
        cases z
    have others : ∀ p ∈ X.pn ++ pins, p.1 ≠ a := fun p hp e => by
      have z := (J.pin p hp).1
      rw [e, gone] at z
      cases z
    have nL : a ≠ X.env.locals := fun z => away (List.mem_filterMap.mpr ⟨X.env, List.mem_cons_self, by rw [hf, z]⟩)
    have nF : a ∉ X.fs := fun m => by
      obtain ⟨e2, m2, q⟩ := List.mem_filterMap.mp m
      exact away (List.mem_filterMap.mpr ⟨e2, List.mem_cons_of_mem _ m2, q⟩)
    have SA := JA.suite eA dA hna nL nF
    refine wpAny_handleBy_cons (codeAny_handlers_test ?_) (by intro z; cases z)
    have LT : PySem.W.Looks (model X.prog X.w) hA (typeOf (.ref a)) cls := fun _ _ _ _ k q => wpAny_typeOf_ref (k _ _ eA) (by rw [zA.1]; exact q)
    have cls_there : ∀ {Q' : Value → Shared → Prop} {E' : Value → Shared → Prop}, Q' c { sx with heap := hA } → wpAny (model X.prog X.w) (X.A.mark (some (.ref a))) (eval (.Name x np) X.env) Q' E' { sx with heap := hA } := fun {Q' E'} q => by
      obtain ⟨g1, g2, m1 | ⟨m1, m2, m3⟩⟩ := hc
      · exact ld_glob (X := X.suite a ((a, oA) :: (X.pn ++ pins))) SA g1 m1 q g2
      · exact ld_blt (X := X.suite a ((a, oA) :: (X.pn ++ pins))) SA g1 m1 m2 q m3 g2
    refine cls_there ((PySem.W.exm_one (M := model X.prog X.w) JA.kIn LT hmat).here ?_)
    refine codeAny_handlers_suite_as (HandSPX.lands_againZ flA fun hB flB upB => ?_)
    have JB : Inv X pins σI HI { sx with heap := hB } := J.landed hnb flB.1 ((hup.trans upA).trans upB) hos hag
    obtain ⟨oB, vB, eB, zB, dB⟩ := flB.there
    have SB := JB.suite eB dB hna nL nF
    refine store_ok (X := X.suite a ((a, oB) :: (X.pn ++ pins))) (v := .ref a) SB hN hi locn rfl (fun sC SC => ?_) (.inr hln)
    have keep : PSs (X.suite a ((a, oB) :: (X.pn ++ pins))) [.Assign [.Name y p1] (.Name n p2) p3] (tAsg (tVar i) (gName j)) := pss_one (ps_asg (pe_var hi (.inl hln) hd hcd) (pg_name hN hj (.inl hly) (.inr hly)))
    have il : i < σI.length := by
      rw [JB.len]
      exact (List.getElem?_eq_some_iff.mp hi).1
    refine wpAny_mono (keep.run [] sC _ HI { nx := fun s2 H2 => s2 = (σI.set i (some (.ref a))).set j (some (.ref a)) ∧ H2 = HI, rt := fun _ _ => False, bk := fun _ _ => False, ct := fun _ _ => False } SC ⟨.ref a, List.getElem?_set_self il, rfl, rfl⟩) (fun f sD hD => ?_) fun _ _ z => z.elim
    cases f with
    | next =>
      obtain ⟨σD, HD, SD, rfl, rfl⟩ := hD
      have JD : Inv X ((a, oB) :: pins) ((σI.set i (some (.ref a))).set j (some (.ref a))) HD sD := ⟨okX, SD.os, SD.bare, SD.base, SD.loc, SD.cell, SD.free, SD.freeC, fun p hp => SD.pin p (by
        rcases List.mem_append.mp hp with m | m
        · exact List.mem_append_left _ (List.mem_cons_of_mem _ (List.mem_append_left _ m))
        · rcases List.mem_cons.mp m with e | m
          · rw [e]
            exact List.mem_append_left _ List.mem_cons_self
          · exact List.mem_append_left _ (List.mem_cons_of_mem _ (List.mem_append_right _ m))), SD.hok, SD.len⟩
      refine gone_ok JD hN hi hln fun sE JE => ?_
      have JF := inv_track JE zB dB born others
      refine ⟨_, _, JF, ?_⟩
      have e1 : (((σI.set i (some (.ref a))).set j (some (.ref a))).set i none : L2.St) = (σI.set j (some (.ref a))).set i none := by
        rw [List.set_comm _ _ (fun e => hij e.symm), List.set_set, List.set_comm _ _ hij.symm]
      rw [e1]
      exact hgo a hna
    | brk =>
      obtain ⟨_, _, _, z⟩ := hD
      exact z.elim
    | cont =>
      obtain ⟨_, _, _, z⟩ := hD
      exact z.elim
    | ret u =>
      obtain ⟨_, _, _, _, _, z⟩ := hD
      exact z.elim
  · cases f with
    | next =>
      obtain ⟨σ1, H1, J1, q⟩ := fin
      exact wpAny_execs_nil ⟨σ1, H1, J1.ofTry okX, q⟩
    | brk =>
      obtain ⟨σ1, H1, J1, q⟩ := fin
      exact ⟨σ1, H1, J1.ofTry okX, q⟩
    | cont =>
      obtain ⟨σ1, H1, J1, q⟩ := fin
      exact ⟨σ1, H1, J1.ofTry okX, q⟩
    | ret u =>
      obtain ⟨v, σ1, H1, J1, r, q⟩ := fin
      exact ⟨v, σ1, H1, J1.ofTry okX, r, q⟩
end
end Sw
namespace Sw
open PySem PySem.Spec PyProof.Rows L2
/-! ### [f(x) for x in xs], where f may raise -/
theorem flying_less {B G h : Heap} {l : List Env} {a : Addr} {Z : Obj → Prop} (gB : ∀ b o, G.get? b = some o → B.get? b = some o) (x : HandSPX.FlyingZ B l a Z h) : HandSPX.FlyingZ G l a Z h := by
  obtain ⟨k1, k2, k3, oe, vs, T, oT, ts, e1, e2, e3, e4, e5, e6⟩ := x
  have no : ∀ b, B.get? b = none → G.get? b = none := fun b e => by
    cases q : G.get? b with
    | none => rfl
    | some o =>
      rw [gB b o q] at e
      cases e
  exact ⟨fun b o e => k1 b o (gB b o e), no a k2, funFrames_none k3 fun L m => no L (k3.mem m).1, oe, vs, T, oT, ts, e1, e2, e3, e4, no T e5, e6⟩
theorem held_but {B h h' : Heap} {l : List Env} {a L C : Addr} {Z : Obj → Prop} {m : Str → Option Value} (hs : Heap.SameBut C h h') (hn : h'.Ns C m) (hc : ∃ o, h.get? C = some o ∧ ∀ vs, o.data ≠ .fields vs) (bc : B.get? C = none) (x : HandSPX.HeldZ B l a Z L h) : HandSPX.HeldZ B l a Z L h' := by
  obtain ⟨k1, k2, k3, oe, vs, T, oT, ts, e1, e2, e3, e4, e5, e6, e7, e8, e9⟩ := x
  obtain ⟨oC, c1, c2⟩ := hc
  have ne : ∀ b o vs, h.get? b = some o → o.data = .fields vs → b ≠ C := fun b o vs e d z => by
    rw [z, c1] at e
    cases e
    exact c2 vs d
  refine ⟨fun b o e => (hs.2 b fun z => ?_).trans (k1 b o e), k2, Heap.FunFrames.sameBut hs hn k3, oe, vs, T, oT, ts, (hs.2 a (ne a oe vs e1 e3)).trans e1, e2, e3, e4, e5, e6, (hs.2 T (ne T oT ts e7 e8)).trans e7, e8, e9⟩
  rw [z, bc] at e
  cases e
section
variable {X : Cx} {pins : List (Addr × Obj)} {σ : L2.St} {H H' : Hp} {s t : Shared} {B : Heap} {a : Addr} {cls : Value} {d : Option Addr} {E : XK}
/-- an exception that the def's own frame has noted is in its air -/
theorem xe_held (I : Inv X pins σ H s) (hd : HandSPX.HeldZ B X.stack a (Zc cls d) X.env.locals t.heap) (hok : HOk X.prog X.w H' B) (ub : UB (frs X.stack) H H' s.heap B t.heap) (na : H' a = none) (os : t.os = s.os) (ag : AllBare t.gens) (w : E cls d H') :
    XE X (fun c d _ H => E c d H) (.ref a) t := by
  have inT := hd.1
  obtain ⟨G, gY, gN⟩ := restrict t.heap fun b => (B.get? b).isSome || decide (b ∈ frs X.stack)
  have ofB : ∀ b o, B.get? b = some o → G.get? b = some o := fun b o e => (gY b (by rw [e]; rfl)).trans (inT b o e)
  have ofF : ∀ b, b ∈ frs X.stack → G.get? b = t.heap.get? b := fun b m => gY b (by rw [decide_eq_true m, Bool.or_true])
  have back : ∀ b o, G.get? b = some o → t.heap.get? b = some o ∧ (b ∉ frs X.stack → B.get? b = some o) := fun b o e => by
    cases q : ((B.get? b).isSome || decide (b ∈ frs X.stack) : Bool) with
    | false =>
      rw [gN b q] at e
      cases e
    | true =>
      have et := (gY b q).symm.trans e
      refine ⟨et, fun nm => ?_⟩
      rw [decide_eq_false nm, Bool.or_false] at q
      obtain ⟨o', qo⟩ := Option.isSome_iff_exists.mp q
      have z := inT b o' qo
      rw [et] at z
      cases z
      exact qo
  have J : Inv X pins σ H' { s with heap := G, gens := t.gens, drawn := t.drawn, toks := t.toks } := by
    refine I.call (ch := []) ⟨fun b o e n m _ => ofB b o (ub.keep b o e n m), fun b o e n m _ => ?_, fun b o e n _ => ub.free b o e n, fun b o e _ => ?_, ub.tups, ub.frzs, ub.tbls⟩ (hok.kept ofB) ag (fun _ z => nomatch z)
    · obtain ⟨sl, q⟩ := ub.slot b o e m
      exact ⟨sl, (ofF b m).trans q⟩
    · by_cases m : b ∈ frs X.stack
      · obtain ⟨sl, q⟩ := ub.slot b o e m
        exact ⟨_, (ofF b m).trans q⟩
      · obtain ⟨o', q⟩ := ub.there b o e m
        exact ⟨o', ofB b o' q⟩
  exact ⟨a, B, _, pins, σ, H', cls, d, rfl, J, fun b o e m => (back b o e).2 m, Heap.UpToSlots.of_keeps fun b o e => (back b o e).1, .inr (.inr hd), na, os, ag, w⟩
end
section
variable {X : Cx} {pins : List (Addr × Obj)} {E : XK}
/-- what a call in the block lets out goes on in the def -/
theorem comp_fails {σ σB : L2.St} {H3 HB : Hp} {s3 sB t : Shared} {scope : Scope} {ce : Env} {fp : List Addr} {u : Value} (I3 : Inv X pins σ H3 s3) (hst : X.stack = X.env :: X.outer) (hf : X.env.frame = some X.env.locals) (tk : Takes X fun c d _ H => E c d H)
    (hcf : ce.frame = X.env.frame) (hcl : ce.locals = s3.heap.objs.size) (hfp : ∀ b ∈ fp, FpOk X pins H3 b ∧ b < s3.heap.objs.size) (IB : Inv (X.blk s3 H3 scope ce fp) [] σB HB sB) (c : CX X.prog X.w X.stack HB sB E u t) :
    notedBy (model X.prog X.w) X.A ce (CompFails (model X.prog X.w) X.A X.xe ce) u t := by
  obtain ⟨a, B0, H2, cls, d, rfl, fl0, hok0, ub0, na, os, ag, hE⟩ := c
  have hfr : X.A.frames = some (X.env :: X.outer) := by rw [I3.ok.frames, hst]
  have fC : HB ce.locals = none := IB.free
  obtain ⟨mB, hnB, _⟩ := IB.loc
  have hnB : sB.heap.Ns ce.locals mB := hnB
  obtain ⟨oC, esC, epC, hoC, hdC, hrC⟩ := id hnB
  have newC : ∀ b o, s3.heap.get? b = some o → b ≠ ce.locals := fun b o e z => by
    have l := Heap.lt_size e
    rw [z, hcl] at l
    exact absurd l (Nat.lt_irrefl _)
  have framesOld : ∀ b, b ∈ frs X.stack → b ≠ ce.locals := fun b m => by
    obtain ⟨_, o, e, _⟩ := I3.stack.mem m
    exact newC b o e
  have Cf : ce.locals ∉ frs X.stack := fun m => framesOld _ m rfl
  have H2C : H2 ce.locals = none := ub0.free _ _ hoC fC
  -- the block's own names left out
  obtain ⟨G, gY, gN⟩ := restrict B0 fun b => decide (b ≠ ce.locals)
  have gB : ∀ b o, G.get? b = some o → B0.get? b = some o := fun b o e => by
    by_cases z : b = ce.locals
    · rw [gN b (decide_eq_false fun k => k z)] at e
      cases e
    · rw [gY b (decide_eq_true z)] at e
      exact e
  have gK : ∀ b o, b ≠ ce.locals → B0.get? b = some o → G.get? b = some o := fun b o z e => (gY b (decide_eq_true z)).trans e
  have gC : G.get? ce.locals = none := gN _ (decide_eq_false fun k => k rfl)
  obtain ⟨S, sY, sN⟩ := restrict sB.heap fun b => decide (b ≠ ce.locals)
  have sK : ∀ b o, b ≠ ce.locals → sB.heap.get? b = some o → S.get? b = some o := fun b o z e => (sY b (decide_eq_true z)).trans e
  have sB' : ∀ b o, S.get? b = some o → sB.heap.get? b = some o ∧ b ≠ ce.locals := fun b o e => by
    by_cases z : b = ce.locals
    · rw [sN b (decide_eq_false fun k => k z)] at e
      cases e
    · rw [sY b (decide_eq_true z)] at e
      exact ⟨e, z⟩
  have fewer : ∀ {H : Hp} {h h' : Heap}, HOk X.prog X.w H h → H ce.locals = none → (∀ b o, b ≠ ce.locals → h.get? b = some o → h'.get? b = some o) → HOk X.prog X.w H h' := fun {H h h'} k n g b o e => (k b o e).stay (fun x v hx q => g x v (fun z => by
    rcases hx with hx | hx
    · rw [← hx, z, n] at e
      cases e
    · rw [z, n] at hx
      cases hx) q) (fun _ q => q) fun _ _ q => q
  have hokG := fewer hok0 H2C gK
  have base : Un (frs X.stack) fp H3 HB s3.heap sB.heap := IB.base
  have IO : Inv X pins σ HB { sB with heap := S } := I3.call' (ch := fp) IB.os ⟨fun b o e n m x => sK b o (newC b o e) (base.keep b o e n m x), fun b o e n m x => by
      obtain ⟨sl, q⟩ := base.slot b o e n m x
      exact ⟨sl, sK b _ (newC b o e) q⟩, base.free, fun b o e x => by
      obtain ⟨o', q⟩ := base.there b o e x
      exact ⟨o', sK b o' (newC b o e) q⟩, base.tups, base.frzs, base.tbls⟩ (fewer IB.hok fC sK) IB.bare fun b hb => ⟨(hfp b hb).1.2.2.2.1, (hfp b hb).1.2.1, (hfp b hb).1.2.2.2.2.1, (hfp b hb).1.2.2.2.2.2⟩
  have fl : HandSPX.FlyingZ G (X.env :: X.outer) a (Zc cls d) t.heap := by
    rw [← hst]
    exact flying_less gB fl0
  have tC : t.heap.get? ce.locals = some oC := fl0.1 _ _ (ub0.keep _ _ hoC fC Cf)
  have nfC : ∀ vs, oC.data ≠ .fields vs := fun vs q => by
    rw [hdC] at q
    cases q
  show wpAny (model X.prog X.w) X.A (noteFrame (.ref a) ce) _ _ t
  rw [noteFrame_env _ hcf]
  refine HandSPX.looks_onZ Zc.steady hfr hf fl fun h1 hh1 up1 => ?_
  obtain ⟨sl1, t1C⟩ := up1 _ _ tC nfC
  refine ⟨mB, ⟨_, esC, epC, t1C, hdC, hrC⟩, fun h2 m2 hn2 hs2 => ?_⟩
  have hh2 := held_but hs2 hn2 ⟨_, t1C, nfC⟩ gC hh1
  obtain ⟨k1, k2, k3, oe, vs, T, oT, ts, e1, e2, e3, e4, e5⟩ := id hh2
  unfold PySem.passOn
  refine wpAny_bind (wpAny_field e1 e3 e4 ?_)
  rw [if_neg (show ¬ ((Value.ref T == Value.none) = true) from by simp), hcf, hf]
  have last : wpAny (model X.prog X.w) X.A (setFlight (.ref a) (some X.env.locals)) (fun _ t4 => wpAny (model X.prog X.w) X.A (throw (.ref a) : Sem Value) (fun _ _ => False) X.xe t4) X.xe { t with heap := h2 } := by
    refine HandSPX.setFlight_onZ hh2 fun h3 hh3 up3 => wpAny_throw (tk _ _ ?_)
    have slots : ∀ b o, b ∈ frs X.stack → (∀ vs, o.data ≠ .fields vs) → t.heap.get? b = some o → ∃ sl, h3.get? b = some { o with slots := sl } := fun b o m nf e => by
      obtain ⟨x1, q1⟩ := up1 b o e nf
      have q2 := (hs2.2 b (framesOld b m)).trans q1
      obtain ⟨x3, q3⟩ := up3 b _ q2 nf
      exact ⟨x3, q3⟩
    refine xe_held IO (B := G) (t := { t with heap := h3 }) (by rw [hst]; exact hh3) hokG ⟨fun b o e n m => ?_, fun b o e m => ?_, fun b o e n => ub0.free b o (sB' b o e).1 n, fun b o e m => ?_, ub0.tups, ub0.frzs, ub0.tbls⟩ na os ag hE
    · exact gK b o (sB' b o e).2 (ub0.keep b o (sB' b o e).1 n m)
    · obtain ⟨sl, q⟩ := ub0.slot b o (sB' b o e).1 m
      obtain ⟨_, o', e', nf⟩ := IO.stack.mem m
      have e' : S.get? b = some o' := e'
      rw [e] at e'
      cases e'
      obtain ⟨sl2, q2⟩ := slots b { o with slots := sl } m (fun vs => nf vs) q
      exact ⟨sl2, q2⟩
    · obtain ⟨o', q⟩ := ub0.there b o (sB' b o e).1 m
      exact ⟨o', gK b o' (sB' b o e).2 q⟩
  first
    | exact wpAny_bind (wpAny_pure (wpAny_bind last))
    | exact wpAny_bind last
/-- the wish of a block's element: what a call in it lets out -/
def BlkOut (X : Cx) (E : XK) (s : Shared) (H : Hp) (scope : Scope) (ce : Env) (fp : List Addr) (u : Value) (t : Shared) : Prop := ∃ (σ : L2.St) (H1 : Hp) (s1 : Shared), Inv (X.blk s H scope ce fp) [] σ H1 s1 ∧ CX X.prog X.w X.stack H1 s1 E u t
abbrev blkX (X : Cx) (E : XK) (s : Shared) (H : Hp) (scope : Scope) (ce : Env) (fp : List Addr) (pn : List (Addr × Obj)) : Cx := (X.blk s H scope ce fp).tr pn (BlkOut X E s H scope ce fp)
theorem inv_bare {s : Shared} {H : Hp} {scope : Scope} {ce : Env} {fp : List Addr} {pn pn' : List (Addr × Obj)} {xe : Value → Shared → Prop} {σ : L2.St} {H1 : Hp} {s1 : Shared} (I : Inv ((X.blk s H scope ce fp).tr pn xe) pn' σ H1 s1) : Inv (X.blk s H scope ce fp) [] σ H1 s1 :=
  ⟨Cx.Ok.ofTry I.ok, I.os, I.bare, I.base, I.loc, I.cell, I.free, I.freeC, fun p hp => absurd (show p ∈ ([] : List (Addr × Obj)) ++ [] from hp) List.not_mem_nil, I.hok, I.len⟩
theorem pass_blk {s : Shared} {H : Hp} {scope : Scope} {ce : Env} {fp : List Addr} {pn : List (Addr × Obj)} (σ : L2.St) : PassesAt (L2.CX X.prog X.w) (blkX X E s H scope ce fp pn) σ E := fun pins' H1 s1 e s' I c => ⟨σ, H1, s1, inv_bare I, c⟩
theorem pe_lcX {elt tg iter : Expr} {scope : Scope} {own : List (Str × Nat)} {pos : Pos} {wi : TI} {g : TG} {te : TE} (hc : X.calm = true) (hst : X.stack = X.env :: X.outer) (hf : X.env.frame = some X.env.locals) (hN : X.N.Nodup) (tk : Takes X fun c d _ H => E c d H) (hi : PI X tg iter wi)
    (ok : BlkOk X.N X.env.scope scope own) (hg : ∀ (s : Shared) (H : Hp) (C : Addr) (cl : List (Str × Addr)) (fp : List Addr), PG (X.blk s H scope (compEnvC scope cl C X.env) fp) tg g)
    (he : ∀ (s : Shared) (H : Hp) (C : Addr) (cl : List (Str × Addr)) (fp : List Addr) (pn : List (Addr × Obj)), PE (blkX X E s H scope (compEnvC scope cl C X.env) fp pn) elt te) (hfold : ∀ x, foldedSetIterable iter X.env x = pure x := by intro _; rfl) :
    PE X (.ListComp elt [⟨tg, iter, [], 0⟩] scope pos) (tLc wi g tYes te (own.map (·.2))) := by
  refine ⟨fun pins s σ H Q I wish => ?_⟩
  rw [eval_ListComp]
  have caught : ∀ y ∈ scope.names, y.2 = .free → ∃ c, X.env.cells.lookup y.1 = some c := fun y hy e => I.ok.has _ ((ok.free y hy e).elim .inl .inr)
  refine comprehension_at (use := none) rfl hfold (closure_ok caught) ok.kind (fun y hy e => by rw [ok.uniq y hy, e]) (thn (hi.run pins s σ H _ I wish) fun xv t1 k1 => thn k1 fun itv t2 k2 => ?_)
  obtain ⟨it, fp, tn, J, H2, rfl, I2, T, now, apart, plan⟩ := k2
  refine wpAny_newObj_type (newEnv_comp ?_) (Nat.zero_le _)
  obtain ⟨D, hD⟩ : ∃ D, D = t2.heap.objs.size := ⟨_, rfl⟩
  have noD : H2 D = none := I2.hok.fresh (Nat.le_of_eq hD.symm)
  obtain ⟨W, ⟨n0, w0⟩, turn⟩ := plan D noD
  obtain ⟨t3, ht3⟩ : ∃ t3 : Shared, t3 = { t2 with heap := t2.heap.push { cls := .type "list", data := .seq ([] : List Value).toArray } } := ⟨_, rfl⟩
  have I3 : Inv X pins σ (upd H2 D (.lst [])) t3 := by
    rw [ht3]
    refine I2.laid (t' := t2.toks) (fun b o e => Heap.get?_push_of_some _ e) (Nat.le_of_eq hD.symm) ⟨Nat.zero_le _, [], 0, .nil, ?_⟩
    rw [hD]
    exact Heap.get?_push_size _ rfl
  have heap3 : t3.heap = t2.heap.push { cls := .type "list", data := .seq ([] : List Value).toArray } := by rw [ht3]
  have small : ∀ b ∈ fp, b < t2.heap.objs.size := fun b hb => by
    obtain ⟨o, e, _⟩ := T.obj _ _ now b hb
    exact Heap.lt_size e
  have apart3 : ∀ b ∈ fp, FpOk X pins (upd H2 D (.lst [])) b ∧ b < t3.heap.objs.size := fun b hb => ⟨⟨by rw [upd_ne (by rw [hD]; exact Nat.ne_of_lt (small b hb))]; exact (apart b hb).1, (apart b hb).2⟩, by rw [heap3, Heap.size_push]; exact Nat.lt_succ_of_lt (small b hb)⟩
  have now3 : tn 0 t3.heap := T.keep _ _ _ now fun b _ o e => by rw [heap3]; exact Heap.get?_push_of_some _ e
  have I4 := block_start I3 ok hN apart3
  have pg := hg t3 (upd H2 D (.lst [])) t3.heap.objs.size (cellsFrom (t3.heap.objs.size + 1) scope.names (cloFrom X.env.cells scope.names [])) fp
  have pe := he t3 (upd H2 D (.lst [])) t3.heap.objs.size (cellsFrom (t3.heap.objs.size + 1) scope.names (cloFrom X.env.cells scope.names [])) fp
  rw [hD.symm, ht3.symm]
  show codeAny _ _ (.compStart (.ListComp elt [⟨tg, iter, [], 0⟩] scope pos) 0 (.ref it) (.ref D) (compEnvC scope (cellsFrom (t3.heap.objs.size + 1) scope.names (cloFrom X.env.cells scope.names [])) t3.heap.objs.size X.env)) (compEnds (model X.prog X.w) X.A X.xe none _ (.ref D) (compEnvC scope (cellsFrom (t3.heap.objs.size + 1) scope.names (cloFrom X.env.cells scope.names [])) t3.heap.objs.size X.env)) { t3 with heap := pushCells (t3.heap.push { cls := .type "dict", data := .dict #[] }) scope.names }
  have clean : ∀ b ∈ fp, (upd H2 D (.lst [])) b = none := fun b hb => (apart3 b hb).1.1
  obtain ⟨ce, hce⟩ : ∃ ce, ce = compEnvC scope (cellsFrom (t3.heap.objs.size + 1) scope.names (cloFrom X.env.cells scope.names [])) t3.heap.objs.size X.env := ⟨_, rfl⟩
  rw [← hce] at I4 pg pe ⊢
  have ceL : ce.locals = t3.heap.objs.size := by rw [hce]; rfl
  have ceF : ce.frame = X.env.frame := by rw [hce]; rfl
  obtain ⟨H3, hH3⟩ : ∃ H3, H3 = upd H2 D (.lst []) := ⟨_, rfl⟩
  rw [← hH3] at I3 I4 pg pe w0 clean apart3
  obtain ⟨t4, ht4⟩ : ∃ t4 : Shared, t4 = { t3 with heap := pushCells (t3.heap.push { cls := .type "dict", data := .dict #[] }) scope.names } := ⟨_, rfl⟩
  rw [← ht4] at I4 ⊢
  have now4 : tn 0 t4.heap := T.keep _ _ _ now3 fun b _ o e => by rw [ht4]; exact pushCells_keeps _ _ _ _ (Heap.get?_push_of_some _ e)
  have still : ∀ {σ' : L2.St} {H' : Hp} {s' : Shared}, Inv (X.blk t3 H3 scope ce fp) [] σ' H' s' → (∀ b ∈ fp, H' b = none) → ∀ b ∈ fp, FpOk (X.blk t3 H3 scope ce fp) [] H' b := fun {σ' H' s'} I' k b hb =>
    ⟨k b hb, (I'.ok.exf b hb).1, I'.ok.exfs b hb, .inl hb, fun x c e => (I'.ok.exf b hb).2 x c e, fun p hp => absurd (show p ∈ ([] : List (Addr × Obj)) ++ [] from hp) List.not_mem_nil⟩
  have loop : codeAny (model X.prog X.w) X.A (.compLoop (.ListComp elt [⟨tg, iter, [], 0⟩] scope pos) 0 (.ref it) (.ref D) ce) (compEnds (model X.prog X.w) X.A X.xe none (EP X pins σ Q) (.ref D) ce) t4 := by
    refine compLoop_any (fun n s' => ∃ i J1, Inv (X.blk t3 H3 scope ce fp) [] (wipe σ (own.map (·.2))) J1 s' ∧ tn i s'.heap ∧ (∀ b ∈ fp, J1 b = none) ∧ W i n J1) (fun n s5 ⟨i, J5, I5, n5, c5, w5⟩ => ?_) n0 ⟨0, H3, I4, now4, clean, w0⟩
    rcases turn i n J5 w5 with ⟨stop, qq⟩ | ⟨go, Nx, hNx, step⟩
    · refine thnF (T.done (X.blk t3 H3 scope ce fp) rfl rfl rfl hc i [] s5 _ J5 (fun _ _ => False) I5 (still I5 c5) n5 stop) fun r s6 ⟨er, I6⟩ => ?_
      subst er
      have I7 : Inv X pins σ J5 s6 := I3.call' (ch := fp) I6.os I6.base I6.hok I6.bare fun b hb => ⟨(apart3 b hb).1.2.2.2.1, (apart3 b hb).1.2.1, (apart3 b hb).1.2.2.2.2.1, (apart3 b hb).1.2.2.2.2.2⟩
      have noC : J5 t3.heap.objs.size = none := by
        have z : J5 ce.locals = none := I6.free
        rw [ceL] at z
        exact z
      obtain ⟨m, hn, _⟩ := I6.loc
      have hn : s6.heap.Ns ce.locals m := id hn
      obtain ⟨f0, f1, f2, f3, f4, f5⟩ := I3.fpOk (Nat.le_refl _) noC
      refine ⟨m, hn, fun h'' sb => ?_⟩
      rw [ceL] at sb
      exact ⟨.ref D, J5, I7.turned (t' := s6.toks) (fun b o hb e => (sb.2 b hb).trans e) f0 f1 f3 f4 f5, rfl, qq⟩
    · refine thnF (T.item (X.blk t3 H3 scope ce fp) rfl rfl rfl hc i [] s5 _ J5 (fun _ _ => False) I5 (still I5 c5) n5 go) fun r s6 ⟨u, er, k6⟩ => ?_
      subst er
      refine thnF k6 fun _ s7 ⟨x, J7, I7, r7, y7, n7, c7⟩ => ?_
      have I7p := I7.pinned (still I7 c7) (T.obj _ _ n7)
      refine thnF (pg.run _ s7 _ J7 x u _ I7p r7 (step x J7 y7)) fun _ s8 ⟨σ8, J8, I8, w8, q8⟩ => ?_
      refine wpAny_tests_nil ?_
      have q8 : te σ8 J8 fun y J9 => ∃ l, J9 D = some (.lst l) ∧ l.length < sizeLine ∧ Nx (upd J9 D (.lst (l ++ [y]))) := by
        have q8' : tYes σ8 J8 _ := q8
        unfold tYes at q8'
        dsimp only at q8'
        rw [if_pos rfl] at q8'
        exact q8'
      rw [if_pos rfl]
      have bok : (X.blk t3 H3 scope ce fp).Ok := I8.ok
      refine wpAny_mono ((pe _).run [] s8 σ8 J8 _ (I8.toTry (BlkOut X E t3 H3 scope ce fp)) q8) (fun z s10 ⟨yv, J10, I10t, r10, l, hl, hz, nx⟩ => ?_) fun e s10 ⟨σB, JB, sB, IB, cx⟩ => comp_fails I3 hst hf tk ceF ceL apart3 IB cx
      have I10 := I10t.ofTry bok
      have done : ∀ {s' : Shared} {J' : Hp}, Inv (X.blk t3 H3 scope ce fp) ([] ++ pinsAt fp s7.heap) σ8 J' s' → Nx J' → ∃ m, m < n ∧ ∃ i J1, Inv (X.blk t3 H3 scope ce fp) [] (wipe σ (own.map (·.2))) J1 s' ∧ tn i s'.heap ∧ (∀ b ∈ fp, J1 b = none) ∧ W i m J1 := fun {s' J'} I' nx' => by
        obtain ⟨m', hm, w'⟩ := hNx J' nx'
        have kept : ∀ b ∈ fp, ∀ o, s7.heap.get? b = some o → s'.heap.get? b = some o ∧ J' b = none := fun b hb o e =>
          let pz := I'.pin (b, o) (List.mem_append_right _ (List.mem_append_right _ (mem_pinsAt hb e)))
          ⟨pz.1, pz.2.1⟩
        have len8 : (wipe σ (own.map (·.2))).length = σ8.length := by rw [← w8, wipe_length]
        refine ⟨m', hm, i + 1, J', (I'.unpinned (pins := [])).weak len8 (fun j v e => (wipe_some (vs := own.map (·.2)) (by rw [w8]; exact e)).1), T.keep _ _ _ n7 fun b hb o e => (kept b hb o e).1, fun b hb => ?_, w'⟩
        obtain ⟨o, e, _⟩ := T.obj _ _ n7 b hb
        exact (kept b hb o e).2
      exact app_ok (X := X.blk t3 H3 scope ce fp) I10 hl hz r10 fun s11 I11 => done I11 nx
  exact codeAny_compStart_list loop (T.self X.A 0 _ _ _ now4 loop)
end
end Sw
namespace Sw
open PySem PySem.Spec PyProof.Rows L2 TL
open Evl (Ex Ex.refl Ex.trans Ex.new Ex.mut ex_l ex_t ex_rd fresh_back Ev EvL EvU EvT EvA RV RC RCL SpV SpL)
/-! ### refusals -/
/-- a promise without a refusal, of a def that may refuse -/
theorem FnOk.calm {P : Program} {w : World} {K : PySem.W.Frag} {mg : Str → Option Value} {base : Heap} {k : Nat} {f : Addr} {fd : FuncData} {ps : List Str} {sp sp' : Sp} (F : FnOk P w K mg base (L2.CX P w) k f fd ps sp)
    (h : ∀ vs H Q E, sp' vs H Q E → sp vs H Q (fun _ _ _ => False)) : FnOk P w K mg base CX0 k f fd ps sp' :=
  ⟨fun vs H Q E q => F.len vs H Q _ (h _ _ _ _ q), fun A outer s H args us vs Q E hr he hb hv hs => codeAny_mono (F.run A outer s H args us vs Q _ hr he hb hv (h _ _ _ _ hs)) fun r s' hq => by
    cases r with
    | error e =>
      obtain ⟨_, _, _, _, _, _, _, _, _, _, _, _, z⟩ := hq
      exact z.elim
    | ok fl => cases fl <;> exact hq⟩
/-- what the top says of a refusal's class -/
structure ErrC (K : PySem.W.Frag) (C : Addr) : Prop where
  x : PySem.W.excIn K C [.type "ValueError", .type "Exception", .type "BaseException", .type "object"] "ValueError.__new__" = true
  k : PySem.W.keepIn K (.ref C) = true
  t : PySem.W.typeIn K (.ref C) = some (.type "type")
  i : PySem.W.isClsIn K C = true
  e : ExcC K C
theorem kit_cls {K : PySem.W.Frag} {c : Value} {D : Addr} {b : Bool} (E : ErrC K D) (h : PySem.W.subIn K c (.ref D) = some b) : PySem.W.kitCls K c (.ref D) = some b := by
  have e2 : ((PySem.W.clsIn K D).isSome && PySem.W.typeIn K (.ref D) == some (.type "type")) = true := by
    have h2' : (PySem.W.clsIn K D).isSome = true := E.i
    rw [h2', E.t] <;> rfl
  unfold PySem.W.kitCls
  dsimp only
  rw [if_pos e2]
  exact h
theorem kit_err {K : PySem.W.Frag} {C D : Addr} {b : Bool} (E : ErrC K D) (h : PySem.W.subIn K (.ref C) (.ref D) = some b) (s : PySem.W.subIn K (.ref D) (.ref D) = some true) : PySem.W.kitOne K (.ref C) (.ref D) = some b := by
  unfold PySem.W.kitOne
  by_cases c : C = D
  · subst c
    rw [s] at h
    rw [if_pos (by simp)]
    exact h
  · rw [if_neg (by simp [c])]
    exact kit_cls E h
theorem kit_VE {K : PySem.W.Frag} {C : Addr} (h : PySem.W.subIn K (.ref C) (.type "ValueError") = some true) : PySem.W.kitOne K (.ref C) (.type "ValueError") = some true := by
  unfold PySem.W.kitOne
  rw [if_neg (by simp)]
  unfold PySem.W.kitCls
  dsimp only
  rw [if_pos (by decide +kernel)]
  exact h
theorem exm_err {K : PySem.W.Frag} {C D : Addr} {b : Bool} (E : ErrC K D) (h : PySem.W.subIn K (.ref C) (.ref D) = some b) : PySem.W.exmOne K (.ref C) (.ref D) = some b := PySem.W.exm_ref E.e.hs E.e.hd E.t h
/-! ### parts of a text -/
theorem joinL_mem {S p : List Nat} : ∀ {l : List (List Nat)}, p ∈ l → p.length ≤ (joinL S l).length
  | [], h => nomatch h
  | [q], h => by
    rw [List.mem_singleton.mp h]
    exact Nat.le_refl _
  | q :: r :: l, h => by
    show _ ≤ (q ++ (S ++ joinL S (r :: l))).length
    rw [List.length_append, List.length_append]
    rcases List.mem_cons.mp h with e | h
    · rw [e]
      omega
    · have := joinL_mem (S := S) h
      omega
theorem joinL_many {s : Nat} : ∀ {l : List (List Nat)}, l.length ≤ (joinL [s] l).length + 1
  | [] => Nat.zero_le _
  | [q] => by
    show 1 ≤ _
    omega
  | q :: r :: l => by
    have := joinL_many (s := s) (l := r :: l)
    show _ ≤ (q ++ ([s] ++ joinL [s] (r :: l))).length + 1
    rw [List.length_append, List.length_append]
    simp only [List.length_cons, List.length_nil] at this ⊢
    omega
theorem split_len {x y : Str} {s : Nat} (ey : tl y = [s]) (hk : y.cps.all (· < 256) = true) : (Txt.split x y).length ≤ x.length + 1 ∧ ∀ p ∈ Txt.split x y, p.length ≤ x.length := by
  have h := split_spl x y (by rw [ey]; simp) (kind_ok hk)
  have j : joinL [s] ((Txt.split x y).map tl) = tl x := by
    rw [h, ey, join_spl]
    rfl
  refine ⟨?_, fun p hp => ?_⟩
  · have := joinL_many (s := s) (l := (Txt.split x y).map tl)
    rw [j, List.length_map, ← len_tl] at this
    exact this
  · have := joinL_mem (S := [s]) (List.mem_map_of_mem (f := tl) hp)
    rw [j, ← len_tl, ← len_tl] at this
    exact this
section
variable {K : PySem.W.Frag} {σ : L2.St} {H : Hp} {ta tb te tl' : TE}
/-- [e for x in xs], each e a new pair of numbers, if it comes -/
theorem esn_lcG {a : Addr} {xs : List V} {ys : List (Int × Int)} {j : Nat} {vs : List Nat} (g : Nat → Prop) (h : Ev tl' σ H (.ref a)) (hx : SqL K H a xs) (hz : xs.length ≤ 40000) (hl : ys.length = xs.length) (hw : ∀ x, wipe ((wipe σ vs).set j (some x)) vs = wipe σ vs)
    (he : ∀ (i : Nat) (x : V) (s : Int × Int) H1, Ex H H1 → xs[i]? = some x → ys[i]? = some s → ∀ Q : VK, (∀ z H2, g i → Ex H1 H2 → H2 z = some (.tup [.int s.1, .int s.2]) → Q (.ref z) H2) → te ((wipe σ vs).set j (some x)) H1 Q)
    {Q : VK} (q : (∀ i, i < xs.length → g i) → ∀ p H2, H p = none → Ex H H2 → StonesAt H2 p ys → Q (.ref p) H2) : tLc (iList K tl') (gName j) tYes te vs σ H Q := h H (Ex.refl H) _ fun H2 e2 => ⟨a, rfl, ⟨xs, ex_l e2 hx⟩, fun D nD => by
  refine lc_list (xs := xs) (fun k H' => ∃ zs : List Addr, Ex H2 H' ∧ H' D = some (.lst (zs.map V.ref)) ∧ zs.length = k ∧ (∀ i, i < k → g i) ∧ ∀ (i : Nat) (z : Addr) (s : Int × Int), zs[i]? = some z → ys[i]? = some s → z ≠ D ∧ H' z = some (.tup [.int s.1, .int s.2]))
    ⟨[], Ex.new nD, upd_same, rfl, fun i hi => absurd hi (Nat.not_lt_zero _), fun i z s e => by simp at e⟩ (fun i H' _ h => by obtain ⟨_, e3, _⟩ := h; exact ex_l (e2.trans e3) hx) ?_ ?_
  · rintro k v H3 hk ⟨zs, e3, hD, hzs, hg, hin⟩
    have il : k < xs.length := (List.getElem?_eq_some_iff.mp hk).1
    refine ⟨hw v, ?_⟩
    unfold tYes
    dsimp only
    rw [if_pos rfl]
    refine he k v ys[k] H3 (e2.trans e3) hk (List.getElem?_eq_getElem (by omega)) _ fun z H4 gk e4 hz4 => ?_
    have hD4 := e4 _ _ hD
    have zD : z ≠ D := fun e => by
      rw [e, hD4] at hz4
      cases hz4
    refine ⟨_, hD4, small_lt (by rw [List.length_map, hzs]; omega), zs ++ [z], Ex.mut (e3.trans e4) nD, by rw [upd_same, List.map_append]; rfl, by rw [List.length_append, hzs]; rfl, fun i hi => ?_, fun i z' s' g1 g2 => ?_⟩
    · by_cases c : i < k
      · exact hg i c
      · rw [show i = k by omega]
        exact gk
    by_cases c : i < zs.length
    · rw [List.getElem?_append_left c] at g1
      obtain ⟨n1, n2⟩ := hin i z' s' g1 g2
      exact ⟨n1, by rw [upd_ne n1]; exact e4 _ _ n2⟩
    · rw [List.getElem?_append_right (by omega)] at g1
      have zz : i - zs.length = 0 := by
        have := (List.getElem?_eq_some_iff.mp g1).1
        simp at this
        omega
      rw [zz] at g1
      have g1 : z = z' := Option.some.inj g1
      have ik : i = k := by omega
      rw [ik, List.getElem?_eq_getElem (by omega)] at g2
      have g2 := Option.some.inj g2
      rw [← g1, ← g2]
      exact ⟨zD, by rw [upd_ne zD]; exact hz4⟩
  · rintro H3 ⟨zs, e3, hD, hzs, hg, hin⟩
    exact q hg D H3 (fresh_back e2 nD) (e2.trans e3) ⟨zs, hD, by omega, fun i z s g1 g2 => (hin i z s g1 g2).2⟩⟩
end
end Sw
namespace Sw
open PySem PySem.Spec PyProof.Rows L2
/-! ### the text by places -/
def topS (i : Nat) : Stmt := PySem.Challenge.pw_stonerow_k11_texts_refused.main.body.getD i (.Pass ⟨0, 0, 0, 0⟩)
abbrev sRead : Stmt := topS 10
abbrev sRdStone : Stmt := topS 11
abbrev sNumeral : Stmt := topS 12
abbrev sCell : Stmt := topS 14
abbrev sStones : Stmt := topS 15
abbrev sAlike : Stmt := topS 16
abbrev s_law_number : Stmt := topS 17
abbrev s_law_read : Stmt := topS 18
abbrev s_law_bent : Stmt := topS 19
abbrev s_law_told : Stmt := topS 20
abbrev sLaw : Stmt := topS 21
end Sw
namespace Sw
open PySem PySem.Spec PyProof.Rows L2
open Evl (Ex Ex.refl Ex.trans Ex.new Ex.mut ex_l ex_t ex_rd fresh_back Ev EvL EvU EvT EvA RV RC RCL SpV SpL)
section
variable {P : Program} {w : World} {K : PySem.W.Frag} {mg : Str → Option Value} {base : Heap}
/-! ### things -/
def isInt : PyData → Bool
  | .int _ => true
  | _ => false
theorem kitI : ∀ k ∈ kinds, kitB k "int" = some (decide (k = "int") || decide (k = "bool")) := by decide +kernel
theorem kit_int (d : PyData) : PySem.W.kitOne K (.type (kindOf d)) (.type "int") = some (decide (kindOf d = "int") || decide (kindOf d = "bool")) := kit_ty (kitI _ (kind_in d))
theorem ev_isI {σ : L2.St} {H : Hp} {te : TE} {x : V} {d : PyData} {T : String} {b : Bool} (h : Ev te σ H x) (hx : Dt H x d) (hk : PySem.W.kitOne K (.type (kindOf d)) (.type T) = some b) : Ev (tCB (rIsi K) (tCons te (tCons (tC (.ty T)) tNil))) σ H (.bl b) :=
  Evl.ev_cb (Evl.ea_cons h (Evl.ea_cons Evl.ev_c Evl.ea_nil)) (rc_isi (.ty T) (fun H1 e => (Dt.ex e d _ hx).ty) hk)
theorem int_test (d : PyData) : (decide (kindOf d = "bool") || !(decide (kindOf d = "int") || decide (kindOf d = "bool"))) = !isInt d := by cases d <;> simp [kindOf, isInt]
theorem isInt_get {d : PyData} (h : (!isInt d) = false) : ∃ i, d = .int i := by cases d <;> first | exact ⟨_, rfl⟩ | cases h
theorem decV {x y : V} {P : Prop} [Decidable P] (h : x = y ↔ P) : V.bl (decide (x = y)) = .bl (decide P) := congrArg V.bl (Bool.eq_iff_iff.mpr (by rw [decide_eq_true_eq, decide_eq_true_eq]; exact h))
/-! ### pairs -/
def numB : PyData → Int → Bool
  | .int i, n => decide (0 ≤ i) && decide (i ≤ n)
  | _, _ => false
def isPair : PyData → Bool
  | .tuple [_, _] => true
  | _ => false
def stoneB : PyData → Bool
  | .tuple [x, y] => numB x 999999 && numB y 999999
  | _ => false
theorem isPair_get {d : PyData} (h : (!isPair d) = false) : ∃ x y, d = .tuple [x, y] := by
  unfold isPair at h
  split at h
  · exact ⟨_, _, rfl⟩
  · cases h
theorem dt_two {H : Hp} {v : V} {x y : PyData} (h : Dt H v (.tuple [x, y])) : ∃ (a : Addr) (u z : V), v = .ref a ∧ H a = some (.tup [u, z]) ∧ Dt H u x ∧ Dt H z y := by
  cases h with
  | tup ha hs =>
    cases hs with
    | cons h1 hs =>
      cases hs with
      | cons h2 hs =>
        cases hs
        exact ⟨_, _, _, rfl, ha, h1, h2⟩
theorem dt_tuple {H : Hp} {v : V} {ds : List PyData} (h : Dt H v (.tuple ds)) : ∃ (a : Addr) (xs : List V), v = .ref a ∧ H a = some (.tup xs) ∧ DtAll H xs ds := by
  cases h with
  | tup ha hs => exact ⟨_, _, rfl, ha, hs⟩
theorem dt_list {H : Hp} {v : V} {ds : List PyData} (h : Dt H v (.list ds)) : ∃ (a : Addr) (xs : List V), v = .ref a ∧ H a = some (.lst xs) ∧ DtAll H xs ds := by
  cases h with
  | lst ha hs => exact ⟨_, _, rfl, ha, hs⟩
theorem ev_lenT {σ : L2.St} {H : Hp} {te : TE} {t : Addr} {xs : List V} (h : Ev te σ H (.ref t)) (ht : H t = some (.tup xs)) : Ev (tCB (Evl.rLenS K) (tCons te tNil)) σ H (.int (xs.length : Int)) := fun H1 e Q q =>
  h H1 e _ fun H2 e2 => ⟨t, xs, rfl, .inr (SqT.of ((e.trans e2) _ _ ht)), q H2 e2⟩
theorem ev_neI {σ : L2.St} {H : Hp} {ta tb : TE} {x y : Int} (h : Ev ta σ H (.int x)) (k : Ev tb σ H (.int y)) : EvT (tTest (tOp rNe ta tb)) σ H (!decide (x = y)) := Evl.et_is (Evl.et_test (Evl.ev_op h k (Evl.rv_ne rfl))) (by
  congr 1
  exact V.bl.inj (decV ⟨fun h => V.int.inj h, fun h => by rw [h]⟩))
/-- not isinstance(thing, tuple) or len(thing) != 2 -/
theorem et_noPair {σ : L2.St} {H : Hp} {i : Nat} {v : V} {d : PyData} (h : σ[i]? = some (some v)) (hd : Dt H v d) : EvT (tOr (tNot (tB (tCB (rIsi K) (tCons (tVar i) (tCons (tC (.ty "tuple")) tNil))))) (tTest (tOp rNe (tCB (Evl.rLenS K) (tCons (tVar i) tNil)) (tC (.int 2))))) σ H (!isPair d) := by
  by_cases c : ∃ ds, d = .tuple ds
  · obtain ⟨ds, rfl⟩ := c
    obtain ⟨a, xs, rfl, ha, hs⟩ := dt_tuple hd
    refine Evl.et_is (Evl.et_or (a := false) (Evl.et_not (a := true) (Evl.et_B (ev_isI (Evl.ev_var h) hd (kit_tuple _)))) fun _ => ev_neI (ev_lenT (Evl.ev_var h) ha) Evl.ev_c) ?_
    have l := hs.len
    match ds, l with
    | [], l => rw [l]; rfl
    | [x], l => rw [l]; rfl
    | [x, y], l => rw [l]; rfl
    | x :: y :: z :: r, l =>
      rw [l]
      show (!decide (((r.length + 1 + 1 + 1 : Nat) : Int) = 2)) = true
      rw [decide_eq_false (by omega)]
      rfl
  · have k : kindOf d ≠ "tuple" := fun e => by cases d <;> first | exact c ⟨_, rfl⟩ | simp [kindOf] at e
    have z : isPair d = false := by
      unfold isPair
      split
      · exact absurd ⟨_, rfl⟩ c
      · rfl
    rw [z]
    exact Evl.et_is (Evl.et_or (a := true) (b := true) (Evl.et_is (Evl.et_not (Evl.et_B (ev_isI (Evl.ev_var h) hd (kit_tuple _)))) (by rw [decide_eq_false k]; rfl)) fun h => nomatch h) rfl
end
end Sw
namespace Sw
open PySem PySem.Spec PyProof.Rows L2
open Evl (Ex Ex.refl Ex.trans Ex.new Ex.mut ex_l ex_t ex_rd fresh_back Ev EvL EvU EvT EvA RV RC RCL SpV SpL)
section
variable {P : Program} {w : World} {K : PySem.W.Frag} {mg : Str → Option Value} {base : Heap}
/-! ### _law_cell -/
theorem scCell : FnScope ["_law_script", "_law_k", "_law_cell_here", "_law_more"] ["_law_script", "_law_k"] (defScope sCell) := ⟨rfl, rfl, rfl, by decide +kernel, rfl, by decide +kernel, by decide +kernel⟩
def cellH (ns : List Int) (k : Int) : Int := if ns = [] then 7919 * k + 11 else ns.getD (k % (ns.length : Int)).toNat 0 * 48271 + 104729 * k + k.fdiv (ns.length : Int) * 7919
def cellM (z : Int) : Int := z % 2147483647 * (z % 2147483647) % 2147483629
def cellF (ns : List Int) (k : Int) : Int := (cellM (cellH ns k) * cellM (cellH ns k) + 69621 * cellM (cellH ns k) + k) % 2147483587
theorem cellF_0 (ns : List Int) (k : Int) : 0 ≤ cellF ns k := Int.emod_nonneg _ (by decide)
theorem cellF_9 (ns : List Int) (k : Int) : cellF ns k < 2147483587 := Int.emod_lt_of_pos _ (by decide)
def spCellS (K : PySem.W.Frag) : Sp := fun vs H Q _ => ∃ (a : Addr) (ns : List Int) (k : Int), vs = [.ref a, .int k] ∧ SqL K H a (ns.map V.int) ∧ ns.length ≤ 63 ∧ Evl.RetV (.int (cellF ns k)) H Q
theorem pv_cell {a : Addr} {ns : List Int} {k : Int} {H : Hp} (hS : SqL K H a (ns.map V.int)) (hl : ns.length ≤ 63) : SpV (spCellS K) [.ref a, .int k] H (.int (cellF ns k)) := fun H1 e Q q _ => ⟨a, ns, k, rfl, ex_l e hS, hl, q⟩
theorem fmod_of {a b : Int} (h : 0 < b) : a.fmod b = a % b := Int.fmod_eq_emod_of_nonneg a (by omega)
theorem ok_cell {f : Addr} {fd : FuncData} (F : Fun K "_law_cell" "_law_cell" sCell f fd) (mL : mg "len" = none) : FnOk P w K mg base CX0 1 f fd ["_law_script", "_law_k"] (spCellS K) := by
  refine F.ok scCell (fun vs H Q E h => ?_) (fun cdv A outer s H vs Q E hr h => ?_)
  · obtain ⟨a, ns, k, rfl, _⟩ := h
    rfl
  · obtain ⟨a, ns, k, rfl, hS, hl, q⟩ := h
    refine ⟨_, pss_cons (ps_set (i := 2) scCell.nd rfl (.inl rfl) (pe_op op_add (pe_op op_mul pe_int (pv 1)) pe_int))
      (Evl.pss_cut (ps_if (pt_cmpR (op_neD hr.units) (pv 0) (pe_lst pa_nil) (nomark _))
        (pss_cons (ps_set (i := 2) scCell.nd rfl (.inl rfl) (pe_op op_mul (pe_ix ix_list (pv 0) (pe_op op_modN (pv 1) (pe_callB call_len_seq (by rfl) mL boot_len (pa_cons (pv 0) pa_nil))) (fun _ _ => rfl)) pe_int))
        (pss_one (ps_set (i := 2) scCell.nd rfl (.inl rfl) (pe_op op_add (pe_op op_add (pv 2) (pe_op op_mul pe_int (pv 1))) (pe_op op_mul (pe_op op_fdivN (pv 1) (pe_callB call_len_seq (by rfl) mL boot_len (pa_cons (pv 0) pa_nil))) pe_int))))) pss_nil)
      (pss_cons (ps_set (i := 3) scCell.nd rfl (.inl rfl) (pe_op op_mod (pv 2) pe_int))
      (pss_cons (ps_set (i := 3) scCell.nd rfl (.inl rfl) (pe_op op_mod (pe_op op_mul (pv 3) (pv 3)) pe_int))
      (pss_one (ps_ret (pe_op op_mod (pe_op op_add (pe_op op_add (pe_op op_mul (pv 3) (pv 3)) (pe_op op_mul pe_int (pv 3))) (pv 1)) pe_int)))))), ?_⟩
    refine ⟨_, rfl, _, _, rfl, rfl, .inl ⟨by decide, by decide⟩, _, _, rfl, rfl, ?_⟩
    refine ⟨fun σ H' => Ex H H' ∧ σ = [some (.ref a), some (.int k), some (.int (cellH ns k)), none], ?_, ?_⟩
    · refine ⟨_, rfl, Nat.zero_le _, fun p hp => ?_⟩
      have e1 : Ex H (upd H p (.lst [])) := Ex.new hp
      refine ⟨dInts ns, dInts [], dp_ints (ex_l e1 hS), dt_ints (ns := []) upd_same |>.dp, (lay_ints _ (by omega)).shaped (by decide), (lay_ints _ (by decide)).shaped (by decide), _, rfl, ?_⟩
      rw [eqv_dInts]
      by_cases hn : ns = []
      · rw [decide_eq_true hn]
        refine ⟨e1, ?_⟩
        unfold cellH
        rw [if_pos hn]
        rfl
      · rw [decide_eq_false hn]
        refine iteT ?_
        have hpos : 0 < ns.length := List.length_pos_iff.mpr hn
        have hS1 := ex_l (K := K) e1 hS
        have hlen : (ns.map V.int).length = ns.length := List.length_map _
        have hm := Int.emod_nonneg k (show (ns.length : Int) ≠ 0 by omega)
        have hm2 := Int.emod_lt_of_pos k (show 0 < (ns.length : Int) by omega)
        have hj : (k % (ns.length : Int)).toNat < ns.length := by omega
        have hat : (ns.map V.int)[(k % (ns.length : Int)).toNat]? = some (.int (ns.getD (k % (ns.length : Int)).toNat 0)) := by
          rw [List.getElem?_map, List.getElem?_eq_getElem hj, List.getD_eq_getElem?_getD, List.getElem?_eq_getElem hj]
          rfl
        have hix : atI (ns.map V.int) (k.fmod ((ns.map V.int).length : Int)) = some (.int (ns.getD (k % (ns.length : Int)).toNat 0)) := by
          refine at_of ?_ hat
          rw [hlen, fmod_of (by omega)]
          omega
        refine ⟨_, rfl, _, rfl, _, rfl, a, _, rfl, .inl hS1, _, _, rfl, rfl, by rw [List.length_map]; omega, a, _, _, _, rfl, rfl, hS1, hix, _, _, rfl, rfl, .inr ⟨by decide, by decide⟩, ?_⟩
        refine ⟨_, rfl, _, rfl, _, _, rfl, rfl, .inl ⟨by decide, by decide⟩, _, _, rfl, rfl, _, rfl, _, rfl, a, _, rfl, .inl hS1, _, _, rfl, rfl, ⟨by rw [List.length_map]; omega, by rw [List.length_map]; omega⟩, _, _, rfl, rfl, .inr ⟨by decide, by decide⟩, _, _, rfl, rfl, ?_⟩
        refine ⟨e1, ?_⟩
        unfold cellH
        rw [if_neg hn, hlen]
        rfl
    · rintro σ H1 ⟨e1, rfl⟩
      have fin : cellF ns k = (cellM (cellH ns k) * cellM (cellH ns k) + 69621 * cellM (cellH ns k) + k) % 2147483587 := rfl
      generalize cellH ns k = z at fin ⊢
      unfold cellM at fin
      refine ⟨_, rfl, _, _, rfl, rfl, (by show (0 : Int) < 2147483647; decide), ?_⟩
      have a1 := Int.emod_nonneg z (show (2147483647 : Int) ≠ 0 by decide)
      have a2 := Int.emod_lt_of_pos z (show (0 : Int) < 2147483647 by decide)
      refine ⟨_, rfl, _, rfl, _, _, rfl, rfl, .inl ⟨by show _ < z % 2147483647; omega, by show z % 2147483647 < _; omega⟩, _, _, rfl, rfl, (by show (0 : Int) < 2147483629; decide), ?_⟩
      generalize z % 2147483647 * (z % 2147483647) = y at fin
      have b1 := Int.emod_nonneg y (show (2147483629 : Int) ≠ 0 by decide)
      have b2 := Int.emod_lt_of_pos y (show (0 : Int) < 2147483629 by decide)
      refine ⟨_, rfl, _, rfl, _, _, rfl, rfl, .inl ⟨by show _ < y % 2147483629; omega, by show y % 2147483629 < _; omega⟩, _, rfl, _, _, rfl, rfl, .inl ⟨by decide, by decide⟩, _, _, rfl, rfl, _, rfl, _, _, rfl, rfl, _, _, rfl, rfl, (by show (0 : Int) < 2147483587; decide), ?_⟩
      have r := q _ e1
      rw [fin] at r
      exact r
end
end Sw
namespace Sw
open PySem PySem.Spec PyProof.Rows L2
open Evl (Ex Ex.refl Ex.trans Ex.new Ex.mut ex_l ex_t ex_rd fresh_back Ev EvL EvU EvT EvA RV RC RCL SpV SpL)
section
variable {P : Program} {w : World} {K : PySem.W.Frag} {mg : Str → Option Value} {base : Heap}
/-! ### _law_stones -/
theorem scStones : FnScope ["_law_script", "_law_kind", "_law_found", "_law_k", "_law_cell_here", "_law_most"] ["_law_script"] (defScope sStones) := ⟨rfl, rfl, rfl, by decide +kernel, rfl, by decide +kernel, by decide +kernel⟩
def spStones (K : PySem.W.Frag) : Sp := fun vs H Q _ => ∃ (a : Addr) (ns : List Int), vs = [.ref a] ∧ SqL K H a (ns.map V.int) ∧ ns.length ≤ 63 ∧ ∀ p st H', Ex H H' → H p = none → Good st → StonesAt H' p st → Q (.ref p) H'
theorem ok_stones {f fC : Addr} {fd fdC : FuncData} (F : Fun K "_law_stones" "_law_stones" sStones f fd) (mL : mg "len" = none) (mR : mg "range" = none) (mX : mg "max" = none) (mN : mg "min" = none)
    (GC : FnOk P w K mg base CX0 1 fC fdC ["_law_script", "_law_k"] (spCellS K)) (gC : mg "_law_cell" = some (.ref fC)) (kC : PySem.W.keepIn K (.ref fC) = true) (bC : Binds K fdC ["_law_script", "_law_k"] []) : FnOk P w K mg base CX0 2 f fd ["_law_script"] (spStones K) := by
  refine F.ok scStones (fun vs H Q E h => ?_) (fun cdv A outer s H vs Q E hr h => ?_)
  · obtain ⟨a, ns, rfl, _⟩ := h
    rfl
  · obtain ⟨a, ns, rfl, hS, hl, q⟩ := h
    refine ⟨_, pss_cons (ps_set (i := 1) scStones.nd rfl (.inl rfl) (pe_call GC hr (by rfl) gC kC bC .nil pass0 (pa_cons (pv 0) (pa_cons pe_int pa_nil))))
      (pss_cons (ps_set (i := 2) scStones.nd rfl (.inl rfl) (pe_lst pa_nil))
      (pss_cons (ps_for PassesOwn.never rfl (pi_range1 (by rfl) mR (pa_cons (pe_callB (call_max2 rfl) (by rfl) mX (by decide +kernel) (pa_cons (pe_callB (call_min2 rfl) (by rfl) mN (by decide +kernel) (pa_cons (pe_callB call_len_seq (by rfl) mL boot_len (pa_cons (pv 0) pa_nil)) (pa_cons pe_int pa_nil))) (pa_cons (pe_op op_mod (pe_op op_fdiv (pv 1) pe_int) pe_int) pa_nil))) pa_nil)) (pg_name (i := 3) scStones.nd rfl (.inl rfl))
        (pss_cons (ps_set (i := 4) scStones.nd rfl (.inl rfl) (pe_call GC hr (by rfl) gC kC bC .nil pass0 (pa_cons (pv 0) (pa_cons (pe_op op_add pe_int (pv 3)) pa_nil))))
        (pss_cons (ps_set (i := 5) scStones.nd rfl (.inl rfl) (pe_ix ix_list (pe_lst (pa_cons pe_int (pa_cons pe_int (pa_cons pe_int (pa_cons pe_int pa_nil))))) (pe_op op_mod (pe_op op_add (pe_op op_mod (pv 1) pe_int) (pe_op op_fdiv (pe_op op_mod (pe_op op_fdiv (pv 4) pe_int) pe_int) pe_int)) pe_int) (fun _ _ => rfl)))
        (pss_cons (ps_expr (pe_bm PySem.F.plainAttrs_list PySem.F.slot_list_append PySem.F.type_list_append mt_append (pv 2) (pa_cons (pe_tup (pa_cons (pe_op op_mod (pe_op op_fdiv (pv 4) pe_int) (pv 5)) (pa_cons (pe_op op_mod (pe_op op_fdiv (pe_call GC hr (by rfl) gC kC bC .nil pass0 (pa_cons (pv 0) (pa_cons (pe_op op_add pe_int (pv 3)) pa_nil))) pe_int) (pv 5)) pa_nil))) pa_nil)))
        (pss_one (ps_if (pt_cmpR op_eq (pe_op op_mod (pv 4) pe_int) pe_int (nomark _)) (pss_one (ps_asg (pe_tup (pa_cons (pe_ix ix_tup (pe_ix ix_list (pv 2) (pv 3) (fun _ _ => rfl)) pe_int (fun _ _ => rfl)) (pa_cons (pe_ix ix_tup (pe_ix ix_list (pv 2) (pv 3) (fun _ _ => rfl)) pe_int (fun _ _ => rfl)) pa_nil))) (pg_sub (pv 2) (pv 3) set_list))) pss_nil))))))
      (pss_one (ps_ret (pv 2))))), ?_⟩
    refine ⟨_, rfl, a, ns, 1, rfl, hS, hl, fun H1 e1 => ?_⟩
    have k0 := cellF_0 ns 1
    generalize cellF ns 1 = kind at k0 ⊢
    refine ⟨Nat.zero_le _, fun fl nf => ?_⟩
    have e2 : Ex H (upd H1 fl (.lst [])) := e1.trans (Ex.new nf)
    refine ⟨_, rfl, a, _, rfl, .inl (ex_l e2 hS), _, _, rfl, _, rfl, _, _, rfl, rfl, ⟨by decide, by decide⟩, _, _, rfl, rfl, (by show (0 : Int) < 16; decide), _, _, rfl, ?_⟩
    have m1 := Int.emod_nonneg (kind / 4) (show (16 : Int) ≠ 0 by decide)
    have m2 := Int.emod_lt_of_pos (kind / 4) (show (0 : Int) < 16 by decide)
    rw [List.length_map]
    generalize hJ : (if (kind / 4 % 16 : Int) > (if (60 : Int) < (ns.length : Int) then (60 : Int) else (ns.length : Int)) then kind / 4 % 16 else (if (60 : Int) < (ns.length : Int) then (60 : Int) else (ns.length : Int))) = J
    have j0 : 0 ≤ J := by
      rw [← hJ]
      split <;> split <;> omega
    have j1 : J ≤ 60 := by
      rw [← hJ]
      split <;> split <;> omega
    refine ⟨J, rfl, by omega, by omega, for_range (lo := 0) (n := J.toNat) (fun i σ H' => ∃ (st : List (Int × Int)) (x3 x4 x5 : Option V), σ = [some (.ref a), some (.int kind), some (.ref fl), x3, x4, x5] ∧ st.length = i ∧ (∀ s ∈ st, GoodS s) ∧ StonesAt H' fl st ∧ Ex H H')
      ⟨[], none, none, none, rfl, rfl, fun s hs => (nomatch hs), stones_nil upd_same, e2⟩ ?_ ?_⟩
    · rintro i σ H2 hi ⟨st, x3, x4, x5, rfl, el, hg, ⟨ts, t1, t2, t3⟩, e3⟩
      have hf : H fl = none := fresh_back e1 nf
      rw [Int.zero_add]
      refine ⟨_, rfl, _, rfl, _, _, rfl, rfl, a, ns, _, rfl, ex_l e3 hS, hl, fun H3 e4 => ?_⟩
      have c0 := cellF_0 ns (10 + (i : Int))
      generalize cellF ns (10 + (i : Int)) = c at c0 ⊢
      refine ⟨by show 4 ≤ sizeLine; decide, fun p np => ?_⟩
      refine ⟨_, rfl, _, _, rfl, rfl, (by show (0 : Int) < 4; decide), _, rfl, _, _, rfl, rfl, ⟨by decide, by decide⟩, _, _, rfl, rfl, (by show (0 : Int) < 9; decide), _, _, rfl, rfl, ⟨by decide, by decide⟩, _, _, rfl, rfl, _, _, rfl, rfl, (by show (0 : Int) < 4; decide), ?_⟩
      generalize kind % 4 + c / 1000 % 9 / 8 = y
      obtain ⟨m, hm, m0, m9⟩ : ∃ m : Int, atI [V.int 3, V.int 6, V.int 14, V.int 1000000] (y % 4) = some (.int m) ∧ 1 ≤ m ∧ m ≤ 1000000 := by
        have y0 := Int.emod_nonneg y (show (4 : Int) ≠ 0 by decide)
        have y1 := Int.emod_lt_of_pos y (show (0 : Int) < 4 by decide)
        have : y % 4 = 0 ∨ y % 4 = 1 ∨ y % 4 = 2 ∨ y % 4 = 3 := by omega
        rcases this with e | e | e | e
        · exact ⟨3, by rw [e]; rfl, by decide, by decide⟩
        · exact ⟨6, by rw [e]; rfl, by decide, by decide⟩
        · exact ⟨14, by rw [e]; rfl, by decide, by decide⟩
        · exact ⟨1000000, by rw [e]; rfl, by decide, by decide⟩
      refine ⟨p, _, _, _, rfl, rfl, SqL.of upd_same, hm, ?_⟩
      have e5 : Ex H2 (upd H3 p (.lst [V.int 3, V.int 6, V.int 14, V.int 1000000])) := e4.trans (Ex.new np)
      refine ⟨_, rfl, .inl ⟨rfl, _, SqL.of (e5 _ _ t1)⟩, ?_⟩
      refine ⟨_, rfl, _, _, rfl, rfl, ⟨by decide, by decide⟩, _, rfl, _, _, rfl, rfl, (show (0 : Int) < m by omega), ?_⟩
      refine ⟨_, rfl, _, rfl, _, _, rfl, rfl, a, ns, _, rfl, ex_l (e3.trans e5) hS, hl, fun H4 e6 => ?_⟩
      have d0 := cellF_0 ns (100 + (i : Int))
      generalize cellF ns (100 + (i : Int)) = d at d0 ⊢
      refine ⟨_, _, rfl, rfl, ⟨by decide, by decide⟩, _, rfl, _, _, rfl, rfl, (show (0 : Int) < m by omega), ?_⟩
      refine ⟨by show 2 ≤ sizeLine; decide, fun t nt => ?_⟩
      have e7 : Ex H2 H4 := e5.trans e6
      have t1' := e7 _ _ t1
      have tf : fl ≠ t := ne_of_none t1' nt
      refine ⟨fl, _, _, rfl, rfl, (by rw [upd_ne tf]; exact t1'), ?_, ?_⟩
      · rw [List.length_map, t2]
        exact small1000 (by omega)
      have gs : GoodS (c / 7 % m, d / 5 % m) := by
        have := Int.emod_nonneg (c / 7) (show m ≠ 0 by omega)
        have := Int.emod_lt_of_pos (c / 7) (show 0 < m by omega)
        have := Int.emod_nonneg (d / 5) (show m ≠ 0 by omega)
        have := Int.emod_lt_of_pos (d / 5) (show 0 < m by omega)
        exact ⟨⟨by assumption, by show c / 7 % m ≤ _; omega⟩, by assumption, by show d / 5 % m ≤ _; omega⟩
      have S5 := StonesAt.app (s := (c / 7 % m, d / 5 % m)) t1' t2 (fun i t s e1 e2 => e7 _ _ (t3 i t s e1 e2)) nt
      have G5 := goods_snoc hg gs
      have L5 : (st ++ [(c / 7 % m, d / 5 % m)]).length = i + 1 := by rw [List.length_append, el]; rfl
      have E5 : Ex H (upd (upd H4 t (.tup [.int (c / 7 % m), .int (d / 5 % m)])) fl (.lst (ts.map V.ref ++ [.ref t]))) := Ex.mut ((e3.trans e7).trans (Ex.new nt)) hf
      generalize upd (upd H4 t (.tup [.int (c / 7 % m), .int (d / 5 % m)])) fl (.lst (ts.map V.ref ++ [.ref t])) = H5 at S5 E5 ⊢
      generalize st ++ [(c / 7 % m, d / 5 % m)] = st5 at S5 G5 L5
      -- if cell % 23 == 1
      refine ⟨_, rfl, _, _, rfl, rfl, (by show (0 : Int) < 23; decide), rfl, _, rfl, ite2 (fun _ => ?_) (fun _ => ?_)⟩
      · obtain ⟨us, u1, u2, u3⟩ := S5
        have iu : i < us.length := by omega
        have is5 : i < st5.length := by omega
        have hu := u3 i _ _ (List.getElem?_eq_getElem iu) (List.getElem?_eq_getElem is5)
        have hat : (us.map V.ref)[i]? = some (.ref us[i]) := by
          rw [List.getElem?_map, List.getElem?_eq_getElem iu]
          rfl
        refine ⟨_, rfl, _, rfl, fl, _, _, _, rfl, rfl, SqL.of u1, atI_nat hat, us[i], _, _, _, rfl, rfl, SqT.of hu, atI_nat (j := 0) rfl, _, rfl, _, rfl, fl, _, _, _, rfl, rfl, SqL.of u1, atI_nat hat, us[i], _, _, _, rfl, rfl, SqT.of hu, atI_nat (j := 0) rfl, ?_⟩
        refine ⟨by show 2 ≤ sizeLine; decide, fun t6 nt6 => ?_⟩
        have tf6 : fl ≠ t6 := ne_of_none u1 nt6
        refine ⟨_, rfl, _, rfl, fl, _, _, i, rfl, rfl, (by rw [upd_ne tf6]; exact u1), Evl.ixN_nat (by rw [List.length_map]; exact iu), ?_⟩
        have gi := G5 _ (List.getElem_mem is5)
        refine ⟨st5.set i (st5[i].1, st5[i].1), _, _, _, rfl, by rw [List.length_set]; exact L5, goods_set G5 ⟨gi.1, gi.1⟩, StonesAt.put (s := (st5[i].1, st5[i].1)) u1 u2 u3 nt6, Ex.mut (E5.trans (Ex.new nt6)) hf⟩
      · exact ⟨st5, _, _, _, rfl, L5, G5, S5, E5⟩
    · rintro σ H2 ⟨st, x3, x4, x5, rfl, el, hg, hS2, e3⟩
      exact ⟨_, rfl, q fl st H2 e3 (fresh_back e1 nf) ⟨by omega, hg⟩ hS2⟩
end
end Sw
namespace Sw
open PySem PySem.Spec PyProof.Rows L2
open Evl (Ex Ex.refl Ex.trans Ex.new Ex.mut ex_l ex_t ex_rd fresh_back Ev EvL EvU EvT EvA RV RC RCL SpV SpL)
section
variable {P : Program} {w : World} {K : PySem.W.Frag} {mg : Str → Option Value} {base : Heap}
/-! ### _law_alike -/
theorem scAlike : FnScope ["_law_found", "_law_due", "_law_k"] ["_law_found", "_law_due"] (defScope sAlike) := ⟨rfl, rfl, rfl, by decide +kernel, rfl, by decide +kernel, by decide +kernel⟩
def spAlike (n : Nat) : Sp := fun vs H Q _ => ∃ (x y : V) (d : PyData), vs = [x, y] ∧ Dt H x d ∧ Dt H y d ∧ Lay n d ∧ Evl.RetV (.bl true) H Q
def isSeq : PyData → Bool
  | .list _ => true
  | .tuple _ => true
  | _ => false
theorem isSeq_kind (d : PyData) : isSeq d = (decide (kindOf d = "tuple") || decide (kindOf d = "list")) := by cases d <;> simp [isSeq, kindOf]
theorem kit_seq (d : PyData) : PySem.W.kitAny K (.type (kindOf d)) [.type "tuple", .type "list"] = some (isSeq d) := by
  refine kitAny_cons (kit_tuple d) (fun h => ?_) (fun h => by rw [isSeq_kind, h]; rfl)
  refine kitAny_cons (kit_list d) (fun h2 => ?_) (fun h2 => by rw [isSeq_kind, h2]; exact Bool.or_true _)
  rw [isSeq_kind, h, h2]
  rfl
theorem rc_seq {x : V} {d : PyData} {H : Hp} {p : Addr} (hx : Dt H x d) (hp : H p = some (.tup [.ty "tuple", .ty "list"])) : RC (rIsiT K) [x, .ref p] H (.bl (isSeq d)) := fun H1 e Q q =>
  ⟨x, p, _, _, _, _, rfl, e _ _ hp, .cons (.ty _) (.cons (.ty _) .nil), (Dt.ex e d _ hx).ty, kit_seq d, q H1 (Ex.refl H1)⟩
theorem rc_kind {x : V} {d : PyData} {H : Hp} {T : String} {b : Bool} (hx : Dt H x d) (hk : PySem.W.kitOne K (.type (kindOf d)) (.type T) = some b) : RC (rIsi K) [x, .ty T] H (.bl b) :=
  rc_isi (.ty T) (fun H1 e => (Dt.ex e d _ hx).ty) hk
theorem leaf_same {H : Hp} {x y : V} {d : PyData} (hs : isSeq d = false) (hx : Dt H x d) (hy : Dt H y d) : x = y ∧ scal x y = true := by
  cases hx with
  | non =>
    cases hy
    exact ⟨rfl, rfl⟩
  | bl b =>
    cases hy
    exact ⟨rfl, rfl⟩
  | int i =>
    cases hy
    exact ⟨rfl, rfl⟩
  | str z =>
    cases hy
    exact ⟨rfl, rfl⟩
  | lst h t => exact absurd hs Bool.noConfusion
  | tup h t => exact absurd hs Bool.noConfusion
theorem ev_isi {σ : L2.St} {H : Hp} {x : V} {d : PyData} {T : String} {b : Bool} {i : Nat} (hi : σ[i]? = some (some x)) (hx : Dt H x d) (hk : PySem.W.kitOne K (.type (kindOf d)) (.type T) = some b) :
    Ev (tCB (rIsi K) (tCons (tVar i) (tCons (tC (.ty T)) tNil))) σ H (.bl b) := Evl.ev_cb (Evl.ea_cons (Evl.ev_var hi) (Evl.ea_cons Evl.ev_c Evl.ea_nil)) (rc_kind hx hk)
theorem alike_leaf {f : Addr} {fd : FuncData} (F : Fun K "_law_alike" "_law_alike" sAlike f fd) (mI : mg "isinstance" = none) (mB : mg "bool" = none) (mT : mg "tuple" = none) (mLi : mg "list" = none) : FnOk P w K mg base CX0 1 f fd ["_law_found", "_law_due"] (spAlike 0) := by
  refine F.ok scAlike (fun vs H Q E h => ?_) (fun cdv A outer s H vs Q E hr h => ?_)
  · obtain ⟨x, y, d, rfl, _⟩ := h
    rfl
  · obtain ⟨x, y, d, rfl, hx, hy, hd, q⟩ := h
    refine ⟨_, pss_cons (ps_if (pt_val (pe_callB call_isiT (by rfl) mI (by decide +kernel) (pa_cons (pv 1) (pa_cons (pe_tup (pa_cons (pe_bltn (v := .ty "tuple") (by rfl) mT (by decide +kernel) rfl) (pa_cons (pe_bltn (v := .ty "list") (by rfl) mLi (by decide +kernel) rfl) pa_nil))) pa_nil))))
        (pss_cons ps_never (pss_one ps_never)) pss_nil)
      (pss_one (ps_ret (pe_and (pe_cmpR op_eq (pe_callB call_isi (by rfl) mI (by decide +kernel) (pa_cons (pv 0) (pa_cons (pe_bltn (v := .ty "bool") (by rfl) mB (by decide +kernel) rfl) pa_nil))) (pe_callB call_isi (by rfl) mI (by decide +kernel) (pa_cons (pv 1) (pa_cons (pe_bltn (v := .ty "bool") (by rfl) mB (by decide +kernel) rfl) pa_nil))) (nomark _))
        (pe_one (pe_cmpR op_eq (pv 0) (pv 1) (nomark _)))))), ?_⟩
    have hs : isSeq d = false := by
      cases d with
      | list ds => exact hd.lst_pos.elim
      | tuple ds => exact hd.tup_pos.elim
      | _ => rfl
    refine ⟨y, rfl, by show 2 ≤ sizeLine; decide, fun p np => ?_⟩
    have e1 : Ex H (upd H p (.tup [.ty "tuple", .ty "list"])) := Ex.new np
    refine ⟨y, p, _, _, _, _, rfl, upd_same, .cons (.ty _) (.cons (.ty _) .nil), (Dt.ex e1 d y hy).ty, kit_seq d, _, rfl, ?_⟩
    rw [hs]
    refine iteF ?_
    refine st_next ?_
    dsimp only
    have e3 := e1
    obtain ⟨exy, hsc⟩ := leaf_same hs hx hy
    subst exy
    have hx2 := Dt.ex e3 d x hx
    refine Evl.s_ret (v := .bl (true && true)) (Evl.ev_andV ?_ fun _ => ?_) fun H4 e4 => q H4 (e3.trans e4)
    · exact Evl.ev_is (Evl.ev_op (ev_isi rfl hx2 (kit_bool d)) (ev_isi rfl hx2 (kit_bool d)) (Evl.rv_eq rfl)) (by rw [decide_eq_true rfl])
    · exact Evl.ev_is (Evl.ev_op (Evl.ev_var rfl) (Evl.ev_var rfl) (Evl.rv_eq hsc)) (by rw [decide_eq_true rfl])
/-- a list or a tuple of items -/
theorem seq_of {H : Hp} {x : V} {d : PyData} (hs : isSeq d = true) (hx : Dt H x d) : ∃ (a : Addr) (xs : List V) (ds : List PyData), x = .ref a ∧ ((d = .list ds ∧ H a = some (.lst xs)) ∨ (d = .tuple ds ∧ H a = some (.tup xs))) ∧ DtAll H xs ds := by
  cases hx with
  | lst h t => exact ⟨_, _, _, rfl, .inl ⟨rfl, h⟩, t⟩
  | tup h t => exact ⟨_, _, _, rfl, .inr ⟨rfl, h⟩, t⟩
  | _ => exact absurd hs Bool.noConfusion
theorem kinds_seq {d : PyData} (hs : isSeq d = true) : ∀ (ds : List PyData), (d = .list ds ∨ d = .tuple ds) → True := fun _ _ => trivial
theorem at_all {H : Hp} {xs : List V} {ds : List PyData} (h : DtAll H xs ds) {i : Nat} (hi : i < ds.length) : ∃ x, xs[i]? = some x ∧ Dt H x ds[i] := by
  have hx : i < xs.length := by rw [h.len]; exact hi
  obtain ⟨d, e1, e2⟩ := h.at i _ (List.getElem?_eq_getElem hx)
  rw [List.getElem?_eq_getElem hi] at e1
  have e1 := Option.some.inj e1
  rw [← e1] at e2
  exact ⟨_, List.getElem?_eq_getElem hx, e2⟩
/-- an item of a list or a tuple -/
theorem rv_item {H : Hp} {a : Addr} {xs : List V} {i : Nat} {v : V} (h : H a = some (.lst xs) ∨ H a = some (.tup xs)) (hi : xs[i]? = some v) : RV (rIx K) (.ref a) (.int (i : Nat)) H v := fun H1 e Q q => by
  rcases h with h | h
  · exact .inl ⟨a, xs, _, v, rfl, rfl, SqL.of (e _ _ h), atI_nat hi, q H1 (Ex.refl H1)⟩
  · exact .inr (.inl ⟨a, xs, _, v, rfl, rfl, SqT.of (e _ _ h), atI_nat hi, q H1 (Ex.refl H1)⟩)
theorem ev_lenS {σ : L2.St} {te : TE} {H : Hp} {a : Addr} {xs : List V} (h : H a = some (.lst xs) ∨ H a = some (.tup xs)) (ha : Ev te σ H (.ref a)) : Ev (tCB (Evl.rLenS K) (tCons te tNil)) σ H (.int (xs.length : Int)) := fun H1 e Q q =>
  ha H1 e _ fun H2 e2 => by
    rcases h with h | h
    · exact ⟨a, xs, rfl, .inl (SqL.of (e.trans e2 _ _ h)), q H2 e2⟩
    · exact ⟨a, xs, rfl, .inr (SqT.of (e.trans e2 _ _ h)), q H2 e2⟩
theorem alike_step {n : Nat} {f : Addr} {fd : FuncData} (F : Fun K "_law_alike" "_law_alike" sAlike f fd) (mI : mg "isinstance" = none) (mB : mg "bool" = none) (mT : mg "tuple" = none) (mLi : mg "list" = none) (mL : mg "len" = none) (mA : mg "all" = none) (mR : mg "range" = none)
    (GA : FnOk P w K mg base CX0 (n + 1) f fd ["_law_found", "_law_due"] (spAlike n)) (gA : mg "_law_alike" = some (.ref f)) (kA : PySem.W.keepIn K (.ref f) = true) (bA : Binds K fd ["_law_found", "_law_due"] []) : FnOk P w K mg base CX0 (n + 2) f fd ["_law_found", "_law_due"] (spAlike (n + 1)) := by
  refine F.ok scAlike (fun vs H Q E h => ?_) (fun cdv A outer s H vs Q E hr h => ?_)
  · obtain ⟨x, y, d, rfl, _⟩ := h
    rfl
  · obtain ⟨x, y, d, rfl, hx, hy, hd, q⟩ := h
    refine ⟨_, pss_cons (ps_if (pt_val (pe_callB call_isiT (by rfl) mI (by decide +kernel) (pa_cons (pv 1) (pa_cons (pe_tup (pa_cons (pe_bltn (v := .ty "tuple") (by rfl) mT (by decide +kernel) rfl) (pa_cons (pe_bltn (v := .ty "list") (by rfl) mLi (by decide +kernel) rfl) pa_nil))) pa_nil))))
        (pss_cons (ps_if (PW.pt (pw_or (pt_cmpR op_ne (pe_callB call_isi (by rfl) mI (by decide +kernel) (pa_cons (pv 0) (pa_cons (pe_bltn (v := .ty "tuple") (by rfl) mT (by decide +kernel) rfl) pa_nil))) (pe_callB call_isi (by rfl) mI (by decide +kernel) (pa_cons (pv 1) (pa_cons (pe_bltn (v := .ty "tuple") (by rfl) mT (by decide +kernel) rfl) pa_nil))) (nomark _))
            (pw_or1 (pt_cmpR op_ne (pe_callB call_isi (by rfl) mI (by decide +kernel) (pa_cons (pv 0) (pa_cons (pe_bltn (v := .ty "list") (by rfl) mLi (by decide +kernel) rfl) pa_nil))) (pe_callB call_isi (by rfl) mI (by decide +kernel) (pa_cons (pv 1) (pa_cons (pe_bltn (v := .ty "list") (by rfl) mLi (by decide +kernel) rfl) pa_nil))) (nomark _)))))
          (pss_one ps_never) pss_nil)
        (pss_one (ps_ret (pe_and (pe_cmpR op_eq (pe_callB call_len_seq (by rfl) mL boot_len (pa_cons (pv 0) pa_nil)) (pe_callB call_len_seq (by rfl) mL boot_len (pa_cons (pv 1) pa_nil)) (nomark _))
          (pe_one (pe_callB (cr_all rfl) (by rfl) mA (by decide +kernel) (pa_cons (pe_lc (own := [("_law_k", 2)]) (g := gName 2) (tt := tYes) rfl scAlike.nd (pi_range1 (by rfl) mR (pa_cons (pe_callB call_len_seq (by rfl) mL boot_len (pa_cons (pv 1) pa_nil)) pa_nil)) (blkOk_by (N := ["_law_found", "_law_due", "_law_k"]) (sc := defScope sAlike) (by decide +kernel))
            (fun _ _ _ _ _ => pg_name (i := 2) scAlike.nd rfl (Or.inl rfl)) (fun _ _ _ _ _ => pts_nil) (fun _ _ _ _ _ => pe_call GA hr (by rfl) gA kA bA .nil pass0 (pa_cons (pe_ix (r := rIx K) ix_seq (pv 0) (pv 2) (fun _ _ => rfl)) (pa_cons (pe_ix (r := rIx K) ix_seq (pv 1) (pv 2) (fun _ _ => rfl)) pa_nil)))) pa_nil))))))) pss_nil)
      (pss_one (ps_ret (pe_and (pe_cmpR op_eq (pe_callB call_isi (by rfl) mI (by decide +kernel) (pa_cons (pv 0) (pa_cons (pe_bltn (v := .ty "bool") (by rfl) mB (by decide +kernel) rfl) pa_nil))) (pe_callB call_isi (by rfl) mI (by decide +kernel) (pa_cons (pv 1) (pa_cons (pe_bltn (v := .ty "bool") (by rfl) mB (by decide +kernel) rfl) pa_nil))) (nomark _))
        (pe_one (pe_cmpR op_eq (pv 0) (pv 1) (nomark _)))))), ?_⟩
    refine ⟨y, rfl, by show 2 ≤ sizeLine; decide, fun p np => ?_⟩
    have e3 : Ex H (upd H p (.tup [.ty "tuple", .ty "list"])) := Ex.new np
    refine ⟨y, p, _, _, _, _, rfl, upd_same, .cons (.ty _) (.cons (.ty _) .nil), (Dt.ex e3 d y hy).ty, kit_seq d, _, rfl, ?_⟩
    have hx2 := Dt.ex e3 d x hx
    have hy2 := Dt.ex e3 d y hy
    generalize upd H p (.tup [.ty "tuple", .ty "list"]) = H2 at e3 hx2 hy2
    cases hs : isSeq d with
    | false =>
      refine iteF ?_
      refine st_next ?_
      dsimp only
      obtain ⟨exy, hsc⟩ := leaf_same hs hx hy
      subst exy
      refine Evl.s_ret (v := .bl (true && true)) (Evl.ev_andV ?_ fun _ => ?_) fun H4 e4 => q H4 (e3.trans e4)
      · exact Evl.ev_is (Evl.ev_op (ev_isi rfl hx2 (kit_bool d)) (ev_isi rfl hx2 (kit_bool d)) (Evl.rv_eq rfl)) (by rw [decide_eq_true rfl])
      · exact Evl.ev_is (Evl.ev_op (Evl.ev_var rfl) (Evl.ev_var rfl) (Evl.rv_eq hsc)) (by rw [decide_eq_true rfl])
    | true =>
      refine iteT ?_
      obtain ⟨a, xs, ds, rfl, ea, ax⟩ := seq_of hs hx2
      obtain ⟨b, ys, ds2, rfl, eb, ay⟩ := seq_of hs hy2
      have hds : ds2 = ds ∧ ds.length ≤ 1000 ∧ ∀ d' ∈ ds, Lay n d' := by
        rcases ea with ⟨rfl, _⟩ | ⟨rfl, _⟩
        · rcases eb with ⟨z, _⟩ | ⟨z, _⟩
          · cases z
            exact ⟨rfl, hd.lst_inv⟩
          · cases z
        · rcases eb with ⟨z, _⟩ | ⟨z, _⟩
          · cases z
          · cases z
            exact ⟨rfl, hd.tup_inv⟩
      obtain ⟨hq, hz, hl⟩ := hds
      subst hq
      have ha : H2 a = some (.lst xs) ∨ H2 a = some (.tup xs) := ea.imp And.right And.right
      have hb : H2 b = some (.lst ys) ∨ H2 b = some (.tup ys) := eb.imp And.right And.right
      refine Evl.q_when (b := false) ?_ (fun z => nomatch z) fun _ H3 e4 => ?_
      · refine Evl.et_is (Evl.et_or (a := false) (Evl.et_test (Evl.ev_is (Evl.ev_op (ev_isi rfl hx2 (kit_tuple d)) (ev_isi rfl hy2 (kit_tuple d)) (Evl.rv_ne rfl)) ?_)) fun _ => Evl.et_test (Evl.ev_is (Evl.ev_op (ev_isi rfl hx2 (kit_list d)) (ev_isi rfl hy2 (kit_list d)) (Evl.rv_ne rfl)) (w := .bl false) ?_)) rfl
        · rw [decide_eq_true rfl]
          rfl
        · rw [decide_eq_true rfl]
          rfl
      · have e5 := e3.trans e4
        have ha3 : H3 a = some (.lst xs) ∨ H3 a = some (.tup xs) := ha.imp (e4 _ _) (e4 _ _)
        have hb3 : H3 b = some (.lst ys) ∨ H3 b = some (.tup ys) := hb.imp (e4 _ _) (e4 _ _)
        refine Evl.s_ret (v := .bl (true && true)) (Evl.ev_andV ?_ fun _ => ?_) fun H4 e6 => q H4 (e5.trans e6)
        · refine Evl.ev_is (Evl.ev_op (ev_lenS ha3 (Evl.ev_var rfl)) (ev_lenS hb3 (Evl.ev_var rfl)) (Evl.rv_eq rfl)) ?_
          rw [ax.len, ay.len, decide_eq_true rfl]
        · have ax3 := DtAll.ex e4 _ _ ax
          have ay3 := DtAll.ex e4 _ _ ay
          refine ev_cbN (Evl.el_lcR1 (n := (ys.length : Int)) (fun _ => true) (fun _ => V.bl true) (Evl.ea_cons (ev_lenS hb3 (Evl.ev_var rfl)) Evl.ea_nil) ⟨by omega, ?_⟩ (fun _ => rfl) (fun i H1 e hx H2 e2 Q q => q H2 (Ex.refl H2)) fun i H1 e hi _ => ?_) fun p H1 hp e => ?_
          · have := ay.len
            omega
          · have hi2 : i < ds2.length := by
              rw [← ay.len]
              omega
            obtain ⟨u, hu, du⟩ := at_all ax3 hi2
            obtain ⟨v, hv, dv⟩ := at_all ay3 hi2
            refine Evl.ev_call (vs := [u, v]) (Evl.ea_cons (Evl.ev_op (Evl.ev_var rfl) (Evl.ev_var rfl) (rv_item (ha3.imp (e _ _) (e _ _)) hu)) (Evl.ea_cons (Evl.ev_op (Evl.ev_var rfl) (Evl.ev_var rfl) (rv_item (hb3.imp (e _ _) (e _ _)) hv)) Evl.ea_nil)) ?_
            exact fun H5 e5 Q q _ => ⟨u, v, _, rfl, Dt.ex (e.trans e5) _ _ du, Dt.ex (e.trans e5) _ _ dv, hl _ (List.getElem_mem hi2), q⟩
          · rw [given_all] at hp
            have e1 : (List.range ((ys.length : Int)).toNat).map (fun _ => V.bl true) = ((List.range ((ys.length : Int)).toNat).map fun _ => true).map V.bl := by
              rw [List.map_map]
              rfl
            rw [e1] at hp
            have r := rc_all (K := K) hp
            have e2 : (((List.range ((ys.length : Int)).toNat).map fun _ => true).all id) = true := by
              rw [List.all_eq_true]
              intro b hb
              obtain ⟨_, _, e⟩ := List.mem_map.mp hb
              exact e.symm
            rw [e2] at r
            exact r
end
end Sw
namespace Sw
open PySem PySem.Spec PyProof.Rows L2 TL
open Evl (Ex Ex.refl Ex.trans Ex.new Ex.mut ex_l ex_t ex_rd fresh_back Ev EvL EvU EvT EvA RV RC RCL SpV SpL)
section
variable {P : Program} {w : World} {K : PySem.W.Frag} {mg : Str → Option Value} {base : Heap}
variable {σ : L2.St} {H : Hp} {ta tb te : TE}
/-! ### _is_numeral -/
def figS : Str := "0123456789"
theorem tl_fig : tl figS = [48, 49, 50, 51, 52, 53, 54, 55, 56, 57] := by decide +kernel
def noughtS : Str := "0"
theorem tl_nought : tl noughtS = [48] := by decide +kernel
def rLenStr : List V → Hp → VK → Prop := fun xs H Q => ∃ x, xs = [.str x] ∧ x.length ≤ sizeLine ∧ Q (.int x.length) H
theorem ev_lenStr {x : Str} (h : Ev te σ H (.str x)) (hz : x.length ≤ 100000) : Ev (tCB rLenStr (tCons te tNil)) σ H (.int (x.length : Int)) := fun H1 e Q q => h H1 e _ fun H2 e2 => ⟨x, rfl, Evl.sz_of hz, q H2 e2⟩
theorem ev_chainI {x y z : Int} (h : Ev ta σ H (.int x)) (k : Ev tb σ H (.int y)) (l : Ev te σ H (.int z)) : Ev (tChain (rI0 fun i j => .bl (decide (i ≤ j))) (rI0 fun i j => .bl (decide (i ≤ j))) ta tb te) σ H (.bl (decide (x ≤ y) && decide (y ≤ z))) := fun H1 e Q q =>
  h H1 e _ fun H2 e2 => k H2 (e.trans e2) _ fun H3 e3 => ⟨_, _, rfl, rfl, _, rfl, by
    by_cases c : x ≤ y
    · rw [decide_eq_true c] at q ⊢
      exact iteT (l H3 ((e.trans e2).trans e3) _ fun H4 e4 => ⟨_, _, rfl, rfl, q H4 ((e2.trans e3).trans e4)⟩)
    · rw [decide_eq_false c] at q ⊢
      exact iteF (q H3 (e2.trans e3))⟩
theorem ev_eqS {x y : Str} (h : Ev ta σ H (.str x)) (k : Ev tb σ H (.str y)) : Ev (tOp rEq ta tb) σ H (.bl (decide (x = y))) := Evl.ev_is (Evl.ev_op h k (Evl.rv_eq rfl)) (decV ⟨fun h => V.str.inj h, fun h => by rw [h]⟩)
theorem ev_neS {x y : Str} (h : Ev ta σ H (.str x)) (k : Ev tb σ H (.str y)) : Ev (tOp rNe ta tb) σ H (.bl (!decide (x = y))) := Evl.ev_is (Evl.ev_op h k (Evl.rv_ne rfl)) (by
  congr 2
  exact V.bl.inj (decV ⟨fun h => V.str.inj h, fun h => by rw [h]⟩))
def rInSign : R2 := fun x y H Q => ∃ (c : Nat) (z : Str), x = .str ⟨#[c]⟩ ∧ y = .str z ∧ Q (.bl (decide (c ∈ z.cps.toList))) H
theorem rv_inSign {c : Nat} {z : Str} : RV rInSign (.str ⟨#[c]⟩) (.str z) H (.bl (decide (c ∈ tl z))) := fun H1 _ Q q => ⟨c, z, rfl, rfl, q H1 (Ex.refl H1)⟩
theorem scNumeral : FnScope ["text", "sign"] ["text"] (defScope sNumeral) := ⟨rfl, rfl, rfl, by decide +kernel, rfl, by decide +kernel, by decide +kernel⟩
def spNumeral : Sp := fun vs H Q _ => ∃ x : Str, vs = [.str x] ∧ x.length ≤ 10000 ∧ Evl.RetV (.bl (numeralB (tl x))) H Q
theorem six : (numS 999999).length = 6 := by decide +kernel
theorem ok_numeral {f : Addr} {fd : FuncData} (F : Fun K "_is_numeral" "_is_numeral" sNumeral f fd) (mL : mg "len" = none) (mS : mg "str" = none) (mA : mg "all" = none) (mH : ∃ t, mg "HIGHEST_END" = some (.int 999999 t)) (mF : ∃ t, mg "FIGURES" = some (.str figS t)) : FnOk P w K mg base CX0 1 f fd ["text"] spNumeral := by
  obtain ⟨tH, mH⟩ := mH
  obtain ⟨tF, mF⟩ := mF
  refine F.ok scNumeral (fun vs H Q E h => ?_) (fun cdv A outer s H vs Q E hr h => ?_)
  · obtain ⟨x, rfl, _⟩ := h
    rfl
  · obtain ⟨x, rfl, hx, q⟩ := h
    refine ⟨_, pss_cons (ps_if (pt_not (pt_chain op_le op_le pe_int (pe_callB (r := rLenStr) call_len_str (by rfl) mL boot_len (pa_cons (pv 0) pa_nil)) (pe_callB (r := rLenStr) call_len_str (by rfl) mL boot_len (pa_cons (pe_callTy (r := rStrI) call_str_int (by rfl) mS PyProof.Rows.boot_str (pa_cons (pe_glob (v := .int 999999) rfl mH ⟨_, rfl⟩) pa_nil)) pa_nil)))) (pss_one (ps_ret pe_bl)) pss_nil)
      (pss_cons (ps_if (pt_not (pt_val (pe_callB (cr_all rfl) (by rfl) mA (by decide +kernel) (pa_cons (pe_lc (own := [("sign", 1)]) (g := gName 1) (tt := tYes) (te := tOp rInSign (tVar 1) (tC (.str figS))) rfl scNumeral.nd (pi_str (pv 0)) (blkOk_by (own := [("sign", 1)]) (N := ["text", "sign"]) (sc := defScope sNumeral) (by decide +kernel))
        (fun _ _ _ _ _ => pg_name (i := 1) scNumeral.nd rfl (Or.inl rfl)) (fun _ _ _ _ _ => pts_nil) (fun _ _ _ _ _ => pe_cmpR (r := rInSign) op_in_sign (pv 1) (pe_glob (v := .str figS) rfl mF ⟨_, rfl⟩) (by rfl))) pa_nil)))) (pss_one (ps_ret pe_bl)) pss_nil)
      (pss_one (ps_ret (pe_or (pe_cmpR op_eq (pv 0) pe_str (nomark _)) (pe_one (pe_cmpR op_ne (pe_ix (r := rIxS) ix_str (pv 0) pe_int (fun _ _ => rfl)) pe_str (nomark _))))))), ?_⟩
    have lx := len_tl x
    refine Evl.q_when (b := !(decide ((1 : Int) ≤ (x.length : Int)) && decide ((x.length : Int) ≤ 6))) (Evl.et_not (Evl.et_test (ev_chainI Evl.ev_c (ev_lenStr (Evl.ev_var rfl) (by omega)) (Evl.ev_is (ev_lenStr (x := numS 999999) (ev_str Evl.ev_c (by decide) (by decide)) (by rw [six]; decide)) (by rw [six]; rfl))))) (fun hb H1 e1 => ?_) fun hb H1 e1 => ?_
    · have z : numeralB (tl x) = false := by
        unfold numeralB
        rw [Bool.and_eq_false_iff]
        refine .inl ?_
        rw [Bool.not_eq_true'] at hb
        rw [← hb]
        congr 1
        · refine Bool.eq_iff_iff.mpr ?_
          rw [decide_eq_true_eq, decide_eq_true_eq]
          omega
        · refine Bool.eq_iff_iff.mpr ?_
          rw [decide_eq_true_eq, decide_eq_true_eq]
          omega
      rw [z] at q
      exact q H1 e1
    · rw [Bool.not_eq_false', Bool.and_eq_true, decide_eq_true_eq, decide_eq_true_eq] at hb
      have l1 : 1 ≤ (tl x).length := by omega
      have l2 : (tl x).length ≤ 6 := by omega
      have z : numeralB (tl x) = (((tl x).all fun c => decide (c ∈ [48, 49, 50, 51, 52, 53, 54, 55, 56, 57])) && (decide (tl x = [48]) || !decide ((tl x).head? = some 48))) := by
        unfold numeralB
        rw [decide_eq_true l1, decide_eq_true l2]
        rfl
      rw [z] at q
      refine Evl.q_when (b := !(tl x).all fun c => decide (c ∈ [48, 49, 50, 51, 52, 53, 54, 55, 56, 57])) (Evl.et_not (Evl.et_B (ev_cbN (el_lcS (te := tOp rInSign (tVar 1) (tC (.str figS))) (fun i => V.bl (decide ((tl x).getD i 0 ∈ [48, 49, 50, 51, 52, 53, 54, 55, 56, 57]))) (Evl.ev_var (i := 0) rfl) (by omega) (fun _ => rfl) fun k c H2 e2 hc => ?_) fun p H2 hp e2 => ?_))) (fun hb2 H2 e2 => ?_) fun hb2 H2 e2 => ?_
      · rw [List.getD_eq_getElem?_getD, hc]
        refine Evl.ev_is (Evl.ev_op (Evl.ev_var rfl) Evl.ev_c rv_inSign) ?_
        rw [tl_fig]
        rfl
      · rw [range_map (tl x) _ (fun c => V.bl (decide (c ∈ [48, 49, 50, 51, 52, 53, 54, 55, 56, 57]))) fun i c h => by rw [List.getD_eq_getElem?_getD, h]; rfl] at hp
        have e3 : (tl x).map (fun c => V.bl (decide (c ∈ [48, 49, 50, 51, 52, 53, 54, 55, 56, 57]))) = ((tl x).map fun c => decide (c ∈ [48, 49, 50, 51, 52, 53, 54, 55, 56, 57])).map V.bl := by
          rw [List.map_map]
          rfl
        rw [e3] at hp
        have r := rc_all (K := K) hp
        rw [List.all_map] at r
        exact r
      · rw [Bool.not_eq_true'] at hb2
        rw [hb2] at q
        exact q H2 (e1.trans e2)
      · rw [Bool.not_eq_false'] at hb2
        rw [hb2, Bool.true_and] at q
        obtain ⟨c, r, hcr⟩ : ∃ c r, tl x = c :: r := by
          cases e : tl x with
          | nil =>
            rw [e] at l1
            exact absurd l1 (by decide)
          | cons c r => exact ⟨c, r, rfl⟩
        refine Evl.s_ret (v := .bl (decide (x = noughtS) || !decide ((⟨#[c]⟩ : Str) = noughtS))) (Evl.ev_orV (ev_eqS (Evl.ev_var rfl) Evl.ev_c) fun _ => ev_neS (Evl.ev_op (Evl.ev_var rfl) Evl.ev_c (Evl.rv_ixS (by omega) (by show atI (tl x) 0 = _; rw [hcr]; exact atI_nat (j := 0) rfl))) Evl.ev_c) fun H3 e3 => ?_
        have w1 : decide (x = noughtS) = decide (tl x = [48]) := by
          refine Bool.eq_iff_iff.mpr ?_
          rw [decide_eq_true_eq, decide_eq_true_eq, ← tl_nought]
          exact ⟨fun h => by rw [h], ext_tl⟩
        have w2 : decide ((⟨#[c]⟩ : Str) = noughtS) = decide ((tl x).head? = some 48) := by
          refine Bool.eq_iff_iff.mpr ?_
          rw [decide_eq_true_eq, decide_eq_true_eq, hcr]
          constructor
          · intro h
            have := congrArg tl h
            rw [tl_nought] at this
            have : c = 48 := (List.cons.inj this).1
            rw [this]
            rfl
          · intro h
            have : c = 48 := Option.some.inj h
            rw [this]
            exact ext_tl tl_nought.symm
        rw [w1, w2]
        exact q H3 ((e1.trans e2).trans e3)
theorem pv_numeral {x : Str} (h : x.length ≤ 10000) : SpV spNumeral [.str x] H (.bl (numeralB (tl x))) := fun H1 e Q q _ => ⟨x, rfl, h, q⟩
end
end Sw
namespace Sw
open PySem PySem.Spec PyProof.Rows L2 TL
open Evl (Ex Ex.refl Ex.trans Ex.new Ex.mut ex_l ex_t ex_rd fresh_back Ev EvL EvU EvT EvA RV RC RCL SpV SpL)
section
variable {P : Program} {w : World} {K : PySem.W.Frag} {mg : Str → Option Value} {base : Heap}
variable {σ : L2.St} {H : Hp} {ta tb te : TE}
/-! ### _stone -/
def rIntS : List V → Hp → VK → Prop := fun xs H Q => ∃ a n, xs = [.str a] ∧ PySem.intText? a = some n ∧ a.length ≤ 640 ∧ Q (.int n) H
theorem ev_intS {x : Str} {n : Int} (h : Ev te σ H (.str x)) (hn : intText? x = some n) (hz : x.length ≤ 640) : Ev (tCB rIntS (tCons te tNil)) σ H (.int n) := fun H1 e Q q => h H1 e _ fun H2 e2 => ⟨x, n, rfl, hn, hz, q H2 e2⟩
theorem dash_len : (dashS.length == 0) = false := by decide +kernel
theorem scRdStone : FnScope ["word", "numerals", "numeral"] ["word"] (defScope sRdStone) := ⟨rfl, rfl, rfl, by decide +kernel, rfl, by decide +kernel, by decide +kernel⟩
def spRdStone : Sp := fun vs H Q _ => ∃ s : Int × Int, vs = [.str (wordS s)] ∧ GoodS s ∧ ∀ p H2, H p = none → Ex H H2 → H2 p = some (.tup [.int s.1, .int s.2]) → Q (.ref p) H2
theorem ok_rdStone {f fN : Addr} {fd fdN : FuncData} (F : Fun K "_stone" "_stone" sRdStone f fd) (mL : mg "len" = none) (mA : mg "all" = none) (mN : mg "int" = none)
    (GN : FnOk P w K mg base CX0 1 fN fdN ["text"] spNumeral) (gN : mg "_is_numeral" = some (.ref fN)) (kN : PySem.W.keepIn K (.ref fN) = true) (bN : Binds K fdN ["text"] []) : FnOk P w K mg base CX0 2 f fd ["word"] spRdStone := by
  refine F.ok scRdStone (fun vs H Q E h => ?_) (fun cdv A outer s H vs Q E hr h => ?_)
  · obtain ⟨s, rfl, _⟩ := h
    rfl
  · obtain ⟨s, rfl, hs, q⟩ := h
    refine ⟨_, pss_cons (ps_set (i := 1) scRdStone.nd rfl (.inl rfl) (pe_split (pv 0) pe_str))
      (pss_cons (ps_if (PW.pt (pw_or (pt_cmpR op_ne (pe_callB (r := Evl.rLenS K) call_len_seq (by rfl) mL boot_len (pa_cons (pv 1) pa_nil)) pe_int (nomark _))
        (pw_or1 (pt_not (pt_val (pe_callB (cr_all rfl) (by rfl) mA (by decide +kernel) (pa_cons (pe_lc (own := [("numeral", 2)]) (g := gName 2) (tt := tYes) rfl scRdStone.nd (pi_list (pv 1)) (blkOk_by (own := [("numeral", 2)]) (N := ["word", "numerals", "numeral"]) (sc := defScope sRdStone) (by decide +kernel))
        (fun _ _ _ _ _ => pg_name (i := 2) scRdStone.nd rfl (Or.inl rfl)) (fun _ _ _ _ _ => pts_nil) (fun _ _ _ _ _ => pe_call GN hr (by rfl) gN kN bN .nil pass0 (pa_cons (pv 2) pa_nil))) pa_nil))))))) (pss_one ps_never) pss_nil)
      (pss_one (ps_ret (pe_tup (pa_cons (pe_callTy (r := rIntS) call_int_str (by rfl) mN PyProof.Rows.boot_int (pa_cons (pe_ix (r := rIxL K) ix_list (pv 1) pe_int (fun _ _ => rfl)) pa_nil)) (pa_cons (pe_callTy (r := rIntS) call_int_str (by rfl) mN PyProof.Rows.boot_int (pa_cons (pe_ix (r := rIxL K) ix_list (pv 1) pe_int (fun _ _ => rfl)) pa_nil)) pa_nil)))))), ?_⟩
    have wl := word_len hs
    have sp := word_split hs
    have n1 := numS_len hs.1.1 hs.1.2
    have n2 := numS_len hs.2.1 hs.2.2
    refine Evl.q_asgL (el_split (Evl.ev_var rfl) (Evl.ev_c (v := .str dashS)) dash_len (by omega)) fun p H1 np e1 hp => ?_
    rw [sp] at hp
    refine Evl.q_when (b := false) (Evl.et_or (a := false) (b := false) (Evl.et_is (ev_neI (x := 2) (y := 2) (Evl.ev_len (K := K) (Evl.ev_var rfl) (SqL.of hp)) Evl.ev_c) rfl) fun _ => Evl.et_not (a := true) (Evl.et_B (ev_cbN (Evl.el_lcL (fun _ => true) (fun _ => V.bl true) (Evl.ev_var (i := 1) rfl) (SqL.of hp) (by show 2 ≤ _; decide) (fun _ => rfl) (fun _ _ _ _ _ H1 _ Q q => q H1 (Ex.refl H1)) fun i x H2 e2 hx _ => ?_) fun p2 H2 hp2 e2 => ?_))) (fun h => nomatch h) fun _ H2 e2 => ?_
    · have key : ∃ y, x = .str y ∧ y.length ≤ 10000 ∧ numeralB (tl y) = true := by
        match i, hx with
        | 0, hx => exact ⟨_, (Option.some.inj hx).symm, by omega, numeral_num hs.1.1 hs.1.2⟩
        | 1, hx => exact ⟨_, (Option.some.inj hx).symm, by omega, numeral_num hs.2.1 hs.2.2⟩
        | i + 2, hx => simp at hx
      obtain ⟨y, rfl, hy, hn⟩ := key
      rw [← hn]
      exact Evl.ev_call (Evl.ea_cons (Evl.ev_var rfl) Evl.ea_nil) (pv_numeral hy)
    · have r := rc_all (K := K) (bs := [true, true]) (p := p2) (H := H2) hp2
      exact r
    · have hp2 := e2 _ _ hp
      refine Evl.s_retU (xs := [.int s.1, .int s.2]) (Evl.eu_tup (Evl.ea_cons (ev_intS (Evl.ev_op (Evl.ev_var rfl) Evl.ev_c (Evl.rv_ixL (K := K) (SqL.of hp2) (atI_nat (j := 0) rfl))) (int_numS hs.1.1 hs.1.2) (by omega)) (Evl.ea_cons (ev_intS (Evl.ev_op (Evl.ev_var rfl) Evl.ev_c (Evl.rv_ixL (K := K) (SqL.of hp2) (atI_nat (j := 1) rfl))) (int_numS hs.2.1 hs.2.2) (by omega)) Evl.ea_nil)) (by show 2 ≤ _; decide)) fun t H3 nt e3 ht => q t H3 (fresh_back (e1.trans e2) nt) ((e1.trans e2).trans e3) ht
end
end Sw
namespace Sw
open PySem PySem.Spec PyProof.Rows L2 TL
open Evl (Ex Ex.refl Ex.trans Ex.new Ex.mut ex_l ex_t ex_rd fresh_back Ev EvL EvU EvT EvA RV RC RCL SpV SpL)
section
variable {P : Program} {w : World} {K : PySem.W.Frag} {mg : Str → Option Value} {base : Heap}
/-! ### read -/
theorem gap_len0 : (gapS.length == 0) = false := by decide +kernel
theorem kit_str : PySem.W.kitOne K (.type "str") (.type "str") = some true := kit_ty (by decide +kernel)
theorem scRead : FnScope ["text", "words", "word"] ["text"] (defScope sRead) := ⟨rfl, rfl, rfl, by decide +kernel, rfl, by decide +kernel, by decide +kernel⟩
def spRead : Sp := fun vs H Q _ => ∃ st : List (Int × Int), vs = [.str (lineS st)] ∧ Good st ∧ ∀ p H2, H p = none → Ex H H2 → StonesAt H2 p st → Q (.ref p) H2
theorem ok_read {f fS : Addr} {fd fdS : FuncData} (F : Fun K "read" "read" sRead f fd) (mI : mg "isinstance" = none) (mS : mg "str" = none) (mL : mg "len" = none) (mM : ∃ t, mg "MOST_STONES" = some (.int 60 t))
    (GS : FnOk P w K mg base CX0 2 fS fdS ["word"] spRdStone) (gS : mg "_stone" = some (.ref fS)) (kS : PySem.W.keepIn K (.ref fS) = true) (bS : Binds K fdS ["word"] []) : FnOk P w K mg base CX0 3 f fd ["text"] spRead := by
  obtain ⟨tM, mM⟩ := mM
  refine F.ok scRead (fun vs H Q E h => ?_) (fun cdv A outer s H vs Q E hr h => ?_)
  · obtain ⟨st, rfl, _⟩ := h
    rfl
  · obtain ⟨st, rfl, hG, q⟩ := h
    refine ⟨_, pss_cons (ps_if (pt_not (pt_val (pe_callB call_isi (by rfl) mI (by decide +kernel) (pa_cons (pv 0) (pa_cons (pe_bltn (v := .ty "str") (by rfl) mS (by decide +kernel) rfl) pa_nil))))) (pss_one ps_never) pss_nil)
      (pss_cons (ps_if (pt_cmpR op_eq (pv 0) pe_str (nomark _)) (pss_one (ps_ret (pe_lst pa_nil))) pss_nil)
      (pss_cons (ps_set (i := 1) scRead.nd rfl (.inl rfl) (pe_split (pv 0) pe_str))
      (pss_cons (ps_if (pt_cmpR op_gt (pe_callB (r := Evl.rLenS K) call_len_seq (by rfl) mL boot_len (pa_cons (pv 1) pa_nil)) (pe_glob (v := .int 60) rfl mM ⟨_, rfl⟩) (nomark _)) (pss_one ps_never) pss_nil)
      (pss_one (ps_ret (pe_lc (own := [("word", 2)]) (g := gName 2) (tt := tYes) rfl scRead.nd (pi_list (pv 1)) (blkOk_by (own := [("word", 2)]) (N := ["text", "words", "word"]) (sc := defScope sRead) (by decide +kernel))
        (fun _ _ _ _ _ => pg_name (i := 2) scRead.nd rfl (Or.inl rfl)) (fun _ _ _ _ _ => pts_nil) (fun _ _ _ _ _ => pe_call GS hr (by rfl) gS kS bS .nil pass0 (pa_cons (pv 2) pa_nil)))))))), ?_⟩
    have hl := hG.1
    have ll := line_len hG.2
    refine Evl.q_when (b := false) (Evl.et_not (a := true) (Evl.et_B (ev_isI (Evl.ev_var rfl) (.str (lineS st)) kit_str))) (fun h => nomatch h) fun _ H1 e1 => ?_
    refine Evl.q_when (b := decide (lineS st = Str.empty)) (Evl.et_test (ev_eqS (Evl.ev_var rfl) (Evl.ev_c (v := .str Str.empty)))) (fun hb H2 e2 => ?_) fun hb H2 e2 => ?_
    · have z : st = [] := by
        by_cases c : st = []
        · exact c
        · exact absurd (of_decide_eq_true hb) (line_ne c)
      subst z
      exact Evl.s_retL (xs := []) (Evl.el_lst Evl.ea_nil (Nat.zero_le _)) fun p H3 np e3 hp => q p H3 (fresh_back (e1.trans e2) np) ((e1.trans e2).trans e3) (stones_nil hp)
    · have ne : st ≠ [] := fun c => by
        rw [c] at hb
        exact absurd (line_nil) (of_decide_eq_false hb)
      refine Evl.q_asgL (el_split (Evl.ev_var rfl) (Evl.ev_c (v := .str gapS)) gap_len0 (by omega)) fun p H3 np e3 hp => ?_
      rw [line_split ne hG.2] at hp
      have e13 := (e1.trans e2).trans e3
      refine Evl.q_when (b := false) (Evl.et_is (Evl.et_test (Evl.ev_op (Evl.ev_len (K := K) (Evl.ev_var rfl) (SqL.of hp)) Evl.ev_c Evl.rv_I0)) (decide_eq_false (by rw [List.length_map, List.length_map]; omega))) (fun h => nomatch h) fun _ H4 e4 => ?_
      have hp4 := e4 _ _ hp
      refine esn_lc (K := K) (a := p) (xs := (st.map wordS).map V.str) (ys := st) (σ := [some (.str (lineS st)), some (.ref p), none]) (j := 2) (vs := [2]) (H := H4) (Evl.ev_var (i := 1) rfl) (SqL.of hp4) (by rw [List.length_map, List.length_map]; omega) (by rw [List.length_map, List.length_map]) (fun _ => rfl) ?_ H4 (Ex.refl H4) _ fun z H5 nz e5 hz => q z H5 (fresh_back (e13.trans e4) nz) ((e13.trans e4).trans e5) hz
      intro i x s H5 e5 hx hs Q' q'
      rw [List.getElem?_map, List.getElem?_map, hs] at hx
      have hx := Option.some.inj hx
      subst hx
      exact ⟨_, rfl, s, rfl, hG.2 s (List.mem_of_getElem? hs), fun z H6 _ e6 hz => q' z H6 e6 hz⟩
end
end Sw
namespace Sw
open PySem PySem.Spec PyProof.Rows L2 TL
open Evl (Ex Ex.refl Ex.trans Ex.new Ex.mut ex_l ex_t ex_rd fresh_back Ev EvL EvU EvT EvA RV RC RCL SpV SpL)
section
variable {P : Program} {w : World} {K : PySem.W.Frag} {mg : Str → Option Value} {base : Heap}
variable {σ : L2.St} {H : Hp} {ta tb te : TE}
/-! ### _stone and read, of whatever text -/
def spRdStoneX (C : Addr) : Sp := fun vs H Q E => ∃ x : Str, vs = [.str x] ∧ x.length ≤ 10000 ∧ (∀ s, Word x s → ∀ p H2, H p = none → Ex H H2 → H2 p = some (.tup [.int s.1, .int s.2]) → Q (.ref p) H2) ∧ (wordB x = false → ∀ H2, Ex H H2 → E (.ref C) none H2)
theorem ok_rdStoneX {f fN C : Addr} {fd fdN : FuncData} (F : Fun K "_stone" "_stone" sRdStone f fd) (mL : mg "len" = none) (mA : mg "all" = none) (mN : mg "int" = none)
    (GN : FnOk P w K mg base CX0 1 fN fdN ["text"] spNumeral) (gN : mg "_is_numeral" = some (.ref fN)) (kN : PySem.W.keepIn K (.ref fN) = true) (bN : Binds K fdN ["text"] [])
    (EC : ErrC K C) (gC : mg "NoText" = some (.ref C)) : FnOk P w K mg base (L2.CX P w) 2 f fd ["word"] (spRdStoneX C) := by
  refine F.okX scRdStone (fun vs H Q E h => ?_) (fun cdv A outer s H vs Q E hr h => ?_)
  · obtain ⟨x, rfl, _⟩ := h
    rfl
  · obtain ⟨x, rfl, hx, q, qe⟩ := h
    refine ⟨_, pss_cons (ps_set (i := 1) scRdStone.nd rfl (.inl rfl) (pe_split (pv 0) pe_str))
      (pss_cons (ps_if (PW.pt (pw_or (pt_cmpR op_ne (pe_callB (r := Evl.rLenS K) call_len_seq (by rfl) mL boot_len (pa_cons (pv 1) pa_nil)) pe_int (nomark _))
        (pw_or1 (pt_not (pt_val (pe_callB (cr_all rfl) (by rfl) mA (by decide +kernel) (pa_cons (pe_lc (own := [("numeral", 2)]) (g := gName 2) (tt := tYes) rfl scRdStone.nd (pi_list (pv 1)) (blkOk_by (own := [("numeral", 2)]) (N := ["word", "numerals", "numeral"]) (sc := defScope sRdStone) (by decide +kernel))
        (fun _ _ _ _ _ => pg_name (i := 2) scRdStone.nd rfl (Or.inl rfl)) (fun _ _ _ _ _ => pts_nil) (fun _ _ _ _ _ => pe_call GN hr (by rfl) gN kN bN .nil pass0 (pa_cons (pv 2) pa_nil))) pa_nil)))))))
        (pss_one (ps_raise rfl (takes_of rfl rfl rfl rfl) (pmk_own PySem.F.excBase_ValueError EC.x gC EC.k (raises_own EC.e.hs EC.t) (by exact rfl)))) pss_nil)
      (pss_one (ps_ret (pe_tup (pa_cons (pe_callTy (r := rIntS) call_int_str (by rfl) mN PyProof.Rows.boot_int (pa_cons (pe_ix (r := rIxL K) ix_list (pv 1) pe_int (fun _ _ => rfl)) pa_nil)) (pa_cons (pe_callTy (r := rIntS) call_int_str (by rfl) mN PyProof.Rows.boot_int (pa_cons (pe_ix (r := rIxL K) ix_list (pv 1) pe_int (fun _ _ => rfl)) pa_nil)) pa_nil)))))), ?_⟩
    obtain ⟨s1, s2⟩ := split_len (x := x) tl_dash dash_small
    refine Evl.q_asgL (el_split (Evl.ev_var rfl) (Evl.ev_c (v := .str dashS)) dash_len (by omega)) fun p H1 np e1 hp => ?_
    refine Evl.q_when (b := !decide ((Txt.split x dashS).length = 2) || !(Txt.split x dashS).all fun p => numeralB (tl p)) (Evl.et_or (Evl.et_is (ev_neI (Evl.ev_len (K := K) (Evl.ev_var rfl) (SqL.of hp)) Evl.ev_c) (by rw [List.length_map]; exact Bool.eq_iff_iff.mpr (by simp; omega))) fun _ => Evl.et_not (Evl.et_B (ev_cbN (Evl.el_lcL (fun _ => true) (fun k => V.bl (numeralB (tl ((Txt.split x dashS).getD k Str.empty)))) (Evl.ev_var (i := 1) rfl) (SqL.of hp) (by rw [List.length_map]; omega) (fun _ => rfl) (fun _ _ _ _ _ H1 _ Q q => q H1 (Ex.refl H1)) fun i y H2 e2 hy _ => ?_) fun p2 H2 hp2 e2 => ?_))) (fun hb H2 e2 => ?_) fun hb H2 e2 => ?_
    · rw [List.getElem?_map] at hy
      obtain ⟨z, hz, rfl⟩ := Option.map_eq_some_iff.mp hy
      rw [List.getD_eq_getElem?_getD, hz]
      exact Evl.ev_call (Evl.ea_cons (Evl.ev_var rfl) Evl.ea_nil) (pv_numeral (by have := s2 z (List.mem_of_getElem? hz); omega))
    · rw [given_all, List.length_map, range_map (Txt.split x dashS) _ (fun z => V.bl (numeralB (tl z))) fun i s h => by rw [List.getD_eq_getElem?_getD, h]; rfl] at hp2
      have e3 : (Txt.split x dashS).map (fun z => V.bl (numeralB (tl z))) = ((Txt.split x dashS).map fun z => numeralB (tl z)).map V.bl := by
        rw [List.map_map]
        rfl
      rw [e3] at hp2
      have r := rc_all (K := K) hp2
      rw [List.all_map] at r
      exact r
    · have z : wordB x = false := by
        unfold wordB
        rw [← Bool.not_and, Bool.not_eq_true'] at hb
        exact hb
      exact qe z H2 (e1.trans e2)
    · have z : wordB x = true := by
        unfold wordB
        rw [← Bool.not_and, Bool.not_eq_false'] at hb
        exact hb
      obtain ⟨s, hW⟩ := wordB_iff.mp z
      have hs := hW.1
      have q := q s hW
      rw [hW.2, word_split hs] at hp
      have n1 := numS_len hs.1.1 hs.1.2
      have n2 := numS_len hs.2.1 hs.2.2
      have hp2 := e2 _ _ hp
      refine Evl.s_retU (xs := [.int s.1, .int s.2]) (Evl.eu_tup (Evl.ea_cons (ev_intS (Evl.ev_op (Evl.ev_var rfl) Evl.ev_c (Evl.rv_ixL (K := K) (SqL.of hp2) (atI_nat (j := 0) rfl))) (int_numS hs.1.1 hs.1.2) (by omega)) (Evl.ea_cons (ev_intS (Evl.ev_op (Evl.ev_var rfl) Evl.ev_c (Evl.rv_ixL (K := K) (SqL.of hp2) (atI_nat (j := 1) rfl))) (int_numS hs.2.1 hs.2.2) (by omega)) Evl.ea_nil)) (by show 2 ≤ _; decide)) fun t H3 nt e3 ht => q t H3 (fresh_back (e1.trans e2) nt) ((e1.trans e2).trans e3) ht
def spReadX (C : Addr) : Sp := fun vs H Q E => ∃ x : Str, vs = [.str x] ∧ x.length ≤ 10000 ∧ (∀ st, Line x st → ∀ p H2, H p = none → Ex H H2 → StonesAt H2 p st → Q (.ref p) H2) ∧ (lineB x = false → ∀ H2, Ex H H2 → E (.ref C) none H2)
theorem ok_readX {f fS C : Addr} {fd fdS : FuncData} (F : Fun K "read" "read" sRead f fd) (mI : mg "isinstance" = none) (mS : mg "str" = none) (mL : mg "len" = none) (mM : ∃ t, mg "MOST_STONES" = some (.int 60 t))
    (GS : FnOk P w K mg base (L2.CX P w) 2 fS fdS ["word"] (spRdStoneX C)) (gS : mg "_stone" = some (.ref fS)) (kS : PySem.W.keepIn K (.ref fS) = true) (bS : Binds K fdS ["word"] [])
    (EC : ErrC K C) (gC : mg "NoText" = some (.ref C)) : FnOk P w K mg base (L2.CX P w) 3 f fd ["text"] (spReadX C) := by
  obtain ⟨tM, mM⟩ := mM
  refine F.okX scRead (fun vs H Q E h => ?_) (fun cdv A outer s H vs Q E hr h => ?_)
  · obtain ⟨x, rfl, _⟩ := h
    rfl
  · obtain ⟨x, rfl, hx, q, qe⟩ := h
    refine ⟨_, pss_cons (ps_if (pt_not (pt_val (pe_callB call_isi (by rfl) mI (by decide +kernel) (pa_cons (pv 0) (pa_cons (pe_bltn (v := .ty "str") (by rfl) mS (by decide +kernel) rfl) pa_nil))))) (pss_one ps_never) pss_nil)
      (pss_cons (ps_if (pt_cmpR op_eq (pv 0) pe_str (nomark _)) (pss_one (ps_ret (pe_lst pa_nil))) pss_nil)
      (pss_cons (ps_set (i := 1) scRead.nd rfl (.inl rfl) (pe_split (pv 0) pe_str))
      (pss_cons (ps_if (pt_cmpR op_gt (pe_callB (r := Evl.rLenS K) call_len_seq (by rfl) mL boot_len (pa_cons (pv 1) pa_nil)) (pe_glob (v := .int 60) rfl mM ⟨_, rfl⟩) (nomark _))
        (pss_one (ps_raise rfl (takes_of rfl rfl rfl rfl) (pmk_own PySem.F.excBase_ValueError EC.x gC EC.k (raises_own EC.e.hs EC.t) (by exact rfl)))) pss_nil)
      (pss_one (ps_ret (pe_lcX (E := E) (own := [("word", 2)]) (g := gName 2) (te := tCallS (spRdStoneX C) (fun _ => E) (tCons (tVar 2) tNil)) rfl rfl rfl scRead.nd (takes_of rfl rfl rfl rfl) (pi_list (pv 1)) (blkOk_by (own := [("word", 2)]) (N := ["text", "words", "word"]) (sc := defScope sRead) (by decide +kernel))
        (fun _ _ _ _ _ => pg_name (i := 2) scRead.nd rfl (Or.inl rfl)) (fun _ _ _ _ _ _ => pe_callS GS hr (by rfl) gS kS bS (fun σ => pass_blk σ) (pa_cons (pv 2) pa_nil)))))))), ?_⟩
    obtain ⟨s1, s2⟩ := split_len (x := x) tl_gap gap_small
    refine Evl.q_when (b := false) (Evl.et_not (a := true) (Evl.et_B (ev_isI (Evl.ev_var rfl) (.str x) kit_str))) (fun h => nomatch h) fun _ H1 e1 => ?_
    refine Evl.q_when (b := decide (x = Str.empty)) (Evl.et_test (ev_eqS (Evl.ev_var rfl) (Evl.ev_c (v := .str Str.empty)))) (fun hb H2 e2 => ?_) fun hb H2 e2 => ?_
    · have z : Line x [] := ⟨⟨Nat.zero_le _, fun s h => nomatch h⟩, of_decide_eq_true hb⟩
      exact Evl.s_retL (xs := []) (Evl.el_lst Evl.ea_nil (Nat.zero_le _)) fun p H3 np e3 hp => q [] z p H3 (fresh_back (e1.trans e2) np) ((e1.trans e2).trans e3) (stones_nil hp)
    · refine Evl.q_asgL (el_split (Evl.ev_var rfl) (Evl.ev_c (v := .str gapS)) gap_len0 (by omega)) fun p H3 np e3 hp => ?_
      have e13 := (e1.trans e2).trans e3
      refine Evl.q_when (b := decide (60 < (Txt.split x gapS).length)) (Evl.et_is (Evl.et_test (Evl.ev_op (Evl.ev_len (K := K) (Evl.ev_var rfl) (SqL.of hp)) Evl.ev_c Evl.rv_I0)) (by rw [List.length_map]; exact Bool.eq_iff_iff.mpr (by simp; omega))) (fun hb2 H4 e4 => ?_) fun hb2 H4 e4 => ?_
      · have z : lineB x = false := by
          unfold lineB
          have hb2 := of_decide_eq_true hb2
          rw [hb, decide_eq_false (show ¬ (Txt.split x gapS).length ≤ 60 by omega)]
          rfl
        exact qe z H4 (e13.trans e4)
      · have hb2 := of_decide_eq_false hb2
        have hp4 := e4 _ _ hp
        refine esn_lcG (K := K) (a := p) (xs := (Txt.split x gapS).map V.str) (ys := (Txt.split x gapS).map unword) (σ := [some (.str x), some (.ref p), none]) (j := 2) (vs := [2]) (H := H4) (fun i => wordB ((Txt.split x gapS).getD i Str.empty) = true) (Evl.ev_var (i := 1) rfl) (SqL.of hp4) (by rw [List.length_map]; omega) (by rw [List.length_map, List.length_map]) (fun _ => rfl) ?_ fun hg z H5 nz e5 hz => q _ (line_get (by omega) fun w hw => ?_) z H5 (fresh_back (e13.trans e4) nz) ((e13.trans e4).trans e5) hz
        · intro i v s H5 e5 hv hs Q' q'
          rw [List.getElem?_map] at hv hs
          obtain ⟨y, hy, rfl⟩ := Option.map_eq_some_iff.mp hv
          rw [hy] at hs
          obtain rfl := Option.some.inj hs
          have my := List.mem_of_getElem? hy
          refine ⟨_, rfl, y, rfl, by have := s2 y my; omega, fun s hW z H6 _ e6 hz => ?_, fun hn H6 e6 => ?_⟩
          · have hb' := wordB_iff.mpr ⟨s, hW⟩
            have us := unword_ok hb'
            rw [word_inj hW.1 us.1 (hW.2.symm.trans us.2)] at hz
            exact q' z H6 (by rw [List.getD_eq_getElem?_getD, hy]; exact hb') e6 hz
          · refine qe ?_ H6 (((e13.trans e4).trans e5).trans e6)
            unfold lineB
            rw [hb, Bool.false_or, Bool.and_eq_false_iff]
            refine .inr (Bool.eq_false_iff.mpr fun h => ?_)
            rw [List.all_eq_true.mp h y my] at hn
            cases hn
        · obtain ⟨i, hi⟩ := List.getElem?_of_mem hw
          have := hg i (by rw [List.length_map]; exact (List.getElem?_eq_some_iff.mp hi).1)
          rw [List.getD_eq_getElem?_getD, hi] at this
          exact this
end
end Sw
namespace Sw
open PySem PySem.Spec PyProof.Rows L2 TL
open Evl (Ex Ex.refl Ex.trans Ex.new Ex.mut ex_l ex_t ex_rd fresh_back Ev EvL EvU EvT EvA RV RC RCL SpV SpL)
/-- a text of common signs -/
def Sm (x : Str) : Prop := ∀ c ∈ tl x, c < 1114112
section
variable {P : Program} {w : World} {K : PySem.W.Frag} {mg : Str → Option Value} {base : Heap}
variable {σ : L2.St} {H : Hp} {ta tb te tl' : TE}
/-- [e for sign in text if c] -/
theorem el_lcSF {x : Str} {j : Nat} {vs : List Nat} {t : TT} (f : Nat → Bool) (v : Nat → V) (h : Ev tl' σ H (.str x)) (hz : x.length ≤ 40000) (hw : ∀ y, wipe ((wipe σ vs).set j (some y)) vs = wipe σ vs)
    (ht : ∀ (k : Nat) (c : Nat) H1, Ex H H1 → (tl x)[k]? = some c → EvT t ((wipe σ vs).set j (some (.str ⟨#[c]⟩))) H1 (f k))
    (he : ∀ (k : Nat) (c : Nat) H1, Ex H H1 → (tl x)[k]? = some c → f k = true → Ev te ((wipe σ vs).set j (some (.str ⟨#[c]⟩))) H1 (v k)) : EvL (tLc (iStr tl') (gName j) t te vs) σ H (Evl.given (tl x).length f v) := fun H1 e Q q => h H1 e _ fun H2 e2 => by
  have sz : x.cps.size = (tl x).length := by
    unfold tl
    rw [Array.length_toList]
  have xl : x.cps.size = x.length := rfl
  refine ⟨x, rfl, fun D nD => ?_⟩
  refine ⟨fun k m J => m + k = x.cps.size ∧ Evl.Cw H2 f v D k J, ⟨_, rfl, nD, Ex.new nD, upd_same⟩, ?_⟩
  rintro k m J ⟨hm, p⟩
  cases m with
  | zero =>
    have ek : k = x.cps.size := by omega
    refine .inl ⟨?_, q D J (fresh_back e2 nD) (e2.trans p.2.1) ?_⟩
    · show x.cps.size ≤ k
      omega
    · rw [p.2.2, ek, sz]
  | succ m =>
    refine .inr ⟨?_, Evl.Cw H2 f v D (k + 1), fun J' p' => ⟨m, Nat.lt_succ_self m, by omega, p'⟩, ?_⟩
    · show k < x.cps.size
      omega
    · rintro y J' ⟨rfl, c, hc, rfl⟩
      have hc' : (tl x)[k]? = some c := by
        unfold tl
        rw [Array.getElem?_toList]
        exact hc
      exact ⟨hw _, Evl.cw_turn p (by omega) (ht k c H2 (e.trans e2) hc') fun hf => he k c H2 (e.trans e2) hc' hf⟩
theorem sm_part {x y p : Str} {s : Nat} (ey : tl y = [s]) (hk : y.cps.all (· < 256) = true) (h : Sm x) (hp : p ∈ Txt.split x y) : Sm p := fun c hc => by
  refine h c ?_
  have e := split_spl x y (by rw [ey]; simp) (kind_ok hk)
  have j : joinL [s] ((Txt.split x y).map tl) = tl x := by
    rw [e, ey, join_spl]
    rfl
  rw [← j]
  have sub : ∀ l : List (List Nat), tl p ∈ l → c ∈ joinL [s] l := fun l hl => by
    induction l with
    | nil => exact nomatch hl
    | cons q r ih =>
      cases r with
      | nil =>
        rw [← List.mem_singleton.mp hl]
        exact hc
      | cons q2 r =>
        show c ∈ q ++ ([s] ++ joinL [s] (q2 :: r))
        rcases List.mem_cons.mp hl with e | hl
        · rw [← e]
          exact List.mem_append_left _ hc
        · exact List.mem_append_right _ (List.mem_append_right _ (ih hl))
  exact sub _ (List.mem_map_of_mem (f := tl) hp)
/-! ### _law_number -/
def numO (x : Str) : Option Int := if numeralB (tl x) = true then intText? x else none
def numV (x : Str) : V := match numO x with
  | some i => .int i
  | none => .non
theorem numO_num {i : Int} (h : 0 ≤ i) (h1 : i ≤ 999999) : numO (numS i) = some i := by
  unfold numO
  rw [if_pos (numeral_num h h1), int_numS h h1]
theorem numV_num {i : Int} (h : 0 ≤ i) (h1 : i ≤ 999999) : numV (numS i) = .int i := by
  unfold numV
  rw [numO_num h h1]
theorem numV_no {x : Str} (h : numeralB (tl x) = false) : numV x = .non := by
  unfold numV numO
  rw [if_neg (by rw [h]; exact Bool.false_ne_true)]
theorem scLNum : FnScope ["_law_word", "_law_sign"] ["_law_word"] (defScope s_law_number) := ⟨rfl, rfl, rfl, by decide +kernel, rfl, by decide +kernel, by decide +kernel⟩
def spLNum : Sp := fun vs H Q _ => ∃ x : Str, vs = [.str x] ∧ x.length ≤ 10000 ∧ Sm x ∧ Evl.RetV (numV x) H Q
theorem et_strsNil {xs : List Str} (h : EvL te σ H (xs.map V.str)) (hz : xs.length ≤ 1000) (hs : ∀ x ∈ xs, Sm x) : EvT (tTest (tOp (rNeD K) te (tLst tNil))) σ H (!xs.isEmpty) := fun H1 e Q q =>
  h H1 e _ fun p H2 _ e2 hp => ⟨Nat.zero_le _, fun u nu => by
    have d1 : Dt (upd H2 u (.lst [])) (.ref p) (.list (xs.map PyData.str)) := .lst ((Ex.new nu) _ _ hp) (DtAll.of (by rw [List.length_map, List.length_map]) fun i v d g1 g2 => by
      rw [List.getElem?_map] at g1 g2
      obtain ⟨x, hx, rfl⟩ := Option.map_eq_some_iff.mp g1
      rw [hx] at g2
      obtain rfl := Option.some.inj g2
      exact .str x)
    have l1 : Lay 1 (.list (xs.map PyData.str)) := Lay.lst (by rw [List.length_map]; exact hz) fun d hd => by
      obtain ⟨x, hx, rfl⟩ := List.mem_map.mp hd
      simp only [Lay]
      unfold PyData.strOk
      rw [Array.all_eq_true_iff_forall_mem]
      exact fun c hc => decide_eq_true (hs x hx c (Array.mem_toList_iff.mpr hc))
    have l2 : Lay 1 (.list []) := Lay.lst (Nat.zero_le _) fun d hd => nomatch hd
    refine ⟨_, _, Dt.dp _ _ d1, Dt.dp _ _ (.lst upd_same .nil), l1.shaped (by decide), l2.shaped (by decide), _, rfl, ?_⟩
    have ez : PyData.eqv (.list (xs.map PyData.str)) (.list []) = xs.isEmpty := by
      rw [PyData.eqv]
      cases xs <;> simp [PyData.eqvAll]
    rw [ez]
    exact q _ (e2.trans (Ex.new nu))⟩
theorem ok_lnum {f : Addr} {fd : FuncData} (F : Fun K "_law_number" "_law_number" s_law_number f fd) (mL : mg "len" = none) (mN : mg "int" = none) : FnOk P w K mg base CX0 1 f fd ["_law_word"] spLNum := by
  refine F.ok scLNum (fun vs H Q E h => ?_) (fun cdv A outer s H vs Q E hr h => ?_)
  · obtain ⟨x, rfl, _⟩ := h
    rfl
  · obtain ⟨x, rfl, hx, hs, q⟩ := h
    refine ⟨_, pss_cons (ps_if (PW.pt (pw_or (pt_cmpR op_eq (pv 0) pe_str (nomark _)) (pw_or (pt_cmpR op_gt (pe_callB (r := rLenStr) call_len_str (by rfl) mL boot_len (pa_cons (pv 0) pa_nil)) pe_int (nomark _))
        (pw_or1 (PW.pt (pw_and (pt_cmpR op_eq (pe_ix (r := rIxS) ix_str (pv 0) pe_int (fun _ _ => rfl)) pe_str (nomark _)) (pw_and1 (pt_cmpR op_ne (pv 0) pe_str (nomark _))))))))) (pss_one (ps_ret pe_non)) pss_nil)
      (pss_cons (ps_if (pt_cmpR (op_neD hr.units) (pe_lc (own := [("_law_sign", 1)]) (g := gName 1) (tt := tTest (tOp rNotInS (tVar 1) (tC (.str figS)))) (te := tVar 1) rfl scLNum.nd (pi_str (pv 0)) (blkOk_by (own := [("_law_sign", 1)]) (N := ["_law_word", "_law_sign"]) (sc := defScope s_law_number) (by decide +kernel))
        (fun _ _ _ _ _ => pg_name (i := 1) scLNum.nd rfl (Or.inl rfl)) (fun _ _ _ _ _ => pts_one (pt_cmpR op_notInS (pv 1) pe_str (by rfl))) (fun _ _ _ _ _ => pv 1)) (pe_lst pa_nil) (nomark _)) (pss_one (ps_ret pe_non)) pss_nil)
      (pss_one (ps_ret (pe_callTy (r := rIntS) call_int_str (by rfl) mN PyProof.Rows.boot_int (pa_cons (pv 0) pa_nil))))), ?_⟩
    have lx := len_tl x
    have w1 : decide (x = noughtS) = decide (tl x = [48]) := by
      refine Bool.eq_iff_iff.mpr ?_
      rw [decide_eq_true_eq, decide_eq_true_eq, ← tl_nought]
      exact ⟨fun h => by rw [h], ext_tl⟩
    refine Evl.q_when (b := decide (x = Str.empty) || (decide (6 < x.length) || (decide ((tl x).head? = some 48) && !decide (tl x = [48])))) (Evl.et_or (Evl.et_test (ev_eqS (Evl.ev_var rfl) (Evl.ev_c (v := .str Str.empty)))) fun ha => Evl.et_or (Evl.et_is (Evl.et_test (Evl.ev_op (ev_lenStr (Evl.ev_var rfl) (by omega)) Evl.ev_c Evl.rv_I0)) (Bool.eq_iff_iff.mpr (by simp; omega))) fun hb => ?_) (fun hc H1 e1 => ?_) fun hc H1 e1 => ?_
    · obtain ⟨c, r, hcr⟩ : ∃ c r, tl x = c :: r := by
        cases e : tl x with
        | nil => exact absurd (ext_tl (y := Str.empty) (by rw [e]; rfl)) (of_decide_eq_false ha)
        | cons c r => exact ⟨c, r, rfl⟩
      have w2 : decide ((⟨#[c]⟩ : Str) = noughtS) = decide ((tl x).head? = some 48) := by
        refine Bool.eq_iff_iff.mpr ?_
        rw [decide_eq_true_eq, decide_eq_true_eq, hcr]
        constructor
        · intro h
          have := congrArg tl h
          rw [tl_nought] at this
          have : c = 48 := (List.cons.inj this).1
          rw [this]
          rfl
        · intro h
          have : c = 48 := Option.some.inj h
          rw [this]
          exact ext_tl tl_nought.symm
      rw [← w1, ← w2]
      exact Evl.et_and (Evl.et_test (ev_eqS (Evl.ev_op (Evl.ev_var rfl) Evl.ev_c (Evl.rv_ixS (by omega) (by show atI (tl x) 0 = _; rw [hcr]; exact atI_nat (j := 0) rfl))) Evl.ev_c)) fun _ => Evl.et_test (ev_neS (Evl.ev_var rfl) Evl.ev_c)
    · have z : numeralB (tl x) = false := by
        unfold numeralB
        rw [Bool.or_eq_true, Bool.or_eq_true, decide_eq_true_eq, decide_eq_true_eq, Bool.and_eq_true] at hc
        rcases hc with h | h | ⟨h1, h2⟩
        · rw [h]
          rfl
        · rw [decide_eq_false (show ¬ (tl x).length ≤ 6 by omega), Bool.and_false, Bool.false_and]
        · rw [h1, Bool.not_true, Bool.or_false]
          rw [Bool.not_eq_true'] at h2
          rw [h2, Bool.and_false, Bool.and_false]
      rw [numV_no z] at q
      exact Evl.s_ret (v := .non) Evl.ev_c fun H2 e2 => q H2 (e1.trans e2)
    · rw [Bool.or_eq_false_iff, Bool.or_eq_false_iff] at hc
      obtain ⟨c1, c2, c3⟩ := hc
      have c1 := of_decide_eq_false c1
      have c2 := of_decide_eq_false c2
      have l1 : 1 ≤ (tl x).length := by
        cases e : tl x with
        | nil => exact absurd (ext_tl (y := Str.empty) (by rw [e]; rfl)) c1
        | cons c r => exact Nat.succ_le_succ (Nat.zero_le _)
      have l2 : (tl x).length ≤ 6 := by omega
      have z : numeralB (tl x) = (tl x).all fun c => decide (c ∈ [48, 49, 50, 51, 52, 53, 54, 55, 56, 57]) := by
        unfold numeralB
        rw [decide_eq_true l1, decide_eq_true l2, Bool.true_and, Bool.true_and]
        have : (decide (tl x = [48]) || !decide ((tl x).head? = some 48)) = true := by
          cases h1 : decide ((tl x).head? = some 48) <;> cases h2 : decide (tl x = [48]) <;> rw [h1, h2] at c3 <;> first | rfl | cases c3
        rw [this, Bool.and_true]
      refine Evl.q_when (b := !((tl x).filter fun c => !decide (c ∈ [48, 49, 50, 51, 52, 53, 54, 55, 56, 57])).isEmpty) ?_ (fun hb H2 e2 => ?_) fun hb H2 e2 => ?_
      · have g := el_lcSF (σ := [some (.str x), none]) (H := H1) (j := 1) (vs := [1]) (t := tTest (tOp rNotInS (tVar 1) (tC (.str figS)))) (te := tVar 1) (tl' := tVar 0) (fun k => !decide ((tl x).getD k 0 ∈ [48, 49, 50, 51, 52, 53, 54, 55, 56, 57])) (fun k => .str ⟨#[(tl x).getD k 0]⟩) (Evl.ev_var rfl) (by omega) (fun _ => rfl) (fun k c H2 e2 hc => by
            rw [List.getD_eq_getElem?_getD, hc]
            refine Evl.et_test (Evl.ev_op (Evl.ev_var rfl) Evl.ev_c fun H3 e3 Q' q' => ⟨c, figS, rfl, rfl, ?_⟩)
            show Q' (.bl (!decide (c ∈ tl figS))) H3
            rw [tl_fig]
            exact q' H3 (Ex.refl H3)) fun k c H2 e2 hc _ => by
            rw [List.getD_eq_getElem?_getD, hc]
            exact Evl.ev_var rfl
        rw [given_filter (tl x) _ _ (fun c => !decide (c ∈ [48, 49, 50, 51, 52, 53, 54, 55, 56, 57])) (fun c => V.str ⟨#[c]⟩) fun i a h => by
          rw [List.getD_eq_getElem?_getD, h]
          exact ⟨rfl, fun _ => rfl⟩] at g
        have e0 : ∀ l : List Nat, l.map (fun c => V.str ⟨#[c]⟩) = (l.map fun c => (⟨#[c]⟩ : Str)).map V.str := fun l => by
          rw [List.map_map]
          rfl
        rw [e0] at g
        have r := et_strsNil (K := K) g (by
          rw [List.length_map]
          have := List.length_filter_le (fun c => !decide (c ∈ [48, 49, 50, 51, 52, 53, 54, 55, 56, 57])) (tl x)
          omega) fun y hy => by
            obtain ⟨c, hc, rfl⟩ := List.mem_map.mp hy
            intro d hd
            have : d = c := List.mem_singleton.mp hd
            rw [this]
            exact hs c (List.mem_filter.mp hc).1
        refine Evl.et_is r ?_
        cases (tl x).filter fun c => !decide (c ∈ [48, 49, 50, 51, 52, 53, 54, 55, 56, 57]) <;> rfl
      · have zz : numeralB (tl x) = false := by
          rw [z]
          rw [Bool.not_eq_true', List.isEmpty_eq_false_iff] at hb
          obtain ⟨c, hc⟩ := List.exists_mem_of_ne_nil _ hb
          obtain ⟨m1, m2⟩ := List.mem_filter.mp hc
          refine Bool.eq_false_iff.mpr fun h => ?_
          rw [List.all_eq_true.mp h c m1] at m2
          cases m2
        rw [numV_no zz] at q
        exact Evl.s_ret (v := .non) Evl.ev_c fun H3 e3 => q H3 ((e1.trans e2).trans e3)
      · have zz : numeralB (tl x) = true := by
          rw [z]
          rw [Bool.not_eq_false', List.isEmpty_iff] at hb
          refine List.all_eq_true.mpr fun c hc => ?_
          cases h : decide (c ∈ [48, 49, 50, 51, 52, 53, 54, 55, 56, 57]) with
          | true => rfl
          | false =>
            have : c ∈ (tl x).filter fun c => !decide (c ∈ [48, 49, 50, 51, 52, 53, 54, 55, 56, 57]) := List.mem_filter.mpr ⟨hc, by rw [h]; rfl⟩
            rw [hb] at this
            cases this
        obtain ⟨i, i0, i1, rfl⟩ := numeral_get zz
        rw [numV_num i0 i1] at q
        exact Evl.s_ret (v := .int i) (ev_intS (Evl.ev_var rfl) (int_numS i0 i1) (by have := numS_len i0 i1; omega)) fun H3 e3 => q H3 ((e1.trans e2).trans e3)
theorem pv_lnum {x : Str} (h : x.length ≤ 10000) (hs : Sm x) : SpV spLNum [.str x] H (numV x) := fun H1 e Q q _ => ⟨x, rfl, h, hs, q⟩
end
end Sw
namespace Sw
open PySem PySem.Spec PyProof.Rows L2 TL
open Evl (Ex Ex.refl Ex.trans Ex.new Ex.mut ex_l ex_t ex_rd fresh_back Ev EvL EvU EvT EvA RV RC RCL SpV SpL)
section
variable {P : Program} {w : World} {K : PySem.W.Frag} {mg : Str → Option Value} {base : Heap}
variable {σ : L2.St} {H : Hp} {ta tb te tl' : TE}
/-! ### _law_read -/
theorem scLRead : FnScope ["_law_text", "_law_found", "_law_word", "_law_parts", "_law_part"] ["_law_text"] (defScope s_law_read) := ⟨rfl, rfl, rfl, by decide +kernel, rfl, by decide +kernel, by decide +kernel⟩
def spLRead : Sp := fun vs H Q _ => ∃ x : Str, vs = [.str x] ∧ x.length ≤ 10000 ∧ Sm x ∧ (∀ st, Line x st → ∀ p H2, H p = none → Ex H H2 → StonesAt H2 p st → Q (.ref p) H2) ∧ (lineB x = false → ∀ H2, Ex H H2 → Q .non H2)
theorem numV_flat (x : Str) : flatV (numV x) = true := by
  unfold numV
  cases numO x <;> rfl
theorem numV_non {x : Str} : eqV (numV x) .non = !numeralB (tl x) := by
  cases h : numeralB (tl x) with
  | true =>
    obtain ⟨i, i0, i1, rfl⟩ := numeral_get h
    rw [numV_num i0 i1]
    rfl
  | false =>
    rw [numV_no h]
    rfl
theorem inV_num : ∀ l : List Str, inV .non (l.map numV) = !l.all fun p => numeralB (tl p)
  | [] => rfl
  | x :: l => by
    have ih := inV_num l
    unfold inV at ih ⊢
    rw [List.map_cons, List.any_cons, ih, List.all_cons, numV_non, Bool.not_and]
/-- a tuple made a while ago, put behind the others -/
theorem stones_app6 {H H' : Hp} {fl t : Addr} {st : List (Int × Int)} {s : Int × Int} {ts : List Addr} (h1 : H fl = some (.lst (ts.map V.ref))) (h2 : ts.length = st.length)
    (h3 : ∀ (i : Nat) (t : Addr) (s : Int × Int), ts[i]? = some t → st[i]? = some s → H t = some (.tup [.int s.1, .int s.2])) (e : Ex H H') (ht : H' t = some (.tup [.int s.1, .int s.2])) :
    StonesAt (upd H' fl (.lst (ts.map V.ref ++ [.ref t]))) fl (st ++ [s]) := by
  have far : ∀ u (x : HO), H' u = some x → (∀ l, x ≠ .lst l) → u ≠ fl := fun u x hu hx e' => by
    rw [e', e _ _ h1] at hu
    exact hx _ (Option.some.inj hu).symm
  refine ⟨ts ++ [t], by rw [upd_same, List.map_append]; rfl, by rw [List.length_append, List.length_append, h2]; rfl, fun i t' s' e1 e2 => ?_⟩
  by_cases hi : i < ts.length
  · rw [List.getElem?_append_left hi] at e1
    rw [List.getElem?_append_left (by omega)] at e2
    have q := e _ _ (h3 i t' s' e1 e2)
    rw [upd_ne (far _ _ q fun l z => by cases z)]
    exact q
  · rw [List.getElem?_append_right (by omega)] at e1
    rw [List.getElem?_append_right (by omega)] at e2
    have z : i - ts.length = 0 := by
      have := (List.getElem?_eq_some_iff.mp e1).1
      simp at this
      omega
    have z2 : i - st.length = 0 := by omega
    rw [z] at e1
    rw [z2] at e2
    obtain rfl : t = t' := Option.some.inj e1
    obtain rfl : s = s' := Option.some.inj e2
    rw [upd_ne (far _ _ ht fun l z => by cases z)]
    exact ht
theorem ok_lread {f fN : Addr} {fd fdN : FuncData} (F : Fun K "_law_read" "_law_read" s_law_read f fd) (mL : mg "len" = none)
    (GN : FnOk P w K mg base CX0 1 fN fdN ["_law_word"] spLNum) (gN : mg "_law_number" = some (.ref fN)) (kN : PySem.W.keepIn K (.ref fN) = true) (bN : Binds K fdN ["_law_word"] []) : FnOk P w K mg base CX0 2 f fd ["_law_text"] spLRead := by
  refine F.ok scLRead (fun vs H Q E h => ?_) (fun cdv A outer s H vs Q E hr h => ?_)
  · obtain ⟨x, rfl, _⟩ := h
    rfl
  · obtain ⟨x, rfl, hx, hs, q, qn⟩ := h
    refine ⟨_, pss_cons (ps_if (pt_cmpR op_eq (pv 0) pe_str (nomark _)) (pss_one (ps_ret (pe_lst pa_nil))) pss_nil)
      (pss_cons (ps_set (i := 1) scLRead.nd rfl (.inl rfl) (pe_lst pa_nil))
      (pss_cons (ps_for PassesOwn.never rfl (pi_list (pe_split (pv 0) pe_str)) (pg_name (i := 2) scLRead.nd rfl (.inl rfl))
        (pss_cons (ps_setLc (i := 3) (own := [("_law_part", 4)]) (g := gName 4) (tt := tYes) (te := tCall spLNum [] E0 (tCons (tVar 4) tNil)) rfl scLRead.nd rfl rfl (sw_true rfl rfl rfl (by decide +kernel)) (pi_list (pe_split (pv 2) pe_str)) (blkOk_by (own := [("_law_part", 4)]) (N := ["_law_text", "_law_found", "_law_word", "_law_parts", "_law_part"]) (sc := defScope s_law_read) (by decide +kernel))
          (fun _ _ _ _ _ => pg_name (i := 4) scLRead.nd rfl (Or.inl rfl)) (fun _ _ _ _ _ => pts_nil) (fun _ _ _ _ _ => pe_call GN hr (by rfl) gN kN bN .nil pass0 (pa_cons (pv 4) pa_nil)))
        (pss_cons (ps_if (PW.pt (pw_or (pt_cmpR op_ne (pe_callB (r := Evl.rLenS K) call_len_seq (by rfl) mL boot_len (pa_cons (pv 3) pa_nil)) pe_int (nomark _)) (pw_or1 (pt_cmpR (r := rIn K false) op_in_seq pe_non (pv 3) (by rfl))))) (pss_one (ps_ret pe_non)) pss_nil)
        (pss_one (ps_expr (pe_bm PySem.F.plainAttrs_list PySem.F.slot_list_append PySem.F.type_list_append mt_append (pv 1) (pa_cons (pe_tup (pa_cons (pe_ix (r := rIxL K) ix_list (pv 3) pe_int (fun _ _ => rfl)) (pa_cons (pe_ix (r := rIxL K) ix_list (pv 3) pe_int (fun _ _ => rfl)) pa_nil))) pa_nil)))))))
      (pss_cons (ps_if (pt_cmpR op_gt (pe_callB (r := Evl.rLenS K) call_len_seq (by rfl) mL boot_len (pa_cons (pv 1) pa_nil)) pe_int (nomark _)) (pss_one (ps_ret pe_non)) pss_nil)
      (pss_one (ps_ret (pv 1)))))), ?_⟩
    obtain ⟨s1, s2⟩ := split_len (x := x) tl_gap gap_small
    refine Evl.q_when (b := decide (x = Str.empty)) (Evl.et_test (ev_eqS (Evl.ev_var rfl) (Evl.ev_c (v := .str Str.empty)))) (fun hb H1 e1 => ?_) fun hb H1 e1 => ?_
    · have z : Line x [] := ⟨⟨Nat.zero_le _, fun s h => nomatch h⟩, of_decide_eq_true hb⟩
      exact Evl.s_retL (xs := []) (Evl.el_lst Evl.ea_nil (Nat.zero_le _)) fun p H2 np e2 hp => q [] z p H2 (fresh_back e1 np) (e1.trans e2) (stones_nil hp)
    · refine Evl.q_asgL (xs := []) (Evl.el_lst Evl.ea_nil (Nat.zero_le _)) fun fl H2 nf e2 hf => ?_
      have nf0 : H fl = none := fresh_back e1 nf
      have e12 := e1.trans e2
      refine Evl.q_forNLn (K := K) (xs := (Txt.split x gapS).map V.str) (el_split (Evl.ev_var rfl) (Evl.ev_c (v := .str gapS)) gap_len0 (by omega)) (fun p i σ H' => ∃ x2 x3 : Option V, σ = [some (.str x), some (.ref fl), x2, x3, none] ∧ H' p = some (.lst ((Txt.split x gapS).map V.str)) ∧ p ≠ fl ∧ H p = none ∧ Ex H H' ∧ StonesAt H' fl (((Txt.split x gapS).map unword).take i) ∧ ∀ w ∈ (Txt.split x gapS).take i, wordB w = true)
        (fun p H3 np e3 hp => ⟨none, none, rfl, hp, (fun e => by rw [e, hf] at np; cases np), fresh_back e12 np, e12.trans e3, stones_nil (e3 _ _ hf), fun w hw => nomatch hw⟩) (fun p i σ H' _ h => by obtain ⟨_, _, _, hp, _⟩ := h; exact SqL.of hp) ?_ ?_
      · rintro p i v σ' H3 hv ⟨x2, x3, rfl, hp, npf, np0, e3, hS, hgood⟩
        rw [List.getElem?_map] at hv
        obtain ⟨y, hy, rfl⟩ := Option.map_eq_some_iff.mp hv
        have my := List.mem_of_getElem? hy
        have yl := s2 y my
        have ys := sm_part tl_gap gap_small hs my
        obtain ⟨t1, t2⟩ := split_len (x := y) tl_dash dash_small
        have il : i < (Txt.split x gapS).length := (List.getElem?_eq_some_iff.mp hy).1
        have c := Evl.el_lcNL (K := K) (σ := [some (.str x), some (.ref fl), some (.str y), x3, none]) (H := H3) (j := 4) (vs := [4]) (t := tYes) (te := tCall spLNum [] E0 (tCons (tVar 4) tNil)) (fun _ => true) (fun k => numV ((Txt.split y dashS).getD k Str.empty)) (el_split (Evl.ev_var (i := 2) rfl) (Evl.ev_c (v := .str dashS)) dash_len (by omega)) (by rw [List.length_map]; omega) (fun _ => rfl) (fun _ _ _ _ _ H1 _ Q q => q H1 (Ex.refl H1)) fun k z H4 e4 hz _ => by
          rw [List.getElem?_map] at hz
          obtain ⟨u, hu, rfl⟩ := Option.map_eq_some_iff.mp hz
          have mz := List.mem_of_getElem? hu
          rw [List.getD_eq_getElem?_getD, hu]
          exact Evl.ev_call (Evl.ea_cons (Evl.ev_var rfl) Evl.ea_nil) (pv_lnum (by have := t2 u mz; omega) (sm_part tl_dash dash_small ys mz))
        rw [given_all, List.length_map, range_map (Txt.split y dashS) _ numV fun i s h => by rw [List.getD_eq_getElem?_getD, h]; rfl] at c
        refine Evl.q_asgL c fun pp H4 npp e4 hpp => ?_
        refine Evl.q_when (b := !decide ((Txt.split y dashS).length = 2) || !(Txt.split y dashS).all fun p => numeralB (tl p)) (Evl.et_or (Evl.et_is (ev_neI (Evl.ev_len (K := K) (Evl.ev_var rfl) (SqL.of hpp)) Evl.ev_c) (by rw [List.length_map]; exact Bool.eq_iff_iff.mpr (by simp; omega))) fun _ => Evl.et_is (Evl.et_test (Evl.ev_op Evl.ev_c (Evl.ev_var rfl) (Evl.rv_isL (SqL.of hpp) rfl (by rw [List.all_map]; exact List.all_eq_true.mpr fun z _ => numV_flat z)))) (inV_num _)) (fun hb2 H5 e5 => ?_) fun hb2 H5 e5 => ?_
        · have z : wordB y = false := by
            unfold wordB
            rw [← Bool.not_and, Bool.not_eq_true'] at hb2
            exact hb2
          refine Evl.s_ret (v := .non) Evl.ev_c fun H6 e6 => qn ?_ H6 (((e3.trans e4).trans e5).trans e6)
          unfold lineB
          rw [hb, Bool.false_or, Bool.and_eq_false_iff]
          refine .inr (Bool.eq_false_iff.mpr fun h => ?_)
          rw [List.all_eq_true.mp h y my] at z
          cases z
        · have z : wordB y = true := by
            unfold wordB
            rw [← Bool.not_and, Bool.not_eq_false'] at hb2
            exact hb2
          obtain ⟨sW, hW⟩ := wordB_iff.mp z
          have us := unword_ok z
          have hsW := hW.1
          rw [hW.2, word_split hsW] at hpp
          have hpp : H4 pp = some (.lst [.int sW.1, .int sW.2]) := by
            rw [hpp]
            show some (HO.lst [numV (numS sW.1), numV (numS sW.2)]) = _
            rw [numV_num hsW.1.1 hsW.1.2, numV_num hsW.2.1 hsW.2.2]
          have hpp5 := e5 _ _ hpp
          obtain ⟨ts, b1, b2, b3⟩ := hS.ex (e4.trans e5)
          refine Evl.s_appU (K := K) b1 (Evl.ev_var rfl) (Evl.eu_tup (vs := [.int sW.1, .int sW.2]) (Evl.ea_cons (Evl.ev_op (Evl.ev_var rfl) Evl.ev_c (Evl.rv_ixL (K := K) (SqL.of hpp5) (atI_nat (j := 0) rfl))) (Evl.ea_cons (Evl.ev_op (Evl.ev_var rfl) Evl.ev_c (Evl.rv_ixL (K := K) (SqL.of hpp5) (atI_nat (j := 1) rfl))) Evl.ea_nil)) (by show 2 ≤ _; decide)) (by rw [List.length_map, b2, List.length_take]; omega) fun t H6 nt e6 ht => ?_
          have e36 := ((e3.trans e4).trans e5).trans e6
          have nfp : p ≠ fl := npf
          refine ⟨_, _, rfl, ?_, npf, np0, Ex.mut e36 nf0, ?_, ?_⟩
          · rw [upd_ne nfp]
            exact ((e4.trans e5).trans e6) _ _ hp
          · have sa := stones_app6 (fl := fl) b1 b2 b3 e6 ht
            have te : ((Txt.split x gapS).map unword).take (i + 1) = ((Txt.split x gapS).map unword).take i ++ [sW] := by
              rw [List.take_add_one, List.getElem?_map, hy]
              show _ ++ [unword y] = _
              rw [word_inj hsW us.1 (hW.2.symm.trans us.2)]
            rw [te]
            exact sa
          · intro w hw
            rw [List.take_add_one, hy] at hw
            rcases List.mem_append.mp hw with h | h
            · exact hgood w h
            · rw [List.mem_singleton.mp h]
              exact z
      · rintro p σ' H3 ⟨x2, x3, rfl, hp, npf, np0, e3, hS, hgood⟩
        rw [List.length_map] at hgood hS
        rw [List.take_length] at hgood
        rw [List.take_of_length_le (by rw [List.length_map]; exact Nat.le_refl _)] at hS
        obtain ⟨ts, b1, b2, b3⟩ := id hS
        rw [List.length_map] at b2
        refine Evl.q_when (b := decide (60 < (Txt.split x gapS).length)) (Evl.et_is (Evl.et_test (Evl.ev_op (Evl.ev_len (K := K) (Evl.ev_var rfl) (SqL.of b1)) Evl.ev_c Evl.rv_I0)) (by rw [List.length_map, b2]; exact Bool.eq_iff_iff.mpr (by simp; omega))) (fun hb2 H4 e4 => ?_) fun hb2 H4 e4 => ?_
        · refine Evl.s_ret (v := .non) Evl.ev_c fun H6 e6 => qn ?_ H6 ((e3.trans e4).trans e6)
          have hb2 := of_decide_eq_true hb2
          unfold lineB
          rw [hb, decide_eq_false (show ¬ (Txt.split x gapS).length ≤ 60 by omega)]
          rfl
        · have hb2 := of_decide_eq_false hb2
          refine Evl.s_ret (v := .ref fl) (Evl.ev_var rfl) fun H5 e5 => q _ (line_get (by omega) hgood) fl H5 nf0 ((e3.trans e4).trans e5) (hS.ex (e4.trans e5))
end
end Sw
namespace Sw
open PySem PySem.Spec PyProof.Rows L2 TL
open Evl (Ex Ex.refl Ex.trans Ex.new Ex.mut ex_l ex_t ex_rd fresh_back Ev EvL EvU EvT EvA RV RC RCL SpV SpL)
/-! ### parts of texts -/
theorem tl_cutS (z : Str) (lo hi : Option Int) : tl (cutS z lo hi) = ((tl z).drop (HT.sIx z.length 0 lo)).take (HT.sIx z.length z.length hi - HT.sIx z.length 0 lo) := rfl
theorem cutS_to {z : Str} {n : Nat} (h : n ≤ z.length) : tl (cutS z none (some (n : Int))) = (tl z).take n := by
  rw [tl_cutS, HT.sIx_none, HT.sIx_nat, Nat.min_eq_left h, Nat.sub_zero, List.drop_zero]
theorem cutS_from {z : Str} {n : Nat} (h : n ≤ z.length) : tl (cutS z (some (n : Int)) none) = (tl z).drop n := by
  rw [tl_cutS, HT.sIx_none, HT.sIx_nat, Nat.min_eq_left h]
  exact List.take_of_length_le (by rw [List.length_drop, ← len_tl]; exact Nat.le_refl _)
theorem sm_cut {z : Str} (h : Sm z) (lo hi : Option Int) : Sm (cutS z lo hi) := fun c hc => by
  rw [tl_cutS] at hc
  exact h c (List.mem_of_mem_drop (List.mem_of_mem_take hc))
theorem sm_add {x y : Str} (h : Sm x) (k : Sm y) : Sm (x ++ y) := fun c hc => by
  rw [tl_append] at hc
  rcases List.mem_append.mp hc with e | e
  · exact h c e
  · exact k c e
theorem add_len (x y : Str) : (x ++ y).length = x.length + y.length := by rw [len_tl, tl_append, List.length_append, ← len_tl, ← len_tl]
theorem joinL_sum {s : Nat} : ∀ {l : List (List Nat)}, l ≠ [] → (joinL [s] l).length + 1 = (l.map fun p => p.length + 1).sum
  | [], h => absurd rfl h
  | [p], _ => by
    show p.length + 1 = p.length + 1 + 0
    omega
  | p :: q :: r, _ => by
    have ih := joinL_sum (s := s) (l := q :: r) (List.cons_ne_nil _ _)
    show (p ++ ([s] ++ joinL [s] (q :: r))).length + 1 = _
    rw [List.length_append, List.length_append, List.map_cons, List.sum_cons, ← ih]
    simp only [List.length_cons, List.length_nil]
    omega
theorem joinL_sub {S : List Nat} {c : Nat} : ∀ {l : List (List Nat)}, c ∈ joinL S l → c ∈ S ∨ ∃ p ∈ l, c ∈ p
  | [], h => nomatch h
  | [p], h => .inr ⟨p, List.mem_cons_self, h⟩
  | p :: q :: r, h => by
    rcases List.mem_append.mp (show c ∈ p ++ (S ++ joinL S (q :: r)) from h) with h | h
    · exact .inr ⟨p, List.mem_cons_self, h⟩
    · rcases List.mem_append.mp h with h | h
      · exact .inl h
      · rcases joinL_sub h with h | ⟨x, hx, hc⟩
        · exact .inl h
        · exact .inr ⟨x, List.mem_cons.mpr (.inr hx), hc⟩
/-- how long a joined text is -/
theorem join_size {ys : List Str} (h : ys ≠ []) : (ys.map (·.length)).sum + ys.length = (Txt.join gapS ys).length + 1 := by
  have a := joinL_sum (s := 32) (l := ys.map tl) (fun z => h (List.map_eq_nil_iff.mp z))
  rw [len_tl, join_eq, tl_join, tl_gap, a, List.map_map]
  have e : ∀ l : List Str, (l.map (·.length)).sum + l.length = (l.map ((fun p : List Nat => p.length + 1) ∘ tl)).sum := fun l => by
    induction l with
    | nil => rfl
    | cons x r ih =>
      rw [List.map_cons, List.map_cons, List.sum_cons, List.sum_cons, ← ih, List.length_cons]
      show x.length + _ + _ = (tl x).length + 1 + _
      rw [← len_tl]
      omega
  exact e ys
theorem words_size (x : Str) : ((Txt.split x gapS).map (·.length)).sum + (Txt.split x gapS).length = x.length + 1 := by
  rw [join_size (split_ne tl_gap gap_small), split_back tl_gap gap_small]
/-- a word put between the words of a text -/
theorem more_size {x o : Str} {n : Nat} : (((Txt.split x gapS).take n ++ [o] ++ (Txt.split x gapS).drop n).map (·.length)).sum + ((Txt.split x gapS).take n ++ [o] ++ (Txt.split x gapS).drop n).length = x.length + o.length + 2 := by
  have a := words_size x
  have c : ((Txt.split x gapS).map (·.length)).sum = (((Txt.split x gapS).take n).map (·.length)).sum + (((Txt.split x gapS).drop n).map (·.length)).sum := by
    rw [← List.sum_append, ← List.map_append, List.take_append_drop]
  have l : ((Txt.split x gapS).take n ++ [o] ++ (Txt.split x gapS).drop n).length = (Txt.split x gapS).length + 1 := by
    rw [List.length_append, List.length_append, List.length_take, List.length_drop]
    show _ + 1 + _ = _
    omega
  rw [l, List.map_append, List.map_append, List.sum_append, List.sum_append]
  show _ + (o.length + 0) + _ + _ = _
  omega
theorem more_word {x o : Str} {n : Nat} : (Txt.join gapS ((Txt.split x gapS).take n ++ [o] ++ (Txt.split x gapS).drop n)).length = x.length + o.length + 1 := by
  have a := join_size (ys := (Txt.split x gapS).take n ++ [o] ++ (Txt.split x gapS).drop n) (fun z => by simp at z)
  rw [more_size] at a
  omega
def odd1 : List Str := ["", "-", "1-", "-1", "1", "1-2-3", "01-2", "1-02", "00-0", "1000000-1", "1-1000000", "999999-0", "a-1"]
def odd2 : List Str := ["1--2", "+1-2", "1 -2", "1- 2", "1_0-2", "0-0", "|", "3-4|", "1.0-2", "--", "1-2 ", " 1-2", "x"]
def oddT : List Str := odd1 ++ odd2
def bentS : Str := " 0123456789-|+a"
theorem bent_len : bentS.length = 15 := by decide +kernel
theorem bent_sm : Sm bentS := fun c hc => by
  have : ∀ c ∈ tl bentS, c < 1114112 := by decide +kernel
  exact this c hc
theorem odd_len : oddT.length = 26 := by decide +kernel
theorem odd_ok : ∀ x ∈ oddT, x.length ≤ 9 ∧ Sm x := by
  have h : oddT.all (fun x => decide (x.length ≤ 9) && x.cps.toList.all fun c => decide (c < 1114112)) = true := by decide +kernel
  intro x hx
  have := List.all_eq_true.mp h x hx
  rw [Bool.and_eq_true, decide_eq_true_eq] at this
  exact ⟨this.1, fun c hc => of_decide_eq_true (List.all_eq_true.mp this.2 c hc)⟩
section
variable {P : Program} {w : World} {K : PySem.W.Frag} {mg : Str → Option Value} {base : Heap}
variable {σ : L2.St} {H : Hp} {ta tb te tl' : TE}
theorem ev_mod {i j : Int} (h : Ev ta σ H (.int i)) (k : Ev tb σ H (.int j)) (hj : 0 < j) : Ev (tOp (rI (fun _ j => 0 < j) fun i j => .int (i % j)) ta tb) σ H (.int (i % j)) := Evl.ev_op h k (Evl.rv_I (C := fun _ j => 0 < j) (g := fun i j => .int (i % j)) hj)
theorem ev_div {i j : Int} (h : Ev ta σ H (.int i)) (k : Ev tb σ H (.int j)) (hj : 0 < j ∧ j < 1073741824) : Ev (tOp (rI CDiv fun i j => .int (i / j)) ta tb) σ H (.int (i / j)) := Evl.ev_op h k (Evl.rv_I (C := CDiv) (g := fun i j => .int (i / j)) hj)
theorem ev_addI {i j : Int} (h : Ev ta σ H (.int i)) (k : Ev tb σ H (.int j)) : Ev (tOp (rI0 fun i j => .int (i + j)) ta tb) σ H (.int (i + j)) := Evl.ev_op h k (Evl.rv_I0 (g := fun i j => .int (i + j)))
theorem ev_slS {x : Str} {t1 t2 : TO} {lo hi : Option Int} (h : Ev te σ H (.str x)) (h1 : Evl.EvO t1 σ H lo) (h2 : Evl.EvO t2 σ H hi) (hz : x.length ≤ 100000) : Ev (tSl rSlS te t1 t2) σ H (.str (cutS x lo hi)) := fun H1 e Q q =>
  h H1 e _ fun H2 e2 => h1 H2 (e.trans e2) _ fun H3 e3 => h2 H3 ((e.trans e2).trans e3) _ fun H4 e4 => ⟨x, rfl, Evl.sz_of hz, q H4 ((e2.trans e3).trans e4)⟩
theorem el_catLL {xs ys : List V} (h : EvL ta σ H xs) (k : EvL tb σ H ys) (hz : xs.length + ys.length ≤ 100000) : EvL (tOp rCat ta tb) σ H (xs ++ ys) := fun H1 e Q q =>
  h H1 e _ fun a H2 na e2 ha => k H2 (e.trans e2) _ fun b H3 _ e3 hb => ⟨a, b, _, _, rfl, rfl, e3 _ _ ha, hb, Evl.sz_of hz, fun p np => q p _ (fresh_back (e2.trans e3) np) ((e2.trans e3).trans (Ex.new np)) upd_same⟩
theorem el_catV {a : Addr} {xs ys : List V} (h : Ev ta σ H (.ref a)) (ha : H a = some (.lst xs)) (k : EvL tb σ H ys) (hz : xs.length + ys.length ≤ 100000) : EvL (tOp rCat ta tb) σ H (xs ++ ys) := fun H1 e Q q =>
  h H1 e _ fun H2 e2 => k H2 (e.trans e2) _ fun b H3 _ e3 hb => ⟨a, b, _, _, rfl, rfl, ((e.trans e2).trans e3) _ _ ha, hb, Evl.sz_of hz, fun p np => q p _ (fresh_back (e2.trans e3) np) ((e2.trans e3).trans (Ex.new np)) upd_same⟩
theorem cut_to {xs : List Str} {n : Nat} : cutV (xs.map V.str) none (some (n : Int)) = (xs.take n).map V.str := by
  unfold cutV
  rw [HT.sIx_none, HT.sIx_nat, List.drop_zero, Nat.sub_zero, List.length_map, List.map_take]
  by_cases c : n ≤ xs.length
  · rw [Nat.min_eq_left c]
  · rw [Nat.min_eq_right (by omega), List.take_of_length_le (by rw [List.length_map]; exact Nat.le_refl _), List.take_of_length_le (by rw [List.length_map]; omega)]
theorem cut_from {xs : List Str} {n : Nat} : cutV (xs.map V.str) (some (n : Int)) none = (xs.drop n).map V.str := by
  unfold cutV
  rw [HT.sIx_none, HT.sIx_nat, List.length_map, List.map_drop]
  by_cases c : n ≤ xs.length
  · rw [Nat.min_eq_left c]
    exact List.take_of_length_le (by rw [List.length_drop, List.length_map]; exact Nat.le_refl _)
  · rw [Nat.min_eq_right (by omega), List.drop_of_length_le (by rw [List.length_map]; exact Nat.le_refl _), List.drop_of_length_le (by rw [List.length_map]; omega), List.take_nil]
/-! ### _law_bent -/
theorem scBent : FnScope ["_law_text", "_law_cell_here", "_law_odd", "_law_at", "_law_more", "_law_words"] ["_law_text", "_law_cell_here"] (defScope s_law_bent) := ⟨rfl, rfl, rfl, by decide +kernel, rfl, by decide +kernel, by decide +kernel⟩
def spBent : Sp := fun vs H Q _ => ∃ (x : Str) (c : Int), vs = [.str x, .int c] ∧ 0 ≤ c ∧ x.length ≤ 5000 ∧ Sm x ∧ ∀ y H', y.length ≤ x.length + 20 → Sm y → Ex H H' → Q (.str y) H'
theorem ok_bent {f : Addr} {fd : FuncData} (F : Fun K "_law_bent" "_law_bent" s_law_bent f fd) (mL : mg "len" = none) : FnOk P w K mg base CX0 1 f fd ["_law_text", "_law_cell_here"] spBent := by
  refine F.ok scBent (fun vs H Q E h => ?_) (fun cdv A outer s H vs Q E hr h => ?_)
  · obtain ⟨x, c, rfl, _⟩ := h
    rfl
  · obtain ⟨x, c, rfl, hc, hx, hs, q⟩ := h
    refine ⟨_, pss_cons (ps_set (i := 2) scBent.nd rfl (.inl rfl) (pe_lst (pa_cons pe_str (pa_cons pe_str (pa_cons pe_str (pa_cons pe_str (pa_cons pe_str (pa_cons pe_str (pa_cons pe_str (pa_cons pe_str (pa_cons pe_str (pa_cons pe_str (pa_cons pe_str (pa_cons pe_str (pa_cons pe_str pa_nil)))))))))))))))
      (pss_cons (ps_set (i := 2) scBent.nd rfl (.inl rfl) (pe_op op_cat (pv 2) (pe_lst (pa_cons pe_str (pa_cons pe_str (pa_cons pe_str (pa_cons pe_str (pa_cons pe_str (pa_cons pe_str (pa_cons pe_str (pa_cons pe_str (pa_cons pe_str (pa_cons pe_str (pa_cons pe_str (pa_cons pe_str (pa_cons pe_str pa_nil))))))))))))))))
      (pss_cons (ps_set (i := 3) scBent.nd rfl (.inl rfl) (pe_op op_mod (pe_op op_fdiv (pv 1) pe_int) (pe_op op_add (pe_callB (r := rLenStr) call_len_str (by rfl) mL boot_len (pa_cons (pv 0) pa_nil)) pe_int)))
      (pss_cons (ps_set (i := 4) scBent.nd rfl (.inl rfl) (pe_op op_fdiv (pv 1) pe_int))
      (pss_cons (ps_if (pt_cmpR op_lt (pe_op op_mod (pv 1) pe_int) pe_int (nomark _)) (pss_one (ps_ret (pe_op (r := rAddS) op_add_str (pe_op (r := rAddS) op_add_str (pe_slice sl_str (pv 0) po_none (po_some (pv 3))) (pe_ix (r := rIxS) ix_str pe_str (pe_op op_mod (pv 4) pe_int) (fun _ _ => rfl))) (pe_slice sl_str (pv 0) (po_some (pv 3)) po_none)))) pss_nil)
      (pss_cons (ps_if (pt_cmpR op_lt (pe_op op_mod (pv 1) pe_int) pe_int (nomark _)) (pss_one (ps_ret (pe_op (r := rAddS) op_add_str (pe_slice sl_str (pv 0) po_none (po_some (pv 3))) (pe_slice sl_str (pv 0) (po_some (pe_op op_add (pv 3) pe_int)) po_none)))) pss_nil)
      (pss_cons (ps_if (pt_cmpR op_lt (pe_op op_mod (pv 1) pe_int) pe_int (nomark _)) (pss_one (ps_ret (pe_op (r := rAddS) op_add_str (pe_op (r := rAddS) op_add_str (pe_slice sl_str (pv 0) po_none (po_some (pv 3))) (pe_ix (r := rIxS) ix_str pe_str (pe_op op_mod (pv 4) pe_int) (fun _ _ => rfl))) (pe_slice sl_str (pv 0) (po_some (pe_op op_add (pv 3) pe_int)) po_none)))) pss_nil)
      (pss_cons (ps_set (i := 5) scBent.nd rfl (.inl rfl) (pe_split (pv 0) pe_str))
      (pss_cons (ps_set (i := 3) scBent.nd rfl (.inl rfl) (pe_op op_mod (pe_op op_fdiv (pv 4) pe_int) (pe_op op_add (pe_callB (r := Evl.rLenS K) call_len_seq (by rfl) mL boot_len (pa_cons (pv 5) pa_nil)) pe_int)))
      (pss_one (ps_ret (pe_join pe_str (pe_op op_cat (pe_op op_cat (pe_slice sl_list (pv 5) po_none (po_some (pv 3))) (pe_lst (pa_cons (pe_ix (r := rIxL K) ix_list (pv 2) (pe_op op_mod (pv 4) pe_int) (fun _ _ => rfl)) pa_nil))) (pe_slice sl_list (pv 5) (po_some (pv 3)) po_none))))))))))))), ?_⟩
    refine Evl.q_asgL (xs := odd1.map V.str) (Evl.el_lst (Evl.ea_cons Evl.ev_c (Evl.ea_cons Evl.ev_c (Evl.ea_cons Evl.ev_c (Evl.ea_cons Evl.ev_c (Evl.ea_cons Evl.ev_c (Evl.ea_cons Evl.ev_c (Evl.ea_cons Evl.ev_c (Evl.ea_cons Evl.ev_c (Evl.ea_cons Evl.ev_c (Evl.ea_cons Evl.ev_c (Evl.ea_cons Evl.ev_c (Evl.ea_cons Evl.ev_c (Evl.ea_cons Evl.ev_c Evl.ea_nil))))))))))))) (by show 13 ≤ _; decide)) fun p1 H1 n1 e1 h1 => ?_
    refine Evl.q_asgL (xs := odd1.map V.str ++ odd2.map V.str) (el_catV (Evl.ev_var rfl) h1 (Evl.el_lst (Evl.ea_cons Evl.ev_c (Evl.ea_cons Evl.ev_c (Evl.ea_cons Evl.ev_c (Evl.ea_cons Evl.ev_c (Evl.ea_cons Evl.ev_c (Evl.ea_cons Evl.ev_c (Evl.ea_cons Evl.ev_c (Evl.ea_cons Evl.ev_c (Evl.ea_cons Evl.ev_c (Evl.ea_cons Evl.ev_c (Evl.ea_cons Evl.ev_c (Evl.ea_cons Evl.ev_c (Evl.ea_cons Evl.ev_c Evl.ea_nil))))))))))))) (by show 13 ≤ _; decide)) (by show 13 + 13 ≤ _; decide)) fun p2 H2 n2 e2 h2 => ?_
    rw [← List.map_append] at h2
    have h2 : H2 p2 = some (.lst (oddT.map V.str)) := h2
    have e12 := e1.trans e2
    obtain ⟨n, hn⟩ : ∃ n : Nat, c / 16 % ((x.length : Int) + 1) = (n : Int) := ⟨_, (Int.toNat_of_nonneg (Int.emod_nonneg _ (by omega))).symm⟩
    have nl : n ≤ x.length := by
      have := Int.emod_lt_of_pos (c / 16) (show (0 : Int) < (x.length : Int) + 1 by omega)
      omega
    refine Evl.q_asg (v := .int (n : Int)) (Evl.ev_is (ev_mod (ev_div (Evl.ev_var rfl) Evl.ev_c (by decide)) (ev_addI (ev_lenStr (Evl.ev_var rfl) (by omega)) Evl.ev_c) (by omega)) (congrArg V.int hn)) fun H3 e3 => ?_
    refine Evl.q_asg (v := .int (c / 16000)) (ev_div (Evl.ev_var rfl) Evl.ev_c (by decide)) fun H4 e4 => ?_
    have e14 := (e12.trans e3).trans e4
    have m0 := Int.emod_nonneg c (show (16 : Int) ≠ 0 by decide)
    obtain ⟨k, hk⟩ : ∃ k : Nat, c / 16000 % 15 = (k : Int) := ⟨_, (Int.toNat_of_nonneg (Int.emod_nonneg _ (by decide))).symm⟩
    have kl : k < (tl bentS).length := by
      have := Int.emod_lt_of_pos (c / 16000) (show (0 : Int) < 15 by decide)
      rw [← len_tl, bent_len]
      omega
    have sign : ∀ {H5 : Hp} {v5 : Option V}, Ev (tOp rIxS (tC (.str bentS)) (tOp (rI (fun _ j => 0 < j) fun i j => .int (i % j)) (tVar 4) (tC (.int 15)))) [some (.str x), some (.int c), some (.ref p2), some (.int (n : Int)), some (.int (c / 16000)), v5] H5 (.str ⟨#[(tl bentS)[k]]⟩) := fun {H5 v5} =>
      Evl.ev_op Evl.ev_c (Evl.ev_is (ev_mod (Evl.ev_var rfl) Evl.ev_c (by decide)) (congrArg V.int hk)) (Evl.rv_ixS (by rw [bent_len]; decide) (atI_nat (List.getElem?_eq_getElem kl)))
    have sg : Sm (⟨#[(tl bentS)[k]]⟩ : Str) := fun d hd => by
      have : d = (tl bentS)[k] := List.mem_singleton.mp hd
      rw [this]
      exact bent_sm _ (List.getElem_mem kl)
    have s1 : ∀ s : Nat, (⟨#[s]⟩ : Str).length = 1 := fun _ => rfl
    have cl : ∀ lo hi, (cutS x lo hi).length ≤ x.length := fun lo hi => by
      rw [len_tl, tl_cutS, List.length_take, List.length_drop, ← len_tl]
      omega
    have cz : (cutS x none (some (n : Int))).length = n := by
      rw [len_tl, cutS_to nl, List.length_take, ← len_tl]
      omega
    have cy : (cutS x (some (n : Int)) none).length = x.length - n := by
      rw [len_tl, cutS_from nl, List.length_drop, ← len_tl]
    have c1 : (cutS x (some ((n : Int) + 1)) none).length ≤ x.length - n := by
      have e : ((n : Int) + 1) = ((n + 1 : Nat) : Int) := by omega
      rw [e, len_tl, tl_cutS, HT.sIx_nat, HT.sIx_none, List.length_take, List.length_drop, ← len_tl]
      omega
    have tst : ∀ {H5 : Hp} {v5 : Option V} (b : Int), EvT (tTest (tOp (rI0 fun i j => .bl (decide (i < j))) (tOp (rI (fun _ j => 0 < j) fun i j => .int (i % j)) (tVar 1) (tC (.int 16))) (tC (.int b)))) [some (.str x), some (.int c), some (.ref p2), some (.int (n : Int)), some (.int (c / 16000)), v5] H5 (decide (c % 16 < b)) := fun {H5 v5} b =>
      Evl.et_test (Evl.ev_op (ev_mod (Evl.ev_var rfl) Evl.ev_c (by decide)) Evl.ev_c (Evl.rv_I0 (g := fun i j => .bl (decide (i < j)))))
    refine Evl.q_when (tst 5) (fun _ H5 e5 => ?_) fun _ H5 e5 => ?_
    · refine Evl.s_ret (v := .str (cutS x none (some (n : Int)) ++ ⟨#[(tl bentS)[k]]⟩ ++ cutS x (some (n : Int)) none)) (Evl.ev_op (Evl.ev_op (ev_slS (Evl.ev_var rfl) Evl.eo_none (Evl.eo_some (Evl.ev_var rfl)) (by omega)) sign (rv_addS (by rw [s1]; omega))) (ev_slS (Evl.ev_var rfl) (Evl.eo_some (Evl.ev_var rfl)) Evl.eo_none (by omega)) (rv_addS (by rw [add_len, s1]; omega))) fun H6 e6 => q _ H6 (by rw [add_len, add_len, s1]; omega) (sm_add (sm_add (sm_cut hs _ _) sg) (sm_cut hs _ _)) ((e14.trans e5).trans e6)
    refine Evl.q_when (tst 9) (fun _ H6 e6 => ?_) fun _ H6 e6 => ?_
    · refine Evl.s_ret (v := .str (cutS x none (some (n : Int)) ++ cutS x (some ((n : Int) + 1)) none)) (Evl.ev_op (ev_slS (Evl.ev_var rfl) Evl.eo_none (Evl.eo_some (Evl.ev_var rfl)) (by omega)) (ev_slS (Evl.ev_var rfl) (Evl.eo_some (ev_addI (Evl.ev_var rfl) Evl.ev_c)) Evl.eo_none (by omega)) (rv_addS (by omega))) fun H7 e7 => q _ H7 (by rw [add_len]; omega) (sm_add (sm_cut hs _ _) (sm_cut hs _ _)) (((e14.trans e5).trans e6).trans e7)
    refine Evl.q_when (tst 12) (fun _ H7 e7 => ?_) fun _ H7 e7 => ?_
    · refine Evl.s_ret (v := .str (cutS x none (some (n : Int)) ++ ⟨#[(tl bentS)[k]]⟩ ++ cutS x (some ((n : Int) + 1)) none)) (Evl.ev_op (Evl.ev_op (ev_slS (Evl.ev_var rfl) Evl.eo_none (Evl.eo_some (Evl.ev_var rfl)) (by omega)) sign (rv_addS (by rw [s1]; omega))) (ev_slS (Evl.ev_var rfl) (Evl.eo_some (ev_addI (Evl.ev_var rfl) Evl.ev_c)) Evl.eo_none (by omega)) (rv_addS (by rw [add_len, s1]; omega))) fun H8 e8 => q _ H8 (by rw [add_len, add_len, s1]; omega) (sm_add (sm_add (sm_cut hs _ _) sg) (sm_cut hs _ _)) ((((e14.trans e5).trans e6).trans e7).trans e8)
    have e17 := ((e14.trans e5).trans e6).trans e7
    refine Evl.q_asgL (el_split (Evl.ev_var rfl) (Evl.ev_c (v := .str gapS)) (by decide +kernel) (by omega)) fun p8 H8 n8 e8 h8 => ?_
    have h28 := (((((e3.trans e4).trans e5).trans e6).trans e7).trans e8) _ _ h2
    obtain ⟨w1, w2⟩ := split_len (x := x) tl_gap gap_small
    obtain ⟨m, hm⟩ : ∃ m : Nat, c / 16000 / 40 % (((Txt.split x gapS).length : Int) + 1) = (m : Int) := ⟨_, (Int.toNat_of_nonneg (Int.emod_nonneg _ (by omega))).symm⟩
    refine Evl.q_asg (v := .int (m : Int)) (Evl.ev_is (ev_mod (ev_div (Evl.ev_var rfl) Evl.ev_c (by decide)) (ev_addI (Evl.ev_is (Evl.ev_len (K := K) (Evl.ev_var rfl) (SqL.of h8)) (by rw [List.length_map])) Evl.ev_c) (by omega)) (congrArg V.int hm)) fun H9 e9 => ?_
    have h89 := e9 _ _ h8
    have h29 := e9 _ _ h28
    obtain ⟨j, hj⟩ : ∃ j : Nat, c / 16000 % 26 = (j : Int) := ⟨_, (Int.toNat_of_nonneg (Int.emod_nonneg _ (by decide))).symm⟩
    have jl : j < oddT.length := by
      have := Int.emod_lt_of_pos (c / 16000) (show (0 : Int) < 26 by decide)
      rw [odd_len]
      omega
    obtain ⟨o1, o2⟩ := odd_ok _ (List.getElem_mem jl)
    have yl := more_word (x := x) (o := oddT[j]) (n := m)
    refine Evl.s_ret (v := .str (Txt.join gapS ((Txt.split x gapS).take m ++ [oddT[j]] ++ (Txt.split x gapS).drop m))) ?_ fun H10 e10 => q _ H10 (by omega) ?_ (((e17.trans e8).trans e9).trans e10)
    · have ms := more_size (x := x) (o := oddT[j]) (n := m)
      refine ev_joinN (K := K) (z := gapS) (ys := (Txt.split x gapS).take m ++ [oddT[j]] ++ (Txt.split x gapS).drop m) Evl.ev_c ?_ ?_
      · rw [List.map_append, List.map_append, ← cut_to (n := m), ← cut_from (n := m)]
        have lc : ∀ lo hi, (cutV ((Txt.split x gapS).map V.str) lo hi).length ≤ x.length + 1 := fun lo hi => by
          have := cutV_length ((Txt.split x gapS).map V.str) lo hi
          rw [List.length_map] at this
          omega
        have l1 := lc none (some (m : Int))
        have l2 := lc (some (m : Int)) none
        refine el_catLL (el_catLL (Evl.el_sl (K := K) (Evl.ev_var rfl) Evl.eo_none (Evl.eo_some (Evl.ev_var rfl)) (SqL.of h89)) (Evl.el_lst (vs := [.str oddT[j]]) (Evl.ea_cons (Evl.ev_op (Evl.ev_var rfl) (Evl.ev_is (ev_mod (Evl.ev_var rfl) Evl.ev_c (by decide)) (congrArg V.int hj)) (Evl.rv_ixL (K := K) (SqL.of h29) (atI_nat (by rw [List.getElem?_map, List.getElem?_eq_getElem jl]; rfl)))) Evl.ea_nil) (by show 1 ≤ _; decide)) (by show _ + 1 ≤ _; omega)) (Evl.el_sl (K := K) (Evl.ev_var rfl) (Evl.eo_some (Evl.ev_var rfl)) Evl.eo_none (SqL.of h89)) ?_
        rw [List.length_append]
        show _ + 1 + _ ≤ _
        omega
      · have g1 : gapS.length = 1 := by rw [len_tl, tl_gap]; rfl
        rw [g1, Nat.mul_one]
        omega
    · intro d hd
      rw [join_eq, tl_join, tl_gap] at hd
      rcases joinL_sub hd with hd | ⟨p, hp, hd⟩
      · rw [List.mem_singleton.mp hd]
        decide
      · obtain ⟨y, hy, rfl⟩ := List.mem_map.mp hp
        rcases List.mem_append.mp hy with hy | hy
        · rcases List.mem_append.mp hy with hy | hy
          · exact sm_part tl_gap gap_small hs (List.mem_of_mem_take hy) d hd
          · rw [List.mem_singleton.mp hy] at hd
            exact o2 d hd
        · exact sm_part tl_gap gap_small hs (List.mem_of_mem_drop hy) d hd
end
end Sw
namespace Sw
open PySem PySem.Spec PyProof.Rows L2 TL
open Evl (Ex Ex.refl Ex.trans Ex.new Ex.mut ex_l ex_t ex_rd fresh_back Ev EvL EvU EvT EvA RV RC RCL SpV SpL)
theorem sm_num {i : Int} (h : 0 ≤ i) : Sm (numS i) := fun c hc => by
  rw [tl_numS h] at hc
  have := numL_digits _ c hc
  omega
theorem sm_word {s : Int × Int} (g : GoodS s) : Sm (wordS s) := fun c hc => by
  rw [tl_word, List.mem_append, List.mem_append] at hc
  rcases hc with (k | k) | k
  · exact sm_num g.1.1 c k
  · rw [List.mem_singleton.mp k]
    decide
  · exact sm_num g.2.1 c k
theorem sm_line {st : List (Int × Int)} (g : ∀ s ∈ st, GoodS s) : Sm (lineS st) := fun c hc => by
  unfold lineS at hc
  rw [join_eq, tl_join, tl_gap] at hc
  rcases joinL_sub hc with h | ⟨p, hp, hc⟩
  · rw [List.mem_singleton.mp h]
    decide
  · obtain ⟨x, hx, rfl⟩ := List.mem_map.mp hp
    obtain ⟨s, hs, rfl⟩ := List.mem_map.mp hx
    exact sm_word (g s hs) c hc
theorem good_sub {st su : List (Int × Int)} (h : Good st) (hl : su.length ≤ 60) (hs : ∀ s ∈ su, s ∈ st) : Good su := ⟨hl, fun s m => h.2 s (hs s m)⟩
def oneS : Str := "1-2"
theorem one_word : wordS (1, 2) = oneS := by decide +kernel
def manyL : List (Int × Int) := List.replicate 60 (1, 2)
theorem many_good : Good manyL := ⟨by decide, fun s hs => by
  rw [List.eq_of_mem_replicate hs]
  exact ⟨by decide, by decide⟩⟩
def moreS : Str := " 1-2"
theorem many_more : lineS manyL ++ moreS = lineS (List.replicate 61 (1, 2)) := by decide +kernel
theorem more_good : ∀ s ∈ List.replicate 61 ((1, 2) : Int × Int), GoodS s := fun s hs => by
  rw [List.eq_of_mem_replicate hs]
  exact ⟨by decide, by decide⟩
theorem more_no : lineB (lineS manyL ++ moreS) = false := by
  rw [many_more]
  unfold lineB
  rw [decide_eq_false (line_ne (by decide)), line_split (by decide) more_good, List.length_map, List.length_replicate]
  rfl
section
variable {P : Program} {w : World} {K : PySem.W.Frag} {mg : Str → Option Value} {base : Heap}
variable {σ : L2.St} {H : Hp} {ta tb te tl' : TE} {st : List (Int × Int)}
theorem rc_isA {x c : V} {t u : Value} {b : Bool} (k : ClsV c u) (ty : ∀ H1, Ex H H1 → Kind K H1 x t) (e : PySem.W.kitOne K t u = some b) : RC (rIsA K) [x, c] H (.bl b) := fun H1 e1 Q q => ⟨x, c, t, u, b, rfl, k, ty H1 e1, e, q H1 (Ex.refl H1)⟩
/-! ### _law_told -/
theorem scTold : FnScope ["_law_text", "_law_found", "e"] ["_law_text"] (defScope s_law_told) := ⟨rfl, rfl, rfl, by decide +kernel, rfl, by decide +kernel, by decide +kernel⟩
def noneS : Str := "none"
def spTold : Sp := fun vs H Q _ => ∃ x : Str, vs = [.str x] ∧ x.length ≤ 10000 ∧ (∀ st, Line x st → ∀ p H2, H p = none → Ex H H2 → StonesAt H2 p st → Q (.ref p) H2) ∧ (lineB x = false → ∀ H2, Ex H H2 → Q (.str noneS) H2)
theorem ok_told {f fR C D1 D2 D3 S : Addr} {fd fdR : FuncData} (F : Fun K "_law_told" "_law_told" s_law_told f fd) (mI : mg "isinstance" = none)
    (GR : FnOk P w K mg base (L2.CX P w) 3 fR fdR ["text"] (spReadX C)) (gR : mg "read" = some (.ref fR)) (kR : PySem.W.keepIn K (.ref fR) = true) (bR : Binds K fdR ["text"] [])
    (ES : ErrC K S) (gS : mg "StoneError" = some (.ref S)) (EC : ErrC K C) (gC : mg "NoText" = some (.ref C)) (E1 : ErrC K D1) (g1 : mg "NoLaying" = some (.ref D1)) (E2 : ErrC K D2) (g2 : mg "NoStone" = some (.ref D2)) (E3 : ErrC K D3) (g3 : mg "NoStones" = some (.ref D3))
    (sS : PySem.W.subIn K (.ref C) (.ref S) = some true) (sC : PySem.W.subIn K (.ref C) (.ref C) = some true) (s1 : PySem.W.subIn K (.ref C) (.ref D1) = some false) (s2 : PySem.W.subIn K (.ref C) (.ref D2) = some false) (s3 : PySem.W.subIn K (.ref C) (.ref D3) = some false)
    (t1 : PySem.W.subIn K (.ref D1) (.ref D1) = some true) (t2 : PySem.W.subIn K (.ref D2) (.ref D2) = some true) (t3 : PySem.W.subIn K (.ref D3) (.ref D3) = some true) : FnOk P w K mg base CX0 4 f fd ["_law_text"] spTold := by
  refine F.ok scTold (fun vs H Q E h => ?_) (fun cdv A outer s H vs Q E hr h => ?_)
  · obtain ⟨x, rfl, _⟩ := h
    rfl
  · obtain ⟨x, rfl, hx, q, qn⟩ := h
    refine ⟨_, pss_cons (ps_set (i := 1) scTold.nd rfl (.inl rfl) pe_non)
      (pss_cons (ps_try_keep (c := .ref S) (i := 2) (j := 1) (tb := fun W => tRet (tCallS (spReadX C) (L2.WE W) (tCons (tVar 0) tNil))) rfl rfl rfl scTold.nd rfl rfl (by decide) rfl rfl (by decide) (by decide) ⟨rfl, by decide, Or.inl gS⟩
        (fun W pn xe tk _ => pss_one (ps_ret (pe_callS GR hr (by rfl) gR kR bR (fun σ => passAt tk σ) (by exact (pa_cons (pv 0) pa_nil))))))
      (pss_cons (ps_if (PW.pt (pw_or (pt_not (pt_val (pe_callB call_isA (by rfl) mI (by decide +kernel) (pa_cons (pv 1) (pa_cons (pe_glob (v := .ref C) (by rfl) gC rfl) pa_nil)))))
          (pw_or1 (pt_val (pe_callB call_isAT (by rfl) mI (by decide +kernel) (pa_cons (pv 1) (pa_cons (pe_tup (pa_cons (pe_glob (v := .ref D1) (by rfl) g1 rfl) (pa_cons (pe_glob (v := .ref D2) (by rfl) g2 rfl) (pa_cons (pe_glob (v := .ref D3) (by rfl) g3 rfl) pa_nil)))) pa_nil))))))) (pss_one ps_never) pss_nil)
      (pss_one (ps_ret pe_str)))), ?_⟩
    refine ⟨_, rfl, x, rfl, hx, fun st hl p H2 np e2 hp => q st hl p H2 np e2 hp, fun hn H2 e2 => ⟨rfl, exm_err ES sS, fun a na => ?_⟩⟩
    have e3 : Ex H2 (upd H2 a (ExK (.ref C) a)) := Ex.new na
    have ha : IsExc (upd H2 a (ExK (.ref C) a)) (.ref C) a := isExc_K
    show tSeq _ _ _ _ (upd H2 a (ExK (.ref C) a))
    generalize upd H2 a (ExK (.ref C) a) = H3 at e3 ha ⊢
    refine Evl.q_when (b := false) (Evl.et_or (a := false) (b := false) (Evl.et_not (a := true) (Evl.et_B (Evl.ev_cb (Evl.ea_cons (Evl.ev_var rfl) (Evl.ea_cons Evl.ev_c Evl.ea_nil)) (rc_isA (.own C) (fun H4 x4 => .inr ⟨a, C, rfl, rfl, ha.ex x4, EC.e⟩) (kit_err EC sC sC)))))
      fun _ => Evl.et_B fun H4 e4 Q' q' => ⟨.ref a, rfl, by show 3 ≤ sizeLine; decide, fun tp ntp => ?_⟩) (fun h => nomatch h) fun _ H4 e4 => ?_
    · refine ⟨.ref a, tp, _, _, _, false, rfl, upd_same, .cons (.own D1) (.cons (.own D2) (.cons (.own D3) .nil)), .inr ⟨a, C, rfl, rfl, ha.ex (e4.trans (Ex.new ntp)), EC.e⟩, ?_, q' _ (Ex.new ntp)⟩
      exact kitAny_cons (kit_err E1 s1 t1) (fun _ => kitAny_cons (kit_err E2 s2 t2) (fun _ => kitAny_cons (kit_err E3 s3 t3) (fun _ => kitAny_nil) (fun h => nomatch h)) (fun h => nomatch h)) (fun h => nomatch h)
    · exact Evl.s_ret (v := .str noneS) Evl.ev_c fun H5 e5 => qn hn H5 (((e2.trans e3).trans e4).trans e5)
/-! ### the law -/
theorem sl_take {a : Addr} {n : Nat} {Q : VK} (hS : StonesAt H a st) (q : ∀ p H1, Ex H H1 → StonesAt H1 p (st.take n) → Q (.ref p) H1) : rSlL K (.ref a) none (some (n : Int)) H Q := by
  obtain ⟨v, hv, i, hi, h⟩ := es_take (K := K) (σ := [some (.ref a)]) (es_var (i := 0) rfl hS) Evl.eo_none (Evl.eo_some (i := (n : Int)) Evl.ev_c) H (Ex.refl H) Q fun p H1 e h => q p H1 e h
  cases hv
  cases hi
  exact h
theorem ev_word2 {t : Addr} {i : Nat} {s : Int × Int} (h : σ[i]? = some (some (.ref t))) (ht : H t = some (.tup [.int s.1, .int s.2])) (g : GoodS s) :
    Ev (tOp rAddS (tOp rAddS (tCB rStrI (tCons (tOp (rIxT K) (tVar i) (tC (.int 0))) tNil)) (tC (.str dashS))) (tCB rStrI (tCons (tOp (rIxT K) (tVar i) (tC (.int 1))) tNil))) σ H (.str (wordS s)) := by
  have a := numS_len g.1.1 g.1.2
  have b := numS_len g.2.1 g.2.2
  have d : dashS.length = 1 := by rw [len_tl, tl_dash]; rfl
  exact Evl.ev_op (Evl.ev_op (ev_str (Evl.ev_op (Evl.ev_var h) Evl.ev_c (Evl.rv_ixT (SqT.of ht) (atI_nat (j := 0) rfl))) g.1.1 g.1.2) Evl.ev_c (rv_addS (by omega))) (ev_str (Evl.ev_op (Evl.ev_var h) Evl.ev_c (Evl.rv_ixT (SqT.of ht) (atI_nat (j := 1) rfl))) g.2.1 g.2.2) (rv_addS (by rw [add_len]; omega))
def spReadC : Sp := fun vs H Q _ => ∃ (x : Str) (st : List (Int × Int)), vs = [.str x] ∧ x.length ≤ 10000 ∧ Line x st ∧ ∀ p H2, H p = none → Ex H H2 → StonesAt H2 p st → Q (.ref p) H2
theorem read_calm {vs : List V} {H : Hp} {Q : VK} {E : XK} {C : Addr} (h : spReadC vs H Q E) : spReadX C vs H Q (fun _ _ _ => False) := by
  obtain ⟨x, st, rfl, hx, hl, q⟩ := h
  refine ⟨x, rfl, hx, fun su hu p H2 np e2 hp => ?_, fun hn => ?_⟩
  · rw [line_inj hu hl] at hp
    exact q p H2 np e2 hp
  · rw [lineB_iff.mpr ⟨st, hl⟩] at hn
    cases hn
theorem scLaw : FnScope ["_law_script", "_law_stones_here", "_law_text", "_law_k", "_law_due", "_law_found", "_law_many", "_law_stone"] ["_law_script"] (defScope sLaw) := ⟨rfl, rfl, rfl, by decide +kernel, rfl, by decide +kernel, by decide +kernel⟩
def spLaw (K : PySem.W.Frag) : Sp := fun vs H Q _ => ∃ (a : Addr) (ns : List Int), vs = [.ref a] ∧ SqL K H a (ns.map V.int) ∧ ns.length ≤ 63 ∧ ∀ H', Q (.bl true) H'
abbrev tWord (K : PySem.W.Frag) : TE := tOp rAddS (tOp rAddS (tCB rStrI (tCons (tOp (rIxT K) (tVar 7) (tC (.int 0))) tNil)) (tC (.str dashS))) (tCB rStrI (tCons (tOp (rIxT K) (tVar 7) (tC (.int 1))) tNil))
theorem ok_law {f fS fC fB fL fT fA fR C : Addr} {fd fdS fdC fdB fdL fdT fdA fdR : FuncData} (F : Fun K "law" "law" sLaw f fd) (mL : mg "len" = none) (mR : mg "range" = none) (mS : mg "str" = none)
    (GS : FnOk P w K mg base CX0 2 fS fdS ["_law_script"] (spStones K)) (gS : mg "_law_stones" = some (.ref fS)) (kS : PySem.W.keepIn K (.ref fS) = true) (bS : Binds K fdS ["_law_script"] [])
    (GC : FnOk P w K mg base CX0 1 fC fdC ["_law_script", "_law_k"] (spCellS K)) (gC : mg "_law_cell" = some (.ref fC)) (kC : PySem.W.keepIn K (.ref fC) = true) (bC : Binds K fdC ["_law_script", "_law_k"] [])
    (GB : FnOk P w K mg base CX0 1 fB fdB ["_law_text", "_law_cell_here"] spBent) (gB : mg "_law_bent" = some (.ref fB)) (kB : PySem.W.keepIn K (.ref fB) = true) (bB : Binds K fdB ["_law_text", "_law_cell_here"] [])
    (GL : FnOk P w K mg base CX0 2 fL fdL ["_law_text"] spLRead) (gL : mg "_law_read" = some (.ref fL)) (kL : PySem.W.keepIn K (.ref fL) = true) (bL : Binds K fdL ["_law_text"] [])
    (GT : FnOk P w K mg base CX0 4 fT fdT ["_law_text"] spTold) (gT : mg "_law_told" = some (.ref fT)) (kT : PySem.W.keepIn K (.ref fT) = true) (bT : Binds K fdT ["_law_text"] [])
    (GA : FnOk P w K mg base CX0 3 fA fdA ["_law_found", "_law_due"] (spAlike 2)) (gA : mg "_law_alike" = some (.ref fA)) (kA : PySem.W.keepIn K (.ref fA) = true) (bA : Binds K fdA ["_law_found", "_law_due"] [])
    (GX : FnOk P w K mg base (L2.CX P w) 3 fR fdR ["text"] (spReadX C)) (gR : mg "read" = some (.ref fR)) (kR : PySem.W.keepIn K (.ref fR) = true) (bR : Binds K fdR ["text"] []) : FnOk P w K mg base CX0 5 f fd ["_law_script"] (spLaw K) := by
  have GR : FnOk P w K mg base CX0 3 fR fdR ["text"] spReadC := FnOk.calm GX fun vs H Q E h => read_calm h
  refine F.ok scLaw (fun vs H Q E h => ?_) (fun cdv A outer s H vs Q E hr h => ?_)
  · obtain ⟨a, ns, rfl, _⟩ := h
    rfl
  · obtain ⟨sc, ns, rfl, hN, hn, q⟩ := h
    have hr1 : Room 1 _ := hr.mono (by decide)
    have hr2 : Room 2 _ := hr.mono (by decide)
    have hr3 : Room 3 _ := hr.mono (by decide)
    refine ⟨_, pss_cons (ps_set (i := 1) scLaw.nd rfl (.inl rfl) (pe_slice sl_list (pe_call GS hr2 (by rfl) gS kS bS .nil pass0 (pa_cons (pv 0) pa_nil)) po_none (po_some pe_int)))
      (pss_cons (ps_set (i := 2) scLaw.nd rfl (.inl rfl) (pe_join pe_str (pe_lc (own := [("_law_stone", 7)]) (g := gName 7) (tt := tYes) (te := tWord K) rfl scLaw.nd (pi_list (pv 1)) (blkOk_by (own := [("_law_stone", 7)]) (N := ["_law_script", "_law_stones_here", "_law_text", "_law_k", "_law_due", "_law_found", "_law_many", "_law_stone"]) (sc := defScope sLaw) (by decide +kernel))
        (fun _ _ _ _ _ => pg_name (i := 7) scLaw.nd rfl (Or.inl rfl)) (fun _ _ _ _ _ => pts_nil)
        (fun _ _ _ _ _ => pe_op op_add_str (pe_op op_add_str (pe_callTy (r := rStrI) call_str_int (by rfl) mS PyProof.Rows.boot_str (pa_cons (pe_ix (r := rIxT K) ix_tup (pv 7) pe_int (fun _ _ => rfl)) pa_nil)) pe_str) (pe_callTy (r := rStrI) call_str_int (by rfl) mS PyProof.Rows.boot_str (pa_cons (pe_ix (r := rIxT K) ix_tup (pv 7) pe_int (fun _ _ => rfl)) pa_nil))))))
      (pss_cons (ps_for PassesOwn.never rfl (pi_range1 (by rfl) mR (pa_cons (pe_op op_add pe_int (pe_op op_mod (pe_call GC hr1 (by rfl) gC kC bC .nil pass0 (pa_cons (pv 0) (pa_cons pe_int pa_nil))) pe_int)) pa_nil)) (pg_name (i := 3) scLaw.nd rfl (.inl rfl))
        (pss_one (ps_set (i := 2) scLaw.nd rfl (.inl rfl) (pe_call GB hr1 (by rfl) gB kB bB .nil pass0 (pa_cons (pv 2) (pa_cons (pe_call GC hr1 (by rfl) gC kC bC .nil pass0 (pa_cons (pv 0) (pa_cons (pe_op op_add pe_int (pv 3)) pa_nil))) pa_nil))))))
      (pss_cons (ps_set (i := 4) scLaw.nd rfl (.inl rfl) (pe_call GL hr2 (by rfl) gL kL bL .nil pass0 (pa_cons (pv 2) pa_nil)))
      (pss_cons (ps_for PassesOwn.never rfl (pi_range1 (by rfl) mR (pa_cons pe_int pa_nil)) (pg_name (i := 3) scLaw.nd rfl (.inl rfl))
        (pss_cons (ps_set (i := 5) scLaw.nd rfl (.inl rfl) (pe_call GT hr (by rfl) gT kT bT .nil pass0 (pa_cons (pv 2) pa_nil)))
        (pss_one (ps_if (PW.pt (pw_or (PW.pt (pw_and (pt_cmpR op_isN (pv 4) pe_non (by rfl)) (pw_and1 (pt_cmpR op_ne (pv 5) pe_str (nomark _))))) (pw_or1 (PW.pt (pw_and (pt_cmpR op_notN (pv 4) pe_non (by rfl)) (pw_and1 (pt_not (pt_val (pe_call GA hr3 (by rfl) gA kA bA .nil pass0 (pa_cons (pv 5) (pa_cons (pv 4) pa_nil))))))))))) (pss_one ps_never) pss_nil))))
      (pss_cons (ps_set (i := 6) scLaw.nd rfl (.inl rfl) (pe_join pe_str (pe_op op_rep (pe_lst (pa_cons pe_str pa_nil)) pe_int)))
      (pss_one (ps_ret (pe_and (pe_cmpR op_eq (pe_callB (r := Evl.rLenS K) call_len_seq (by rfl) mL boot_len (pa_cons (pe_call GR hr3 (by rfl) gR kR bR .nil pass0 (pa_cons (pv 6) pa_nil)) pa_nil)) pe_int (nomark _)) (pe_one (pe_cmpR op_eq (pe_call GT hr (by rfl) gT kT bT .nil pass0 (pa_cons (pe_op op_add_str (pv 6) pe_str) pa_nil)) pe_str (nomark _))))))))))), ?_⟩
    refine ⟨_, rfl, sc, ns, rfl, hN, hn, fun sp st0 H1 e1 np hG0 hS0 => ⟨59, rfl, sl_take (n := 59) hS0 fun sa H2 e2 hS => ?_⟩⟩
    have hG : Good (st0.take 59) := good_sub hG0 (by rw [List.length_take]; omega) fun s m => List.mem_of_mem_take m
    have hL : (st0.take 59).length ≤ 59 := by
      rw [List.length_take]
      omega
    have hN2 : SqL K H2 sc (ns.map V.int) := ex_l (e1.trans e2) hN
    generalize st0.take 59 = st at hS hG hL
    clear hS0 hG0 e1 e2 np
    have ll := line_len hG.2
    have ws := sum_le_mul (fun x : Str => x.length) 13 (st.map wordS) fun x hx => by
      obtain ⟨s, hs, rfl⟩ := List.mem_map.mp hx
      exact word_len (hG.2 s hs)
    rw [List.length_map] at ws
    have g1 : gapS.length = 1 := by rw [len_tl, tl_gap]; rfl
    refine Evl.q_asg (v := .str (lineS st)) (ev_joinN (K := K) (z := gapS) (ys := st.map wordS) Evl.ev_c ?_ (by rw [List.length_map, g1]; omega)) fun H3 e3 => ?_
    · obtain ⟨ts, t1, t2, t3⟩ := id hS
      have c := Evl.el_lcL (K := K) (σ := [some (.ref sc), some (.ref sa), none, none, none, none, none, none]) (H := H2) (j := 7) (vs := [7]) (te := tWord K) (t := tYes) (xs := ts.map V.ref) (fun _ => true) (fun k => .str (wordS (st.getD k (0, 0)))) (Evl.ev_var (i := 1) rfl) (SqL.of t1) (by rw [List.length_map]; omega) (fun _ => rfl) (fun _ _ _ _ _ H1 _ Q q => q H1 (Ex.refl H1)) fun i x H3 e3 hx _ => by
        rw [List.getElem?_map] at hx
        obtain ⟨t, ht, rfl⟩ := Option.map_eq_some_iff.mp hx
        have il : i < st.length := by
          rw [← t2]
          exact (List.getElem?_eq_some_iff.mp ht).1
        rw [List.getD_eq_getElem?_getD, List.getElem?_eq_getElem il]
        exact ev_word2 (K := K) rfl (e3 _ _ (t3 i t _ ht (List.getElem?_eq_getElem il))) (hG.2 _ (List.getElem_mem il))
      rw [given_all, List.length_map, t2, range_map st _ (fun s => V.str (wordS s)) fun i s h => by rw [List.getD_eq_getElem?_getD, h]; rfl] at c
      rw [List.map_map]
      exact c
    have hN3 := ex_l (K := K) e3 hN2
    have sm0 := sm_line hG.2
    have b0 := Int.emod_nonneg (cellF ns 2) (show (3 : Int) ≠ 0 by decide)
    have b1 := Int.emod_lt_of_pos (cellF ns 2) (show (0 : Int) < 3 by decide)
    refine Evl.q_forR1 (n := 1 + cellF ns 2 % 3) (Evl.ea_cons (ev_addI Evl.ev_c (ev_mod (Evl.ev_call (Evl.ea_cons (Evl.ev_var rfl) (Evl.ea_cons Evl.ev_c Evl.ea_nil)) (pv_cell hN3 hn)) Evl.ev_c (by decide))) Evl.ea_nil) ⟨by omega, by omega⟩
      (fun i σ H' => Ex H3 H' ∧ ∃ (x : Str) (x3 : Option V), σ = [some (.ref sc), some (.ref sa), some (.str x), x3, none, none, none, none] ∧ x.length ≤ 1000 + 20 * i ∧ Sm x) (fun H4 e4 => ⟨e4, _, _, rfl, by omega, sm0⟩) ?_ ?_
    · rintro i σ' H4 hi ⟨e4, x, x3, rfl, xl, xs⟩
      have ib : i ≤ 3 := by omega
      refine ⟨_, rfl, _, rfl, _, rfl, _, _, rfl, rfl, sc, ns, _, rfl, ex_l e4 hN3, hn, fun H5 e5 => ⟨x, _, rfl, cellF_0 _ _, by omega, xs, fun y H6 yl ys e6 => ⟨(e4.trans e5).trans e6, y, _, rfl, by omega, ys⟩⟩⟩
    · rintro σ' H4 ⟨e4, x, x3, rfl, xl, xs⟩
      have xb : x.length ≤ 5000 := by omega
      clear ll ws xl
      -- behind: sixty and more
      have fin : ∀ (x3 x4 x5 : Option V) (H5 : Hp), tSeq (tAsg (tM1 (rJoin K) (tC (.str gapS)) (tOp rRep (tLst (tCons (tC (.str oneS)) tNil)) (tC (.int 60)))) (gName 6))
          (tRet (tAndV (tOp rEq (tCB (Evl.rLenS K) (tCons (tCall spReadC [] E0 (tCons (tVar 6) tNil)) tNil)) (tC (.int 60))) (tOp rEq (tCall spTold [] E0 (tCons (tOp rAddS (tVar 6) (tC (.str moreS))) tNil)) (tC (.str noneS))))) { nx := fun _ H' => Q .non H', rt := Q } [some (.ref sc), some (.ref sa), some (.str x), x3, x4, x5, none, none] H5 := fun x3 x4 x5 H5 => by
        have ml := line_len many_good.2
        have mz : manyL.length = 60 := rfl
        rw [mz] at ml
        have jn : EvL (tOp rRep (tLst (tCons (tC (.str oneS)) tNil)) (tC (.int 60))) [some (.ref sc), some (.ref sa), some (.str x), x3, x4, x5, none, none] H5 ((manyL.map wordS).map V.str) := fun H6 e6 Q' q' => ⟨by show 1 ≤ sizeLine; decide, fun l nl => ⟨l, 60, [.str oneS], rfl, rfl, upd_same, by decide, by decide, by show 60 ≤ sizeLine; decide, fun p np => by
          have fp : H6 p = none := fresh_back (Ex.new nl) np
          refine q' p _ fp ((Ex.new nl).trans (Ex.new np)) ?_
          rw [upd_same]
          unfold manyL
          rw [List.map_replicate, one_word, List.map_replicate]
          rfl⟩⟩
        refine Evl.q_asg (v := .str (lineS manyL)) (ev_joinN (K := K) (z := gapS) (ys := manyL.map wordS) Evl.ev_c jn (by decide +kernel)) fun H6 e6 => ?_
        refine Evl.s_ret (v := .bl (true && true)) (Evl.ev_andV ?_ fun _ => ?_) fun H7 _ => q H7
        · refine Evl.ev_is (Evl.ev_op (x := .int 60) (fun H7 e7 Q' q' => ⟨_, rfl, _, manyL, rfl, by omega, ⟨many_good, rfl⟩, fun p H8 np e8 hp => ?_⟩) Evl.ev_c (Evl.rv_eq rfl)) (by decide)
          obtain ⟨ts, t1, t2, _⟩ := hp
          exact ⟨p, _, rfl, .inl (SqL.of t1), by
            rw [List.length_map, t2]
            exact q' H8 e8⟩
        · refine Evl.ev_is (Evl.ev_op (x := .str noneS) (fun H7 e7 Q' q' => ⟨_, rfl, _, _, rfl, rfl, Evl.sz_of (by show _ + 4 ≤ _; omega), _, rfl, by rw [add_len]; show _ + 4 ≤ _; omega, fun st hl => ?_, fun _ H8 e8 => q' H8 e8⟩) Evl.ev_c (Evl.rv_eq rfl)) (by decide)
          have z := lineB_iff.mpr ⟨st, hl⟩
          rw [more_no] at z
          cases z
      cases hb : lineB x with
      | true =>
        obtain ⟨su, hl⟩ := lineB_iff.mp hb
        refine q_call ⟨_, rfl, x, rfl, by omega, xs, fun sv hv p H5 np e5 hp => ?_, fun hn => ?_⟩
        · rw [line_inj hv hl] at hp
          have sl := hl.1.1
          refine Evl.q_forR1 (n := 2) (Evl.ea_cons Evl.ev_c Evl.ea_nil) (by decide) (fun i σ H' => Ex H5 H' ∧ ∃ x3 x5 : Option V, σ = [some (.ref sc), some (.ref sa), some (.str x), x3, some (.ref p), x5, none, none]) (fun H6 e6 => ⟨e6, _, _, rfl⟩) ?_ ?_
          · rintro i σ' H6 hi ⟨e6, y3, y5, rfl⟩
            refine q_call ⟨_, rfl, x, rfl, by omega, fun sw hw r H7 nr e7 hr' => ?_, fun hn => ?_⟩
            · rw [line_inj hw hl] at hr'
              refine Evl.s_when (b := false) (Evl.et_or (a := false) (b := false) (Evl.et_and (a := false) (b := false) (fun H8 e8 Q' q' => ⟨_, rfl, rfl, _, rfl, q' H8 (Ex.refl H8)⟩) fun h => nomatch h) fun _ => Evl.et_and (a := true) (b := false) (fun H8 e8 Q' q' => ⟨_, rfl, rfl, _, rfl, q' H8 (Ex.refl H8)⟩) fun _ => Evl.et_not (a := true) (Evl.et_B fun H8 e8 Q' q' => ⟨_, rfl, _, rfl, _, _, dStones su, rfl, (hr'.ex e8).dt, ((hp.ex (e6.trans e7)).ex e8).dt, lay_stones su (by omega), q'⟩)) (fun h => nomatch h) fun _ H8 e8 => ⟨(e6.trans e7).trans e8, _, _, rfl⟩
            · rw [hb] at hn
              cases hn
          · rintro σ' H6 ⟨e6, y3, y5, rfl⟩
            exact fin _ _ _ H6
        · rw [hb] at hn
          cases hn
      | false =>
        refine q_call ⟨_, rfl, x, rfl, by omega, xs, fun sv hv => ?_, fun _ H5 e5 => ?_⟩
        · rw [lineB_iff.mpr ⟨sv, hv⟩] at hb
          cases hb
        · refine Evl.q_forR1 (n := 2) (Evl.ea_cons Evl.ev_c Evl.ea_nil) (by decide) (fun i σ H' => ∃ x3 x5 : Option V, σ = [some (.ref sc), some (.ref sa), some (.str x), x3, some .non, x5, none, none]) (fun H6 e6 => ⟨_, _, rfl⟩) ?_ ?_
          · rintro i σ' H6 hi ⟨y3, y5, rfl⟩
            refine q_call ⟨_, rfl, x, rfl, by omega, fun sw hw => ?_, fun _ H7 e7 => ?_⟩
            · rw [lineB_iff.mpr ⟨sw, hw⟩] at hb
              cases hb
            · refine Evl.s_when (b := false) (Evl.et_or (a := false) (b := false) (Evl.et_and (a := true) (b := false) (fun H8 e8 Q' q' => ⟨_, rfl, rfl, _, rfl, q' H8 (Ex.refl H8)⟩) fun _ => Evl.et_is (Evl.et_test (ev_neS (Evl.ev_var rfl) (Evl.ev_c (v := .str noneS)))) (by rw [decide_eq_true rfl]; rfl)) fun _ => Evl.et_and (a := false) (b := false) (fun H8 e8 Q' q' => ⟨_, rfl, rfl, _, rfl, q' H8 (Ex.refl H8)⟩) fun h => nomatch h) (fun h => nomatch h) fun _ H8 e8 => ⟨_, _, rfl⟩
          · rintro σ' H6 ⟨y3, y5, rfl⟩
            exact fin _ _ _ H6
end
end Sw
namespace Sw
open PySem PySem.Spec PyProof.Rows L2
/-! ### what the top has written -/
theorem all_mk {l : PySem.W.OpenLaw} {w : World} {K : PySem.W.Frag} {h : Heap} {mg : Str → Option Value} {fa f1 f2 f3 f4 f5 f6 f7 f8 f9 f10 f11 c_StoneError c_NoText c_NoLaying c_NoStone c_NoStones : Addr} (X : K.In h) (G : h.Ns mainGlobals mg) (hfa : mg "law" = some (.ref fa))
    {od1 an1 od2 an2 od3 an3 od4 an4 od5 an5 od6 an6 od7 an7 od8 an8 od9 an9 od10 an10 od11 an11 : Option Addr} {sl1 sl2 sl3 sl4 sl5 sl6 sl7 sl8 sl9 sl10 sl11 : Array (Option Value)} {oc1 kV1 dc1 pm1 cd1 ct1 oc2 kV2 dc2 pm2 cd2 ct2 oc3 kV3 dc3 pm3 cd3 ct3 oc4 kV4 dc4 pm4 cd4 ct4 oc5 kV5 dc5 pm5 cd5 ct5 oc6 kV6 dc6 pm6 cd6 ct6 oc7 kV7 dc7 pm7 cd7 ct7 oc8 kV8 dc8 pm8 cd8 ct8 oc9 kV9 dc9 pm9 cd9 ct9 oc10 kV10 dc10 pm10 cd10 ct10 oc11 kV11 dc11 pm11 cd11 ct11 : Value} {tk0 tk1 tk2 : Tok}
    (a1 : PySem.W.nsIn K mainGlobals "_is_numeral" = some (some (.ref f1))) (l1 : K.lookup f1 = some ⟨oc1, od1, .func (PySem.W.fnOf "_is_numeral" "_is_numeral" (defArgs sNumeral) (defBody sNumeral) (defScope sNumeral) .none kV1 dc1 pm1 an1 cd1 ct1), sl1⟩) (c1 : PySem.W.codeIn K cd1 "_is_numeral" = true) (k1 : PySem.W.keepIn K (.ref f1) = true)
    (a2 : PySem.W.nsIn K mainGlobals "_stone" = some (some (.ref f2))) (l2 : K.lookup f2 = some ⟨oc2, od2, .func (PySem.W.fnOf "_stone" "_stone" (defArgs sRdStone) (defBody sRdStone) (defScope sRdStone) .none kV2 dc2 pm2 an2 cd2 ct2), sl2⟩) (c2 : PySem.W.codeIn K cd2 "_stone" = true) (k2 : PySem.W.keepIn K (.ref f2) = true)
    (a3 : PySem.W.nsIn K mainGlobals "read" = some (some (.ref f3))) (l3 : K.lookup f3 = some ⟨oc3, od3, .func (PySem.W.fnOf "read" "read" (defArgs sRead) (defBody sRead) (defScope sRead) .none kV3 dc3 pm3 an3 cd3 ct3), sl3⟩) (c3 : PySem.W.codeIn K cd3 "read" = true) (k3 : PySem.W.keepIn K (.ref f3) = true)
    (a4 : PySem.W.nsIn K mainGlobals "_law_cell" = some (some (.ref f4))) (l4 : K.lookup f4 = some ⟨oc4, od4, .func (PySem.W.fnOf "_law_cell" "_law_cell" (defArgs sCell) (defBody sCell) (defScope sCell) .none kV4 dc4 pm4 an4 cd4 ct4), sl4⟩) (c4 : PySem.W.codeIn K cd4 "_law_cell" = true) (k4 : PySem.W.keepIn K (.ref f4) = true)
    (a5 : PySem.W.nsIn K mainGlobals "_law_stones" = some (some (.ref f5))) (l5 : K.lookup f5 = some ⟨oc5, od5, .func (PySem.W.fnOf "_law_stones" "_law_stones" (defArgs sStones) (defBody sStones) (defScope sStones) .none kV5 dc5 pm5 an5 cd5 ct5), sl5⟩) (c5 : PySem.W.codeIn K cd5 "_law_stones" = true) (k5 : PySem.W.keepIn K (.ref f5) = true)
    (a6 : PySem.W.nsIn K mainGlobals "_law_alike" = some (some (.ref f6))) (l6 : K.lookup f6 = some ⟨oc6, od6, .func (PySem.W.fnOf "_law_alike" "_law_alike" (defArgs sAlike) (defBody sAlike) (defScope sAlike) .none kV6 dc6 pm6 an6 cd6 ct6), sl6⟩) (c6 : PySem.W.codeIn K cd6 "_law_alike" = true) (k6 : PySem.W.keepIn K (.ref f6) = true)
    (a7 : PySem.W.nsIn K mainGlobals "_law_number" = some (some (.ref f7))) (l7 : K.lookup f7 = some ⟨oc7, od7, .func (PySem.W.fnOf "_law_number" "_law_number" (defArgs s_law_number) (defBody s_law_number) (defScope s_law_number) .none kV7 dc7 pm7 an7 cd7 ct7), sl7⟩) (c7 : PySem.W.codeIn K cd7 "_law_number" = true) (k7 : PySem.W.keepIn K (.ref f7) = true)
    (a8 : PySem.W.nsIn K mainGlobals "_law_read" = some (some (.ref f8))) (l8 : K.lookup f8 = some ⟨oc8, od8, .func (PySem.W.fnOf "_law_read" "_law_read" (defArgs s_law_read) (defBody s_law_read) (defScope s_law_read) .none kV8 dc8 pm8 an8 cd8 ct8), sl8⟩) (c8 : PySem.W.codeIn K cd8 "_law_read" = true) (k8 : PySem.W.keepIn K (.ref f8) = true)
    (a9 : PySem.W.nsIn K mainGlobals "_law_bent" = some (some (.ref f9))) (l9 : K.lookup f9 = some ⟨oc9, od9, .func (PySem.W.fnOf "_law_bent" "_law_bent" (defArgs s_law_bent) (defBody s_law_bent) (defScope s_law_bent) .none kV9 dc9 pm9 an9 cd9 ct9), sl9⟩) (c9 : PySem.W.codeIn K cd9 "_law_bent" = true) (k9 : PySem.W.keepIn K (.ref f9) = true)
    (a10 : PySem.W.nsIn K mainGlobals "_law_told" = some (some (.ref f10))) (l10 : K.lookup f10 = some ⟨oc10, od10, .func (PySem.W.fnOf "_law_told" "_law_told" (defArgs s_law_told) (defBody s_law_told) (defScope s_law_told) .none kV10 dc10 pm10 an10 cd10 ct10), sl10⟩) (c10 : PySem.W.codeIn K cd10 "_law_told" = true) (k10 : PySem.W.keepIn K (.ref f10) = true)
    (a11 : PySem.W.nsIn K mainGlobals "law" = some (some (.ref f11))) (l11 : K.lookup f11 = some ⟨oc11, od11, .func (PySem.W.fnOf "law" "law" (defArgs sLaw) (defBody sLaw) (defScope sLaw) .none kV11 dc11 pm11 an11 cd11 ct11), sl11⟩) (c11 : PySem.W.codeIn K cd11 "law" = true) (k11 : PySem.W.keepIn K (.ref f11) = true)
    (z0 : PySem.W.nsIn K mainGlobals "isinstance" = some none)
    (z1 : PySem.W.nsIn K mainGlobals "bool" = some none)
    (z2 : PySem.W.nsIn K mainGlobals "int" = some none)
    (z3 : PySem.W.nsIn K mainGlobals "tuple" = some none)
    (z4 : PySem.W.nsIn K mainGlobals "list" = some none)
    (z5 : PySem.W.nsIn K mainGlobals "len" = some none)
    (z6 : PySem.W.nsIn K mainGlobals "all" = some none)
    (z7 : PySem.W.nsIn K mainGlobals "range" = some none)
    (z8 : PySem.W.nsIn K mainGlobals "max" = some none)
    (z9 : PySem.W.nsIn K mainGlobals "min" = some none)
    (z10 : PySem.W.nsIn K mainGlobals "str" = some none)
    (q0 : PySem.W.nsIn K mainGlobals "HIGHEST_END" = some (some (.int 999999 tk0)))
    (q1 : PySem.W.nsIn K mainGlobals "MOST_STONES" = some (some (.int 60 tk1)))
    (q2 : PySem.W.nsIn K mainGlobals "FIGURES" = some (some (.str Sw.figS tk2)))
    (u_StoneError : PySem.W.nsIn K mainGlobals "StoneError" = some (some (.ref c_StoneError)))
    (ux_StoneError : PySem.W.excIn K c_StoneError [.type "ValueError", .type "Exception", .type "BaseException", .type "object"] "ValueError.__new__" = true) (uk_StoneError : PySem.W.keepIn K (.ref c_StoneError) = true) (ut_StoneError : PySem.W.typeIn K (.ref c_StoneError) = some (.type "type")) (ui_StoneError : PySem.W.isClsIn K c_StoneError = true)
    (ug_StoneError : PySem.W.findIn K (.ref c_StoneError) "__getattribute__" = some (some (.builtin "BaseException.__getattribute__"))) (un_StoneError : PySem.W.findIn K (.ref c_StoneError) "__getattr__" = some none) (us_StoneError : PySem.W.subIn K (.ref c_StoneError) (.type "BaseException") = some true) (ud_StoneError : PySem.W.hasDictIn K c_StoneError = true) (uc_StoneError : PySem.W.findIn K (.ref c_StoneError) "__class__" = some (some (.builtin "object.__class__"))) (um_StoneError : PySem.W.mroIn K c_StoneError (.type "object") = some true)
    (u_NoText : PySem.W.nsIn K mainGlobals "NoText" = some (some (.ref c_NoText)))
    (ux_NoText : PySem.W.excIn K c_NoText [.type "ValueError", .type "Exception", .type "BaseException", .type "object"] "ValueError.__new__" = true) (uk_NoText : PySem.W.keepIn K (.ref c_NoText) = true) (ut_NoText : PySem.W.typeIn K (.ref c_NoText) = some (.type "type")) (ui_NoText : PySem.W.isClsIn K c_NoText = true)
    (ug_NoText : PySem.W.findIn K (.ref c_NoText) "__getattribute__" = some (some (.builtin "BaseException.__getattribute__"))) (un_NoText : PySem.W.findIn K (.ref c_NoText) "__getattr__" = some none) (us_NoText : PySem.W.subIn K (.ref c_NoText) (.type "BaseException") = some true) (ud_NoText : PySem.W.hasDictIn K c_NoText = true) (uc_NoText : PySem.W.findIn K (.ref c_NoText) "__class__" = some (some (.builtin "object.__class__"))) (um_NoText : PySem.W.mroIn K c_NoText (.type "object") = some true)
    (u_NoLaying : PySem.W.nsIn K mainGlobals "NoLaying" = some (some (.ref c_NoLaying)))
    (ux_NoLaying : PySem.W.excIn K c_NoLaying [.type "ValueError", .type "Exception", .type "BaseException", .type "object"] "ValueError.__new__" = true) (uk_NoLaying : PySem.W.keepIn K (.ref c_NoLaying) = true) (ut_NoLaying : PySem.W.typeIn K (.ref c_NoLaying) = some (.type "type")) (ui_NoLaying : PySem.W.isClsIn K c_NoLaying = true)
    (ug_NoLaying : PySem.W.findIn K (.ref c_NoLaying) "__getattribute__" = some (some (.builtin "BaseException.__getattribute__"))) (un_NoLaying : PySem.W.findIn K (.ref c_NoLaying) "__getattr__" = some none) (us_NoLaying : PySem.W.subIn K (.ref c_NoLaying) (.type "BaseException") = some true) (ud_NoLaying : PySem.W.hasDictIn K c_NoLaying = true) (uc_NoLaying : PySem.W.findIn K (.ref c_NoLaying) "__class__" = some (some (.builtin "object.__class__"))) (um_NoLaying : PySem.W.mroIn K c_NoLaying (.type "object") = some true)
    (u_NoStone : PySem.W.nsIn K mainGlobals "NoStone" = some (some (.ref c_NoStone)))
    (ux_NoStone : PySem.W.excIn K c_NoStone [.type "ValueError", .type "Exception", .type "BaseException", .type "object"] "ValueError.__new__" = true) (uk_NoStone : PySem.W.keepIn K (.ref c_NoStone) = true) (ut_NoStone : PySem.W.typeIn K (.ref c_NoStone) = some (.type "type")) (ui_NoStone : PySem.W.isClsIn K c_NoStone = true)
    (ug_NoStone : PySem.W.findIn K (.ref c_NoStone) "__getattribute__" = some (some (.builtin "BaseException.__getattribute__"))) (un_NoStone : PySem.W.findIn K (.ref c_NoStone) "__getattr__" = some none) (us_NoStone : PySem.W.subIn K (.ref c_NoStone) (.type "BaseException") = some true) (ud_NoStone : PySem.W.hasDictIn K c_NoStone = true) (uc_NoStone : PySem.W.findIn K (.ref c_NoStone) "__class__" = some (some (.builtin "object.__class__"))) (um_NoStone : PySem.W.mroIn K c_NoStone (.type "object") = some true)
    (u_NoStones : PySem.W.nsIn K mainGlobals "NoStones" = some (some (.ref c_NoStones)))
    (ux_NoStones : PySem.W.excIn K c_NoStones [.type "ValueError", .type "Exception", .type "BaseException", .type "object"] "ValueError.__new__" = true) (uk_NoStones : PySem.W.keepIn K (.ref c_NoStones) = true) (ut_NoStones : PySem.W.typeIn K (.ref c_NoStones) = some (.type "type")) (ui_NoStones : PySem.W.isClsIn K c_NoStones = true)
    (ug_NoStones : PySem.W.findIn K (.ref c_NoStones) "__getattribute__" = some (some (.builtin "BaseException.__getattribute__"))) (un_NoStones : PySem.W.findIn K (.ref c_NoStones) "__getattr__" = some none) (us_NoStones : PySem.W.subIn K (.ref c_NoStones) (.type "BaseException") = some true) (ud_NoStones : PySem.W.hasDictIn K c_NoStones = true) (uc_NoStones : PySem.W.findIn K (.ref c_NoStones) "__class__" = some (some (.builtin "object.__class__"))) (um_NoStones : PySem.W.mroIn K c_NoStones (.type "object") = some true)
    (w_n : PySem.W.specialIn K (.builtin "object.__class__") "__get__" = some (some (.builtin "getset_descriptor.__get__"))) (w_t : PySem.W.takesIn K (.builtin "object.__class__") = some true)
    (s_NoText_NoLaying : PySem.W.subIn K (.ref c_NoText) (.ref c_NoLaying) = some false)
    (s_NoText_NoStone : PySem.W.subIn K (.ref c_NoText) (.ref c_NoStone) = some false)
    (s_NoText_NoStones : PySem.W.subIn K (.ref c_NoText) (.ref c_NoStones) = some false)
    (s_NoLaying_NoLaying : PySem.W.subIn K (.ref c_NoLaying) (.ref c_NoLaying) = some true)
    (s_NoStone_NoStone : PySem.W.subIn K (.ref c_NoStone) (.ref c_NoStone) = some true)
    (s_NoStones_NoStones : PySem.W.subIn K (.ref c_NoStones) (.ref c_NoStones) = some true)
    (s_NoText_NoText : PySem.W.subIn K (.ref c_NoText) (.ref c_NoText) = some true)
    (s_NoText_StoneError : PySem.W.subIn K (.ref c_NoText) (.ref c_StoneError) = some true)
    : ∃ fd : FuncData, (∀ (s : Shared) (v : Value), BindsTo s fd ⟨[v], []⟩ [("_law_script", v)]) ∧ ∀ base : Heap, K.In base → base.Ns mainGlobals mg → FnOk l.prog w K mg base CX0 5 fa fd ["_law_script"] (spLaw K) := by
  have e := hfa.symm.trans (PySem.W.mg_of X G a11)
  cases e
  have F1 := fun_mk (st := sNumeral) l1 c1 k1
  have g1 := PySem.W.mg_of X G a1
  have b1 := F1.binds (ps := ["text"]) fun _ _ _ _ _ _ us hl => match us, hl with | [_], _ => rfl
  have F2 := fun_mk (st := sRdStone) l2 c2 k2
  have g2 := PySem.W.mg_of X G a2
  have b2 := F2.binds (ps := ["word"]) fun _ _ _ _ _ _ us hl => match us, hl with | [_], _ => rfl
  have F3 := fun_mk (st := sRead) l3 c3 k3
  have g3 := PySem.W.mg_of X G a3
  have b3 := F3.binds (ps := ["text"]) fun _ _ _ _ _ _ us hl => match us, hl with | [_], _ => rfl
  have F4 := fun_mk (st := sCell) l4 c4 k4
  have g4 := PySem.W.mg_of X G a4
  have b4 := F4.binds (ps := ["_law_script", "_law_k"]) fun _ _ _ _ _ _ us hl => match us, hl with | [_, _], _ => rfl
  have F5 := fun_mk (st := sStones) l5 c5 k5
  have g5 := PySem.W.mg_of X G a5
  have b5 := F5.binds (ps := ["_law_script"]) fun _ _ _ _ _ _ us hl => match us, hl with | [_], _ => rfl
  have F6 := fun_mk (st := sAlike) l6 c6 k6
  have g6 := PySem.W.mg_of X G a6
  have b6 := F6.binds (ps := ["_law_found", "_law_due"]) fun _ _ _ _ _ _ us hl => match us, hl with | [_, _], _ => rfl
  have F7 := fun_mk (st := s_law_number) l7 c7 k7
  have g7 := PySem.W.mg_of X G a7
  have b7 := F7.binds (ps := ["_law_word"]) fun _ _ _ _ _ _ us hl => match us, hl with | [_], _ => rfl
  have F8 := fun_mk (st := s_law_read) l8 c8 k8
  have g8 := PySem.W.mg_of X G a8
  have b8 := F8.binds (ps := ["_law_text"]) fun _ _ _ _ _ _ us hl => match us, hl with | [_], _ => rfl
  have F9 := fun_mk (st := s_law_bent) l9 c9 k9
  have g9 := PySem.W.mg_of X G a9
  have b9 := F9.binds (ps := ["_law_text", "_law_cell_here"]) fun _ _ _ _ _ _ us hl => match us, hl with | [_, _], _ => rfl
  have F10 := fun_mk (st := s_law_told) l10 c10 k10
  have g10 := PySem.W.mg_of X G a10
  have b10 := F10.binds (ps := ["_law_text"]) fun _ _ _ _ _ _ us hl => match us, hl with | [_], _ => rfl
  have F11 := fun_mk (st := sLaw) l11 c11 k11
  have g11 := PySem.W.mg_of X G a11
  have m_isinstance := PySem.W.mg_none_of X G z0
  have m_bool := PySem.W.mg_none_of X G z1
  have m_int := PySem.W.mg_none_of X G z2
  have m_tuple := PySem.W.mg_none_of X G z3
  have m_list := PySem.W.mg_none_of X G z4
  have m_len := PySem.W.mg_none_of X G z5
  have m_all := PySem.W.mg_none_of X G z6
  have m_range := PySem.W.mg_none_of X G z7
  have m_max := PySem.W.mg_none_of X G z8
  have m_min := PySem.W.mg_none_of X G z9
  have m_str := PySem.W.mg_none_of X G z10
  have m_HIGHEST_END : ∃ t, mg "HIGHEST_END" = some (.int 999999 t) := ⟨_, PySem.W.mg_of X G q0⟩
  have m_MOST_STONES : ∃ t, mg "MOST_STONES" = some (.int 60 t) := ⟨_, PySem.W.mg_of X G q1⟩
  have m_FIGURES : ∃ t, mg "FIGURES" = some (.str Sw.figS t) := ⟨_, PySem.W.mg_of X G q2⟩
  have m_StoneError := PySem.W.mg_of X G u_StoneError
  have E_StoneError : ErrC K c_StoneError := ⟨ux_StoneError, uk_StoneError, ut_StoneError, ui_StoneError, ⟨ug_StoneError, un_StoneError, us_StoneError, ud_StoneError, uc_StoneError, w_n, w_t, um_StoneError⟩⟩
  have m_NoText := PySem.W.mg_of X G u_NoText
  have E_NoText : ErrC K c_NoText := ⟨ux_NoText, uk_NoText, ut_NoText, ui_NoText, ⟨ug_NoText, un_NoText, us_NoText, ud_NoText, uc_NoText, w_n, w_t, um_NoText⟩⟩
  have m_NoLaying := PySem.W.mg_of X G u_NoLaying
  have E_NoLaying : ErrC K c_NoLaying := ⟨ux_NoLaying, uk_NoLaying, ut_NoLaying, ui_NoLaying, ⟨ug_NoLaying, un_NoLaying, us_NoLaying, ud_NoLaying, uc_NoLaying, w_n, w_t, um_NoLaying⟩⟩
  have m_NoStone := PySem.W.mg_of X G u_NoStone
  have E_NoStone : ErrC K c_NoStone := ⟨ux_NoStone, uk_NoStone, ut_NoStone, ui_NoStone, ⟨ug_NoStone, un_NoStone, us_NoStone, ud_NoStone, uc_NoStone, w_n, w_t, um_NoStone⟩⟩
  have m_NoStones := PySem.W.mg_of X G u_NoStones
  have E_NoStones : ErrC K c_NoStones := ⟨ux_NoStones, uk_NoStones, ut_NoStones, ui_NoStones, ⟨ug_NoStones, un_NoStones, us_NoStones, ud_NoStones, uc_NoStones, w_n, w_t, um_NoStones⟩⟩
  refine ⟨PySem.W.fnOf "law" "law" (defArgs sLaw) (defBody sLaw) (defScope sLaw) .none kV11 dc11 pm11 an11 cd11 ct11, fun s v => .of_eq rfl, fun base _ _ => ?_⟩
  have H1 := ok_numeral (P := l.prog) (w := w) (mg := mg) (base := base) F1 m_len m_str m_all m_HIGHEST_END m_FIGURES
  have H2 := ok_rdStoneX (P := l.prog) (w := w) (mg := mg) (base := base) F2 m_len m_all m_int H1 g1 k1 b1 E_NoText m_NoText
  have H3 := ok_readX (P := l.prog) (w := w) (mg := mg) (base := base) F3 m_isinstance m_str m_len m_MOST_STONES H2 g2 k2 b2 E_NoText m_NoText
  have H4 := ok_cell (P := l.prog) (w := w) (mg := mg) (base := base) F4 m_len
  have H5 := ok_stones (P := l.prog) (w := w) (mg := mg) (base := base) F5 m_len m_range m_max m_min H4 g4 k4 b4
  have A0 := alike_leaf (P := l.prog) (w := w) (mg := mg) (base := base) F6 m_isinstance m_bool m_tuple m_list
  have A1 := alike_step (P := l.prog) (w := w) (mg := mg) (base := base) F6 m_isinstance m_bool m_tuple m_list m_len m_all m_range A0 g6 k6 b6
  have A2 := alike_step (P := l.prog) (w := w) (mg := mg) (base := base) F6 m_isinstance m_bool m_tuple m_list m_len m_all m_range A1 g6 k6 b6
  have H7 := ok_lnum (P := l.prog) (w := w) (mg := mg) (base := base) F7 m_len m_int
  have H8 := ok_lread (P := l.prog) (w := w) (mg := mg) (base := base) F8 m_len H7 g7 k7 b7
  have H9 := ok_bent (P := l.prog) (w := w) (mg := mg) (base := base) F9 m_len
  have H10 := ok_told (P := l.prog) (w := w) (mg := mg) (base := base) F10 m_isinstance H3 g3 k3 b3 E_StoneError m_StoneError E_NoText m_NoText E_NoLaying m_NoLaying E_NoStone m_NoStone E_NoStones m_NoStones s_NoText_StoneError s_NoText_NoText s_NoText_NoLaying s_NoText_NoStone s_NoText_NoStones s_NoLaying_NoLaying s_NoStone_NoStone s_NoStones_NoStones
  exact ok_law F11 m_len m_range m_str H5 g5 k5 b5 H4 g4 k4 b4 H9 g9 k9 b9 H8 g8 k8 b8 H10 g10 k10 b10 A2 g6 k6 b6 H3 g3 k3 b3
end Sw
open PySem PySem.W PyProof.Rows
set_option maxHeartbeats 0 in
theorem PySem.Challenge.cw_stonerow_k11_texts_refused_holds : PySem.Challenge.rw_stonerow_k11_texts_refused.Holds := by
  w_on; o_law; k_head; (case hw => w_witness2)
  k_fill
  refine L2.walk_of (l := PySem.Challenge.rw_stonerow_k11_texts_refused) (n := 63) (k := 5) (x := "_law_script") (CX := fun _ => L2.CX0) (sp := fun w => Sw.spLaw _) rfl (by decide) rfl ⟨rfl, by decide, by decide⟩ (fun w h Y => PySem.W.kIn_of Y) ?F (fun _ _ a ns hl _ hS => ⟨a, ns, rfl, hS, hl, fun _ => rfl⟩) (fun _ _ _ _ _ h => h)
  case F =>
    intro w mg fa h KX G hmg
    refine' Sw.all_mk KX G hmg ?a1 ?l1 ?c1 ?k1 ?a2 ?l2 ?c2 ?k2 ?a3 ?l3 ?c3 ?k3 ?a4 ?l4 ?c4 ?k4 ?a5 ?l5 ?c5 ?k5 ?a6 ?l6 ?c6 ?k6 ?a7 ?l7 ?c7 ?k7 ?a8 ?l8 ?c8 ?k8 ?a9 ?l9 ?c9 ?k9 ?a10 ?l10 ?c10 ?k10 ?a11 ?l11 ?c11 ?k11 ?z0 ?z1 ?z2 ?z3 ?z4 ?z5 ?z6 ?z7 ?z8 ?z9 ?z10 ?q0 ?q1 ?q2 ?u_StoneError ?ux_StoneError ?uk_StoneError ?ut_StoneError ?ui_StoneError ?ug_StoneError ?un_StoneError ?us_StoneError ?ud_StoneError ?uc_StoneError ?um_StoneError ?u_NoText ?ux_NoText ?uk_NoText ?ut_NoText ?ui_NoText ?ug_NoText ?un_NoText ?us_NoText ?ud_NoText ?uc_NoText ?um_NoText ?u_NoLaying ?ux_NoLaying ?uk_NoLaying ?ut_NoLaying ?ui_NoLaying ?ug_NoLaying ?un_NoLaying ?us_NoLaying ?ud_NoLaying ?uc_NoLaying ?um_NoLaying ?u_NoStone ?ux_NoStone ?uk_NoStone ?ut_NoStone ?ui_NoStone ?ug_NoStone ?un_NoStone ?us_NoStone ?ud_NoStone ?uc_NoStone ?um_NoStone ?u_NoStones ?ux_NoStones ?uk_NoStones ?ut_NoStones ?ui_NoStones ?ug_NoStones ?un_NoStones ?us_NoStones ?ud_NoStones ?uc_NoStones ?um_NoStones ?w_n ?w_t ?s_NoText_NoLaying ?s_NoText_NoStone ?s_NoText_NoStones ?s_NoLaying_NoLaying ?s_NoStone_NoStone ?s_NoStones_NoStones ?s_NoText_NoText ?s_NoText_StoneError
    (case a1 => k_is)
    (case l1 => k_is)
    (case c1 => k_is)
    (case k1 => k_is)
    (case a2 => k_is)
    (case l2 => k_is)
    (case c2 => k_is)
    (case k2 => k_is)
    (case a3 => k_is)
    (case l3 => k_is)
    (case c3 => k_is)
    (case k3 => k_is)
    (case a4 => k_is)
    (case l4 => k_is)
    (case c4 => k_is)
    (case k4 => k_is)
    (case a5 => k_is)
    (case l5 => k_is)
    (case c5 => k_is)
    (case k5 => k_is)
    (case a6 => k_is)
    (case l6 => k_is)
    (case c6 => k_is)
    (case k6 => k_is)
    (case a7 => k_is)
    (case l7 => k_is)
    (case c7 => k_is)
    (case k7 => k_is)
    (case a8 => k_is)
    (case l8 => k_is)
    (case c8 => k_is)
    (case k8 => k_is)
    (case a9 => k_is)
    (case l9 => k_is)
    (case c9 => k_is)
    (case k9 => k_is)
    (case a10 => k_is)
    (case l10 => k_is)
    (case c10 => k_is)
    (case k10 => k_is)
    (case a11 => k_is)
    (case l11 => k_is)
    (case c11 => k_is)
    (case k11 => k_is)
    (case z0 => k_is)
    (case z1 => k_is)
    (case z2 => k_is)
    (case z3 => k_is)
    (case z4 => k_is)
    (case z5 => k_is)
    (case z6 => k_is)
    (case z7 => k_is)
    (case z8 => k_is)
    (case z9 => k_is)
    (case z10 => k_is)
    (case q0 => k_is)
    (case q1 => k_is)
    (case q2 => k_is)
    (case u_StoneError => k_is)
    (case ux_StoneError => k_exc)
    (case uk_StoneError => k_is)
    (case ut_StoneError => k_is)
    (case ui_StoneError => k_is)
    (case ug_StoneError => k_is)
    (case un_StoneError => k_is)
    (case us_StoneError => k_is)
    (case ud_StoneError => k_is)
    (case uc_StoneError => k_is)
    (case um_StoneError => k_is)
    (case u_NoText => k_is)
    (case ux_NoText => k_exc)
    (case uk_NoText => k_is)
    (case ut_NoText => k_is)
    (case ui_NoText => k_is)
    (case ug_NoText => k_is)
    (case un_NoText => k_is)
    (case us_NoText => k_is)
    (case ud_NoText => k_is)
    (case uc_NoText => k_is)
    (case um_NoText => k_is)
    (case u_NoLaying => k_is)
    (case ux_NoLaying => k_exc)
    (case uk_NoLaying => k_is)
    (case ut_NoLaying => k_is)
    (case ui_NoLaying => k_is)
    (case ug_NoLaying => k_is)
    (case un_NoLaying => k_is)
    (case us_NoLaying => k_is)
    (case ud_NoLaying => k_is)
    (case uc_NoLaying => k_is)
    (case um_NoLaying => k_is)
    (case u_NoStone => k_is)
    (case ux_NoStone => k_exc)
    (case uk_NoStone => k_is)
    (case ut_NoStone => k_is)
    (case ui_NoStone => k_is)
    (case ug_NoStone => k_is)
    (case un_NoStone => k_is)
    (case us_NoStone => k_is)
    (case ud_NoStone => k_is)
    (case uc_NoStone => k_is)
    (case um_NoStone => k_is)
    (case u_NoStones => k_is)
    (case ux_NoStones => k_exc)
    (case uk_NoStones => k_is)
    (case ut_NoStones => k_is)
    (case ui_NoStones => k_is)
    (case ug_NoStones => k_is)
    (case un_NoStones => k_is)
    (case us_NoStones => k_is)
    (case ud_NoStones => k_is)
    (case uc_NoStones => k_is)
    (case um_NoStones => k_is)
    (case w_n => k_is)
    (case w_t => k_is)
    (case s_NoText_NoLaying => k_is)
    (case s_NoText_NoStone => k_is)
    (case s_NoText_NoStones => k_is)
    (case s_NoLaying_NoLaying => k_is)
    (case s_NoStone_NoStone => k_is)
    (case s_NoStones_NoStones => k_is)
    (case s_NoText_NoText => k_is)
    (case s_NoText_StoneError => k_is)
