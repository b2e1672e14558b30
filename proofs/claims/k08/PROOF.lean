import PyProof.Rows.All
import Wide.All
import OpenK.AllK
import Wide.FinOn
import HandS.ForMost
import HandS.ForExc
import HandS.IsInst
import HandS.Wide
import HandS.WideBits
import HandS.TupAny
import HandS.TupMul
import HandS.SortInts
import KE.GoesEnum
import HandS.Zip
import HandS.CallSlots
import HandS.Defaults
import KE.KDictPairs
import HandS.More
import HandS.Exc
import HandS.ExcInit
import HandS.ExcField
import KE.KExcInit
import HandS.TryMany
import PyProof.ReprReads
import PyProof.ReprRoads
import PyProof.ReprBulk
import HandS.Star
import HandS.HeadHook1
import HandS.HeadHook2
import PyProof.ExcBaseAll.IndexError
import PyProof.ExcBaseAll.OverflowError
import PyProof.ExcBaseAll.LookupError
import PyProof.ExcBaseAll.RuntimeError
import PyProof.Rows.ReprOcc
import KE.KStateDown
import HandS.Head0
import HandS.Head1
import HandS.Head2
import HandS.HeadEnd
import PySem.Challenge.RW_heapeffects_k08_parts_of_programs
set_option Elab.async false
set_option linter.all false
set_option maxRecDepth 100000
set_option maxHeartbeats 0
/-! A mirror of a def: what its body makes of plain data; lists that a def owns are told apart from those that others may hold. -/
namespace M
open PySem L2

/-- plain data -/
inductive D where
  | non | bl (b : Bool) | int (i : Int) | str (s : Str) | tup (l : List D) | lst (l : List D) | frl (l : List D) | dct (l : List (Key × D)) | obj (c : Nat) (fs : List (Str × D)) | ty (n : String) | gl (x : Str)

/-- what the written part gives: classes by number -/
structure Cfg where
  K : PySem.W.Frag
  ct : Nat → Addr
  xt : Nat → Value
  ga : Str → Addr
  xa : Option V := none
  P : Hp → Prop := fun _ => True
  mono : ∀ {G G' : Hp}, Same G G' → P G → P G' := by exact fun _ _ => trivial

mutual
/-- the value v stands for the data d in the heap G -/
inductive Rep (c : Cfg) (G : Hp) : V → D → Prop
  | non : Rep c G .non .non
  | bl (b : Bool) : Rep c G (.bl b) (.bl b)
  | int (i : Int) : Rep c G (.int i) (.int i)
  | str (s : Str) : Rep c G (.str s) (.str s)
  | ty (n : String) : Rep c G (.ty n) (.ty n)
  | gl (x : Str) : Rep c G (.ref (c.ga x)) (.gl x)
  | tup {a : Addr} {vs : List V} {ds : List D} : SqT c.K G a vs → Reps c G vs ds → Rep c G (.ref a) (.tup ds)
  | lst {a : Addr} {vs : List V} {ds : List D} : G a = some (.lst vs) → Reps c G vs ds → Rep c G (.ref a) (.lst ds)
  | frl {a : Addr} {vs : List V} {ds : List D} : SqL c.K G a vs → Reps c G vs ds → Rep c G (.ref a) (.frl ds)
  | dct {a : Addr} {kvs : List (Key × V)} {ds : List (Key × D)} : G a = some (.dK kvs) → kvs.map (·.1) = ds.map (·.1) → Reps c G (kvs.map (·.2)) (ds.map (·.2)) → Rep c G (.ref a) (.dct ds)
  | obj {a dx : Addr} {n : Nat} {fs : List (Str × V)} {ds : List (Str × D)} : G a = some (.ins (c.ct n) dx fs) → fs.map (·.1) = ds.map (·.1) → Reps c G (fs.map (·.2)) (ds.map (·.2)) → Rep c G (.ref a) (.obj n ds)
inductive Reps (c : Cfg) (G : Hp) : List V → List D → Prop
  | nil : Reps c G [] []
  | cons {v : V} {d : D} {vs : List V} {ds : List D} : Rep c G v d → Reps c G vs ds → Reps c G (v :: vs) (d :: ds)
end

theorem rd_mono {H H' : Hp} {a : Addr} {u : HO} (e : Same H H') (h : Rd H a u) : Rd H' a u := by
  rcases h with h | ⟨o, h⟩
  · exact Or.inl (e a _ h)
  · exact Or.inr ⟨o, e a _ h⟩
theorem sqt_mono {K : PySem.W.Frag} {H H' : Hp} {a : Addr} {xs : List V} (e : Same H H') (h : SqT K H a xs) : SqT K H' a xs := by
  rcases h with h | h
  · exact Or.inl (rd_mono e h)
  · exact Or.inr h
theorem sql_mono {K : PySem.W.Frag} {H H' : Hp} {a : Addr} {xs : List V} (e : Same H H') (h : SqL K H a xs) : SqL K H' a xs := by
  rcases h with h | h
  · exact Or.inl (rd_mono e h)
  · exact Or.inr h
mutual
theorem Rep.mono {c : Cfg} {G G' : Hp} (e : Same G G') : ∀ {v : V} {d : D}, Rep c G v d → Rep c G' v d
  | _, _, .non => .non
  | _, _, .bl b => .bl b
  | _, _, .int i => .int i
  | _, _, .str s => .str s
  | _, _, .ty s => .ty s
  | _, _, .gl s => .gl s
  | _, _, .tup h r => .tup (sqt_mono e h) (Reps.mono e r)
  | _, _, .lst h r => .lst (e _ _ h) (Reps.mono e r)
  | _, _, .frl h r => .frl (sql_mono e h) (Reps.mono e r)
  | _, _, .dct h k r => .dct (e _ _ h) k (Reps.mono e r)
  | _, _, .obj h k r => .obj (e _ _ h) k (Reps.mono e r)
theorem Reps.mono {c : Cfg} {G G' : Hp} (e : Same G G') : ∀ {vs : List V} {ds : List D}, Reps c G vs ds → Reps c G' vs ds
  | _, _, .nil => .nil
  | _, _, .cons h t => .cons (Rep.mono e h) (Reps.mono e t)
end
section
variable {c : Cfg} {G : Hp}
theorem Reps.length : ∀ {vs : List V} {ds : List D}, Reps c G vs ds → vs.length = ds.length
  | _, _, .nil => rfl
  | _, _, .cons _ t => by simp [Reps.length t]
theorem Reps.get : ∀ {vs : List V} {ds : List D} {i : Nat} {d : D}, Reps c G vs ds → ds[i]? = some d → ∃ v, vs[i]? = some v ∧ Rep c G v d
  | _, _, _, _, .nil, e => by simp at e
  | _, _, 0, _, .cons h _, e => by simp at e; subst e; exact ⟨_, rfl, h⟩
  | _, _, i + 1, d, .cons _ t, e => by
    obtain ⟨v, h1, h2⟩ := Reps.get (i := i) (d := d) t (by simpa using e)
    exact ⟨v, by simpa using h1, h2⟩
theorem Reps.getV : ∀ {vs : List V} {ds : List D} {i : Nat} {v : V}, Reps c G vs ds → vs[i]? = some v → ∃ d, ds[i]? = some d ∧ Rep c G v d
  | _, _, _, _, .nil, e => by simp at e
  | _, _, 0, _, .cons h _, e => by simp at e; subst e; exact ⟨_, rfl, h⟩
  | _, _, i + 1, v, .cons _ t, e => by
    obtain ⟨d, h1, h2⟩ := Reps.getV (i := i) (v := v) t (by simpa using e)
    exact ⟨d, by simpa using h1, h2⟩
theorem Reps.append : ∀ {vs ws : List V} {ds es : List D}, Reps c G vs ds → Reps c G ws es → Reps c G (vs ++ ws) (ds ++ es)
  | _, _, _, _, .nil, s => s
  | _, _, _, _, .cons r t, s => .cons r (Reps.append t s)
theorem Reps.take : ∀ {vs : List V} {ds : List D} (n : Nat), Reps c G vs ds → Reps c G (vs.take n) (ds.take n)
  | _, _, 0, _ => .nil
  | _, _, _ + 1, .nil => .nil
  | _, _, n + 1, .cons r t => .cons r (Reps.take n t)
theorem Reps.drop : ∀ {vs : List V} {ds : List D} (n : Nat), Reps c G vs ds → Reps c G (vs.drop n) (ds.drop n)
  | _, _, 0, r => r
  | _, _, _ + 1, .nil => .nil
  | _, _, n + 1, .cons _ t => Reps.drop n t
theorem Reps.set : ∀ {vs : List V} {ds : List D} {v : V} {d : D} (n : Nat), Rep c G v d → Reps c G vs ds → Reps c G (vs.set n v) (ds.set n d)
  | _, _, _, _, _, _, .nil => .nil
  | _, _, _, _, 0, r, .cons _ t => .cons r t
  | _, _, _, _, n + 1, r, .cons q t => .cons q (Reps.set n r t)
theorem Reps.repl {v : V} {d : D} (r : Rep c G v d) : ∀ n, Reps c G (List.replicate n v) (List.replicate n d)
  | 0 => .nil
  | n + 1 => .cons r (Reps.repl r n)
theorem Reps.rev {vs : List V} {ds : List D} (h : Reps c G vs ds) : Reps c G vs.reverse ds.reverse := by
  have : ∀ {vs : List V} {ds : List D}, Reps c G vs ds → Reps c G vs.reverse ds.reverse := by
    intro vs
    induction vs with
    | nil => intro ds h; cases h; exact .nil
    | cons v vs ih => intro ds h; cases h with | cons r t => simpa using (ih t).append (.cons r .nil)
  exact this h
theorem Reps.ints : ∀ (l : List Int), Reps c G (l.map V.int) (l.map D.int)
  | [] => .nil
  | i :: l => .cons (.int i) (Reps.ints l)
theorem Reps.of_ints : ∀ {vs : List V} {l : List Int}, Reps c G vs (l.map D.int) → vs = l.map V.int
  | [], [], _ => rfl
  | _ :: _, i :: l, .cons r t => by cases r; rw [Reps.of_ints t]; rfl
end

/-- what is owned: a list, a dict -/
inductive MO where
  | lst (l : List D) | dct (l : List (Key × D))
def MO.d : MO → D
  | .lst l => .lst l
  | .dct l => .dct l
/-- a slot of a def: not assigned; data that others may hold; data that this def owns; data that a caller lent -/
inductive Slot where
  | un | fz (d : D) | ow (m : MO) | bo (m : MO) | xv
abbrev Ev := List Slot
/-- what an expression gives: data; a new list; what stands in a slot -/
inductive RV where
  | fz (d : D) | ow (m : MO) | sl (j : Nat)
/-- an exception: its class by number, its fields -/
structure Exn where
  cls : Nat
  fs : List (Str × D)
inductive Res (α : Type) where
  | ok (a : α) (E : Ev) | ex (x : Exn) (E : Ev) | bad
inductive Out where
  | nx (E : Ev) | rt (r : RV) (E : Ev) | bk (E : Ev) | ct (E : Ev) | ex (x : Exn) (E : Ev) | bad

def OwnRel (c : Cfg) (G H : Hp) (p : Addr) : MO → Prop
  | .lst ds => ∃ vs, H p = some (.lst vs) ∧ Reps c G vs ds
  | .dct ds => ∃ kvs, H p = some (.dK kvs) ∧ kvs.map (·.1) = ds.map (·.1) ∧ Reps c G (kvs.map (·.2)) (ds.map (·.2))
theorem OwnRel.there {c : Cfg} {G H : Hp} {p : Addr} {m : MO} (h : OwnRel c G H p m) : ∃ o, H p = some o := by
  cases m with
  | lst ds => obtain ⟨_, h, _⟩ := h; exact ⟨_, h⟩
  | dct ds => obtain ⟨_, h, _⟩ := h; exact ⟨_, h⟩
theorem OwnRel.mono {c : Cfg} {G G' H H' : Hp} {p : Addr} {m : MO} (e : Same G G') (k : H' p = H p) (h : OwnRel c G H p m) : OwnRel c G' H' p m := by
  cases m with
  | lst ds => obtain ⟨vs, h, r⟩ := h; exact ⟨vs, by rw [k]; exact h, r.mono e⟩
  | dct ds => obtain ⟨vs, h, q, r⟩ := h; exact ⟨vs, by rw [k]; exact h, q, r.mono e⟩
theorem OwnRel.same {c : Cfg} {G G' H H' : Hp} {p : Addr} {m : MO} (e : Same G G') (k : Same H H') (h : OwnRel c G H p m) : OwnRel c G' H' p m := by
  obtain ⟨o, ho⟩ := h.there
  exact h.mono e (by rw [ho, k _ _ ho])
/-- it is given up: from now on it is data -/
theorem OwnRel.froze {c : Cfg} {G H : Hp} {p : Addr} {m : MO} {o : HO} (h : OwnRel c G H p m) (hp : H p = some o) (e : Same G (upd G p o)) : Rep c (upd G p o) (.ref p) m.d := by
  cases m with
  | lst ds =>
    obtain ⟨vs, h, r⟩ := h
    rw [hp] at h
    cases h
    exact .lst upd_same (r.mono e)
  | dct ds =>
    obtain ⟨vs, h, q, r⟩ := h
    rw [hp] at h
    cases h
    exact .dct upd_same q (r.mono e)

/-- a def's frame: the data and the heap at its start, the addresses that it was lent -/
structure Fr where
  G0 : Hp
  H0 : Hp
  bo : Nat → Option Addr
def Own (E : Ev) (σ : L2.St) (i : Nat) (p : Addr) : Prop := (∃ m, E[i]? = some (Slot.ow m) ∨ E[i]? = some (Slot.bo m)) ∧ σ[i]? = some (some (V.ref p))

structure RS (c : Cfg) (f : Fr) (G : Hp) (E : Ev) (σ : L2.St) (H : Hp) : Prop where
  gh : Same G H
  g0 : Same f.G0 G
  new : ∀ a o, G a = some o → f.G0 a ≠ none ∨ f.H0 a = none
  fr : ∀ a o, f.H0 a = some o → (∀ i, f.bo i ≠ some a) → H a = some o
  len : σ.length = E.length
  fz : ∀ (i : Nat) d, E[i]? = some (Slot.fz d) → ∃ v, σ[i]? = some (some v) ∧ Rep c G v d
  ow : ∀ (i : Nat) m, E[i]? = some (Slot.ow m) → ∃ p, σ[i]? = some (some (V.ref p)) ∧ OwnRel c G H p m ∧ G p = none ∧ f.H0 p = none
  bo : ∀ (i : Nat) m, E[i]? = some (Slot.bo m) → ∃ p, σ[i]? = some (some (V.ref p)) ∧ OwnRel c G H p m ∧ G p = none ∧ f.bo i = some p
  bos : ∀ (i : Nat) p, f.bo i = some p → ∃ m, E[i]? = some (Slot.bo m)
  dis : ∀ (i j : Nat) p, i ≠ j → Own E σ i p → Own E σ j p → False
  inv : c.P G
  xv : ∀ (i : Nat), E[i]? = some Slot.xv → ∃ v, c.xa = some v ∧ σ[i]? = some (some v)

def RelR (c : Cfg) (f : Fr) (G : Hp) (E : Ev) (σ : L2.St) (H : Hp) (v : V) : RV → Prop
  | .fz d => Rep c G v d
  | .ow m => ∃ p, v = .ref p ∧ OwnRel c G H p m ∧ G p = none ∧ f.H0 p = none ∧ ∀ i, ¬ Own E σ i p
  | .sl j => σ[j]? = some (some v)
def RelX (c : Cfg) (G H : Hp) (cls : Value) (d : Option Addr) (x : Exn) : Prop :=
  cls = c.xt x.cls ∧ (x.fs = [] ∨ ∃ dx fs, d = some dx ∧ G dx = some (.xd fs) ∧ fs.map (·.1) = x.fs.map (·.1) ∧ Reps c G (fs.map (·.2)) (x.fs.map (·.2)))

section
variable {c : Cfg} {f : Fr} {G G' : Hp} {E : Ev} {σ : L2.St} {H H' : Hp}
theorem RS.ownG (R : RS c f G E σ H) {i : Nat} {p : Addr} (h : Own E σ i p) : G p = none ∧ ∃ m, OwnRel c G H p m := by
  obtain ⟨⟨m, h | h⟩, hs⟩ := h
  · obtain ⟨q, h1, h2, h3, _⟩ := R.ow i m h
    rw [hs] at h1
    cases h1
    exact ⟨h3, m, h2⟩
  · obtain ⟨q, h1, h2, h3, _⟩ := R.bo i m h
    rw [hs] at h1
    cases h1
    exact ⟨h3, m, h2⟩
/-- a free place was free at the start -/
theorem RS.h0 (R : RS c f G E σ H) {a : Addr} (h : H a = none) : f.H0 a = none := by
  cases q : f.H0 a with
  | none => rfl
  | some o =>
    by_cases hb : ∃ i, f.bo i = some a
    · obtain ⟨i, hi⟩ := hb
      obtain ⟨m, hm⟩ := R.bos i a hi
      obtain ⟨p, _, h2, _, h4⟩ := R.bo i m hm
      rw [hi] at h4
      cases h4
      obtain ⟨o, ho⟩ := h2.there
      rw [h] at ho
      cases ho
    · rw [R.fr a o q (fun i e => hb ⟨i, e⟩)] at h
      cases h
/-- the heap grows, and so does the data -/
structure Gro (G H G' H' : Hp) : Prop where
  hh : Same H H'
  gg : Same G G'
  gh : Same G' H'
  new : ∀ a o, G' a = some o → G a = some o ∨ H a = none
theorem Gro.refl (e : Same G H) : Gro G H G H := ⟨.refl H, .refl G, e, fun a o h => .inl h⟩
theorem RS.gro (R : RS c f G E σ H) (S : Gro G H G' H') : RS c f G' E σ H' where
  gh := S.gh
  g0 := R.g0.trans S.gg
  new := fun a o h => by
    rcases S.new a o h with h | h
    · exact R.new a o h
    · exact .inr (R.h0 h)
  fr := fun a o h hb => S.hh a o (R.fr a o h hb)
  len := R.len
  fz := fun i d h => by
    obtain ⟨v, h1, h2⟩ := R.fz i d h
    exact ⟨v, h1, h2.mono S.gg⟩
  ow := fun i m h => by
    obtain ⟨p, h1, h2, h3, h4⟩ := R.ow i m h
    refine ⟨p, h1, h2.same S.gg S.hh, ?_, h4⟩
    cases q : G' p with
    | none => rfl
    | some o =>
      obtain ⟨u, hu⟩ := h2.there
      rcases S.new p o q with z | z
      · rw [h3] at z; cases z
      · rw [hu] at z; cases z
  bo := fun i m h => by
    obtain ⟨p, h1, h2, h3, h4⟩ := R.bo i m h
    refine ⟨p, h1, h2.same S.gg S.hh, ?_, h4⟩
    cases q : G' p with
    | none => rfl
    | some o =>
      obtain ⟨u, hu⟩ := h2.there
      rcases S.new p o q with z | z
      · rw [h3] at z; cases z
      · rw [hu] at z; cases z
  bos := R.bos
  dis := R.dis
  inv := c.mono S.gg R.inv
  xv := R.xv
/-- a new list is given up -/
theorem RS.freeze (R : RS c f G E σ H) {v : V} {m : MO} (h : RelR c f G E σ H v (.ow m)) : ∃ G', Same G G' ∧ RS c f G' E σ H ∧ Rep c G' v m.d := by
  obtain ⟨p, rfl, ho, hg, h0, hn⟩ := h
  obtain ⟨o, hp⟩ := ho.there
  have e : Same G (upd G p o) := fun b u hb => by rw [upd_ne (ne_of_none hb hg)]; exact hb
  refine ⟨upd G p o, e, ?_, ho.froze hp e⟩
  exact {
    gh := fun b u hb => by
      by_cases z : b = p
      · subst z; rw [upd_same] at hb; cases hb; exact hp
      · rw [upd_ne z] at hb; exact R.gh b u hb
    g0 := R.g0.trans e
    new := fun b u hb => by
      by_cases z : b = p
      · subst z; exact .inr h0
      · rw [upd_ne z] at hb; exact R.new b u hb
    fr := R.fr
    len := R.len
    fz := fun i d h => by
      obtain ⟨v, h1, h2⟩ := R.fz i d h
      exact ⟨v, h1, h2.mono e⟩
    ow := fun i m' h => by
      obtain ⟨q, h1, h2, h3, h4⟩ := R.ow i m' h
      have z : q ≠ p := fun z => hn i ⟨⟨m', .inl h⟩, by rw [← z]; exact h1⟩
      exact ⟨q, h1, h2.mono e rfl, by rw [upd_ne z]; exact h3, h4⟩
    bo := fun i m' h => by
      obtain ⟨q, h1, h2, h3, h4⟩ := R.bo i m' h
      have z : q ≠ p := fun z => hn i ⟨⟨m', .inr h⟩, by rw [← z]; exact h1⟩
      exact ⟨q, h1, h2.mono e rfl, by rw [upd_ne z]; exact h3, h4⟩
    bos := R.bos
    dis := R.dis
    inv := c.mono e R.inv
    xv := R.xv }
theorem get_set {α : Type} {l : List α} {i j : Nat} {a b : α} (h : (l.set i a)[j]? = some b) : (i = j ∧ b = a) ∨ (i ≠ j ∧ l[j]? = some b) := by
  by_cases e : i = j
  · subst e
    by_cases q : i < l.length
    · rw [List.getElem?_set_self q] at h
      exact .inl ⟨rfl, (Option.some.inj h).symm⟩
    · rw [List.getElem?_eq_none (by rw [List.length_set]; omega)] at h
      cases h
  · rw [List.getElem?_set_ne e] at h
    exact .inr ⟨e, h⟩
theorem own_set_fz {i j : Nat} {p : Addr} {d : D} (h : Own (E.set i (Slot.fz d)) σ j p) : i ≠ j ∧ Own E σ j p := by
  obtain ⟨⟨m, h⟩, hs⟩ := h
  rcases h with h | h
  · rcases get_set h with ⟨_, z⟩ | ⟨n, z⟩
    · cases z
    · exact ⟨n, ⟨m, .inl z⟩, hs⟩
  · rcases get_set h with ⟨_, z⟩ | ⟨n, z⟩
    · cases z
    · exact ⟨n, ⟨m, .inr z⟩, hs⟩
/-- what a slot owns is given up -/
theorem RS.freezeSlot (R : RS c f G E σ H) {i : Nat} {m : MO} {v : V} (h : E[i]? = some (Slot.ow m)) (hv : σ[i]? = some (some v)) :
    ∃ G', Same G G' ∧ RS c f G' (E.set i (Slot.fz m.d)) σ H ∧ Rep c G' v m.d := by
  obtain ⟨p, h1, ho, hg, h0⟩ := R.ow i m h
  rw [hv] at h1
  cases h1
  obtain ⟨o, hp⟩ := ho.there
  have e : Same G (upd G p o) := fun b u hb => by rw [upd_ne (ne_of_none hb hg)]; exact hb
  refine ⟨upd G p o, e, ?_, ho.froze hp e⟩
  have oi : Own E σ i p := ⟨⟨m, .inl h⟩, hv⟩
  exact {
    gh := fun b u hb => by
      by_cases z : b = p
      · subst z; rw [upd_same] at hb; cases hb; exact hp
      · rw [upd_ne z] at hb; exact R.gh b u hb
    g0 := R.g0.trans e
    new := fun b u hb => by
      by_cases z : b = p
      · subst z; exact .inr h0
      · rw [upd_ne z] at hb; exact R.new b u hb
    fr := R.fr
    len := by rw [List.length_set]; exact R.len
    fz := fun j d h => by
      rcases get_set h with ⟨rfl, z⟩ | ⟨n, z⟩
      · cases z; exact ⟨_, hv, ho.froze hp e⟩
      · obtain ⟨v, h1, h2⟩ := R.fz j d z
        exact ⟨v, h1, h2.mono e⟩
    ow := fun j m' h => by
      rcases get_set h with ⟨_, z⟩ | ⟨n, hz⟩
      · cases z
      obtain ⟨q, h1, h2, h3, h4⟩ := R.ow j m' hz
      have z : q ≠ p := fun z => R.dis i j p n oi ⟨⟨m', .inl hz⟩, by rw [← z]; exact h1⟩
      exact ⟨q, h1, h2.mono e rfl, by rw [upd_ne z]; exact h3, h4⟩
    bo := fun j m' h => by
      rcases get_set h with ⟨_, z⟩ | ⟨n, hz⟩
      · cases z
      obtain ⟨q, h1, h2, h3, h4⟩ := R.bo j m' hz
      have z : q ≠ p := fun z => R.dis i j p n oi ⟨⟨m', .inr hz⟩, by rw [← z]; exact h1⟩
      exact ⟨q, h1, h2.mono e rfl, by rw [upd_ne z]; exact h3, h4⟩
    bos := fun j q hq => by
      obtain ⟨m', hm⟩ := R.bos j q hq
      have n : i ≠ j := fun z => by subst z; rw [h] at hm; cases hm
      exact ⟨m', by rw [List.getElem?_set_ne n]; exact hm⟩
    dis := fun j k q n a b => R.dis j k q n (own_set_fz a).2 (own_set_fz b).2
    inv := c.mono e R.inv
    xv := fun j h => by
      rcases get_set h with ⟨_, z⟩ | ⟨n, z⟩
      · cases z
      · exact R.xv j z }
end
end M

namespace M
open PySem L2

/-! ### what stands where, looked at -/
def RV.settle : RV → RV
  | .ow m => .fz m.d
  | r => r
def pk (E : Ev) : RV → Option D
  | .fz d => some d
  | .ow m => some m.d
  | .sl j => match E[j]? with
    | some (.fz d) => some d
    | some (.ow m) => some m.d
    | some (.bo m) => some m.d
    | _ => none
def fzn (E : Ev) : RV → Option (D × Ev)
  | .fz d => some (d, E)
  | .ow m => some (m.d, E)
  | .sl j => match E[j]? with
    | some (.fz d) => some (d, E)
    | some (.ow m) => some (m.d, E.set j (.fz m.d))
    | _ => none
def Pk (c : Cfg) (G H : Hp) (v : V) : D → Prop
  | .lst ds => ∃ a vs, v = .ref a ∧ H a = some (.lst vs) ∧ Reps c G vs ds
  | .frl ds => ∃ a vs, v = .ref a ∧ SqL c.K H a vs ∧ Reps c G vs ds
  | .dct ds => ∃ a kvs, v = .ref a ∧ H a = some (.dK kvs) ∧ kvs.map (·.1) = ds.map (·.1) ∧ Reps c G (kvs.map (·.2)) (ds.map (·.2))
  | d => Rep c G v d
section
variable {c : Cfg} {f : Fr} {G G' : Hp} {E : Ev} {σ : L2.St} {H H' : Hp} {v : V} {d : D} {m : MO} {r : RV}
theorem Rep.pk (e : Same G H) (h : Rep c G v d) : Pk c G H v d := by
  cases h with
  | lst h r => exact ⟨_, _, rfl, e _ _ h, r⟩
  | frl h r => exact ⟨_, _, rfl, sql_mono e h, r⟩
  | dct h k r => exact ⟨_, _, rfl, e _ _ h, k, r⟩
  | non => exact .non
  | bl b => exact .bl b
  | int i => exact .int i
  | str s => exact .str s
  | ty s => exact .ty s
  | gl s => exact .gl s
  | tup h r => exact .tup h r
  | obj h k r => exact .obj h k r
theorem Pk.rep (e : Same G H) (h : Pk c G H v d) : Rep c H v d := by
  cases d with
  | lst ds => obtain ⟨a, vs, rfl, h, r⟩ := h; exact .lst h (r.mono e)
  | frl ds => obtain ⟨a, vs, rfl, h, r⟩ := h; exact .frl h (r.mono e)
  | dct ds => obtain ⟨a, vs, rfl, h, k, r⟩ := h; exact .dct h k (r.mono e)
  | _ => exact Rep.mono e h
theorem OwnRel.pk {p : Addr} (h : OwnRel c G H p m) : Pk c G H (.ref p) m.d := by
  cases m with
  | lst ds => obtain ⟨vs, h, r⟩ := h; exact ⟨_, _, rfl, h, r⟩
  | dct ds => obtain ⟨vs, h, k, r⟩ := h; exact ⟨_, _, rfl, h, k, r⟩
theorem RS.pk (R : RS c f G E σ H) (h : RelR c f G E σ H v r) (e : M.pk E r = some d) : Pk c G H v d := by
  cases r with
  | fz d' => cases e; exact Rep.pk R.gh h
  | ow m => cases e; obtain ⟨p, rfl, h, _⟩ := h; exact h.pk
  | sl j =>
    have hs : σ[j]? = some (some v) := h
    cases q : E[j]? with
    | none => simp [M.pk, q] at e
    | some s =>
      cases s with
      | un => simp [M.pk, q] at e
      | xv => simp [M.pk, q] at e
      | fz d' =>
        simp [M.pk, q] at e
        subst e
        obtain ⟨u, h1, h2⟩ := R.fz j d' q
        rw [hs] at h1
        cases h1
        exact Rep.pk R.gh h2
      | ow m =>
        simp [M.pk, q] at e
        subst e
        obtain ⟨p, h1, h2, _⟩ := R.ow j m q
        rw [hs] at h1
        cases h1
        exact h2.pk
      | bo m =>
        simp [M.pk, q] at e
        subst e
        obtain ⟨p, h1, h2, _⟩ := R.bo j m q
        rw [hs] at h1
        cases h1
        exact h2.pk
theorem RS.frz {E' : Ev} (R : RS c f G E σ H) (h : RelR c f G E σ H v r) (e : fzn E r = some (d, E')) : ∃ G', Same G G' ∧ RS c f G' E' σ H ∧ Rep c G' v d := by
  cases r with
  | fz d' => cases e; exact ⟨G, .refl G, R, h⟩
  | ow m => cases e; exact R.freeze h
  | sl j =>
    have hs : σ[j]? = some (some v) := h
    cases q : E[j]? with
    | none => simp [fzn, q] at e
    | some s =>
      cases s with
      | un => simp [fzn, q] at e
      | xv => simp [fzn, q] at e
      | bo m => simp [fzn, q] at e
      | fz d' =>
        simp [fzn, q] at e
        obtain ⟨rfl, rfl⟩ := e
        obtain ⟨u, h1, h2⟩ := R.fz j d' q
        rw [hs] at h1
        cases h1
        exact ⟨G, .refl G, R, h2⟩
      | ow m =>
        simp [fzn, q] at e
        obtain ⟨rfl, rfl⟩ := e
        exact R.freezeSlot q hs
/-- a fresh result settled -/
theorem RS.settle (R : RS c f G E σ H) (h : RelR c f G E σ H v r) : ∃ G', Same G G' ∧ RS c f G' E σ H ∧ RelR c f G' E σ H v r.settle := by
  cases r with
  | fz d' => exact ⟨G, .refl G, R, h⟩
  | sl j => exact ⟨G, .refl G, R, h⟩
  | ow m => exact R.freeze h
theorem RelR.mono_settled {E' : Ev} (e : Same G G') (h : RelR c f G E σ H v r.settle) : RelR c f G' E' σ H' v r.settle := by
  cases r with
  | fz d' => exact Rep.mono e h
  | sl j => exact h
  | ow m => exact Rep.mono e h

/-! ### slots stored -/
theorem own_of_set_fz {i j : Nat} {p : Addr} {d : D} {x : Option V} (h : Own (E.set i (Slot.fz d)) (σ.set i x) j p) : i ≠ j ∧ Own E σ j p := by
  obtain ⟨n, h1, h2⟩ := own_set_fz h
  rw [List.getElem?_set_ne n] at h2
  exact ⟨n, h1, h2⟩
theorem RS.setFz (R : RS c f G E σ H) {i : Nat} (hb : ∀ m, E[i]? ≠ some (Slot.bo m)) (h : Rep c G v d) : RS c f G (E.set i (.fz d)) (σ.set i (some v)) H where
  gh := R.gh
  g0 := R.g0
  new := R.new
  fr := R.fr
  len := by rw [List.length_set, List.length_set]; exact R.len
  fz := fun j d' e => by
    rcases get_set e with ⟨rfl, z⟩ | ⟨n, z⟩
    · cases z
      have hl : i < σ.length := by
        rw [R.len]
        have := (List.getElem?_eq_some_iff.mp e).1
        rwa [List.length_set] at this
      exact ⟨v, List.getElem?_set_self hl, h⟩
    · obtain ⟨u, h1, h2⟩ := R.fz j d' z
      exact ⟨u, by rw [List.getElem?_set_ne n]; exact h1, h2⟩
  ow := fun j m e => by
    rcases get_set e with ⟨_, z⟩ | ⟨n, z⟩
    · cases z
    · obtain ⟨p, h1, h2⟩ := R.ow j m z
      exact ⟨p, by rw [List.getElem?_set_ne n]; exact h1, h2⟩
  bo := fun j m e => by
    rcases get_set e with ⟨_, z⟩ | ⟨n, z⟩
    · cases z
    · obtain ⟨p, h1, h2⟩ := R.bo j m z
      exact ⟨p, by rw [List.getElem?_set_ne n]; exact h1, h2⟩
  bos := fun j p e => by
    obtain ⟨m, hm⟩ := R.bos j p e
    have n : i ≠ j := fun z => by subst z; exact hb m hm
    exact ⟨m, by rw [List.getElem?_set_ne n]; exact hm⟩
  dis := fun j k p n a b => R.dis j k p n (own_of_set_fz a).2 (own_of_set_fz b).2
  inv := R.inv
  xv := fun j e => by
    rcases get_set e with ⟨_, z⟩ | ⟨n, z⟩
    · cases z
    · rw [List.getElem?_set_ne n]; exact R.xv j z
theorem RS.setOw (R : RS c f G E σ H) {i : Nat} (hb : ∀ m, E[i]? ≠ some (Slot.bo m)) (h : RelR c f G E σ H v (.ow m)) : RS c f G (E.set i (.ow m)) (σ.set i (some v)) H := by
  obtain ⟨p, rfl, ho, hg, h0, hn⟩ := h
  have own : ∀ {j : Nat} {q : Addr}, Own (E.set i (Slot.ow m)) (σ.set i (some (V.ref p))) j q → (j = i ∧ q = p) ∨ (i ≠ j ∧ Own E σ j q) := fun {j q} z => by
    obtain ⟨⟨m', z⟩, zs⟩ := z
    rcases get_set zs with ⟨e, z1⟩ | ⟨n, z1⟩
    · cases z1
      exact .inl ⟨e.symm, rfl⟩
    · refine .inr ⟨n, ⟨m', ?_⟩, z1⟩
      rw [List.getElem?_set_ne n] at z
      exact z
  exact {
    gh := R.gh
    g0 := R.g0
    new := R.new
    fr := R.fr
    len := by rw [List.length_set, List.length_set]; exact R.len
    fz := fun j d' e => by
      rcases get_set e with ⟨rfl, z⟩ | ⟨n, z⟩
      · cases z
      · obtain ⟨u, h1, h2⟩ := R.fz j d' z
        exact ⟨u, by rw [List.getElem?_set_ne n]; exact h1, h2⟩
    ow := fun j m' e => by
      rcases get_set e with ⟨rfl, z⟩ | ⟨n, z⟩
      · cases z
        have hl : i < σ.length := by
          rw [R.len]
          have := (List.getElem?_eq_some_iff.mp e).1
          rwa [List.length_set] at this
        exact ⟨p, List.getElem?_set_self hl, ho, hg, h0⟩
      · obtain ⟨p, h1, h2⟩ := R.ow j m' z
        exact ⟨p, by rw [List.getElem?_set_ne n]; exact h1, h2⟩
    bo := fun j m' e => by
      rcases get_set e with ⟨_, z⟩ | ⟨n, z⟩
      · cases z
      · obtain ⟨p, h1, h2⟩ := R.bo j m' z
        exact ⟨p, by rw [List.getElem?_set_ne n]; exact h1, h2⟩
    bos := fun j p e => by
      obtain ⟨m', hm⟩ := R.bos j p e
      have n : i ≠ j := fun z => by subst z; exact hb m' hm
      exact ⟨m', by rw [List.getElem?_set_ne n]; exact hm⟩
    dis := fun j k q n a b => by
      rcases own a with ⟨rfl, rfl⟩ | ⟨n1, a1⟩
      · rcases own b with ⟨rfl, _⟩ | ⟨_, b⟩
        · exact n rfl
        · exact hn k b
      ·
        rcases own b with ⟨rfl, rfl⟩ | ⟨_, b1⟩
        · exact hn j a1
        · exact R.dis j k q n a1 b1
    inv := R.inv
    xv := fun j e => by
      rcases get_set e with ⟨_, z⟩ | ⟨n, z⟩
      · cases z
      · rw [List.getElem?_set_ne n]; exact R.xv j z }
/-- what a slot owns (or was lent) is changed in place: the new content m', the heap changed at that place alone -/
theorem RS.change (R : RS c f G E σ H) {i : Nat} {p : Addr} {m m' : MO} {o : HO} (hs : σ[i]? = some (some (V.ref p))) (he : E[i]? = some (Slot.ow m) ∨ E[i]? = some (Slot.bo m))
    (ho : OwnRel c G (upd H p o) p m') :
    RS c f G (E.set i (match E[i]? with | some (.bo _) => .bo m' | _ => .ow m')) σ (upd H p o) := by
  have oi : Own E σ i p := ⟨⟨m, he⟩, hs⟩
  obtain ⟨hg, m0, hm0⟩ := R.ownG oi
  have hother : ∀ (j : Nat) (q : Addr), i ≠ j → Own E σ j q → q ≠ p := fun j q n h z => R.dis i j p n oi (z ▸ h)
  have hil : i < E.length := by
    rcases he with h | h <;> exact (List.getElem?_eq_some_iff.mp h).1
  have own : ∀ {j : Nat} {q : Addr} {s : Slot}, Own (E.set i s) σ j q → (j = i ∧ q = p) ∨ (i ≠ j ∧ Own E σ j q) := fun {j q s} z => by
    by_cases e : i = j
    · subst e
      obtain ⟨_, z2⟩ := z
      rw [hs] at z2
      cases z2
      exact .inl ⟨rfl, rfl⟩
    · obtain ⟨⟨m1, z1⟩, z2⟩ := z
      rw [List.getElem?_set_ne e] at z1
      exact .inr ⟨e, ⟨m1, z1⟩, z2⟩
  have ghN : Same G (upd H p o) := fun b u hb => by
    rw [upd_ne (ne_of_none hb hg)]
    exact R.gh b u hb
  exact {
    gh := ghN
    g0 := R.g0
    new := R.new
    fr := fun a u ha hb => by
      have z : a ≠ p := fun z => by
        subst z
        rcases he with h | h
        · obtain ⟨q, h1, _, _, h4⟩ := R.ow i m h
          rw [hs] at h1
          cases h1
          rw [ha] at h4
          cases h4
        · obtain ⟨q, h1, _, _, h4⟩ := R.bo i m h
          rw [hs] at h1
          cases h1
          exact hb i h4
      rw [upd_ne z]
      exact R.fr a u ha hb
    len := by rw [List.length_set]; exact R.len
    fz := fun j d e => by
      rcases get_set e with ⟨rfl, z⟩ | ⟨n, z⟩
      · rcases he with h | h <;> (rw [h] at z; cases z)
      · exact R.fz j d z
    ow := fun j m1 e => by
      rcases get_set e with ⟨rfl, z⟩ | ⟨n, z⟩
      · rcases he with h | h
        · rw [h] at z
          cases z
          obtain ⟨q, h1, _, _, h4⟩ := R.ow i m h
          rw [hs] at h1
          cases h1
          exact ⟨p, hs, ho, hg, h4⟩
        · rw [h] at z; cases z
      · obtain ⟨q, h1, h2, h3, h4⟩ := R.ow j m1 z
        have hq : q ≠ p := hother j q n ⟨⟨m1, .inl z⟩, h1⟩
        exact ⟨q, h1, h2.mono (.refl G) (by rw [upd_ne hq]), h3, h4⟩
    bo := fun j m1 e => by
      rcases get_set e with ⟨rfl, z⟩ | ⟨n, z⟩
      · rcases he with h | h
        · rw [h] at z; cases z
        · rw [h] at z
          cases z
          obtain ⟨q, h1, _, _, h4⟩ := R.bo i m h
          rw [hs] at h1
          cases h1
          exact ⟨p, hs, ho, hg, h4⟩
      · obtain ⟨q, h1, h2, h3, h4⟩ := R.bo j m1 z
        have hq : q ≠ p := hother j q n ⟨⟨m1, .inr z⟩, h1⟩
        exact ⟨q, h1, h2.mono (.refl G) (by rw [upd_ne hq]), h3, h4⟩
    bos := fun j q e => by
      by_cases n : i = j
      · subst n
        obtain ⟨m1, hm⟩ := R.bos i q e
        refine ⟨m', ?_⟩
        rw [List.getElem?_set_self hil, hm]
      · obtain ⟨m1, hm⟩ := R.bos j q e
        exact ⟨m1, by rw [List.getElem?_set_ne n]; exact hm⟩
    dis := fun j k q n a b => by
      rcases own a with ⟨rfl, rfl⟩ | ⟨n1, a1⟩
      · rcases own b with ⟨rfl, _⟩ | ⟨_, b⟩
        · exact n rfl
        · exact R.dis _ _ _ n oi b
      ·
        rcases own b with ⟨rfl, rfl⟩ | ⟨_, b1⟩
        · exact R.dis _ _ _ n a1 oi
        · exact R.dis j k q n a1 b1
    inv := R.inv
    xv := fun j e => by
      rcases get_set e with ⟨rfl, z⟩ | ⟨n, z⟩
      · rcases he with h | h <;> (rw [h] at z; cases z)
      · exact R.xv j z }
end

/-! ### judgements -/
def Res.bind {α β : Type} (r : Res α) (g : α → Ev → Res β) : Res β := match r with
  | .ok a E => g a E
  | .ex x E => .ex x E
  | .bad => .bad
def Res.out {α : Type} (r : Res α) (g : α → Ev → Out) : Out := match r with
  | .ok a E => g a E
  | .ex x E => .ex x E
  | .bad => .bad
abbrev EM := Ev → Res RV
abbrev BM := Ev → Res Bool
abbrev AM := Ev → Res (List RV)
abbrev SM := Ev → Out

def XW (c : Cfg) (W : WX) (f : Fr) (G : Hp) (σ : L2.St) (x : Exn) (E : Ev) : Prop :=
  ∀ G' cls d H', Same G G' → RS c f G' E σ H' → RelX c G' H' cls d x → W cls d σ H'
theorem XW.mono {c : Cfg} {W : WX} {f : Fr} {G G' : Hp} {σ : L2.St} {x : Exn} {E : Ev} (e : Same G G') (h : XW c W f G σ x E) : XW c W f G' σ x E := fun _ _ _ _ e' => h _ _ _ _ (e.trans e')
/-- what is wanted behind an expression -/
def postE (c : Cfg) (W : WX) (f : Fr) (G : Hp) (σ : L2.St) (r : Res RV) (Q : VK) : Prop := match r with
  | .ok r E => ∀ G' v H', Same G G' → RS c f G' E σ H' → RelR c f G' E σ H' v r → Q v H'
  | .ex x E => XW c W f G σ x E
  | .bad => False
def postT (c : Cfg) (W : WX) (f : Fr) (G : Hp) (σ : L2.St) (r : Res Bool) (Q : Bool → Hp → Prop) : Prop := match r with
  | .ok b E => ∀ G' H', Same G G' → RS c f G' E σ H' → Q b H'
  | .ex x E => XW c W f G σ x E
  | .bad => False
/-- arguments: settled -/
inductive RelRs (c : Cfg) (f : Fr) (G : Hp) (E : Ev) (σ : L2.St) (H : Hp) : List V → List RV → Prop
  | nil : RelRs c f G E σ H [] []
  | cons {v : V} {r : RV} {vs : List V} {rs : List RV} : r.settle = r → RelR c f G E σ H v r → RelRs c f G E σ H vs rs → RelRs c f G E σ H (v :: vs) (r :: rs)
def postA (c : Cfg) (W : WX) (f : Fr) (G : Hp) (σ : L2.St) (r : Res (List RV)) (Q : List V → Hp → Prop) : Prop := match r with
  | .ok rs E => ∀ G' vs H', Same G G' → RS c f G' E σ H' → RelRs c f G' E σ H' vs rs → Q vs H'
  | .ex x E => XW c W f G σ x E
  | .bad => False
def postS (c : Cfg) (W : WX) (f : Fr) (G : Hp) (o : Out) (Dn : Ends) : Prop := match o with
  | .nx E => ∀ G' σ' H', Same G G' → RS c f G' E σ' H' → Dn.nx σ' H'
  | .rt r E => ∀ G' σ' v H', Same G G' → RS c f G' E σ' H' → RelR c f G' E σ' H' v r → Dn.rt v H'
  | .bk E => ∀ G' σ' H', Same G G' → RS c f G' E σ' H' → Dn.bk σ' H'
  | .ct E => ∀ G' σ' H', Same G G' → RS c f G' E σ' H' → Dn.ct σ' H'
  | .ex x E => ∀ σ', XW c W f G σ' x E
  | .bad => False
def tE (c : Cfg) (W : WX) (m : EM) : TE := fun σ H Q => ∃ f G E, RS c f G E σ H ∧ postE c W f G σ (m E) Q
def tT (c : Cfg) (W : WX) (m : BM) : TT := fun σ H Q => ∃ f G E, RS c f G E σ H ∧ postT c W f G σ (m E) Q
def tA (c : Cfg) (W : WX) (m : AM) : TA := fun σ H Q => ∃ f G E, RS c f G E σ H ∧ postA c W f G σ (m E) Q
def tS (c : Cfg) (W : WX) (m : SM) : TS := fun Dn σ H => ∃ f G E, RS c f G E σ H ∧ postS c W f G (m E) Dn

/-! ### consequence -/
section
variable {X : Cx} {e : Expr} {es : List Expr} {st : Stmt} {sts : List Stmt}
theorem pe_imp {t t' : TE} (h : PE X e t) (i : ∀ σ H Q, t' σ H Q → t σ H Q) : PE X e t' := ⟨fun pins s σ H Q I q => h.run pins s σ H Q I (i σ H Q q)⟩
theorem pt_imp {t t' : TT} (h : PT X e t) (i : ∀ σ H Q, t' σ H Q → t σ H Q) : PT X e t' := ⟨fun pins s σ H Q I q => h.run pins s σ H Q I (i σ H Q q)⟩
theorem pw_imp {t t' : TT} (h : PW X e t) (i : ∀ σ H Q, t' σ H Q → t σ H Q) : PW X e t' := ⟨fun wh pins s σ H Q I q => h.run wh pins s σ H Q I (i σ H Q q)⟩
theorem pa_imp {t t' : TA} (h : PA X es t) (i : ∀ σ H Q, t' σ H Q → t σ H Q) : PA X es t' := ⟨fun pos pins s σ H Q I q => h.run pos pins s σ H Q I (i σ H Q q)⟩
theorem ps_imp {t t' : TS} (h : PS X st t) (i : ∀ Dn σ H, t' Dn σ H → t Dn σ H) : PS X st t' := ⟨fun pins s σ H Dn I q => h.run pins s σ H Dn I (i Dn σ H q)⟩
theorem pss_imp {t t' : TS} (h : PSs X sts t) (i : ∀ Dn σ H, t' Dn σ H → t Dn σ H) : PSs X sts t' := ⟨fun pins s σ H Dn I q => h.run pins s σ H Dn I (i Dn σ H q)⟩
end

/-! ### a part within a whole -/
section
variable {c : Cfg} {W : WX} {f : Fr} {G : Hp} {E : Ev} {σ : L2.St} {H : Hp}
theorem tE_sub {m : EM} {k : VK} (R : RS c f G E σ H) (h : match m E with
    | .ok r E' => ∀ G' v H', Same G G' → RS c f G' E' σ H' → RelR c f G' E' σ H' v r.settle → k v H'
    | .ex x E' => XW c W f G σ x E'
    | .bad => False) : tE c W m σ H k := by
  refine ⟨f, G, E, R, ?_⟩
  cases q : m E with
  | ok r E' =>
    rw [q] at h
    intro G' v H' e R' rel
    obtain ⟨G2, e2, R2, rel2⟩ := R'.settle rel
    exact h G2 v H' (e.trans e2) R2 rel2
  | ex x E' => rw [q] at h; exact h
  | bad => rw [q] at h; exact h
/-- .. as it comes -/
theorem tE_raw {m : EM} {k : VK} (R : RS c f G E σ H) (h : match m E with
    | .ok r E' => ∀ G' v H', Same G G' → RS c f G' E' σ H' → RelR c f G' E' σ H' v r → k v H'
    | .ex x E' => XW c W f G σ x E'
    | .bad => False) : tE c W m σ H k := ⟨f, G, E, R, by cases q : m E <;> (rw [q] at h; exact h)⟩
theorem postE_mono {G' : Hp} (e : Same G G') : ∀ {r : Res RV} {Q : VK}, postE c W f G σ r Q → postE c W f G' σ r Q
  | .ok _ _, _, h => fun _ _ _ e' => h _ _ _ (e.trans e')
  | .ex _ _, _, h => XW.mono e h
  | .bad, _, h => h
theorem postT_mono {G' : Hp} (e : Same G G') : ∀ {r : Res Bool} {Q : Bool → Hp → Prop}, postT c W f G σ r Q → postT c W f G' σ r Q
  | .ok _ _, _, h => fun _ _ e' => h _ _ (e.trans e')
  | .ex _ _, _, h => XW.mono e h
  | .bad, _, h => h
theorem postA_mono {G' : Hp} (e : Same G G') : ∀ {r : Res (List RV)} {Q : List V → Hp → Prop}, postA c W f G σ r Q → postA c W f G' σ r Q
  | .ok _ _, _, h => fun _ _ _ e' => h _ _ _ (e.trans e')
  | .ex _ _, _, h => XW.mono e h
  | .bad, _, h => h
theorem postS_mono {G' : Hp} (e : Same G G') : ∀ {o : Out} {Dn : Ends}, postS c W f G o Dn → postS c W f G' o Dn
  | .nx _, _, h => fun _ _ _ e' => h _ _ _ (e.trans e')
  | .rt _ _, _, h => fun _ _ _ _ e' => h _ _ _ _ (e.trans e')
  | .bk _, _, h => fun _ _ _ e' => h _ _ _ (e.trans e')
  | .ct _, _, h => fun _ _ _ e' => h _ _ _ (e.trans e')
  | .ex _ _, _, h => fun σ' => XW.mono e (h σ')
  | .bad, _, h => h
/-- the rest of a whole behind a part: from what is wanted of the whole -/
theorem postE_bind {α : Type} {r : Res α} {g : α → Ev → Res RV} {Q : VK} (h : postE c W f G σ (r.bind g) Q) : match (generalizing := false) r with
    | .ok a E' => postE c W f G σ (g a E') Q
    | .ex x E' => XW c W f G σ x E'
    | .bad => False := by cases r <;> exact h
theorem postT_bind {α : Type} {r : Res α} {g : α → Ev → Res Bool} {Q : Bool → Hp → Prop} (h : postT c W f G σ (r.bind g) Q) : match (generalizing := false) r with
    | .ok a E' => postT c W f G σ (g a E') Q
    | .ex x E' => XW c W f G σ x E'
    | .bad => False := by cases r <;> exact h
theorem postA_bind {α : Type} {r : Res α} {g : α → Ev → Res (List RV)} {Q : List V → Hp → Prop} (h : postA c W f G σ (r.bind g) Q) : match (generalizing := false) r with
    | .ok a E' => postA c W f G σ (g a E') Q
    | .ex x E' => XW c W f G σ x E'
    | .bad => False := by cases r <;> exact h
theorem postS_out {α : Type} {r : Res α} {g : α → Ev → Out} {Dn : Ends} (h : postS c W f G (r.out g) Dn) : match (generalizing := false) r with
    | .ok a E' => postS c W f G (g a E') Dn
    | .ex x E' => ∀ σ', XW c W f G σ' x E'
    | .bad => False := by cases r <;> exact h
/-- .. for a part that is an expression -/
theorem tE_bindE {m : EM} {g : RV → Ev → Res RV} {Q k : VK} (R : RS c f G E σ H) (h : postE c W f G σ ((m E).bind g) Q)
    (n : ∀ r E' G' v H', Same G G' → RS c f G' E' σ H' → RelR c f G' E' σ H' v r.settle → postE c W f G' σ (g r E') Q → k v H') : tE c W m σ H k := by
  refine tE_sub R ?_
  have h := postE_bind h
  cases q : m E with
  | ok r E' => rw [q] at h; exact fun G' v H' e R' rel => n r E' G' v H' e R' rel (postE_mono e h)
  | ex x E' => rw [q] at h; exact h
  | bad => rw [q] at h; exact h
theorem tE_bindT {m : EM} {g : RV → Ev → Res Bool} {Q : Bool → Hp → Prop} {k : VK} (R : RS c f G E σ H) (h : postT c W f G σ ((m E).bind g) Q)
    (n : ∀ r E' G' v H', Same G G' → RS c f G' E' σ H' → RelR c f G' E' σ H' v r.settle → postT c W f G' σ (g r E') Q → k v H') : tE c W m σ H k := by
  refine tE_sub R ?_
  have h := postT_bind h
  cases q : m E with
  | ok r E' => rw [q] at h; exact fun G' v H' e R' rel => n r E' G' v H' e R' rel (postT_mono e h)
  | ex x E' => rw [q] at h; exact h
  | bad => rw [q] at h; exact h
theorem tE_bindA {m : EM} {g : RV → Ev → Res (List RV)} {Q : List V → Hp → Prop} {k : VK} (R : RS c f G E σ H) (h : postA c W f G σ ((m E).bind g) Q)
    (n : ∀ r E' G' v H', Same G G' → RS c f G' E' σ H' → RelR c f G' E' σ H' v r.settle → postA c W f G' σ (g r E') Q → k v H') : tE c W m σ H k := by
  refine tE_sub R ?_
  have h := postA_bind h
  cases q : m E with
  | ok r E' => rw [q] at h; exact fun G' v H' e R' rel => n r E' G' v H' e R' rel (postA_mono e h)
  | ex x E' => rw [q] at h; exact h
  | bad => rw [q] at h; exact h
theorem tE_outS {m : EM} {g : RV → Ev → Out} {Dn : Ends} {k : VK} (R : RS c f G E σ H) (h : postS c W f G ((m E).out g) Dn)
    (n : ∀ r E' G' v H', Same G G' → RS c f G' E' σ H' → RelR c f G' E' σ H' v r → postS c W f G' (g r E') Dn → k v H') : tE c W m σ H k := by
  refine tE_raw R ?_
  have h := postS_out h
  cases q : m E with
  | ok r E' => rw [q] at h; exact fun G' v H' e R' rel => n r E' G' v H' e R' rel (postS_mono e h)
  | ex x E' => rw [q] at h; exact h σ
  | bad => rw [q] at h; exact h
theorem tT_bindE {m : BM} {g : Bool → Ev → Res RV} {Q : VK} {k : Bool → Hp → Prop} (R : RS c f G E σ H) (h : postE c W f G σ ((m E).bind g) Q)
    (n : ∀ b E' G' H', Same G G' → RS c f G' E' σ H' → postE c W f G' σ (g b E') Q → k b H') : tT c W m σ H k := by
  refine ⟨f, G, E, R, ?_⟩
  have h := postE_bind h
  cases q : m E with
  | ok b E' => rw [q] at h; exact fun G' H' e R' => n b E' G' H' e R' (postE_mono e h)
  | ex x E' => rw [q] at h; exact h
  | bad => rw [q] at h; exact h
theorem tT_bindT {m : BM} {g : Bool → Ev → Res Bool} {Q k : Bool → Hp → Prop} (R : RS c f G E σ H) (h : postT c W f G σ ((m E).bind g) Q)
    (n : ∀ b E' G' H', Same G G' → RS c f G' E' σ H' → postT c W f G' σ (g b E') Q → k b H') : tT c W m σ H k := by
  refine ⟨f, G, E, R, ?_⟩
  have h := postT_bind h
  cases q : m E with
  | ok b E' => rw [q] at h; exact fun G' H' e R' => n b E' G' H' e R' (postT_mono e h)
  | ex x E' => rw [q] at h; exact h
  | bad => rw [q] at h; exact h
theorem tT_outS {m : BM} {g : Bool → Ev → Out} {Dn : Ends} {k : Bool → Hp → Prop} (R : RS c f G E σ H) (h : postS c W f G ((m E).out g) Dn)
    (n : ∀ b E' G' H', Same G G' → RS c f G' E' σ H' → postS c W f G' (g b E') Dn → k b H') : tT c W m σ H k := by
  refine ⟨f, G, E, R, ?_⟩
  have h := postS_out h
  cases q : m E with
  | ok b E' => rw [q] at h; exact fun G' H' e R' => n b E' G' H' e R' (postS_mono e h)
  | ex x E' => rw [q] at h; exact h σ
  | bad => rw [q] at h; exact h
theorem tA_bindE {m : AM} {g : List RV → Ev → Res RV} {Q : VK} {k : List V → Hp → Prop} (R : RS c f G E σ H) (h : postE c W f G σ ((m E).bind g) Q)
    (n : ∀ rs E' G' vs H', Same G G' → RS c f G' E' σ H' → RelRs c f G' E' σ H' vs rs → postE c W f G' σ (g rs E') Q → k vs H') : tA c W m σ H k := by
  refine ⟨f, G, E, R, ?_⟩
  have h := postE_bind h
  cases q : m E with
  | ok rs E' => rw [q] at h; exact fun G' vs H' e R' rel => n rs E' G' vs H' e R' rel (postE_mono e h)
  | ex x E' => rw [q] at h; exact h
  | bad => rw [q] at h; exact h
theorem tA_bindA {m : AM} {g : List RV → Ev → Res (List RV)} {Q k : List V → Hp → Prop} (R : RS c f G E σ H) (h : postA c W f G σ ((m E).bind g) Q)
    (n : ∀ rs E' G' vs H', Same G G' → RS c f G' E' σ H' → RelRs c f G' E' σ H' vs rs → postA c W f G' σ (g rs E') Q → k vs H') : tA c W m σ H k := by
  refine ⟨f, G, E, R, ?_⟩
  have h := postA_bind h
  cases q : m E with
  | ok rs E' => rw [q] at h; exact fun G' vs H' e R' rel => n rs E' G' vs H' e R' rel (postA_mono e h)
  | ex x E' => rw [q] at h; exact h
  | bad => rw [q] at h; exact h
theorem tA_outS {m : AM} {g : List RV → Ev → Out} {Dn : Ends} {k : List V → Hp → Prop} (R : RS c f G E σ H) (h : postS c W f G ((m E).out g) Dn)
    (n : ∀ rs E' G' vs H', Same G G' → RS c f G' E' σ H' → RelRs c f G' E' σ H' vs rs → postS c W f G' (g rs E') Dn → k vs H') : tA c W m σ H k := by
  refine ⟨f, G, E, R, ?_⟩
  have h := postS_out h
  cases q : m E with
  | ok rs E' => rw [q] at h; exact fun G' vs H' e R' rel => n rs E' G' vs H' e R' rel (postS_mono e h)
  | ex x E' => rw [q] at h; exact h σ
  | bad => rw [q] at h; exact h
end
end M

namespace M
open PySem L2

/-! ### what an operation makes: from data, new data -/
def RelN (c : Cfg) (G H H' : Hp) (v : V) : RV → Prop
  | .fz d => Rep c G v d
  | .ow m => ∃ p, v = .ref p ∧ OwnRel c G H' p m ∧ G p = none ∧ H p = none
  | .sl _ => False
theorem RelN.rel {c : Cfg} {f : Fr} {G G' : Hp} {E : Ev} {σ : L2.St} {H H' : Hp} {v : V} {r : RV} (R : RS c f G E σ H) (h : RelN c G' H H' v r) : RelR c f G' E σ H' v r := by
  cases r with
  | fz d => exact h
  | sl j => exact h.elim
  | ow m =>
    obtain ⟨p, h1, h2, h3, h4⟩ := h
    refine ⟨p, h1, h2, h3, R.h0 h4, fun i o => ?_⟩
    obtain ⟨_, m, hm⟩ := R.ownG o
    obtain ⟨o, ho⟩ := hm.there
    rw [h4] at ho
    cases ho
/-- what is wanted of an operation's result -/
def Made (c : Cfg) (G H : Hp) (r : RV) (Q : VK) : Prop := ∀ G' v H', Gro G H G' H' → RelN c G' H H' v r → Q v H'
theorem Made.flat {c : Cfg} {G H : Hp} {d : D} {v : V} {Q : VK} (e : Same G H) (h : Made c G H (.fz d) Q) (r : Rep c G v d) : Q v H := h G v H (.refl e) r
theorem Gro.newG {G H : Hp} {p : Addr} {o : HO} (e : Same G H) (hp : H p = none) : Gro G H (upd G p o) (upd H p o) where
  hh := fun b u q => by rw [upd_ne (ne_of_none q hp)]; exact q
  gg := fun b u q => by rw [upd_ne (ne_of_none (e b u q) hp)]; exact q
  gh := fun b u q => by
    by_cases z : b = p
    · subst z; rw [upd_same] at q ⊢; exact q
    · rw [upd_ne z] at q ⊢; exact e b u q
  new := fun b u q => by
    by_cases z : b = p
    · subst z; exact .inr hp
    · rw [upd_ne z] at q; exact .inl q
theorem Gro.newH {G H : Hp} {p : Addr} {o : HO} (e : Same G H) (hp : H p = none) : Gro G H G (upd H p o) where
  hh := fun b u q => by rw [upd_ne (ne_of_none q hp)]; exact q
  gg := .refl G
  gh := fun b u q => by rw [upd_ne (ne_of_none (e b u q) hp)]; exact e b u q
  new := fun b u q => .inl q
theorem none_of {G H : Hp} {p : Addr} (e : Same G H) (hp : H p = none) : G p = none := by
  cases q : G p with
  | none => rfl
  | some o => rw [e p o q] at hp; cases hp
theorem Made.lst {c : Cfg} {G H : Hp} {ds : List D} {vs : List V} {Q : VK} (e : Same G H) (h : Made c G H (.ow (.lst ds)) Q) (r : Reps c G vs ds) {p : Addr} (hp : H p = none) : Q (.ref p) (upd H p (.lst vs)) :=
  h G _ _ (.newH e hp) ⟨p, rfl, ⟨vs, upd_same, r⟩, none_of e hp, hp⟩
theorem Made.tup {c : Cfg} {G H : Hp} {ds : List D} {vs : List V} {Q : VK} (e : Same G H) (h : Made c G H (.fz (.tup ds)) Q) (r : Reps c G vs ds) {p : Addr} (hp : H p = none) : Q (.ref p) (upd H p (.tup vs)) :=
  h _ _ _ (.newG e hp) (.tup (.inl (.inl upd_same)) (r.mono (Gro.newG (o := .tup vs) e hp).gg))

def rD (c : Cfg) (op : D → D → Option RV) : R2 := fun x y H Q => ∃ G a b r, Same G H ∧ Pk c G H x a ∧ Pk c G H y b ∧ op a b = some r ∧ Made c G H r Q
def rD1 (c : Cfg) (op : D → Option RV) : V → Hp → VK → Prop := fun x H Q => ∃ G a r, Same G H ∧ Pk c G H x a ∧ op a = some r ∧ Made c G H r Q
inductive Pks (c : Cfg) (G H : Hp) : List V → List D → Prop
  | nil : Pks c G H [] []
  | cons {v : V} {d : D} {vs : List V} {ds : List D} : Pk c G H v d → Pks c G H vs ds → Pks c G H (v :: vs) (d :: ds)
def rDn (c : Cfg) (op : List D → Option RV) : List V → Hp → VK → Prop := fun xs H Q => ∃ G ds r, Same G H ∧ Pks c G H xs ds ∧ op ds = some r ∧ Made c G H r Q

/-- the one or the other -/
def orO {α β : Type} (f g : α → Option β) (a : α) : Option β := match f a with
  | some r => some r
  | none => g a
def orO2 {α β γ : Type} (f g : α → β → Option γ) (a : α) (b : β) : Option γ := match f a b with
  | some r => some r
  | none => g a b
section
variable {X : Cx} {c : Cfg}
theorem opr_imp {f : Value → Value → Sem Value} {r r' : R2} (h : OpR X f r) (i : ∀ x y H Q, r' x y H Q → r x y H Q) : OpR X f r' := fun pins s σ H x y v u Q I rx ry q => h pins s σ H x y v u Q I rx ry (i x y H Q q)
theorem callr_imp {f : Value} {r r' : List V → Hp → VK → Prop} (h : CallR X f r) (i : ∀ xs H Q, r' xs H Q → r xs H Q) : CallR X f r' := fun pins s σ H xs us Q I rx q => h pins s σ H xs us Q I rx (i xs H Q q)
theorem opd_or {f : Value → Value → Sem Value} {g h : D → D → Option RV} (hg : OpR X f (rD c g)) (hh : OpR X f (rD c h)) : OpR X f (rD c (orO2 g h)) := fun pins s σ H x y v u Q I rx ry ⟨G, a, b, r, e, ha, hb, q, m⟩ => by
  unfold orO2 at q
  split at q
  · rename_i r' hr
    cases q
    exact hg pins s σ H x y v u Q I rx ry ⟨G, a, b, _, e, ha, hb, hr, m⟩
  · exact hh pins s σ H x y v u Q I rx ry ⟨G, a, b, _, e, ha, hb, q, m⟩
theorem calld_or {f : Value} {g h : List D → Option RV} (hg : CallR X f (rDn c g)) (hh : CallR X f (rDn c h)) : CallR X f (rDn c (orO g h)) := fun pins s σ H xs us Q I rx ⟨G, ds, r, e, hp, q, m⟩ => by
  unfold orO at q
  split at q
  · rename_i r' hr
    cases q
    exact hg pins s σ H xs us Q I rx ⟨G, ds, _, e, hp, hr, m⟩
  · exact hh pins s σ H xs us Q I rx ⟨G, ds, _, e, hp, q, m⟩

/-! ### operators on ints -/
def oI (C : Int → Int → Bool) (g : Int → Int → D) : D → D → Option RV
  | .int i, .int j => if C i j then some (.fz (g i j)) else none
  | _, _ => none
theorem opd_I {f : Value → Value → Sem Value} {C : Int → Int → Prop} {B : Int → Int → Bool} {gV : Int → Int → V} {g : Int → Int → D} (h : OpR X f (rI C gV)) (hB : ∀ i j, B i j = true → C i j) (hg : ∀ G i j, Rep c G (gV i j) (g i j)) : OpR X f (rD c (oI B g)) :=
  opr_imp h fun x y H Q ⟨G, a, b, r, e, ha, hb, q, m⟩ => by
    cases a with
    | int i =>
      cases b with
      | int j =>
        cases ha
        cases hb
        simp only [oI] at q
        split at q
        · rename_i hc
          cases q
          exact ⟨i, j, rfl, rfl, hB i j hc, m.flat e (hg G i j)⟩
        · cases q
      | _ => cases q
    | _ => cases b <;> cases q
theorem opd_I0 {f : Value → Value → Sem Value} {gV : Int → Int → V} {g : Int → Int → D} (h : OpR X f (rI0 gV)) (hg : ∀ G i j, Rep c G (gV i j) (g i j)) : OpR X f (rD c (oI (fun _ _ => true) g)) :=
  opd_I (C := fun _ _ => True) (fun pins s σ H x y v u Q I rx ry ⟨i, j, h1, h2, _, q⟩ => h pins s σ H x y v u Q I rx ry ⟨i, j, h1, h2, q⟩) (fun _ _ _ => trivial) hg
def mulOk (i j : Int) : Bool := decide (i.natAbs < 2 ^ 64) || decide (j.natAbs < 2 ^ 64) || decide (i.natAbs.log2 + j.natAbs.log2 < 1000000)
def divOk (i j : Int) : Bool := decide (0 < j) && decide (j.natAbs.log2 < 9000)
def powOk (i j : Int) : Bool := decide (0 ≤ j) && decide (j ≤ 1000000) && decide (i.natAbs < 2 ^ 64)
def addI := oI (fun _ _ => true) fun i j => .int (i + j)
def subI := oI (fun _ _ => true) fun i j => .int (i - j)
def mulI := oI mulOk fun i j => .int (i * j)
def divI := oI divOk fun i j => .int (i / j)
def modI := oI (fun _ j => decide (0 < j)) fun i j => .int (i % j)
def powI := oI powOk fun i j => .int (i ^ j.toNat)
theorem d_addI : OpR X (binaryOp .Add) (rD c addI) := opd_I0 op_add fun _ _ _ => .int _
theorem d_subI : OpR X (binaryOp .Sub) (rD c subI) := opd_I0 op_sub fun _ _ _ => .int _
def CMul2 (i j : Int) : Prop := CMul i j ∨ CMulW i j
theorem op_mul2 : OpR X (binaryOp .Mult) (rI CMul2 fun i j => .int (i * j)) := fun pins s σ H x y v u Q I rx ry ⟨i, j, h1, h2, h3, q⟩ => by
  rcases h3 with h3 | h3
  · exact op_mul pins s σ H x y v u Q I rx ry ⟨i, j, h1, h2, h3, q⟩
  · exact op_mulW pins s σ H x y v u Q I rx ry ⟨i, j, h1, h2, h3, q⟩
theorem d_mulI : OpR X (binaryOp .Mult) (rD c mulI) := opd_I op_mul2 (fun i j h => by
  unfold mulOk at h
  simp only [Bool.or_eq_true, decide_eq_true_eq] at h
  rcases h with (h | h) | h
  · exact .inl (.inl ⟨by omega, by omega⟩)
  · exact .inl (.inr ⟨by omega, by omega⟩)
  · exact .inr h) fun _ _ _ => .int _
theorem d_divI : OpR X (binaryOp .FloorDiv) (rD c divI) := opd_I op_fdivW (fun i j h => by
  unfold divOk at h
  simp only [Bool.and_eq_true, decide_eq_true_eq] at h
  exact h) fun _ _ _ => .int _
theorem d_modI : OpR X (binaryOp .Mod) (rD c modI) := opd_I op_mod (fun i j h => of_decide_eq_true h) fun _ _ _ => .int _
theorem d_powI : OpR X (binaryOp .Pow) (rD c powI) := opd_I op_pow (fun i j h => by
  unfold powOk at h
  simp only [Bool.and_eq_true, decide_eq_true_eq] at h
  exact ⟨h.1.1, h.1.2, h.2⟩) fun _ _ _ => .int _
def ltI := oI (fun _ _ => true) fun i j => .bl (decide (i < j))
def leI := oI (fun _ _ => true) fun i j => .bl (decide (i ≤ j))
def gtI := oI (fun _ _ => true) fun i j => .bl (decide (j < i))
def geI := oI (fun _ _ => true) fun i j => .bl (decide (j ≤ i))
theorem d_ltI : OpR X (compareOp .Lt) (rD c ltI) := opd_I0 op_lt fun _ _ _ => .bl _
theorem d_leI : OpR X (compareOp .LtE) (rD c leI) := opd_I0 op_le fun _ _ _ => .bl _
theorem d_gtI : OpR X (compareOp .Gt) (rD c gtI) := opd_I0 op_gt fun _ _ _ => .bl _
theorem d_geI : OpR X (compareOp .GtE) (rD c geI) := opd_I0 op_ge fun _ _ _ => .bl _

/-! ### == of data -/
mutual
def py : D → PyData
  | .non => .none
  | .bl b => .bool b
  | .int i => .int i
  | .str s => .str s
  | .tup l => .tuple (pys l)
  | .lst l => .list (pys l)
  | .frl _ => .dict []
  | .ty _ => .dict []
  | .gl _ => .dict []
  | .dct _ => .dict []
  | .obj _ _ => .dict []
def pys : List D → List PyData
  | [] => []
  | d :: l => py d :: pys l
end
def plainD (d : D) : Bool := SeqAt.shaped (py d)
mutual
theorem Rep.dp {c : Cfg} {H : Hp} : ∀ {d : D} {v : V}, (py d).canLay0 = true → Rep c H v d → Dp c.K H v (py d)
  | .non, _, _, .non => .non
  | .bl _, _, _, .bl b => .bl b
  | .int _, _, _, .int i => .int i
  | .str _, _, _, .str s => .str s
  | .tup l, _, h, .tup a r => by
    rw [py]
    exact .tup a (Reps.dp (by rw [py] at h; simpa [PyData.canLay0] using h) r)
  | .lst l, _, h, .lst a r => by
    rw [py]
    exact .lst (.of a) (Reps.dp (by rw [py] at h; simpa [PyData.canLay0] using h) r)
  | .frl _, _, h, _ => by rw [py] at h; cases h
  | .ty _, _, h, _ => by rw [py] at h; cases h
  | .gl _, _, h, _ => by rw [py] at h; cases h
  | .dct _, _, h, _ => by rw [py] at h; cases h
  | .obj _ _, _, h, _ => by rw [py] at h; cases h
theorem Reps.dp {c : Cfg} {H : Hp} : ∀ {ds : List D} {vs : List V}, PyData.canLayAll0 (pys ds) = true → Reps c H vs ds → DpAll c.K H vs (pys ds)
  | [], _, _, .nil => by rw [pys]; exact .nil
  | d :: ds, _, h, .cons r t => by
    rw [pys] at h ⊢
    have h' : (py d).canLay0 = true ∧ PyData.canLayAll0 (pys ds) = true := by simpa [PyData.canLayAll0] using h
    exact .cons (Rep.dp h'.1 r) (Reps.dp h'.2 t)
end
def eqD (a b : D) : Option RV := if plainD a && plainD b then some (.fz (.bl (PyData.eqv (py a) (py b)))) else none
def neD (a b : D) : Option RV := if plainD a && plainD b then some (.fz (.bl (!PyData.eqv (py a) (py b)))) else none
theorem d_eqD (hc : c.K = X.K) (hu : X.A.units + 64 < cLine) : OpR X (compareOp .Eq) (rD c eqD) := opr_imp (op_eqD hu) fun x y H Q ⟨G, a, b, r, e, ha, hb, q, m⟩ => by
  unfold eqD at q
  split at q
  · rename_i h
    cases q
    rw [Bool.and_eq_true] at h
    exact ⟨py a, py b, hc ▸ Rep.dp (SeqAt.canLay_of_shaped h.1) (ha.rep e), hc ▸ Rep.dp (SeqAt.canLay_of_shaped h.2) (hb.rep e), h.1, h.2, m.flat e (.bl _)⟩
  · cases q
theorem d_neD (hc : c.K = X.K) (hu : X.A.units + 64 < cLine) : OpR X (compareOp .NotEq) (rD c neD) := opr_imp (op_neD hu) fun x y H Q ⟨G, a, b, r, e, ha, hb, q, m⟩ => by
  unfold neD at q
  split at q
  · rename_i h
    cases q
    rw [Bool.and_eq_true] at h
    exact ⟨py a, py b, hc ▸ Rep.dp (SeqAt.canLay_of_shaped h.1) (ha.rep e), hc ▸ Rep.dp (SeqAt.canLay_of_shaped h.2) (hb.rep e), h.1, h.2, m.flat e (.bl _)⟩
  · cases q
def isNon : D → Bool
  | .non => true
  | _ => false
theorem Pk.isNon {c : Cfg} {G H : Hp} {v : V} {d : D} (e : Same G H) (h : Pk c G H v d) : decide (v = .non) = M.isNon d := by
  cases Pk.rep e h <;> simp [M.isNon]
def isN (a b : D) : Option RV := if isNon b then some (.fz (.bl (isNon a))) else none
def isNotN (a b : D) : Option RV := if isNon b then some (.fz (.bl (!isNon a))) else none
theorem d_isN : OpR X (compareOp .Is) (rD c isN) := opr_imp op_isN fun x y H Q ⟨G, a, b, r, e, ha, hb, q, m⟩ => by
  unfold isN at q
  split at q
  · rename_i h
    cases q
    refine ⟨of_decide_eq_true ((hb.isNon e).trans h), ?_⟩
    rw [ha.isNon e]
    exact m.flat e (.bl _)
  · cases q
theorem d_isNotN : OpR X (compareOp .IsNot) (rD c isNotN) := opr_imp op_notN fun x y H Q ⟨G, a, b, r, e, ha, hb, q, m⟩ => by
  unfold isNotN at q
  split at q
  · rename_i h
    cases q
    refine ⟨of_decide_eq_true ((hb.isNon e).trans h), ?_⟩
    rw [ha.isNon e]
    exact m.flat e (.bl _)
  · cases q

/-! ### lists and tuples together, repeated -/
def maxLen : Nat := 16777216
theorem maxLen_eq : sizeLine = maxLen := sizeLine_eq
def addL : D → D → Option RV
  | .lst x, .lst y => if x.length + y.length ≤ maxLen then some (.ow (.lst (x ++ y))) else none
  | _, _ => none
def addT : D → D → Option RV
  | .tup x, .tup y => if x.length + y.length ≤ maxLen then some (.fz (.tup (x ++ y))) else none
  | _, _ => none
theorem d_addT (hc : c.K = X.K) : OpR X (binaryOp .Add) (rD c addT) := opr_imp op_catA fun x y H Q ⟨G, a, b, r, e, ha, hb, q, m⟩ => by
  cases a with
  | tup xs =>
    cases b with
    | tup ys =>
      simp only [addT] at q
      split at q
      · rename_i hl
        cases q
        cases ha with
        | tup h1 r1 =>
          cases hb with
          | tup h2 r2 =>
            refine ⟨_, _, _, _, rfl, rfl, hc ▸ sqt_mono e h1, hc ▸ sqt_mono e h2, by rw [maxLen_eq, r1.length, r2.length]; exact hl, ?_, ?_, ?_⟩
            · intro z
              subst z
              cases r1
              exact m.flat e (.tup h2 r2)
            · intro _ z
              subst z
              cases r2
              rw [List.append_nil] at m
              exact m.flat e (.tup h1 r1)
            · intro _ _ p hp
              exact m.tup e (r1.append r2) hp
      · cases q
    | _ => cases q
  | _ => cases b <;> cases q
end
end M

namespace M
open PySem L2

section
variable {X : Cx} {c : Cfg}
theorem ixr_imp {r r' : R2} (h : IxR X r) (i : ∀ x y H Q, r' x y H Q → r x y H Q) : IxR X r' := fun a b pins s σ H x y v u Q I rx ry q => h a b pins s σ H x y v u Q I rx ry (i x y H Q q)
theorem ixd_or {g h : D → D → Option RV} (hg : IxR X (rD c g)) (hh : IxR X (rD c h)) : IxR X (rD c (orO2 g h)) := fun e1 e2 pins s σ H x y v u Q I rx ry ⟨G, a, b, r, e, ha, hb, q, m⟩ => by
  unfold orO2 at q
  split at q
  · rename_i r' hr
    cases q
    exact hg e1 e2 pins s σ H x y v u Q I rx ry ⟨G, a, b, _, e, ha, hb, hr, m⟩
  · exact hh e1 e2 pins s σ H x y v u Q I rx ry ⟨G, a, b, _, e, ha, hb, q, m⟩
theorem d_addL : OpR X (binaryOp .Add) (rD c addL) := opr_imp op_cat fun x y H Q ⟨G, a, b, r, e, ha, hb, q, m⟩ => by
  cases a with
  | lst xs =>
    cases b with
    | lst ys =>
      simp only [addL] at q
      split at q
      · rename_i hl
        cases q
        obtain ⟨p1, vs1, rfl, h1, r1⟩ := ha
        obtain ⟨p2, vs2, rfl, h2, r2⟩ := hb
        exact ⟨_, _, _, _, rfl, rfl, h1, h2, by rw [maxLen_eq, r1.length, r2.length]; exact hl, fun p hp => m.lst e (r1.append r2) hp⟩
      · cases q
    | _ => cases q
  | _ => cases b <;> cases q
theorem Reps.flat {G : Hp} {vs : List V} {ds : List D} (h : Reps c G vs ds) : ∀ n, Reps c G (List.replicate n vs).flatten (List.replicate n ds).flatten
  | 0 => .nil
  | n + 1 => by rw [List.replicate_succ, List.replicate_succ, List.flatten_cons, List.flatten_cons]; exact h.append (Reps.flat h n)
def mulL : D → D → Option RV
  | .lst x, .int k => if decide (-(2 ^ 63) ≤ k) && decide (k < 2 ^ 63) && decide (x.length * k.toNat ≤ maxLen) then some (.ow (.lst (List.replicate k.toNat x).flatten)) else none
  | _, _ => none
theorem d_mulL : OpR X (binaryOp .Mult) (rD c mulL) := opr_imp op_rep fun x y H Q ⟨G, a, b, r, e, ha, hb, q, m⟩ => by
  cases a with
  | lst xs =>
    cases b with
    | int k =>
      simp only [mulL] at q
      split at q
      · rename_i hl
        cases q
        simp only [Bool.and_eq_true, decide_eq_true_eq] at hl
        obtain ⟨p1, vs1, rfl, h1, r1⟩ := ha
        cases hb
        exact ⟨_, _, _, rfl, rfl, h1, hl.1.1, hl.1.2, by rw [maxLen_eq, r1.length]; exact hl.2, fun p hp => m.lst e (r1.flat _) hp⟩
      · cases q
    | _ => cases q
  | _ => cases b <;> cases q
def addS : D → D → Option RV
  | .str x, .str y => if x.length + y.length ≤ maxLen then some (.fz (.str (x ++ y))) else none
  | _, _ => none
theorem d_addS : OpR X (binaryOp .Add) (rD c addS) := opr_imp op_add_str fun x y H Q ⟨G, a, b, r, e, ha, hb, q, m⟩ => by
  cases a with
  | str xs =>
    cases b with
    | str k =>
      simp only [addS] at q
      split at q
      · rename_i hl
        cases q
        cases ha
        cases hb
        exact ⟨_, _, rfl, rfl, by rw [maxLen_eq]; exact hl, m.flat e (.str _)⟩
      · cases q
    | _ => cases q
  | _ => cases b <;> cases q
def addD := orO2 addI (orO2 addL (orO2 addT addS))
def mulD := orO2 mulI mulL
theorem d_add (hc : c.K = X.K) : OpR X (binaryOp .Add) (rD c addD) := opd_or d_addI (opd_or d_addL (opd_or (d_addT hc) d_addS))
theorem d_mul : OpR X (binaryOp .Mult) (rD c mulD) := opd_or d_mulI d_mulL

/-! ### an item -/
theorem atI_reps {G : Hp} {vs : List V} {ds : List D} {i : Int} {d : D} (h : Reps c G vs ds) (e : atI ds i = some d) : ∃ v, atI vs i = some v ∧ Rep c G v d := by
  unfold atI at e ⊢
  rw [h.length]
  cases q : ixN ds.length i with
  | none => rw [q] at e; cases e
  | some j => rw [q] at e; exact h.get e
def ixD : D → D → Option RV
  | .lst x, .int i => (atI x i).map .fz
  | .frl x, .int i => (atI x i).map .fz
  | .tup x, .int i => (atI x i).map .fz
  | _, _ => none
theorem d_ix (hc : c.K = X.K) : IxR X (rD c ixD) := ixr_imp (IxR.or ix_list ix_tup) fun x y H Q ⟨G, a, b, r, e, ha, hb, q, m⟩ => by
  cases b with
  | int i =>
    have go : ∀ {ds : List D} {vs : List V}, Reps c G vs ds → (atI ds i).map RV.fz = some r → ∃ v, atI vs i = some v ∧ Q v H := fun {ds vs} hr q => by
      cases z : atI ds i with
      | none => rw [z] at q; cases q
      | some d =>
        rw [z] at q
        cases q
        obtain ⟨v, h1, h2⟩ := atI_reps hr z
        exact ⟨v, h1, m.flat e h2⟩
    cases hb
    cases a with
    | lst xs =>
      obtain ⟨p1, vs1, rfl, h1, r1⟩ := ha
      obtain ⟨v, h2, h3⟩ := go r1 q
      exact .inl ⟨_, _, _, _, rfl, rfl, .of h1, h2, h3⟩
    | frl xs =>
      obtain ⟨p1, vs1, rfl, h1, r1⟩ := ha
      obtain ⟨v, h2, h3⟩ := go r1 q
      exact .inl ⟨_, _, _, _, rfl, rfl, hc ▸ h1, h2, h3⟩
    | tup xs =>
      cases ha with
      | tup h1 r1 =>
        obtain ⟨v, h2, h3⟩ := go r1 q
        exact .inr ⟨_, _, _, _, rfl, rfl, hc ▸ sqt_mono e h1, h2, h3⟩
    | _ => cases q
  | _ => cases a <;> cases q

/-! ### in -/
def toV : D → V
  | .bl b => .bl b
  | .int i => .int i
  | .str s => .str s
  | _ => .non
def flatD : D → Bool
  | .non => true
  | .bl _ => true
  | .int _ => true
  | .str _ => true
  | _ => false
theorem Rep.flatV {G : Hp} {v : V} {d : D} (h : Rep c G v d) (f : flatD d = true) : v = toV d ∧ L2.flatV v = true := by
  cases d <;> first | (cases f; done) | (cases h; exact ⟨rfl, rfl⟩)
theorem Reps.flatV {G : Hp} : ∀ {vs : List V} {ds : List D}, Reps c G vs ds → ds.all flatD = true → vs = ds.map toV ∧ vs.all L2.flatV = true
  | _, _, .nil, _ => ⟨rfl, rfl⟩
  | _, _, .cons r t, f => by
    rw [List.all_cons, Bool.and_eq_true] at f
    obtain ⟨h1, h2⟩ := Rep.flatV r f.1
    obtain ⟨h3, h4⟩ := Reps.flatV t f.2
    rw [List.map_cons, List.all_cons, h2, h4, ← h1, ← h3]
    exact ⟨rfl, rfl⟩
def inS (neg : Bool) (a : D) (l : List D) : Option RV := if flatD a && l.all flatD then some (.fz (.bl (if neg then !inV (toV a) (l.map toV) else inV (toV a) (l.map toV)))) else none
def inD (neg : Bool) (a b : D) : Option RV := match b with
  | .lst l => inS neg a l
  | .frl l => inS neg a l
  | .tup l => inS neg a l
  | _ => none
theorem in_aux {neg : Bool} {G H : Hp} {x y : V} {a b : D} {r : RV} {Q : VK} (e : Same G H) (ha : Pk c G H x a) (hb : Pk c G H y b) (q : inD neg a b = some r) (m : Made c G H r Q) : rIn c.K neg x y H Q := by
  have go : ∀ {ds : List D} {vs : List V}, Reps c G vs ds → inS neg a ds = some r → L2.flatV x = true ∧ vs.all L2.flatV = true ∧ Q (.bl (if neg then !inV x vs else inV x vs)) H := fun {ds vs} hr q => by
    unfold inS at q
    split at q
    · rename_i h
      cases q
      rw [Bool.and_eq_true] at h
      obtain ⟨h1, h2⟩ := Rep.flatV (ha.rep e) h.1
      obtain ⟨h3, h4⟩ := Reps.flatV hr h.2
      rw [h1, h3]
      exact ⟨h1 ▸ h2, h3 ▸ h4, m.flat e (.bl _)⟩
    · cases q
  cases b with
  | lst xs =>
    obtain ⟨p1, vs1, rfl, h1, r1⟩ := hb
    exact ⟨_, _, rfl, .inl (.of h1), go r1 q⟩
  | frl xs =>
    obtain ⟨p1, vs1, rfl, h1, r1⟩ := hb
    exact ⟨_, _, rfl, .inl h1, go r1 q⟩
  | tup xs =>
    cases hb with
    | tup h1 r1 => exact ⟨_, _, rfl, .inr (sqt_mono e h1), go r1 q⟩
  | _ => cases q
theorem d_in (hc : c.K = X.K) : OpR X (compareOp .In) (rD c (inD false)) := opr_imp op_in_seq fun x y H Q ⟨G, a, b, r, e, ha, hb, q, m⟩ => hc ▸ in_aux e ha hb q m
theorem d_notin (hc : c.K = X.K) : OpR X (compareOp .NotIn) (rD c (inD true)) := opr_imp op_notIn_seq fun x y H Q ⟨G, a, b, r, e, ha, hb, q, m⟩ => hc ▸ in_aux e ha hb q m

/-! ### truth -/
def truD : D → Option Bool
  | .non => some false
  | .bl b => some b
  | .int i => some (i != 0)
  | .lst l => some (!l.isEmpty)
  | .tup l => some (!l.isEmpty)
  | .str s => if s.length ≤ maxLen then some ((s.length : Int) != 0) else none
  | _ => none
theorem tru_D {G H : Hp} {v : V} {d : D} {b : Bool} (e : Same G H) (h : Pk c G H v d) (q : truD d = some b) : TruV c.K v H b := by
  have le : ∀ {vs : List V} {ds : List D}, Reps c G vs ds → (!ds.isEmpty) = !vs.isEmpty := fun {vs ds} h => by cases h <;> rfl
  cases d with
  | non => cases h; cases q; rfl
  | bl k => cases h; cases q; rfl
  | int i => cases h; cases q; rfl
  | str s =>
    cases h
    simp only [truD] at q
    split at q
    · rename_i hl
      cases q
      exact ⟨by rw [maxLen_eq]; exact hl, rfl⟩
    · cases q
  | lst l =>
    cases q
    obtain ⟨p, vs, rfl, h1, r⟩ := h
    exact .inl ⟨vs, .of h1, le r⟩
  | tup l =>
    cases q
    cases h with
    | tup h1 r => exact .inr (.inl ⟨_, sqt_mono e h1, le r⟩)
  | _ => cases q
end

/-! ### expressions -/
def mVar (j : Nat) : EM := fun E => match E[j]? with
  | none => .bad
  | some .un => .bad
  | _ => .ok (.sl j) E
def mC (d : D) : EM := fun E => .ok (.fz d) E
def mBin (op : D → D → Option RV) (ma mb : EM) : EM := fun E => (ma E).bind fun a E1 => (mb E1).bind fun b E2 => match pk E2 a.settle, pk E2 b.settle with
  | some x, some y => match op x y with
    | some r => .ok r E2
    | none => .bad
  | _, _ => .bad
def mUn (op : D → Option RV) (ma : EM) : EM := fun E => (ma E).bind fun a E1 => match pk E1 a.settle with
  | some x => match op x with
    | some r => .ok r E1
    | none => .bad
  | _ => .bad
def mBad : EM := fun _ => .bad
def tBad : BM := fun _ => .bad
/-- a value as a test -/
def tTru (ma : EM) : BM := fun E => (ma E).bind fun a E1 => match pk E1 a.settle with
  | some x => match truD x with
    | some b => .ok b E1
    | none => .bad
  | _ => .bad
/-- a comparison as a test -/
def tCmpM (op : D → D → Option RV) (ma mb : EM) : BM := fun E => (ma E).bind fun a E1 => (mb E1).bind fun b E2 => match pk E2 a.settle, pk E2 b.settle with
  | some x, some y => match op x y with
    | some (.fz (.bl k)) => .ok k E2
    | _ => .bad
  | _, _ => .bad
def tAndM (ta tb : BM) : BM := fun E => (ta E).bind fun a E1 => if a then tb E1 else .ok false E1
def tOrM (ta tb : BM) : BM := fun E => (ta E).bind fun a E1 => if a then .ok true E1 else tb E1
def tNotM (ta : BM) : BM := fun E => (ta E).bind fun a E1 => .ok (!a) E1
def mIf (t : BM) (ma mb : EM) : EM := fun E => (t E).bind fun b E1 => if b then ma E1 else mb E1
/-- and, or as values: all but the last True or False -/
def mAndV (ma mb : EM) : EM := fun E => (ma E).bind fun a E1 => match pk E1 a.settle with
  | some (.bl k) => if k then mb E1 else .ok (.fz (.bl false)) E1
  | _ => .bad
def mOrV (ma mb : EM) : EM := fun E => (ma E).bind fun a E1 => match pk E1 a.settle with
  | some (.bl k) => if k then .ok (.fz (.bl true)) E1 else mb E1
  | _ => .bad
def mNotV (ma : EM) : EM := fun E => (ma E).bind fun a E1 => match pk E1 a.settle with
  | some (.bl k) => .ok (.fz (.bl (!k))) E1
  | _ => .bad
def aNil : AM := fun E => .ok [] E
def aCons (ma : EM) (mr : AM) : AM := fun E => (ma E).bind fun a E1 => (mr E1).bind fun rs E2 => .ok (a.settle :: rs) E2
def pks (E : Ev) : List RV → Option (List D)
  | [] => some []
  | r :: rs => match pk E r, pks E rs with
    | some d, some ds => some (d :: ds)
    | _, _ => none
def fzs : Ev → List RV → Option (List D × Ev)
  | E, [] => some ([], E)
  | E, r :: rs => match fzn E r with
    | some (d, E1) => match fzs E1 rs with
      | some (ds, E2) => some (d :: ds, E2)
      | none => none
    | none => none
def mTup (ma : AM) : EM := fun E => (ma E).bind fun rs E1 => match fzs E1 rs with
  | some (ds, E2) => if ds.length ≤ maxLen then .ok (.fz (.tup ds)) E2 else .bad
  | none => .bad
def mLst (ma : AM) : EM := fun E => (ma E).bind fun rs E1 => match fzs E1 rs with
  | some (ds, E2) => if ds.length ≤ maxLen then .ok (.ow (.lst ds)) E2 else .bad
  | none => .bad
/-- a built-in by values -/
def mCall (op : List D → Option RV) (ma : AM) : EM := fun E => (ma E).bind fun rs E1 => match pks E1 rs with
  | some ds => match op ds with
    | some r => .ok r E1
    | none => .bad
  | none => .bad

section
variable {X : Cx} {c : Cfg} {W : WX} {a b e : Expr} {es : List Expr} {ma mb : EM} {mr : AM} {pos : Pos}
theorem de_bad : PE X e (tE c W mBad) := ⟨fun pins s σ H Q I ⟨f, G, E, R, h⟩ => h.elim⟩
theorem dt_bad : PT X e (tT c W tBad) := ⟨fun pins s σ H Q I ⟨f, G, E, R, h⟩ => h.elim⟩
theorem de_var {i : Nat} {x : Str} (h : PE X (.Name x pos) (tVar i)) : PE X (.Name x pos) (tE c W (mVar i)) := pe_imp h fun σ H Q ⟨f, G, E, R, h⟩ => by
  unfold mVar at h
  split at h
  · exact h.elim
  · exact h.elim
  · rename_i h1 h2
    cases q : E[i]? with
    | none => exact absurd q h1
    | some s =>
      cases s with
      | un => exact absurd q h2
      | xv =>
        obtain ⟨v, _, e⟩ := R.xv i q
        exact ⟨v, e, h G v H (.refl G) R e⟩
      | fz d =>
        obtain ⟨v, e, _⟩ := R.fz i d q
        exact ⟨v, e, h G v H (.refl G) R e⟩
      | ow m =>
        obtain ⟨p, e, _⟩ := R.ow i m q
        exact ⟨_, e, h G _ H (.refl G) R e⟩
      | bo m =>
        obtain ⟨p, e, _⟩ := R.bo i m q
        exact ⟨_, e, h G _ H (.refl G) R e⟩
theorem de_c {v : V} {d : D} (h : PE X e (tC v)) (r : ∀ G, Rep c G v d) : PE X e (tE c W (mC d)) := pe_imp h fun σ H Q ⟨f, G, E, R, h⟩ => h G v H (.refl G) R (r G)
theorem de_int {i j} : PE X (.Constant (.int i) j pos) (tE c W (mC (.int i))) := de_c pe_int fun _ => .int _
theorem de_str {i j} : PE X (.Constant (.str i) j pos) (tE c W (mC (.str i))) := de_c pe_str fun _ => .str _
theorem de_bl {i j} : PE X (.Constant (.bool i) j pos) (tE c W (mC (.bl i))) := de_c pe_bl fun _ => .bl _
theorem de_non {j} : PE X (.Constant .none j pos) (tE c W (mC .non)) := de_c pe_non fun _ => .non
/-- the reading of two operands, then an operation -/
theorem bin_read {op : D → D → Option RV} {σ : L2.St} {H : Hp} {Q : VK} (h : tE c W (mBin op ma mb) σ H Q) : tOp (rD c op) (tE c W ma) (tE c W mb) σ H Q := by
  obtain ⟨f, G, E, R, h⟩ := h
  refine tE_bindE R h fun ra E1 G1 v H1 e1 R1 r1 h1 => ?_
  refine tE_bindE R1 h1 fun rb E2 G2 w H2 e2 R2 r2 h2 => ?_
  split at h2
  · rename_i x y px py
    split at h2
    · rename_i r hr
      exact ⟨G2, x, y, r, R2.gh, R2.pk (r1.mono_settled e2) px, R2.pk r2 py, hr, fun G' v' H' g rel => h2 G' v' H' g.gg (R2.gro g) (RelN.rel R2 rel)⟩
    · exact h2.elim
  · exact h2.elim
theorem de_op {op : Operator} {g : D → D → Option RV} (ho : OpR X (binaryOp op) (rD c g)) (ha : PE X a (tE c W ma)) (hb : PE X b (tE c W mb)) : PE X (.BinOp a op b pos) (tE c W (mBin g ma mb)) :=
  pe_imp (pe_op ho ha hb) fun _ _ _ h => bin_read h
theorem de_cmp {op : CmpOp} {g : D → D → Option RV} (ho : OpR X (compareOp op) (rD c g)) (ha : PE X a (tE c W ma)) (hb : PE X b (tE c W mb)) (hm : behindInMarks op b = false) : PE X (.Compare a [op] [b] pos) (tE c W (mBin g ma mb)) :=
  pe_imp (pe_cmpR ho ha hb hm) fun _ _ _ h => bin_read h
theorem dt_cmp {op : CmpOp} {g : D → D → Option RV} (ho : OpR X (compareOp op) (rD c g)) (ha : PE X a (tE c W ma)) (hb : PE X b (tE c W mb)) (hm : behindInMarks op b = false) : PT X (.Compare a [op] [b] pos) (tT c W (tCmpM g ma mb)) :=
  pt_imp (pt_cmpR ho ha hb hm) fun σ H Q h => by
    obtain ⟨f, G, E, R, h⟩ := h
    refine tE_bindT R h fun ra E1 G1 v H1 e1 R1 r1 h1 => ?_
    refine tE_bindT R1 h1 fun rb E2 G2 w H2 e2 R2 r2 h2 => ?_
    split at h2
    · rename_i x y px py
      split at h2
      · rename_i k hr
        refine ⟨G2, x, y, _, R2.gh, R2.pk (r1.mono_settled e2) px, R2.pk r2 py, hr, fun G' v' H' g rel => ?_⟩
        cases rel
        exact ⟨k, rfl, h2 G' H' g.gg (R2.gro g)⟩
      · exact h2.elim
    · exact h2.elim
theorem de_ix {g : D → D → Option RV} (ho : IxR X (rD c g)) (ha : PE X a (tE c W ma)) (hb : PE X b (tE c W mb)) (hs : PlainIx b) : PE X (.Subscript a b pos) (tE c W (mBin g ma mb)) :=
  pe_imp (pe_ix ho ha hb hs) fun _ _ _ h => bin_read h
theorem un_read {op : D → Option RV} {σ : L2.St} {H : Hp} {Q : VK} (h : tE c W (mUn op ma) σ H Q) : tUn (rD1 c op) (tE c W ma) σ H Q := by
  obtain ⟨f, G, E, R, h⟩ := h
  refine tE_bindE R h fun ra E1 G1 v H1 e1 R1 r1 h1 => ?_
  split at h1
  · rename_i x px
    split at h1
    · rename_i r hr
      exact ⟨G1, x, r, R1.gh, R1.pk r1 px, hr, fun G' v' H' g rel => h1 G' v' H' g.gg (R1.gro g) (RelN.rel R1 rel)⟩
    · exact h1.elim
  · exact h1.elim
def negI : D → Option RV
  | .int i => some (.fz (.int (-i)))
  | _ => none
theorem de_neg (ha : PE X a (tE c W ma)) : PE X (.UnaryOp .USub a pos) (tE c W (mUn negI ma)) := pe_imp (pe_un un_neg ha) fun σ H Q h => by
  obtain ⟨f, G, E, R, h⟩ := h
  refine tE_bindE R h fun ra E1 G1 v H1 e1 R1 r1 h1 => ?_
  split at h1
  · rename_i x px
    split at h1
    · rename_i r hr
      cases x with
      | int i =>
        cases hr
        have rep := R1.pk r1 px
        cases rep
        exact ⟨i, rfl, h1 G1 _ H1 (.refl _) R1 (.int _)⟩
      | _ => cases hr
    · exact h1.elim
  · exact h1.elim
/-- a value as a test -/
theorem dt_tru (hc : c.K = X.K) (ha : PE X a (tE c W ma)) (he : ∀ whole, isTrue a X.env whole = (do let v ← whole; standAt a.pos; holding [v] (truthy v))) : PT X a (tT c W (tTru ma)) := pt_imp (pt_truth ha he) fun σ H Q h => by
  obtain ⟨f, G, E, R, h⟩ := h
  refine tE_bindT R h fun ra E1 G1 v H1 e1 R1 r1 h1 => ?_
  split at h1
  · rename_i x px
    split at h1
    · rename_i k hr
      exact ⟨k, hc ▸ tru_D R1.gh (R1.pk r1 px) hr, h1 G1 H1 (.refl _) R1⟩
    · exact h1.elim
  · exact h1.elim
variable {ta tb : BM} {rest : List Expr}
theorem dw_and1 (ha : PT X a (tT c W ta)) : PW X (.BoolOp .And [a] pos) (tT c W ta) := pw_and1 ha
theorem dw_or1 (ha : PT X a (tT c W ta)) : PW X (.BoolOp .Or [a] pos) (tT c W ta) := pw_or1 ha
theorem dw_and (ha : PT X a (tT c W ta)) (hb : PW X (.BoolOp .And (b :: rest) pos) (tT c W tb)) : PW X (.BoolOp .And (a :: b :: rest) pos) (tT c W (tAndM ta tb)) := pw_imp (pw_and ha hb) fun σ H Q h => by
  obtain ⟨f, G, E, R, h⟩ := h
  refine tT_bindT R h fun k E1 G1 H1 e1 R1 h1 => ?_
  cases k with
  | true => exact ⟨f, G1, E1, R1, h1⟩
  | false => exact h1 G1 H1 (.refl _) R1
theorem dw_or (ha : PT X a (tT c W ta)) (hb : PW X (.BoolOp .Or (b :: rest) pos) (tT c W tb)) : PW X (.BoolOp .Or (a :: b :: rest) pos) (tT c W (tOrM ta tb)) := pw_imp (pw_or ha hb) fun σ H Q h => by
  obtain ⟨f, G, E, R, h⟩ := h
  refine tT_bindT R h fun k E1 G1 H1 e1 R1 h1 => ?_
  cases k with
  | false => exact ⟨f, G1, E1, R1, h1⟩
  | true => exact h1 G1 H1 (.refl _) R1
theorem dt_not (ha : PT X a (tT c W ta)) : PT X (.UnaryOp .Not a pos) (tT c W (tNotM ta)) := pt_imp (pt_not ha) fun σ H Q h => by
  obtain ⟨f, G, E, R, h⟩ := h
  exact tT_bindT R h fun k E1 G1 H1 e1 R1 h1 => h1 G1 H1 (.refl _) R1
theorem de_ifExp {t : Expr} (hc : PT X t (tT c W ta)) (ha : PE X a (tE c W ma)) (hb : PE X b (tE c W mb)) : PE X (.IfExp t a b pos) (tE c W (mIf ta ma mb)) := pe_imp (pe_ifExp hc ha hb) fun σ H Q h => by
  obtain ⟨f, G, E, R, h⟩ := h
  refine tT_bindE R h fun k E1 G1 H1 e1 R1 h1 => ?_
  cases k with
  | true => exact ⟨f, G1, E1, R1, h1⟩
  | false => exact ⟨f, G1, E1, R1, h1⟩
theorem de_and (ha : PE X a (tE c W ma)) (hb : PE X (.BoolOp .And (b :: rest) pos) (tE c W mb)) : PE X (.BoolOp .And (a :: b :: rest) pos) (tE c W (mAndV ma mb)) := pe_imp (pe_and ha hb) fun σ H Q h => by
  obtain ⟨f, G, E, R, h⟩ := h
  refine tE_bindE R h fun ra E1 G1 v H1 e1 R1 r1 h1 => ?_
  split at h1
  · rename_i k px
    have rep := R1.pk r1 px
    cases rep
    refine ⟨k, rfl, ?_⟩
    cases k with
    | true => exact ⟨f, G1, E1, R1, h1⟩
    | false => exact h1 G1 _ H1 (.refl _) R1 (.bl _)
  · exact h1.elim
theorem de_or (ha : PE X a (tE c W ma)) (hb : PE X (.BoolOp .Or (b :: rest) pos) (tE c W mb)) : PE X (.BoolOp .Or (a :: b :: rest) pos) (tE c W (mOrV ma mb)) := pe_imp (pe_or ha hb) fun σ H Q h => by
  obtain ⟨f, G, E, R, h⟩ := h
  refine tE_bindE R h fun ra E1 G1 v H1 e1 R1 r1 h1 => ?_
  split at h1
  · rename_i k px
    have rep := R1.pk r1 px
    cases rep
    refine ⟨k, rfl, ?_⟩
    cases k with
    | true => exact h1 G1 _ H1 (.refl _) R1 (.bl _)
    | false => exact ⟨f, G1, E1, R1, h1⟩
  · exact h1.elim
theorem de_not (ha : PE X a (tE c W ma)) : PE X (.UnaryOp .Not a pos) (tE c W (mNotV ma)) := pe_imp (pe_not ha) fun σ H Q h => by
  obtain ⟨f, G, E, R, h⟩ := h
  refine tE_bindE R h fun ra E1 G1 v H1 e1 R1 r1 h1 => ?_
  split at h1
  · rename_i k px
    have rep := R1.pk r1 px
    cases rep
    exact ⟨k, rfl, h1 G1 _ H1 (.refl _) R1 (.bl _)⟩
  · exact h1.elim
theorem settle_settle (r : RV) : r.settle.settle = r.settle := by cases r <;> rfl
theorem RelRs.mono {f : Fr} {G G' : Hp} {E E' : Ev} {σ : L2.St} {H H' : Hp} (e : Same G G') {vs : List V} {rs : List RV} (h : RelRs c f G E σ H vs rs) : RelRs c f G' E' σ H' vs rs := by
  induction h with
  | nil => exact .nil
  | cons z h t ih =>
    refine .cons z ?_ ih
    rw [← z] at h ⊢
    exact h.mono_settled e
theorem da_nil : PA X [] (tA c W aNil) := pa_imp pa_nil fun σ H Q ⟨f, G, E, R, h⟩ => h G [] H (.refl _) R .nil
theorem da_cons (ha : PE X e (tE c W ma)) (hr : PA X es (tA c W mr)) (hs : starEach (e :: es) X.env = (false, eval e X.env) :: starEach es X.env := by rfl) : PA X (e :: es) (tA c W (aCons ma mr)) :=
  pa_imp (pa_cons ha hr hs) fun σ H Q h => by
    obtain ⟨f, G, E, R, h⟩ := h
    refine tE_bindA R h fun ra E1 G1 v H1 e1 R1 r1 h1 => ?_
    refine tA_bindA R1 h1 fun rs E2 G2 vs H2 e2 R2 r2 h2 => ?_
    exact h2 G2 _ H2 (.refl _) R2 (.cons (settle_settle _) (r1.mono_settled e2) r2)
theorem pks_pk {f : Fr} {G : Hp} {E : Ev} {σ : L2.St} {H : Hp} (R : RS c f G E σ H) {vs : List V} {rs : List RV} (h : RelRs c f G E σ H vs rs) : ∀ {ds : List D}, pks E rs = some ds → Pks c G H vs ds := by
  induction h with
  | nil => intro ds q; cases q; exact .nil
  | cons z h t ih =>
    intro ds q
    simp only [pks] at q
    split at q
    · rename_i d ds' h1 h2
      cases q
      exact .cons (R.pk h h1) (ih h2)
    · cases q
theorem fzs_rep {f : Fr} {σ : L2.St} {H : Hp} : ∀ {rs : List RV} {vs : List V} {G : Hp} {E E' : Ev} {ds : List D}, RS c f G E σ H → RelRs c f G E σ H vs rs → fzs E rs = some (ds, E') → ∃ G', Same G G' ∧ RS c f G' E' σ H ∧ Reps c G' vs ds := by
  intro rs
  induction rs with
  | nil => intro vs G E E' ds R h q; cases h; cases q; exact ⟨G, .refl G, R, .nil⟩
  | cons r rs ih =>
    intro vs G E E' ds R h q
    cases h with
    | cons z h t =>
      simp only [fzs] at q
      split at q
      · rename_i d E1 h1
        split at q
        · rename_i ds' E2 h2
          cases q
          obtain ⟨G1, e1, R1, rep⟩ := R.frz h h1
          obtain ⟨G2, e2, R2, reps⟩ := ih R1 (t.mono e1) h2
          exact ⟨G2, e1.trans e2, R2, .cons (rep.mono e2) reps⟩
        · cases q
      · cases q
theorem de_tup {k : Nat} (ha : PA X es (tA c W mr)) : PE X (.Tuple es k pos) (tE c W (mTup mr)) := pe_imp (pe_tup ha) fun σ H Q h => by
  obtain ⟨f, G, E, R, h⟩ := h
  refine tA_bindE R h fun rs E1 G1 vs H1 e1 R1 r1 h1 => ?_
  split at h1
  · rename_i ds E2 hf
    split at h1
    · rename_i hl
      obtain ⟨G2, e2, R2, rep⟩ := fzs_rep R1 r1 hf
      refine ⟨by rw [maxLen_eq, rep.length]; exact hl, fun p hp => ?_⟩
      have g := Gro.newG (o := HO.tup vs) R2.gh hp
      exact h1 _ _ _ (e2.trans g.gg) (R2.gro g) (.tup (.inl (.inl upd_same)) (rep.mono g.gg))
    · exact h1.elim
  · exact h1.elim
theorem de_lst (ha : PA X es (tA c W mr)) : PE X (.List es pos) (tE c W (mLst mr)) := pe_imp (pe_lst ha) fun σ H Q h => by
  obtain ⟨f, G, E, R, h⟩ := h
  refine tA_bindE R h fun rs E1 G1 vs H1 e1 R1 r1 h1 => ?_
  split at h1
  · rename_i ds E2 hf
    split at h1
    · rename_i hl
      obtain ⟨G2, e2, R2, rep⟩ := fzs_rep R1 r1 hf
      refine ⟨by rw [maxLen_eq, rep.length]; exact hl, fun p hp => ?_⟩
      have g := Gro.newH (o := HO.lst vs) R2.gh hp
      exact h1 _ _ _ e2 (R2.gro g) (RelN.rel (r := .ow (.lst ds)) R2 ⟨p, rfl, ⟨vs, upd_same, rep⟩, none_of R2.gh hp, hp⟩)
    · exact h1.elim
  · exact h1.elim
theorem call_read {op : List D → Option RV} {σ : L2.St} {H : Hp} {Q : VK} (h : tE c W (mCall op mr) σ H Q) : tCB (rDn c op) (tA c W mr) σ H Q := by
  obtain ⟨f, G, E, R, h⟩ := h
  refine tA_bindE R h fun rs E1 G1 vs H1 e1 R1 r1 h1 => ?_
  split at h1
  · rename_i ds hp
    split at h1
    · rename_i r hr
      exact ⟨G1, ds, r, R1.gh, pks_pk R1 r1 hp, hr, fun G' v' H' g rel => h1 G' v' H' g.gg (R1.gro g) (RelN.rel R1 rel)⟩
    · exact h1.elim
  · exact h1.elim
theorem de_callB {id : String} {x : Str} {p : Pos} {op : List D → Option RV} (hc : CallR X (.builtin id) (rDn c op)) (hg : Gl X x) (hm : X.mg x = none) (hv : bootBuiltins x = some (.builtin id)) (ha : PA X (e :: es) (tA c W mr)) (hn : x ≠ "__name__" := by decide) (hdb : (x == ("__debug__" : Str)) = false := by decide)
    (he : starEach (e :: es) X.env = (false, eval e X.env) :: starEach es X.env := by rfl) (hpl : (backTo pos (starEach es X.env)).any (·.1) = false := by rfl) : PE X (.Call (.Name x p) (e :: es) [] pos) (tE c W (mCall op mr)) :=
  pe_imp (pe_callB hc hg hm hv ha hn hdb he hpl) fun _ _ _ h => call_read h
theorem de_callT {T : String} {x : Str} {p : Pos} {op : List D → Option RV} (hc : CallR X (.type T) (rDn c op)) (hg : Gl X x) (hm : X.mg x = none) (hv : bootBuiltins x = some (.type T)) (ha : PA X (e :: es) (tA c W mr)) (hn : x ≠ "__name__" := by decide) (hdb : (x == ("__debug__" : Str)) = false := by decide)
    (he : starEach (e :: es) X.env = (false, eval e X.env) :: starEach es X.env := by rfl) (hpl : (backTo pos (starEach es X.env)).any (·.1) = false := by rfl) : PE X (.Call (.Name x p) (e :: es) [] pos) (tE c W (mCall op mr)) :=
  pe_imp (pe_callTy hc hg hm hv ha hn hdb he hpl) fun _ _ _ h => call_read h
end
end M

namespace M
open PySem L2

/-! ### stores -/
def notBo (E : Ev) (i : Nat) : Bool := match E[i]? with
  | some (.bo _) => false
  | _ => true
def asg (E : Ev) (i : Nat) (r : RV) : Option Ev := if notBo E i then match r with
    | .fz d => some (E.set i (.fz d))
    | .ow m => some (E.set i (.ow m))
    | .sl j => match fzn E (.sl j) with
      | some (d, E1) => some (E1.set i (.fz d))
      | none => none
  else none
theorem notBo_ne {E : Ev} {i : Nat} (h : notBo E i = true) : ∀ m, E[i]? ≠ some (Slot.bo m) := fun m e => by
  unfold notBo at h
  rw [e] at h
  cases h
section
variable {c : Cfg} {f : Fr} {G G' : Hp} {E E' : Ev} {σ : L2.St} {H H' : Hp} {v : V} {d : D} {m : MO} {r : RV}
theorem fzn_notBo {r : RV} {i : Nat} (e : fzn E r = some (d, E')) (h : ∀ m, E[i]? ≠ some (Slot.bo m)) : ∀ m, E'[i]? ≠ some (Slot.bo m) := by
  cases r with
  | fz d' => cases e; exact h
  | ow m => cases e; exact h
  | sl j =>
    cases q : E[j]? with
    | none => simp [fzn, q] at e
    | some s =>
      cases s with
      | un => simp [fzn, q] at e
      | xv => simp [fzn, q] at e
      | bo m => simp [fzn, q] at e
      | fz d' =>
        simp [fzn, q] at e
        obtain ⟨rfl, rfl⟩ := e
        exact h
      | ow m =>
        simp [fzn, q] at e
        obtain ⟨rfl, rfl⟩ := e
        intro m' z
        rcases get_set z with ⟨_, z⟩ | ⟨_, z⟩
        · cases z
        · exact h m' z
theorem RS.asg (R : RS c f G E σ H) {i : Nat} (h : RelR c f G E σ H v r) (e : M.asg E i r = some E') : ∃ G', Same G G' ∧ RS c f G' E' (σ.set i (some v)) H := by
  unfold M.asg at e
  split at e
  · rename_i hb
    have nb := notBo_ne hb
    cases r with
    | fz d => cases e; exact ⟨G, .refl G, R.setFz nb h⟩
    | ow m => cases e; exact ⟨G, .refl G, R.setOw nb h⟩
    | sl j =>
      simp only at e
      split at e
      · rename_i d E1 hf
        cases e
        obtain ⟨G', e1, R1, rep⟩ := R.frz h hf
        exact ⟨G', e1, R1.setFz (fzn_notBo hf nb) rep⟩
      · cases e
  · cases e
/-- a further object that is kept as it is -/
def Fr.plus (f : Fr) (p : Addr) (o : HO) : Fr := { f with H0 := upd f.H0 p o }
theorem RS.plus (R : RS c f G E σ H) {p : Addr} {o : HO} (hp : H p = some o) (hg : G p = none) (hn : ∀ i, ¬ Own E σ i p) : RS c (f.plus p o) G E σ H where
  gh := R.gh
  g0 := R.g0
  new := fun a u h => by
    rcases R.new a u h with z | z
    · exact .inl z
    · refine .inr ?_
      show upd f.H0 p o a = none
      rw [upd_ne (ne_of_none h hg)]
      exact z
  fr := fun a u h hb => by
    by_cases z : a = p
    · subst z
      have h : upd f.H0 a o a = some u := h
      rw [upd_same] at h
      rw [hp]
      exact h
    · have h : upd f.H0 p o a = some u := h
      rw [upd_ne z] at h
      exact R.fr a u h hb
  len := R.len
  fz := R.fz
  ow := fun i m e => by
    obtain ⟨q, h1, h2, h3, h4⟩ := R.ow i m e
    refine ⟨q, h1, h2, h3, ?_⟩
    show upd f.H0 p o q = none
    rw [upd_ne (fun z => hn i ⟨⟨m, .inl e⟩, by rw [← z]; exact h1⟩)]
    exact h4
  bo := R.bo
  bos := R.bos
  dis := R.dis
  inv := R.inv
  xv := R.xv
theorem RS.minus {p : Addr} {o : HO} (R : RS c (f.plus p o) G E σ H) (h0 : f.H0 p = none) (hg0 : f.G0 p = none) (hb : ∀ i, f.bo i ≠ some p) : RS c f G E σ H ∧ H p = some o ∧ G p = none ∧ ∀ i, ¬ Own E σ i p := by
  have up : upd f.H0 p o p = some o := upd_same
  have lt : ∀ a, upd f.H0 p o a = none → f.H0 a = none ∧ a ≠ p := fun a h => by
    have z : a ≠ p := fun z => by subst z; rw [up] at h; cases h
    rw [upd_ne z] at h
    exact ⟨h, z⟩
  refine ⟨{
    gh := R.gh
    g0 := R.g0
    new := fun a u h => by
      rcases R.new a u h with z | z
      · exact .inl z
      · exact .inr (lt a z).1
    fr := fun a u h hb' => by
      have z : a ≠ p := fun z => by subst z; rw [h0] at h; cases h
      exact R.fr a u (show upd f.H0 p o a = some u by rw [upd_ne z]; exact h) hb'
    len := R.len
    fz := R.fz
    ow := fun i m e => by
      obtain ⟨q, h1, h2, h3, h4⟩ := R.ow i m e
      exact ⟨q, h1, h2, h3, (lt q h4).1⟩
    bo := R.bo
    bos := R.bos
    dis := R.dis
    inv := R.inv
    xv := R.xv }, R.fr p o up hb, ?_, ?_⟩
  · cases q : G p with
    | none => rfl
    | some u =>
      rcases R.new p u q with z | z
      · exact absurd hg0 z
      · have z : upd f.H0 p o p = none := z
        rw [up] at z
        cases z
  · rintro i ⟨⟨m, hm | hm⟩, hs⟩
    · obtain ⟨q, h1, _, _, h4⟩ := R.ow i m hm
      rw [hs] at h1
      cases h1
      exact (lt p h4).2 rfl
    · obtain ⟨q, h1, _, _, h4⟩ := R.bo i m hm
      rw [hs] at h1
      cases h1
      exact hb i h4
theorem RS.g0n (R : RS c f G E σ H) {p : Addr} (hg : G p = none) : f.G0 p = none := none_of R.g0 hg
theorem RS.bon (R : RS c f G E σ H) {p : Addr} (hn : ∀ i, ¬ Own E σ i p) : ∀ i, f.bo i ≠ some p := fun i e => by
  obtain ⟨m, hm⟩ := R.bos i p e
  obtain ⟨q, h1, _, _, h4⟩ := R.bo i m hm
  rw [e] at h4
  cases h4
  exact hn i ⟨⟨m, .inr hm⟩, h1⟩
/-- a new list that is held while other things happen -/
theorem RS.keep (R : RS c f G E σ H) (h : RelR c f G E σ H v (.ow m)) : ∃ f', RS c f' G E σ H ∧ ∀ G' E' H', Same G G' → RS c f' G' E' σ H' → RS c f G' E' σ H' ∧ RelR c f G' E' σ H' v (.ow m) := by
  obtain ⟨p, rfl, ho, hg, h0, hn⟩ := h
  obtain ⟨o, hp⟩ := ho.there
  refine ⟨f.plus p o, R.plus hp hg hn, fun G' E' H' e R' => ?_⟩
  obtain ⟨R1, h1, h2, h3⟩ := R'.minus h0 (R.g0n hg) (R.bon hn)
  exact ⟨R1, p, rfl, ho.mono e (by rw [h1, hp]), h2, h0, h3⟩
/-- a slot is forgotten -/
theorem RS.drop (R : RS c f G E σ H) {i : Nat} (hb : ∀ m, E[i]? ≠ some (Slot.bo m)) : RS c f G (E.set i .un) σ H := by
  have own : ∀ {j : Nat} {q : Addr}, Own (E.set i Slot.un) σ j q → i ≠ j ∧ Own E σ j q := fun {j q} z => by
    obtain ⟨⟨m1, z1⟩, z2⟩ := z
    have n : i ≠ j := fun n => by
      subst n
      rcases z1 with z1 | z1
      · rcases get_set z1 with ⟨_, z⟩ | ⟨n, _⟩
        · cases z
        · exact n rfl
      · rcases get_set z1 with ⟨_, z⟩ | ⟨n, _⟩
        · cases z
        · exact n rfl
    rw [List.getElem?_set_ne n] at z1
    exact ⟨n, ⟨m1, z1⟩, z2⟩
  exact {
    gh := R.gh
    g0 := R.g0
    new := R.new
    fr := R.fr
    len := by rw [List.length_set]; exact R.len
    fz := fun j d e => by
      rcases get_set e with ⟨_, z⟩ | ⟨_, z⟩
      · cases z
      · exact R.fz j d z
    ow := fun j d e => by
      rcases get_set e with ⟨_, z⟩ | ⟨_, z⟩
      · cases z
      · exact R.ow j d z
    bo := fun j d e => by
      rcases get_set e with ⟨_, z⟩ | ⟨_, z⟩
      · cases z
      · exact R.bo j d z
    bos := fun j q e => by
      obtain ⟨m1, hm⟩ := R.bos j q e
      have n : i ≠ j := fun n => by subst n; exact hb _ hm
      exact ⟨m1, by rw [List.getElem?_set_ne n]; exact hm⟩
    dis := fun j k q n a b => R.dis j k q n (own a).2 (own b).2
    inv := R.inv
    xv := fun j e => by
      rcases get_set e with ⟨_, z⟩ | ⟨_, z⟩
      · cases z
      · exact R.xv j z }
/-- .. or anything that is no slot's -/
theorem RS.keepR (R : RS c f G E σ H) (h : RelR c f G E σ H v r) (hr : ∀ j, r ≠ .sl j) : ∃ f', RS c f' G E σ H ∧ (∀ q, f'.H0 q = none → f.H0 q = none ∧ ∀ m, r = .ow m → v ≠ .ref q) ∧
    ∀ G' E' H', Same G G' → RS c f' G' E' σ H' → RS c f G' E' σ H' ∧ RelR c f G' E' σ H' v r := by
  cases r with
  | sl j => exact absurd rfl (hr j)
  | fz d => exact ⟨f, R, fun q hq => ⟨hq, fun m z => by cases z⟩, fun G' E' H' e R' => ⟨R', Rep.mono e h⟩⟩
  | ow m =>
    obtain ⟨p, rfl, ho, hg, h0, hn⟩ := h
    obtain ⟨o, hp⟩ := ho.there
    refine ⟨f.plus p o, R.plus hp hg hn, fun q hq => ?_, fun G' E' H' e R' => ?_⟩
    · have hq : upd f.H0 p o q = none := hq
      have z : q ≠ p := fun z => by subst z; rw [upd_same] at hq; cases hq
      rw [upd_ne z] at hq
      exact ⟨hq, fun m' _ e => z (by injection e with e; exact e.symm)⟩
    · obtain ⟨R1, h1, h2, h3⟩ := R'.minus h0 (R.g0n hg) (R.bon hn)
      exact ⟨R1, p, rfl, ho.mono e (by rw [h1, hp]), h2, h0, h3⟩
end
/-- what a slot holds is given up, the rest stays -/
def rz (E : Ev) : RV → Option (RV × Ev)
  | .fz d => some (.fz d, E)
  | .ow m => some (.ow m, E)
  | .sl j => match fzn E (.sl j) with
    | some (d, E1) => some (.fz d, E1)
    | none => none
section
variable {c : Cfg} {f : Fr} {G G' : Hp} {E E' : Ev} {σ : L2.St} {H H' : Hp} {v : V} {r r' : RV}
theorem RS.rz (R : RS c f G E σ H) (h : RelR c f G E σ H v r) (e : M.rz E r = some (r', E')) : (∀ j, r' ≠ .sl j) ∧ ∃ G', Same G G' ∧ RS c f G' E' σ H ∧ RelR c f G' E' σ H v r' := by
  cases r with
  | fz d => cases e; exact ⟨(fun j z => by cases z), G, .refl G, R, h⟩
  | ow m => cases e; exact ⟨(fun j z => by cases z), G, .refl G, R, h⟩
  | sl j =>
    simp only [M.rz] at e
    split at e
    · rename_i d E1 q
      cases e
      obtain ⟨G', e1, R1, rep⟩ := R.frz h q
      exact ⟨(fun j z => by cases z), G', e1, R1, rep⟩
    · cases e
/-- a value that is no slot's is stored -/
def put (E : Ev) (i : Nat) : RV → Option Ev
  | .fz d => if notBo E i then some (E.set i (.fz d)) else none
  | .ow m => if notBo E i then some (E.set i (.ow m)) else none
  | .sl _ => none
theorem RS.put (R : RS c f G E σ H) {i : Nat} (h : RelR c f G E σ H v r) (e : M.put E i r = some E') : RS c f G E' (σ.set i (some v)) H := by
  cases r with
  | sl j => cases e
  | fz d =>
    simp only [M.put] at e
    split at e
    · rename_i hb; cases e; exact R.setFz (notBo_ne hb) h
    · cases e
  | ow m =>
    simp only [M.put] at e
    split at e
    · rename_i hb; cases e; exact R.setOw (notBo_ne hb) h
    · cases e
theorem RelR.put {i : Nat} {w : V} (hr : ∀ j, r' ≠ .sl j) (h : RelR c f G E σ H w r') (e : M.put E i r = some E') (dif : ∀ m m', r = .ow m → r' = .ow m' → v ≠ w) : RelR c f G E' (σ.set i (some v)) H w r' := by
  cases r' with
  | sl j => exact absurd rfl (hr j)
  | fz d => exact h
  | ow m' =>
    obtain ⟨p, rfl, h1, h2, h3, h4⟩ := h
    refine ⟨p, rfl, h1, h2, h3, fun k o => ?_⟩
    obtain ⟨⟨m1, z1⟩, z2⟩ := o
    cases r with
    | sl j => cases e
    | fz d =>
      simp only [M.put] at e
      split at e
      · cases e
        exact h4 k (own_of_set_fz ⟨⟨m1, z1⟩, z2⟩).2
      · cases e
    | ow m =>
      simp only [M.put] at e
      split at e
      · cases e
        by_cases n : i = k
        · subst n
          rcases get_set z2 with ⟨_, z⟩ | ⟨n, _⟩
          · injection z with z
            exact dif m m' rfl rfl z.symm
          · exact n rfl
        · rw [List.getElem?_set_ne n] at z1 z2
          exact h4 k ⟨⟨m1, z1⟩, z2⟩
      · cases e
end

/-! ### statements -/
def sNil : SM := fun E => .nx E
def sSeq (a b : SM) : SM := fun E => match a E with
  | .nx E1 => b E1
  | o => o
def sBad : SM := fun _ => .bad
def sSet (i : Nat) (m : EM) : SM := fun E => (m E).out fun r E1 => match asg E1 i r with
  | some E2 => .nx E2
  | none => .bad
/-- a, b = x, y -/
def sPar (i j : Nat) (ma mb : EM) : SM := fun E => (ma E).out fun a E1 => match rz E1 a with
  | some (ra, E2) => (mb E2).out fun b E3 => match rz E3 b with
    | some (rb, E4) => match put E4 i ra with
      | some E5 => match put E5 j rb with
        | some E6 => .nx E6
        | none => .bad
      | none => .bad
    | none => .bad
  | none => .bad
def sDrop (m : EM) : SM := fun E => (m E).out fun _ E1 => .nx E1
def retv (E : Ev) : RV → Out
  | .fz d => .rt (.fz d) E
  | .ow m => .rt (.ow m) E
  | .sl j => match E[j]? with
    | some (.fz d) => .rt (.fz d) E
    | some (.ow m) => .rt (.ow m) (E.set j .un)
    | _ => .bad
def sRet (m : EM) : SM := fun E => (m E).out fun r E1 => retv E1 r
def sRetN : SM := fun E => .rt (.fz .non) E
def sIf (t : BM) (a b : SM) : SM := fun E => (t E).out fun k E1 => if k then a E1 else b E1
def sBrk : SM := fun E => .bk E
def sCt : SM := fun E => .ct E
abbrev TgM := D → Ev → Option Ev
def tgName (i : Nat) : TgM := fun d E => if notBo E i then some (E.set i (.fz d)) else none
def tgs : List TgM → List D → Ev → Option Ev
  | [], [], E => some E
  | t :: ts, d :: ds, E => match t d E with
    | some E1 => tgs ts ds E1
    | none => none
  | _, _, _ => none
def tgTup (ts : List TgM) : TgM := fun d E => match d with
  | .tup ds => tgs ts ds E
  | _ => none
def sAsg (t : TgM) (m : EM) : SM := fun E => (m E).out fun r E1 => match fzn E1 r with
  | some (d, E2) => match t d E2 with
    | some E3 => .nx E3
    | none => .bad
  | none => .bad
def SameBut (S : List Nat) (σ σ' : L2.St) : Prop := σ'.length = σ.length ∧ ∀ j, j ∉ S → σ'[j]? = σ[j]?
def tG (c : Cfg) (t : TgM) (S : List Nat) : TG := fun v σ H Q => ∃ f G E d E', RS c f G E σ H ∧ Rep c G v d ∧ t d E = some E' ∧ ∀ σ', RS c f G E' σ' H → SameBut S σ σ' → Q σ' H
def tGs (c : Cfg) (ts : List TgM) (S : List Nat) : TGs := fun vs σ H Q => ∃ f G E ds E', RS c f G E σ H ∧ Reps c G vs ds ∧ tgs ts ds E = some E' ∧ ∀ σ', RS c f G E' σ' H → SameBut S σ σ' → Q σ' H
section
variable {X : Cx} {c : Cfg} {W : WX} {e tg : Expr} {es : List Expr} {st : Stmt} {sts : List Stmt} {m ma mb : EM} {a b : SM} {pos : Pos}
theorem ds_bad : PS X st (tS c W sBad) := ⟨fun pins s σ H Q I ⟨f, G, E, R, h⟩ => h.elim⟩
theorem dss_bad : PSs X sts (tS c W sBad) := ⟨fun pins s σ H Q I ⟨f, G, E, R, h⟩ => h.elim⟩
theorem dss_nil : PSs X [] (tS c W sNil) := pss_imp pss_nil fun Dn σ H ⟨f, G, E, R, h⟩ => h G σ H (.refl _) R
theorem dss_cons (h1 : PS X st (tS c W a)) (h2 : PSs X sts (tS c W b)) : PSs X (st :: sts) (tS c W (sSeq a b)) := pss_imp (pss_cons h1 h2) fun Dn σ H ⟨f, G, E, R, h⟩ => by
  refine ⟨f, G, E, R, ?_⟩
  unfold sSeq at h
  cases q : a E with
  | nx E1 => rw [q] at h; exact fun G' σ' H' e R' => ⟨f, G', E1, R', postS_mono e h⟩
  | rt r E1 => rw [q] at h; exact h
  | bk E1 => rw [q] at h; exact h
  | ct E1 => rw [q] at h; exact h
  | ex x E1 => rw [q] at h; exact h
  | bad => rw [q] at h; exact h.elim
theorem ds_set {i : Nat} {x : Str} {pos' : Pos} (hN : X.N.Nodup) (hi : X.N[i]? = some x) (hx : Loc X.env.scope x) (he : PE X e (tE c W m)) (hs : swapsWith e (some (.Name x pos')) pos.line X.env = pure false := by rfl) (hf : X.fn x = true ∨ X.env.scope.names.lookup x = some .local := by first | exact .inl rfl | exact .inr rfl | assumption) :
    PS X (.Assign [.Name x pos'] e pos) (tS c W (sSet i m)) := ps_imp (ps_set hN hi hx he hs hf) fun Dn σ H ⟨f, G, E, R, h⟩ =>
  tE_outS R h fun r E1 G1 v H1 e1 R1 r1 h1 => by
    split at h1
    · rename_i E2 q
      obtain ⟨G2, e2, R2⟩ := R1.asg r1 q
      exact h1 G2 _ H1 e2 R2
    · exact h1.elim
theorem ds_par {i j : Nat} (h : PS X st (tPar i j (tCons (tE c W ma) (tCons (tE c W mb) tNil)))) : PS X st (tS c W (sPar i j ma mb)) := ps_imp h fun Dn σ H ⟨f, G, E, R, h⟩ => by
  refine tE_outS R h fun r E1 G1 v H1 s1 R1 r1 h1 => ?_
  split at h1
  · rename_i ra E2 q2
    obtain ⟨na, G2, s2, R2, ra2⟩ := R1.rz r1 q2
    obtain ⟨f', R2', hf, back⟩ := R2.keepR ra2 na
    refine tE_raw R2' ?_
    have h2 := postS_out h1
    cases qb : mb E2 with
    | bad => rw [qb] at h2; exact h2
    | ex x E3 => rw [qb] at h2; exact fun G' cls d H' e R' rel => h2 σ G' cls d H' (s2.trans e) (back G' E3 H' e R').1 rel
    | ok b E3 =>
      rw [qb] at h2
      intro G3 w H3 s3 R3 rb
      simp only at h2
      split at h2
      · rename_i rb' E4 q4
        obtain ⟨nb, G4, s4, R4, rb4⟩ := R3.rz rb q4
        obtain ⟨R4f, ra4⟩ := back G4 E4 H3 (s3.trans s4) R4
        have dif : ∀ m m', ra = .ow m → rb' = .ow m' → v ≠ w := fun m m' e1 e2 z => by
          subst e2
          obtain ⟨p', hw, _, _, h0', _⟩ := rb4
          exact (hf p' h0').2 m e1 (z.trans hw)
        have rb4f : RelR c f G4 E4 σ H3 w rb' := by
          cases rb' with
          | sl j => exact absurd rfl (nb j)
          | fz d => exact rb4
          | ow m' =>
            obtain ⟨p', hw, x1, x2, x3, x4⟩ := rb4
            exact ⟨p', hw, x1, x2, (hf p' x3).1, x4⟩
        split at h2
        · rename_i E5 q5
          split at h2
          · rename_i E6 q6
            have R5 := R4f.put ra4 q5
            have rb5 := RelR.put (v := v) nb rb4f q5 dif
            have R6 := R5.put rb5 q6
            exact ⟨v, w, rfl, h2 G4 _ H3 ((s2.trans s3).trans s4) R6⟩
          · exact h2.elim
        · exact h2.elim
      · exact h2.elim
  · exact h1.elim
theorem ds_drop (he : PE X e (tE c W m)) (hs : swapsWith e none pos.line X.env = pure false := by rfl) : PS X (.Expr e pos) (tS c W (sDrop m)) := ps_imp (ps_expr he hs) fun Dn σ H ⟨f, G, E, R, h⟩ =>
  tE_outS R h fun r E1 G1 v H1 e1 R1 r1 h1 => h1 G1 σ H1 (.refl _) R1
theorem ds_ret (he : PE X e (tE c W m)) : PS X (.Return (some e) pos) (tS c W (sRet m)) := ps_imp (ps_ret he) fun Dn σ H ⟨f, G, E, R, h⟩ =>
  tE_outS R h fun r E1 G1 v H1 e1 R1 r1 h1 => by
    cases r with
    | fz d => exact h1 G1 σ v H1 (.refl _) R1 r1
    | ow m => exact h1 G1 σ v H1 (.refl _) R1 r1
    | sl j =>
      have hs : σ[j]? = some (some v) := r1
      simp only [retv] at h1
      split at h1
      · rename_i d q
        obtain ⟨u, x1, x2⟩ := R1.fz j d q
        rw [hs] at x1
        cases x1
        exact h1 G1 σ v H1 (.refl _) R1 x2
      · rename_i m q
        obtain ⟨p, x1, x2, x3, x4⟩ := R1.ow j m q
        rw [hs] at x1
        cases x1
        refine h1 G1 σ _ H1 (.refl _) (R1.drop (fun m' z => by rw [q] at z; cases z)) ⟨p, rfl, x2, x3, x4, fun k o => ?_⟩
        have n : j ≠ k := fun n => by
          subst n
          obtain ⟨⟨m1, z1⟩, _⟩ := o
          rcases z1 with z1 | z1
          · rcases get_set z1 with ⟨_, z⟩ | ⟨n, _⟩
            · cases z
            · exact n rfl
          · rcases get_set z1 with ⟨_, z⟩ | ⟨n, _⟩
            · cases z
            · exact n rfl
        obtain ⟨⟨m1, z1⟩, z2⟩ := o
        rw [List.getElem?_set_ne n] at z1
        exact R1.dis j k p n ⟨⟨m, .inl q⟩, hs⟩ ⟨⟨m1, z1⟩, z2⟩
      · exact h1.elim
theorem ds_retN : PS X (.Return none pos) (tS c W sRetN) := ps_imp ps_retN fun Dn σ H ⟨f, G, E, R, h⟩ => h G σ .non H (.refl _) R .non
theorem ds_if {t : Expr} {sa sb : List Stmt} {tm : BM} (hc : PT X t (tT c W tm)) (ha : PSs X sa (tS c W a)) (hb : PSs X sb (tS c W b)) : PS X (.If t sa sb pos) (tS c W (sIf tm a b)) := ps_imp (ps_if hc ha hb) fun Dn σ H ⟨f, G, E, R, h⟩ =>
  tT_outS R h fun k E1 G1 H1 e1 R1 h1 => by
    cases k with
    | true => exact ⟨f, G1, E1, R1, h1⟩
    | false => exact ⟨f, G1, E1, R1, h1⟩
theorem ds_brk : PS X (.Break pos) (tS c W sBrk) := ps_imp ps_break fun Dn σ H ⟨f, G, E, R, h⟩ => h G σ H (.refl _) R
theorem ds_ct : PS X (.Continue pos) (tS c W sCt) := ps_imp ps_continue fun Dn σ H ⟨f, G, E, R, h⟩ => h G σ H (.refl _) R
theorem ds_pass : PS X (.Pass pos) (tS c W sNil) := ps_imp ps_pass fun Dn σ H ⟨f, G, E, R, h⟩ => h G σ H (.refl _) R
theorem ds_doc {x j pos'} : PS X (.Expr (.Constant (.str x) j pos) pos') (tS c W sNil) := ps_imp ps_doc fun Dn σ H ⟨f, G, E, R, h⟩ => h G σ H (.refl _) R

/-! ### targets -/
variable {t : TgM} {ts : List TgM} {S S' : List Nat}
theorem pg_imp {g g' : TG} (h : PG X tg g) (i : ∀ v σ H Q, g' v σ H Q → g v σ H Q) : PG X tg g' := ⟨fun pins s σ H v u Q I r q => h.run pins s σ H v u Q I r (i v σ H Q q)⟩
theorem pgs_imp {g g' : TGs} (h : PGs X es g) (i : ∀ v σ H Q, g' v σ H Q → g v σ H Q) : PGs X es g' := ⟨fun pins s σ H v u Q I r q => h.run pins s σ H v u Q I r (i v σ H Q q)⟩
theorem dg_name {i : Nat} {x : Str} (h : PG X (.Name x pos) (gName i)) : PG X (.Name x pos) (tG c (tgName i) [i]) := pg_imp h fun v σ H Q ⟨f, G, E, d, E', R, rep, e, k⟩ => by
  unfold tgName at e
  split at e
  · rename_i hb
    cases e
    exact k _ (R.setFz (notBo_ne hb) rep) ⟨List.length_set, fun j hj => List.getElem?_set_ne (fun z => hj (by rw [z]; exact List.mem_singleton.mpr rfl))⟩
  · cases e
theorem dgs_nil : PGs X [] (tGs c [] []) := pgs_imp pgs_nil fun vs σ H Q ⟨f, G, E, ds, E', R, rep, e, k⟩ => by
  cases rep with
  | nil => cases e; exact ⟨rfl, k σ R ⟨rfl, fun _ _ => rfl⟩⟩
  | cons _ _ => cases e
theorem dgs_cons (h1 : PG X e (tG c t S)) (h2 : PGs X es (tGs c ts S')) (hs : (assignEach (e :: es) X.env).map (·.2) = assign e X.env :: (assignEach es X.env).map (·.2) := by rfl) : PGs X (e :: es) (tGs c (t :: ts) (S ++ S')) :=
  pgs_imp (pgs_cons h1 h2 hs) fun vs σ H Q ⟨f, G, E, ds, E', R, rep, e, k⟩ => by
    cases rep with
    | nil => cases e
    | cons r rs =>
      simp only [tgs] at e
      split at e
      · rename_i E1 q
        refine ⟨_, _, rfl, f, G, E, _, E1, R, r, q, fun σ' R' sb => ⟨f, G, E1, _, E', R', rs, e, fun σ2 R2 sb2 => k σ2 R2 ⟨sb2.1.trans sb.1, fun j hj => ?_⟩⟩⟩
        exact (sb2.2 j (fun z => hj (List.mem_append_right _ z))).trans (sb.2 j (fun z => hj (List.mem_append_left _ z)))
      · cases e
theorem tgs_len : ∀ {ts : List TgM} {ds : List D} {E E' : Ev}, tgs ts ds E = some E' → ds.length = ts.length
  | [], [], _, _, _ => rfl
  | [], _ :: _, _, _, h => by cases h
  | _ :: _, [], _, _, h => by cases h
  | t :: ts, d :: ds, E, E', h => by
    simp only [tgs] at h
    split at h
    · simp [tgs_len h]
    · cases h
theorem dg_tup {k n : Nat} (hK : c.K = X.K) (hc : X.calm = true) (h : PGs X es (tGs c ts S)) (hl : ts.length = n) (hn : (assignEach es X.env).length = n := by rfl) (hst : (assignEach es X.env).findIdx? (·.1) = none := by rfl) : PG X (.Tuple es k pos) (tG c (tgTup ts) S) :=
  pg_imp (pg_tup hc h hn hst) fun v σ H Q ⟨f, G, E, d, E', R, rep, e, kk⟩ => by
    unfold tgTup at e
    split at e
    · rename_i ds
      cases rep with
      | tup h1 r1 => exact ⟨_, _, rfl, hK ▸ sqt_mono R.gh h1, by rw [r1.length, tgs_len e, hl], f, G, E, ds, E', R, r1, e, kk⟩
    · cases e
theorem ds_asg (he : PE X e (tE c W m)) (hg : PG X tg (tG c t S)) (hs : swapsWithSole [tg] e pos.line X.env = pure false := by rfl) (hw : swappedStores [tg] e X.env = pure none := by rfl)
    (h1 : (assignEach [tg] X.env).map (·.2) = [assign tg X.env] := by rfl) : PS X (.Assign [tg] e pos) (tS c W (sAsg t m)) := ps_imp (ps_asg he hg hs hw h1) fun Dn σ H ⟨f, G, E, R, h⟩ =>
  tE_outS R h fun r E1 G1 v H1 e1 R1 r1 h1 => by
    split at h1
    · rename_i d E2 q
      obtain ⟨G2, e2, R2, rep⟩ := R1.frz r1 q
      split at h1
      · rename_i E3 q3
        exact ⟨f, G2, E2, d, E3, R2, rep, q3, fun σ' R' _ => h1 G2 σ' H1 e2 R'⟩
      · exact h1.elim
    · exact h1.elim
end
end M

namespace M
open PySem L2

/-! ### what is owned, changed in place -/
def own (E : Ev) (j : Nat) : Option MO := match E[j]? with
  | some (.ow m) => some m
  | some (.bo m) => some m
  | _ => none
def setOwn (E : Ev) (j : Nat) (m' : MO) : Ev := E.set j (match E[j]? with
  | some (.bo _) => .bo m'
  | _ => .ow m')
section
variable {c : Cfg} {f : Fr} {G G' : Hp} {E E' : Ev} {σ : L2.St} {H H' : Hp} {v : V} {d : D} {m m' : MO}
theorem RS.own (R : RS c f G E σ H) {j : Nat} (h : M.own E j = some m) : ∃ p, σ[j]? = some (some (V.ref p)) ∧ OwnRel c G H p m ∧ (E[j]? = some (Slot.ow m) ∨ E[j]? = some (Slot.bo m)) ∧ G p = none := by
  unfold M.own at h
  split at h
  · rename_i m0 q
    cases h
    obtain ⟨p, h1, h2, h3, _⟩ := R.ow j m q
    exact ⟨p, h1, h2, .inl q, h3⟩
  · rename_i m0 q
    cases h
    obtain ⟨p, h1, h2, h3, _⟩ := R.bo j m q
    exact ⟨p, h1, h2, .inr q, h3⟩
  · cases h
theorem RS.setOwn (R : RS c f G E σ H) {j : Nat} {p : Addr} {o : HO} (hs : σ[j]? = some (some (V.ref p))) (he : E[j]? = some (Slot.ow m) ∨ E[j]? = some (Slot.bo m)) (ho : OwnRel c G (upd H p o) p m') :
    RS c f G (M.setOwn E j m') σ (upd H p o) := R.change hs he ho
end
/-- x.append(e) -/
def mAppend (j : Nat) (m : EM) : EM := fun E => match own E j with
  | some (.lst _) => (m E).bind fun r E1 => match fzn E1 r with
    | some (d, E2) => match own E2 j with
      | some (.lst ds) => if ds.length < maxLen then .ok (.fz .non) (setOwn E2 j (.lst (ds ++ [d]))) else .bad
      | _ => .bad
    | none => .bad
  | _ => .bad
/-- x.extend(e) -/
def mExtend (j : Nat) (m : EM) : EM := fun E => match own E j with
  | some (.lst _) => (m E).bind fun r E1 => match fzn E1 r with
    | some (.lst es, E2) => match own E2 j with
      | some (.lst ds) => if ds.length + es.length ≤ maxLen then .ok (.fz .non) (setOwn E2 j (.lst (ds ++ es))) else .bad
      | _ => .bad
    | _ => .bad
  | _ => .bad
/-- x[i] = e -/
def sSetIx (j : Nat) (mi m : EM) : SM := fun E => (m E).out fun r E1 => match fzn E1 r with
  | some (d, E2) => match own E2 j with
    | some (.lst _) => (mi E2).out fun ri E3 => match pk E3 ri, own E3 j with
      | some (.int i), some (.lst ds) => match ixN ds.length i with
        | some k => .nx (setOwn E3 j (.lst (ds.set k d)))
        | none => .bad
      | _, _ => .bad
    | _ => .bad
  | none => .bad
section
variable {X : Cx} {c : Cfg} {W : WX} {e o : Expr} {es : List Expr} {m mi : EM} {pos apos cpos : Pos}
theorem own_tyV {K : PySem.W.Frag} {G H : Hp} {p : Addr} {ds : List D} (h : OwnRel c G H p (.lst ds)) : tyV K "list" (.ref p) H := by
  obtain ⟨vs, h, _⟩ := h
  exact .inl ⟨rfl, vs, .of h⟩
theorem fzn_settle (E : Ev) (r : RV) : fzn E r.settle = fzn E r := by cases r <;> rfl
theorem pk_settle (E : Ev) (r : RV) : pk E r.settle = pk E r := by cases r <;> rfl
theorem de_append {x : Str} {j : Nat} {p0 : Pos} (hv : PE X (.Name x p0) (tVar j)) (ha : PE X e (tE c W m))
    (hp : ∀ {to : TE} {t : TA}, PE X (.Name x p0) to → PA X [e] t → PE X o (tBM X.K "list" rAppend to t)) (hs : starEach [e] X.env = (false, eval e X.env) :: starEach [] X.env := by rfl) :
    PE X o (tE c W (mAppend j m)) := pe_imp (hp hv (pa_cons ha pa_nil hs)) fun σ H Q ⟨f, G, E, R, h⟩ => by
  unfold mAppend at h
  split at h
  · rename_i ds0 q0
    obtain ⟨p, hs0, ho0, _⟩ := R.own q0
    refine ⟨_, hs0, own_tyV ho0, ?_⟩
    refine tE_bindE R h fun r E1 G1 v H1 e1 R1 r1 h1 => ?_
    split at h1
    · rename_i d E2 q
      obtain ⟨G2, e2, R2, rep⟩ := R1.frz r1 ((fzn_settle _ _).trans q)
      split at h1
      · rename_i ds q2
        split at h1
        · rename_i hl
          obtain ⟨p2, hs2, ho2, he2, _⟩ := R2.own q2
          rw [hs0] at hs2
          cases hs2
          obtain ⟨vs, hH, reps⟩ := ho2
          refine ⟨p, vs, v, rfl, rfl, hH, by rw [maxLen_eq, reps.length]; exact hl, ?_⟩
          exact h1 G2 _ _ e2 (R2.setOwn hs0 he2 ⟨vs ++ [v], upd_same, reps.append (.cons rep .nil)⟩) .non
        · exact h1.elim
      · exact h1.elim
    · exact h1.elim
  · exact h.elim
theorem de_extend {x : Str} {j : Nat} {p0 : Pos} (hv : PE X (.Name x p0) (tVar j)) (ha : PE X e (tE c W m))
    (hp : ∀ {to : TE} {t : TA}, PE X (.Name x p0) to → PA X [e] t → PE X o (tBM X.K "list" rExtend to t)) (hs : starEach [e] X.env = (false, eval e X.env) :: starEach [] X.env := by rfl) :
    PE X o (tE c W (mExtend j m)) := pe_imp (hp hv (pa_cons ha pa_nil hs)) fun σ H Q ⟨f, G, E, R, h⟩ => by
  unfold mExtend at h
  split at h
  · rename_i ds0 q0
    obtain ⟨p, hs0, ho0, _⟩ := R.own q0
    refine ⟨_, hs0, own_tyV ho0, ?_⟩
    refine tE_bindE R h fun r E1 G1 v H1 e1 R1 r1 h1 => ?_
    split at h1
    · rename_i ys E2 q
      obtain ⟨G2, e2, R2, rep⟩ := R1.frz r1 ((fzn_settle _ _).trans q)
      split at h1
      · rename_i ds q2
        split at h1
        · rename_i hl
          obtain ⟨p2, hs2, ho2, he2, _⟩ := R2.own q2
          rw [hs0] at hs2
          cases hs2
          obtain ⟨vs, hH, reps⟩ := ho2
          obtain ⟨a, ws, rfl, hW, rw'⟩ := rep.pk R2.gh
          refine ⟨p, a, vs, ws, rfl, rfl, hH, hW, by rw [maxLen_eq, reps.length, rw'.length]; exact hl, ?_⟩
          exact h1 G2 _ _ e2 (R2.setOwn hs0 he2 ⟨vs ++ ws, upd_same, reps.append rw'⟩) .non
        · exact h1.elim
      · exact h1.elim
    · exact h1.elim
  · exact h.elim
theorem ds_setIx {x : Str} {i : Expr} {j : Nat} {p0 : Pos} (hv : PE X (.Name x p0) (tVar j)) (hi : PE X i (tE c W mi)) (ha : PE X e (tE c W m)) {st : Stmt} (hp : ∀ {te to ti : TE}, PE X e te → PE X (.Name x p0) to → PE X i ti → PS X st (tAsg te (gSub to ti rSetL))) :
    PS X st (tS c W (sSetIx j mi m)) := ps_imp (hp ha hv hi) fun Dn σ H ⟨f, G, E, R, h⟩ =>
  tE_outS R h fun r E1 G1 v H1 e1 R1 r1 h1 => by
    split at h1
    · rename_i d E2 q
      obtain ⟨G2, e2, R2, rep⟩ := R1.frz r1 q
      split at h1
      · rename_i ds0 q0
        obtain ⟨p, hs0, ho0, _⟩ := R2.own q0
        refine ⟨_, hs0, ?_⟩
        refine tE_outS R2 (postS_mono e2 h1) fun ri E3 G3 w H3 e3 R3 r3 h3 => ?_
        split at h3
        · rename_i k ds q3 q4
          split at h3
          · rename_i n q5
            obtain ⟨p2, hs2, ho2, he2, _⟩ := R3.own q4
            rw [hs0] at hs2
            cases hs2
            obtain ⟨vs, hH, reps⟩ := ho2
            have rk := R3.pk r3 q3
            cases rk
            refine ⟨p, vs, k, n, rfl, rfl, hH, by rw [reps.length]; exact q5, ?_⟩
            exact h3 G3 σ _ (.refl _) (R3.setOwn hs0 he2 ⟨_, upd_same, reps.set n (rep.mono e3)⟩)
          · exact h3.elim
        · exact h3.elim
      · exact h1.elim
    · exact h1.elim
end

/-! ### what is walked -/
def Yields (c : Cfg) (G0 : Hp) (H0 : Hp) (ds : List D) (J : It) : Prop := ∀ (i : Nat) (G H : Hp), Same G0 G → Same G H → (∀ a o, G0 a = some o → H a = some o) →
  (i < ds.length → J.go i H ∧ ∀ x H', J.yld i H x H' → ∃ d, ds[i]? = some d ∧ ∃ G', Gro G H G' H' ∧ Rep c G' x d) ∧ (ds.length = i → J.stop i H)
abbrev IM := Ev → Res (List D)
def tI (c : Cfg) (W : WX) (mi : IM) : TI := fun σ H R => ∃ f G E, RS c f G E σ H ∧ match mi E with
  | .ok ds E' => ∀ G' H' J, Same G G' → RS c f G' E' σ H' → Yields c G' H' ds J → R J H'
  | .ex x E' => XW c W f G σ x E'
  | .bad => False
/-- a list or tuple -/
def iSeq (m : EM) : IM := fun E => (m E).bind fun r E1 => match fzn E1 r with
  | some (.lst ds, E2) => .ok ds E2
  | some (.frl ds, E2) => .ok ds E2
  | some (.tup ds, E2) => .ok ds E2
  | _ => .bad
def iRange1 (m : EM) : IM := fun E => (m E).bind fun r E1 => match pk E1 r with
  | some (.int j) => if decide (-(2 ^ 62) ≤ j) && decide (j < 2 ^ 62) then .ok ((List.range j.toNat).map fun i => .int (i : Nat)) E1 else .bad
  | _ => .bad
def iRange2 (m m' : EM) : IM := fun E => (m E).bind fun r E1 => (m' E1).bind fun r' E2 => match pk E2 r.settle, pk E2 r' with
  | some (.int i), some (.int j) => if decide (-(2 ^ 62) ≤ i) && decide (i < 2 ^ 62) && decide (-(2 ^ 62) ≤ j) && decide (j < 2 ^ 62) then .ok ((List.range (j - i).toNat).map fun (k : Nat) => .int (i + k)) E2 else .bad
  | _, _ => .bad
section
variable {X : Cx} {c : Cfg} {W : WX} {e tg iter : Expr} {m m' : EM}
theorem pi_imp {w w' : TI} (h : PI X tg iter w) (i : ∀ σ H R, w' σ H R → w σ H R) : PI X tg iter w' := ⟨fun pins s σ H R I q => h.run pins s σ H R I (i σ H R q)⟩
theorem yields_lst {G H : Hp} {a : Addr} {vs : List V} {ds : List D} (h : SqL c.K G a vs) (r : Reps c G vs ds) : Yields c G H ds (Itl c.K a) := fun i G1 H1 e1 e2 _ => by
  have hs : SqL c.K H1 a vs := sql_mono (e1.trans e2) h
  refine ⟨fun hi => ?_, fun hi => ⟨vs, hs, by rw [r.length]; exact Nat.le_of_eq hi⟩⟩
  have hv : i < vs.length := by rw [r.length]; exact hi
  obtain ⟨d, hd, rep⟩ := r.getV (List.getElem?_eq_getElem hv)
  refine ⟨⟨vs, _, hs, List.getElem?_eq_getElem hv⟩, fun x H' y => ?_⟩
  obtain ⟨rfl, y⟩ := y
  have hx := y vs hs
  obtain ⟨d', hd', rep'⟩ := r.getV hx
  exact ⟨d', hd', G1, .refl e2, rep'.mono e1⟩
theorem yields_tup {G H : Hp} {a : Addr} {vs : List V} {ds : List D} (h : SqT c.K G a vs) (r : Reps c G vs ds) : Yields c G H ds (Itt c.K a) := fun i G1 H1 e1 e2 _ => by
  have hs : SqT c.K H1 a vs := sqt_mono (e1.trans e2) h
  refine ⟨fun hi => ?_, fun hi => ⟨vs, hs, by rw [r.length]; exact Nat.le_of_eq hi⟩⟩
  have hv : i < vs.length := by rw [r.length]; exact hi
  refine ⟨⟨vs, _, hs, List.getElem?_eq_getElem hv⟩, fun x H' y => ?_⟩
  obtain ⟨rfl, y⟩ := y
  obtain ⟨d', hd', rep'⟩ := r.getV (y vs hs)
  exact ⟨d', hd', G1, .refl e2, rep'.mono e1⟩
theorem yields_rng {G H : Hp} {lo : Int} {n : Nat} : Yields c G H ((List.range n).map fun (k : Nat) => .int (lo + k)) (Itr lo n) := fun i G1 H1 e1 e2 _ => by
  rw [List.length_map, List.length_range]
  refine ⟨fun hi => ⟨hi, fun x H' y => ?_⟩, fun hi => Nat.le_of_eq hi⟩
  obtain ⟨rfl, rfl⟩ := y
  exact ⟨.int (lo + i), by simp [hi], G1, .refl e2, .int _⟩
/-- a list or a tuple, whichever comes -/
def iBoth (K : PySem.W.Frag) (tl : TE) : TI := fun σ H R => tl σ H fun x H1 => ∃ a, x = .ref a ∧ ((∃ xs, SqL K H1 a xs) ∧ R (Itl K a) H1 ∨ (∃ xs, SqT K H1 a xs) ∧ R (Itt K a) H1)
theorem pi_both {l : Expr} {tl : TE} (hl : PE X l tl) : PI X tg l (iBoth X.K tl) := by
  constructor
  intro pins s σ H R I h
  refine thn (hl.run pins s σ H _ I h) ?_
  rintro v s1 ⟨x, H1, I1, r1, a, rfl, (⟨⟨xs, hq⟩, q⟩ | ⟨⟨xs, hq⟩, q⟩)⟩
  all_goals
    obtain rfl : v = Value.ref a := r1
  · obtain ⟨its, _, pl, _⟩ := I1.list hq
    apply wpAny_pyIter_list pl.isList
    refine ⟨_, [s1.heap.objs.size], _, _, H1, rfl, I1.kept (t' := s1.toks) (fun b o e => Heap.get?_push_of_some _ e), turn_list a _, ⟨_, Heap.get?_push_size _ rfl, rfl, rfl⟩, ?_, q⟩
    intro b hb
    rw [List.mem_singleton.mp hb]
    exact I1.fpOk (Nat.le_refl _) (I1.hok.fresh (Nat.le_refl _))
  · obtain ⟨its, _, pt, _⟩ := I1.tuple hq
    apply wpAny_pyIter_tuple (show s1.heap.IsTuple a its.toArray from pt)
    refine ⟨_, [s1.heap.objs.size], _, _, H1, rfl, I1.kept (t' := s1.toks) (fun b o e => Heap.get?_push_of_some _ e), turn_tuple a _, ⟨_, Heap.get?_push_size _ rfl, rfl, rfl⟩, ?_, q⟩
    intro b hb
    rw [List.mem_singleton.mp hb]
    exact I1.fpOk (Nat.le_refl _) (I1.hok.fresh (Nat.le_refl _))
theorem di_seq (hK : c.K = X.K) (he : PE X iter (tE c W m)) : PI X tg iter (tI c W (iSeq m)) := pi_imp (pi_both he) fun σ H R ⟨f, G, E, Rr, h⟩ => by
  refine tE_sub Rr ?_
  unfold iSeq at h
  cases q : m E with
  | bad => rw [q] at h; exact h
  | ex x E' => rw [q] at h; exact h
  | ok r E1 =>
    rw [q] at h
    intro G1 v H1 e1 R1 r1
    simp only [Res.bind] at h
    cases q2 : fzn E1 r with
    | none => rw [q2] at h; exact h.elim
    | some p =>
      obtain ⟨d, E2⟩ := p
      rw [q2] at h
      obtain ⟨G2, e2, R2, rep⟩ := R1.frz r1 ((fzn_settle _ _).trans q2)
      cases d with
      | lst ds =>
        cases rep with
        | lst h1 reps => exact ⟨_, rfl, .inl ⟨⟨_, .of (R2.gh _ _ h1)⟩, h G2 H1 _ (e1.trans e2) R2 (hK ▸ yields_lst (.of h1) reps)⟩⟩
      | frl ds =>
        cases rep with
        | frl h1 reps => exact ⟨_, rfl, .inl ⟨⟨_, hK ▸ sql_mono R2.gh h1⟩, h G2 H1 _ (e1.trans e2) R2 (hK ▸ yields_lst h1 reps)⟩⟩
      | tup ds =>
        cases rep with
        | tup h1 reps => exact ⟨_, rfl, .inr ⟨⟨_, hK ▸ sqt_mono R2.gh h1⟩, h G2 H1 _ (e1.trans e2) R2 (hK ▸ yields_tup h1 reps)⟩⟩
      | _ => exact h.elim
theorem di_range1 {a : Expr} (h : ∀ {ta : TA}, PA X [a] ta → PI X tg iter (iRng1 ta)) (ha : PE X a (tE c W m)) (hs : starEach [a] X.env = (false, eval a X.env) :: starEach [] X.env := by rfl) : PI X tg iter (tI c W (iRange1 m)) :=
  pi_imp (h (pa_cons ha pa_nil hs)) fun σ H R ⟨f, G, E, Rr, h⟩ => by
    refine tE_raw Rr ?_
    unfold iRange1 at h
    cases q : m E with
    | bad => rw [q] at h; exact h
    | ex x E' => rw [q] at h; exact h
    | ok r E1 =>
      rw [q] at h
      intro G1 v H1 e1 R1 r1
      simp only [Res.bind] at h
      cases q2 : pk E1 r with
      | none => rw [q2] at h; exact h.elim
      | some d =>
        rw [q2] at h
        cases d with
        | int j =>
          have rep := R1.pk r1 q2
          cases rep
          simp only at h
          by_cases hb : (decide (-(2 ^ 62) ≤ j) && decide (j < 2 ^ 62)) = true
          · rw [if_pos hb] at h
            simp only [Bool.and_eq_true, decide_eq_true_eq] at hb
            refine ⟨j, rfl, hb.1, hb.2, h G1 H1 _ e1 R1 ?_⟩
            have y := yields_rng (c := c) (G := G1) (H := H1) (lo := 0) (n := j.toNat)
            simpa using y
          · rw [if_neg hb] at h
            exact h.elim
        | _ => exact h.elim
theorem di_range2 {a b : Expr} (h : ∀ {ta : TA}, PA X [a, b] ta → PI X tg iter (iRng2 ta)) (ha : PE X a (tE c W m)) (hb : PE X b (tE c W m')) (hs : starEach [a, b] X.env = (false, eval a X.env) :: starEach [b] X.env := by rfl) (hs2 : starEach [b] X.env = (false, eval b X.env) :: starEach [] X.env := by rfl) : PI X tg iter (tI c W (iRange2 m m')) :=
  pi_imp (h (pa_cons ha (pa_cons hb pa_nil hs2) hs)) fun σ H R ⟨f, G, E, Rr, h⟩ => by
    refine tE_sub Rr ?_
    unfold iRange2 at h
    cases q : m E with
    | bad => rw [q] at h; exact h
    | ex x E' => rw [q] at h; exact h
    | ok r E1 =>
      rw [q] at h
      intro G1 v H1 e1 R1 r1
      simp only [Res.bind] at h
      refine tE_raw R1 ?_
      cases q' : m' E1 with
      | bad => rw [q'] at h; exact h
      | ex x E' => rw [q'] at h; exact XW.mono e1 h
      | ok r' E2 =>
        rw [q'] at h
        intro G2 w H2 e2 R2 r2
        simp only at h
        cases p1 : pk E2 r.settle with
        | none => rw [p1] at h; exact h.elim
        | some d1 =>
        cases p2 : pk E2 r' with
        | none => rw [p1, p2] at h; cases d1 <;> exact h.elim
        | some d2 =>
        rw [p1, p2] at h
        have rep1 := R2.pk (r1.mono_settled e2) p1
        have rep2 := R2.pk r2 p2
        cases d1 with
        | int i =>
          cases d2 with
          | int j =>
            cases rep1
            cases rep2
            simp only at h
            by_cases hb : (decide (-(2 ^ 62) ≤ i) && decide (i < 2 ^ 62) && decide (-(2 ^ 62) ≤ j) && decide (j < 2 ^ 62)) = true
            · rw [if_pos hb] at h
              simp only [Bool.and_eq_true, decide_eq_true_eq] at hb
              exact ⟨i, j, rfl, ⟨hb.1.1.1, hb.1.1.2, hb.1.2, hb.2⟩, h G2 H2 _ (e1.trans e2) R2 yields_rng⟩
            · rw [if_neg hb] at h
              exact h.elim
          | _ => exact h.elim
        | _ => exact h.elim

end

/-! ### for -/
def forLoop (t : TgM) (body : SM) : List D → Ev → Out
  | [], E => .nx E
  | d :: ds, E => match t d E with
    | none => .bad
    | some E1 => match body E1 with
      | .nx E2 => forLoop t body ds E2
      | .ct E2 => forLoop t body ds E2
      | .bk E2 => .nx E2
      | .rt r E2 => .rt r E2
      | .ex x E2 => .ex x E2
      | .bad => .bad
def sFor (mi : IM) (t : TgM) (body : SM) : SM := fun E => (mi E).out fun ds E1 => forLoop t body ds E1
section
variable {X : Cx} {c : Cfg} {W : WX} {tg iter : Expr} {body : List Stmt} {mi : IM} {t : TgM} {S : List Nat} {b : SM} {pos : Pos}
theorem drop_cons {α : Type} {l : List α} {i : Nat} {d : α} (h : l[i]? = some d) : l.drop i = d :: l.drop (i + 1) := by
  have hi : i < l.length := (List.getElem?_eq_some_iff.mp h).1
  have e : l[i] = d := (List.getElem?_eq_some_iff.mp h).2
  rw [List.drop_eq_getElem_cons hi, e]
theorem ds_for (hp : PassesOwn (model X.prog X.w) X.A X.env X.xe) (hc : X.calm = true) (hi : PI X tg iter (tI c W mi)) (hg : PG X tg (tG c t S)) (hb : PSs X body (tS c W b)) (hs : ∀ x, foldedSetIterable iter X.env x = pure x := by intro _; rfl) :
    PS X (.For tg iter body [] pos) (tS c W (sFor mi t b)) := ps_imp (ps_for hp hc hi hg hb hs) fun Dn σ H ⟨f, G, E, R, h⟩ => by
  refine ⟨f, G, E, R, ?_⟩
  unfold sFor at h
  cases q : mi E with
  | bad => rw [q] at h; exact h
  | ex x E1 => rw [q] at h; exact h σ
  | ok ds E1 =>
    rw [q] at h
    have h : postS c W f G (forLoop t b ds E1) Dn := h
    intro G1 H1 J e1 R1 Y
    have h := postS_mono e1 h
    refine ⟨fun i m σ' H' => m = ds.length - i ∧ i ≤ ds.length ∧ ∃ G' E', Same G1 G' ∧ RS c f G' E' σ' H' ∧ postS c W f G' (forLoop t b (ds.drop i) E') Dn, ⟨_, rfl, Nat.zero_le _, G1, E1, .refl _, R1, h⟩, ?_⟩
    rintro i m σ' H' ⟨rfl, hi', G', E', e', R', h'⟩
    obtain ⟨y1, y2⟩ := Y i G' H' e' R'.gh fun a o q => R'.gh a o (e' a o q)
    by_cases hl : i < ds.length
    · refine .inr ⟨(y1 hl).1, fun σ2 H2 => ∃ G2 E2, Same G1 G2 ∧ RS c f G2 E2 σ2 H2 ∧ postS c W f G2 (forLoop t b (ds.drop (i + 1)) E2) Dn, fun σ2 H2 ⟨G2, E2, e2, R2, h2⟩ => ⟨ds.length - (i + 1), by omega, rfl, hl, G2, E2, e2, R2, h2⟩, fun x H2 y => ?_⟩
      obtain ⟨d, hd, G2, g2, rep⟩ := (y1 hl).2 x H2 y
      have R2 := R'.gro g2
      have h2 := postS_mono g2.gg h'
      rw [drop_cons hd] at h2
      simp only [forLoop] at h2
      cases q2 : t d E' with
      | none => rw [q2] at h2; exact h2.elim
      | some E2 =>
        rw [q2] at h2
        refine ⟨f, G2, E', d, E2, R2, rep, q2, fun σ3 R3 _ => ⟨f, G2, E2, R3, ?_⟩⟩
        simp only at h2
        cases q3 : b E2 with
        | bad => rw [q3] at h2; exact h2
        | nx E3 => rw [q3] at h2; exact fun G4 σ4 H4 e4 R4 => ⟨G4, E3, (e'.trans g2.gg).trans e4, R4, postS_mono e4 h2⟩
        | ct E3 => rw [q3] at h2; exact fun G4 σ4 H4 e4 R4 => ⟨G4, E3, (e'.trans g2.gg).trans e4, R4, postS_mono e4 h2⟩
        | bk E3 => rw [q3] at h2; exact h2
        | rt r E3 => rw [q3] at h2; exact h2
        | ex x E3 => rw [q3] at h2; exact h2
    · refine .inl ⟨y2 (by omega), ?_⟩
      rw [List.drop_eq_nil_of_le (by omega)] at h'
      exact h' G' σ' H' (.refl _) R'
end
end M

namespace M
open PySem L2

/-! ### slots forgotten -/
def wipeE (E : Ev) : List Nat → Ev
  | [] => E
  | v :: vs => (wipeE E vs).set v .un
theorem wipe_get {σ : L2.St} {j : Nat} : ∀ {vs : List Nat}, (wipe σ vs)[j]? = if j ∈ vs ∧ j < σ.length then some none else σ[j]?
  | [] => by simp [wipe]
  | v :: vs => by
    have ih := wipe_get (σ := σ) (j := j) (vs := vs)
    unfold wipe
    by_cases e : v = j
    · subst e
      by_cases l : v < σ.length
      · rw [List.getElem?_set_self (by rw [wipe_length]; exact l), if_pos ⟨List.mem_cons_self, l⟩]
      · rw [List.getElem?_eq_none (by rw [List.length_set, wipe_length]; omega), if_neg (fun h => l h.2), List.getElem?_eq_none (by omega)]
    · rw [List.getElem?_set_ne e, ih]
      have : (j ∈ v :: vs ∧ j < σ.length) ↔ (j ∈ vs ∧ j < σ.length) := by
        simp only [List.mem_cons]
        constructor
        · rintro ⟨h | h, l⟩
          · exact absurd h.symm e
          · exact ⟨h, l⟩
        · rintro ⟨h, l⟩
          exact ⟨.inr h, l⟩
      by_cases h : j ∈ vs ∧ j < σ.length
      · rw [if_pos h, if_pos (this.mpr h)]
      · rw [if_neg h, if_neg (fun z => h (this.mp z))]
theorem wipeE_un {E : Ev} {j : Nat} : ∀ {vs : List Nat}, j ∈ vs → j < E.length → (wipeE E vs)[j]? = some .un
  | v :: vs, h, l => by
    have len : ∀ ws : List Nat, (wipeE E ws).length = E.length := fun ws => by
      induction ws with
      | nil => rfl
      | cons w ws ih => unfold wipeE; rw [List.length_set, ih]
    unfold wipeE
    by_cases e : v = j
    · subst e
      rw [List.getElem?_set_self (by rw [len]; exact l)]
    · rw [List.getElem?_set_ne e]
      rcases List.mem_cons.mp h with h | h
      · exact absurd h.symm e
      · exact wipeE_un h l
theorem wipeE_notBo {E : Ev} {i : Nat} (h : ∀ m, E[i]? ≠ some (Slot.bo m)) : ∀ vs, ∀ m, (wipeE E vs)[i]? ≠ some (Slot.bo m)
  | [] => h
  | v :: vs => fun m e => by
    unfold wipeE at e
    rcases get_set e with ⟨_, z⟩ | ⟨_, z⟩
    · cases z
    · exact wipeE_notBo h vs m z
def allNotBo (E : Ev) (vs : List Nat) : Bool := vs.all (notBo E)
section
variable {c : Cfg} {f : Fr} {G G' : Hp} {E E' : Ev} {σ σ' : L2.St} {H H' : Hp}
/-- what stands in a slot without data does not matter -/
theorem RS.reσ (R : RS c f G E σ H) (hl : σ'.length = σ.length) (h : ∀ i : Nat, E[i]? ≠ some Slot.un → σ'[i]? = σ[i]?) : RS c f G E σ' H := by
  have own : ∀ {j : Nat} {q : Addr}, Own E σ' j q → Own E σ j q := fun {j q} ⟨⟨m, z⟩, s⟩ => ⟨⟨m, z⟩, by rw [← h j (by rcases z with z | z <;> (rw [z]; intro w; cases w))]; exact s⟩
  exact {
    gh := R.gh
    g0 := R.g0
    new := R.new
    fr := R.fr
    len := hl.trans R.len
    fz := fun i d e => by rw [h i (by rw [e]; intro w; cases w)]; exact R.fz i d e
    ow := fun i d e => by rw [h i (by rw [e]; intro w; cases w)]; exact R.ow i d e
    bo := fun i d e => by rw [h i (by rw [e]; intro w; cases w)]; exact R.bo i d e
    bos := R.bos
    dis := fun i j p n a b => R.dis i j p n (own a) (own b)
    inv := R.inv
    xv := fun i e => by rw [h i (by rw [e]; intro w; cases w)]; exact R.xv i e }
theorem RS.wipe (R : RS c f G E σ H) : ∀ {vs : List Nat}, allNotBo E vs = true → RS c f G (wipeE E vs) σ H
  | [], _ => R
  | v :: vs, h => by
    unfold allNotBo at h
    rw [List.all_cons, Bool.and_eq_true] at h
    exact (RS.wipe R (vs := vs) h.2).drop (wipeE_notBo (notBo_ne h.1) vs)
/-- a thing that is nobody's is changed -/
theorem RS.poke (R : RS c f G E σ H) {p : Addr} {o : HO} (h0 : f.H0 p = none) (hg : G p = none) (hn : ∀ i, ¬ Own E σ i p) : RS c f G E σ (upd H p o) where
  gh := fun b u h => by rw [upd_ne (ne_of_none h hg)]; exact R.gh b u h
  g0 := R.g0
  new := R.new
  fr := fun a u h hb => by rw [upd_ne (ne_of_none h h0)]; exact R.fr a u h hb
  len := R.len
  fz := R.fz
  ow := fun i m e => by
    obtain ⟨q, h1, h2, h3, h4⟩ := R.ow i m e
    have z : q ≠ p := fun z => hn i ⟨⟨m, .inl e⟩, by rw [← z]; exact h1⟩
    exact ⟨q, h1, h2.mono (.refl G) (by rw [upd_ne z]), h3, h4⟩
  bo := fun i m e => by
    obtain ⟨q, h1, h2, h3, h4⟩ := R.bo i m e
    have z : q ≠ p := fun z => hn i ⟨⟨m, .inr e⟩, by rw [← z]; exact h1⟩
    exact ⟨q, h1, h2.mono (.refl G) (by rw [upd_ne z]), h3, h4⟩
  bos := R.bos
  dis := R.dis
  inv := R.inv
  xv := R.xv
end
/-! ### comprehensions -/
def lcLoop (t : TgM) (cond : BM) (elt : EM) (vs : List Nat) : List D → List D → Ev → Res RV
  | [], acc, E => .ok (.ow (.lst acc)) E
  | d :: ds, acc, E => match t d E with
    | none => .bad
    | some E1 => match cond E1 with
      | .ok true E2 => match elt E2 with
        | .ok r E3 => match fzn E3 r with
          | some (y, E4) => if acc.length < maxLen ∧ allNotBo E4 vs = true then lcLoop t cond elt vs ds (acc ++ [y]) (wipeE E4 vs) else .bad
          | none => .bad
        | _ => .bad
      | .ok false E2 => if allNotBo E2 vs = true then lcLoop t cond elt vs ds acc (wipeE E2 vs) else .bad
      | _ => .bad
def mLc (mi : IM) (t : TgM) (cond : BM) (elt : EM) (vs : List Nat) : EM := fun E => (mi E).bind fun ds E1 => if allNotBo E1 vs = true then lcLoop t cond elt vs ds [] (wipeE E1 vs) else .bad
def tYesM : BM := fun E => .ok true E
abbrev W0 : WX := fun _ _ _ _ => False
section
variable {X : Cx} {c : Cfg} {W : WX} {mi : IM} {t : TgM} {S : List Nat} {cond : BM} {elt : EM} {vs : List Nat}
theorem pts_imp {ifs : List Expr} {t t' : TT} (h : PTs X ifs t) (i : ∀ σ H Q, t' σ H Q → t σ H Q) : PTs X ifs t' := ⟨fun pins s σ H Q I q => h.run pins s σ H Q I (i σ H Q q)⟩
theorem dts_nil : PTs X [] (tT c W tYesM) := pts_imp pts_nil fun σ H Q ⟨f, G, E, R, h⟩ => h G H (.refl _) R
theorem dts_one {e : Expr} (h : PT X e (tT c W cond)) : PTs X [e] (tT c W cond) := pts_one h
theorem lc_read (hS : ∀ j ∈ S, j ∈ vs) {σ : L2.St} {H : Hp} {Q : VK} (h : tE c W (mLc mi t cond elt vs) σ H Q) : tLc (tI c W mi) (tG c t S) (tT c W0 cond) (tE c W0 elt) vs σ H Q := by
  obtain ⟨f, G, E, R, h⟩ := h
  refine ⟨f, G, E, R, ?_⟩
  unfold mLc at h
  cases q : mi E with
  | bad => rw [q] at h; exact h
  | ex x E1 => rw [q] at h; exact h
  | ok ds E1 =>
    rw [q] at h
    intro G1 H1 J e1 R1 Y p hp
    have h : postE c W f G σ (if allNotBo E1 vs = true then lcLoop t cond elt vs ds [] (wipeE E1 vs) else .bad) Q := h
    by_cases hb : allNotBo E1 vs = true
    case neg => rw [if_neg hb] at h; exact h.elim
    rw [if_pos hb] at h
    have h := postE_mono e1 h
    have hg1 : G1 p = none := none_of R1.gh hp
    have h0p : f.H0 p = none := R1.h0 hp
    have hg0 : f.G0 p = none := R1.g0n hg1
    have nOwn : ∀ i, ¬ Own E1 σ i p := fun i o => by
      obtain ⟨_, m, hm⟩ := R1.ownG o
      obtain ⟨u, hu⟩ := hm.there
      rw [hp] at hu
      cases hu
    have hbo := R1.bon nOwn
    have wl : (L2.wipe σ vs).length = σ.length := wipe_length σ vs
    -- a wiped environment does not see the wiped slots
    have blind : ∀ {E' : Ev} {σ2 : L2.St}, (∀ j ∈ vs, j < E'.length → E'[j]? = some Slot.un) → E'.length = σ.length → L2.wipe σ2 vs = L2.wipe σ vs → σ2.length = σ.length → ∀ i : Nat, E'[i]? ≠ some Slot.un → σ2[i]? = σ[i]? := by
      intro E' σ2 hu hl hw hl2 i hi
      by_cases m : i ∈ vs
      · by_cases l : i < E'.length
        · exact absurd (hu i m l) hi
        · rw [List.getElem?_eq_none (by omega), List.getElem?_eq_none (by omega)]
      · have a := wipe_get (σ := σ2) (j := i) (vs := vs)
        have b := wipe_get (σ := σ) (j := i) (vs := vs)
        rw [if_neg (fun z => m z.1)] at a b
        rw [← a, ← b, hw]
    have wlen : ∀ (E' : Ev) (ws : List Nat), (wipeE E' ws).length = E'.length := fun E' ws => by
      induction ws with
      | nil => rfl
      | cons w ws ih => unfold wipeE; rw [List.length_set, ih]
    have ww : L2.wipe (L2.wipe σ vs) vs = L2.wipe σ vs := by
      apply List.ext_getElem?
      intro j
      by_cases h : j ∈ vs ∧ j < σ.length
      · rw [wipe_get, if_pos ⟨h.1, by rw [wipe_length]; exact h.2⟩, wipe_get, if_pos h]
      · rw [wipe_get, if_neg (by rw [wipe_length]; exact h)]
    refine ⟨fun i m H' => m = ds.length - i ∧ i ≤ ds.length ∧ ∃ G' E' acc, Same G1 G' ∧ RS c f G' E' σ H' ∧ (∀ j ∈ vs, j < E'.length → E'[j]? = some Slot.un) ∧ H' p = some (.lst acc) ∧ G' p = none ∧ (∀ i, ¬ Own E' σ i p) ∧ ∃ accD, Reps c G' acc accD ∧ postE c W f G' σ (lcLoop t cond elt vs (ds.drop i) accD E') Q,
      ⟨_, rfl, Nat.zero_le _, G1, wipeE E1 vs, [], .refl _, (R1.wipe hb).poke h0p hg1 ?_, fun j hj hl => wipeE_un hj (by rw [wlen] at hl; exact hl), upd_same, hg1, ?_, [], .nil, h⟩, ?_⟩
    · intro i o
      obtain ⟨_, m, hm⟩ := (R1.wipe hb).ownG o
      obtain ⟨u, hu⟩ := hm.there
      rw [hp] at hu
      cases hu
    · intro i o
      obtain ⟨_, m, hm⟩ := (R1.wipe hb).ownG o
      obtain ⟨u, hu⟩ := hm.there
      rw [hp] at hu
      cases hu
    rintro i m H' ⟨rfl, hi', G', E', acc, e', R', hun, hacc, hgp, hno, accD, racc, h'⟩
    obtain ⟨y1, y2⟩ := Y i G' H' e' R'.gh fun a o q => R'.gh a o (e' a o q)
    by_cases hl : i < ds.length
    · refine .inr ⟨(y1 hl).1, fun H2 => ∃ G2 E2 acc, Same G1 G2 ∧ RS c f G2 E2 σ H2 ∧ (∀ j ∈ vs, j < E2.length → E2[j]? = some Slot.un) ∧ H2 p = some (.lst acc) ∧ G2 p = none ∧ (∀ i, ¬ Own E2 σ i p) ∧ ∃ accD, Reps c G2 acc accD ∧ postE c W f G2 σ (lcLoop t cond elt vs (ds.drop (i + 1)) accD E2) Q,
        fun H2 z => ⟨ds.length - (i + 1), by omega, rfl, hl, z⟩, fun x H2 y => ?_⟩
      obtain ⟨d, hd, G2, g2, rep⟩ := (y1 hl).2 x H2 y
      have h2 := postE_mono g2.gg h'
      rw [drop_cons hd] at h2
      simp only [lcLoop] at h2
      have RP := R'.plus hacc hgp hno
      have RP2 := (RP.gro g2).reσ (σ' := L2.wipe σ vs) wl (fun j hj => (blind hun (by rw [← R'.len]) ww wl j hj))
      cases q2 : t d E' with
      | none => rw [q2] at h2; exact h2.elim
      | some E2 =>
        rw [q2] at h2
        refine ⟨_, G2, E', d, E2, RP2, rep, q2, fun σ3 R3 sb => ⟨?_, ?_⟩⟩
        · apply List.ext_getElem?
          intro j
          rw [wipe_get, wipe_get, sb.1, wl]
          by_cases z : j ∈ vs ∧ j < σ.length
          · rw [if_pos z, if_pos z]
          · rw [if_neg z, if_neg z]
            by_cases zv : j ∈ vs
            · have : ¬ j < σ.length := fun l => z ⟨zv, l⟩
              rw [List.getElem?_eq_none (by rw [sb.1, wl]; omega), List.getElem?_eq_none (by omega)]
            · rw [sb.2 j (fun w => zv (hS j w)), wipe_get, if_neg (fun w => zv w.1)]
        have hw3 : L2.wipe σ3 vs = L2.wipe σ vs := by
          apply List.ext_getElem?
          intro j
          rw [wipe_get, wipe_get, sb.1, wl]
          by_cases z : j ∈ vs ∧ j < σ.length
          · rw [if_pos z, if_pos z]
          · rw [if_neg z, if_neg z]
            by_cases zv : j ∈ vs
            · have : ¬ j < σ.length := fun l => z ⟨zv, l⟩
              rw [List.getElem?_eq_none (by rw [sb.1, wl]; omega), List.getElem?_eq_none (by omega)]
            · rw [sb.2 j (fun w => zv (hS j w)), wipe_get, if_neg (fun w => zv w.1)]
        have hl3 : σ3.length = σ.length := sb.1.trans wl
        -- back to the block's outside
        have back : ∀ {G4 : Hp} {E4 : Ev} {H4 : Hp}, RS c (f.plus p (.lst acc)) G4 E4 σ3 H4 → allNotBo E4 vs = true → RS c f G4 (wipeE E4 vs) σ H4 ∧ (∀ j ∈ vs, j < (wipeE E4 vs).length → (wipeE E4 vs)[j]? = some Slot.un) ∧ H4 p = some (.lst acc) ∧ G4 p = none ∧ ∀ i, ¬ Own (wipeE E4 vs) σ i p := by
          intro G4 E4 H4 R4 hb4
          have un4 : ∀ j ∈ vs, j < (wipeE E4 vs).length → (wipeE E4 vs)[j]? = some Slot.un := fun j hj hl => wipeE_un hj (by rw [wlen] at hl; exact hl)
          have R5 := (R4.wipe hb4).reσ (σ' := σ) hl3.symm (fun j hj => (blind un4 (by rw [wlen, ← R4.len, hl3]) hw3 hl3 j hj).symm)
          obtain ⟨x1, x2, x3, x4⟩ := R5.minus h0p hg0 hbo
          exact ⟨x1, un4, x2, x3, x4⟩
        refine ⟨_, G2, E2, R3, ?_⟩
        simp only at h2
        cases q3 : cond E2 with
        | bad => rw [q3] at h2; exact h2
        | ex x E3 => rw [q3] at h2; exact h2.elim
        | ok k E3 =>
          rw [q3] at h2
          intro G3 H3 e3 R3'
          cases k with
          | false =>
            simp only at h2
            by_cases hb3 : allNotBo E3 vs = true
            case neg => rw [if_neg hb3] at h2; exact h2.elim
            rw [if_pos hb3] at h2
            obtain ⟨x1, x0, x2, x3, x4⟩ := back R3' hb3
            exact ⟨G3, _, acc, (e'.trans g2.gg).trans e3, x1, x0, x2, x3, x4, accD, racc.mono (g2.gg.trans e3), postE_mono e3 h2⟩
          | true =>
            refine ⟨_, G3, E3, R3', ?_⟩
            simp only at h2
            cases q4 : elt E3 with
            | bad => rw [q4] at h2; exact h2
            | ex x E4 => rw [q4] at h2; exact h2.elim
            | ok r E4 =>
              rw [q4] at h2
              intro G4 w H4 e4 R4 r4
              simp only at h2
              cases q5 : fzn E4 r with
              | none => rw [q5] at h2; exact h2.elim
              | some pr =>
                obtain ⟨yd, E5⟩ := pr
                rw [q5] at h2
                simp only at h2
                by_cases hb5 : accD.length < maxLen ∧ allNotBo E5 vs = true
                case neg => rw [if_neg hb5] at h2; exact h2.elim
                rw [if_pos hb5] at h2
                obtain ⟨G5, e5, R5, rep5⟩ := R4.frz r4 q5
                obtain ⟨x1, x0, x2, x3, x4⟩ := back R5 hb5.2
                refine ⟨acc, x2, by rw [maxLen_eq, racc.length]; exact hb5.1, G5, _, acc ++ [w], ((e'.trans g2.gg).trans e3).trans (e4.trans e5), x1.poke h0p x3 x4, x0, upd_same, x3, x4, accD ++ [yd], ?_, postE_mono (e3.trans (e4.trans e5)) h2⟩
                exact (racc.mono (g2.gg.trans (e3.trans (e4.trans e5)))).append (.cons rep5 .nil)
    · refine .inl ⟨y2 (by omega), ?_⟩
      rw [List.drop_eq_nil_of_le (by omega)] at h'
      have hE : RS c f G' E' σ H' := R'
      exact h' G' _ H' (.refl _) hE ⟨p, rfl, ⟨acc, hacc, racc⟩, hgp, h0p, hno⟩
theorem de_lc {e : Expr} (h : PE X e (tLc (tI c W mi) (tG c t S) (tT c W0 cond) (tE c W0 elt) vs)) (hS : ∀ j ∈ S, j ∈ vs := by decide) : PE X e (tE c W (mLc mi t cond elt vs)) := pe_imp h fun σ H Q q => lc_read hS q
theorem ds_setLc {st : Stmt} {i : Nat} (h : PS X st (tAsg (tLc (tI c W mi) (tG c t S) (tT c W0 cond) (tE c W0 elt) vs) (gName i))) (hS : ∀ j ∈ S, j ∈ vs := by decide) : PS X st (tS c W (sSet i (mLc mi t cond elt vs))) := ps_imp h fun Dn σ H ⟨f, G, E, R, h⟩ =>
  lc_read hS (tE_outS R h fun r E1 G1 v H1 e1 R1 r1 h1 => by
    split at h1
    · rename_i E2 q
      obtain ⟨G2, e2, R2⟩ := R1.asg r1 q
      exact h1 G2 _ H1 e2 R2
    · exact h1.elim)
end
end M

namespace M
open PySem L2

/-! ### defs: from the arguments' slots to the answer, and the slots at the end -/
abbrev FM := Ev → Res RV
/-- a body with n slots in all -/
def runF (n : Nat) (body : SM) : FM := fun as => match body (as ++ List.replicate (n - as.length) .un) with
  | .rt r E => .ok r E
  | .nx E => .ok (.fz .non) E
  | .ex x E => .ex x E
  | _ => .bad
def boOf (as : Ev) (vs : List V) : Nat → Option Addr := fun i => match as[i]?, vs[i]? with
  | some (.bo _), some (.ref p) => some p
  | _, _ => none
def startF (G H : Hp) (as : Ev) (vs : List V) : Fr := ⟨G, H, boOf as vs⟩
def okArg : Slot → Bool
  | .fz _ => true
  | .bo _ => true
  | _ => false
def spM (c : Cfg) (n : Nat) (F : FM) : Sp := fun vs H Q Ee => vs.length = n ∧ ∃ G as, as.all okArg = true ∧ RS c (startF G H as vs) G as (vs.map some) H ∧ match F as with
  | .ok r E => ∀ G' σ' v H', Same G G' → RS c (startF G H as vs) G' E σ' H' → RelR c (startF G H as vs) G' E σ' H' v r → Q v H'
  | .ex x E => ∀ G' σ' cls d H', Same G G' → RS c (startF G H as vs) G' E σ' H' → RelX c G' H' cls d x → Ee cls d H'
  | .bad => False
theorem append_un {as : Ev} {k i : Nat} {s : Slot} (h : (as ++ List.replicate k Slot.un)[i]? = some s) (hs : s ≠ .un) : as[i]? = some s := by
  by_cases l : i < as.length
  · rwa [List.getElem?_append_left l] at h
  · rw [List.getElem?_append_right (by omega)] at h
    have := List.mem_of_getElem? h
    exact absurd (List.eq_of_mem_replicate this) hs
theorem RS.start {c : Cfg} {f : Fr} {G H : Hp} {as : Ev} {vs : List V} {N : List Str} (R : RS c f G as (vs.map some) H) : RS c f G (as ++ List.replicate (N.length - as.length) .un) (L2.start N vs) H := by
  have hl : vs.length = as.length := by have := R.len; rwa [List.length_map] at this
  have e : ∀ i, i < as.length → (L2.start N vs)[i]? = (vs.map some)[i]? := fun i hi => by
    unfold L2.start
    rw [List.getElem?_append_left (by rw [List.length_map, hl]; exact hi)]
  have up : ∀ {i : Nat} {s : Slot}, (as ++ List.replicate (N.length - as.length) Slot.un)[i]? = some s → s ≠ .un → as[i]? = some s ∧ i < as.length := fun {i s} h hs => by
    have a := append_un h hs
    exact ⟨a, (List.getElem?_eq_some_iff.mp a).1⟩
  exact {
    gh := R.gh
    g0 := R.g0
    new := R.new
    fr := R.fr
    len := by unfold L2.start; simp [hl]
    fz := fun i d h => by
      obtain ⟨a, l⟩ := up h (by intro z; cases z)
      rw [e i l]
      exact R.fz i d a
    ow := fun i d h => by
      obtain ⟨a, l⟩ := up h (by intro z; cases z)
      rw [e i l]
      exact R.ow i d a
    bo := fun i d h => by
      obtain ⟨a, l⟩ := up h (by intro z; cases z)
      rw [e i l]
      exact R.bo i d a
    bos := fun i p h => by
      obtain ⟨m, hm⟩ := R.bos i p h
      exact ⟨m, by rw [List.getElem?_append_left (List.getElem?_eq_some_iff.mp hm).1]; exact hm⟩
    dis := fun i j p n a b => by
      have down : ∀ {k : Nat}, Own (as ++ List.replicate (N.length - as.length) Slot.un) (L2.start N vs) k p → Own as (vs.map some) k p := fun {k} ⟨⟨m, z⟩, s⟩ => by
        rcases z with z | z
        · obtain ⟨a, l⟩ := up z (by intro z; cases z)
          exact ⟨⟨m, .inl a⟩, by rw [← e k l]; exact s⟩
        · obtain ⟨a, l⟩ := up z (by intro z; cases z)
          exact ⟨⟨m, .inr a⟩, by rw [← e k l]; exact s⟩
      exact R.dis i j p n (down a) (down b)
    inv := R.inv
    xv := fun i h => by
      obtain ⟨a, l⟩ := up h (by intro z; cases z)
      rw [e i l]
      exact R.xv i a }
/-- THE RULE for a def -/
theorem mk_fn {P : Program} {w : World} {K : PySem.W.Frag} {mg : Str → Option Value} {base : Heap} {x qual : Str} {st : Stmt} {f : Addr} {fd : FuncData} {N ps : List Str} {k n m : Nat} {c : Cfg} {body : SM} (F : Fun K x qual st f fd) (S : FnScope N ps (defScope st))
    (hn : N.length = n) (hm : ps.length = m)
    (hb : ∀ (cdv : Value) (A : Around) (outer : List Env) (s : Shared) (H : Hp) (E : XK), Room k (A.deeper (PyProof.Rows.envOfC qual (defScope st) s.heap.objs.size f cdv)) →
      PSs (cxOf (L2.CX P w) P w K mg base N qual (defScope st) f cdv A outer s H E) (defBody st) (tS c (fun cls d _ H' => E cls d H') body)) :
    FnOk P w K mg base (L2.CX P w) (k + 1) f fd ps (spM c m (runF n body)) := by
  refine F.okX S (fun vs H Q E h => by rw [hm]; exact h.1) fun cdv A outer s H vs Q E hr h => ⟨_, hb cdv A outer s H E hr, ?_⟩
  obtain ⟨hl, G, as, _, R, h⟩ := h
  have R1 := R.start (N := N)
  refine ⟨_, G, _, R1, ?_⟩
  unfold runF at h
  rw [← hn] at h
  cases q : body (as ++ List.replicate (N.length - as.length) .un) with
  | nx E1 => rw [q] at h; exact fun G' σ' H' e R' => h G' σ' .non H' e R' .non
  | rt r E1 => rw [q] at h; exact fun G' σ' v H' e R' rel => h G' σ' v H' e R' rel
  | ex x E1 => rw [q] at h; exact fun σ' G' cls d H' e R' rel => h G' σ' cls d H' e R' rel
  | bk E1 => rw [q] at h; exact h.elim
  | ct E1 => rw [q] at h; exact h.elim
  | bad => rw [q] at h; exact h.elim

/-! ### calls of defs -/
/-- what a def hands back -/
inductive RX where
  | ok (r : RV) | ex (x : Exn) | bad
def Res.rx : Res RV → RX
  | .ok r _ => .ok r
  | .ex x _ => .ex x
  | .bad => .bad
/-- .. and what is left of the lent thing -/
inductive RXB where
  | ok (r : RV) (m : MO) | ex (x : Exn) (m : MO) | bad
def Res.rxb : Res RV → RXB
  | .ok r (.bo m :: _) => .ok r m
  | .ex x (.bo m :: _) => .ex x m
  | _ => .bad
/-- all arguments are data -/
def mFn (F : FM) (ma : AM) : EM := fun E => (ma E).bind fun rs E1 => match fzs E1 rs with
  | some (ds, E2) => match (F (ds.map .fz)).rx with
    | .ok (.fz d) => .ok (.fz d) E2
    | .ok (.ow m) => .ok (.ow m) E2
    | .ex x => .ex x E2
    | _ => .bad
  | none => .bad
/-- the first argument is lent: what stands in slot j -/
def mFnB (F : FM) (j : Nat) (ma : AM) : EM := fun E => match own E j with
  | some _ => (ma E).bind fun rs E1 => match fzs E1 rs with
    | some (ds, E2) => match own E2 j with
      | some m => match (F (.bo m :: ds.map .fz)).rxb with
        | .ok (.fz d) m' => .ok (.fz d) (setOwn E2 j m')
        | .ok (.ow r) m' => .ok (.ow r) (setOwn E2 j m')
        | .ex x m' => .ex x (setOwn E2 j m')
        | _ => .bad
      | none => .bad
    | none => .bad
  | none => .bad
section
variable {c : Cfg} {f : Fr} {G G' : Hp} {E E' : Ev} {σ σ' : L2.St} {H H' : Hp} {vs : List V} {ds : List D}
theorem map_fz_get {i : Nat} {s : Slot} (h : (ds.map Slot.fz)[i]? = some s) : ∃ d, s = .fz d ∧ ds[i]? = some d := by
  rw [List.getElem?_map] at h
  cases q : ds[i]? with
  | none => rw [q] at h; cases h
  | some d => rw [q] at h; cases h; exact ⟨d, rfl, rfl⟩
theorem boOf_fz : boOf (ds.map Slot.fz) vs = fun _ => none := by
  funext i
  unfold boOf
  cases q : (ds.map Slot.fz)[i]? with
  | none => rfl
  | some s => obtain ⟨d, rfl, _⟩ := map_fz_get q; rfl
theorem RS.callee (R : RS c f G E σ H) (r : Reps c G vs ds) : RS c (startF G H (ds.map .fz) vs) G (ds.map .fz) (vs.map some) H where
  gh := R.gh
  g0 := .refl G
  new := fun a o h => .inl (by show G a ≠ none; rw [h]; intro z; cases z)
  fr := fun a o h _ => h
  len := by rw [List.length_map, List.length_map]; exact r.length
  fz := fun i d h => by
    obtain ⟨d', e, q⟩ := map_fz_get h
    cases e
    obtain ⟨v, h1, h2⟩ := r.get q
    exact ⟨v, by rw [List.getElem?_map, h1]; rfl, h2⟩
  ow := fun i m h => by obtain ⟨d', e, q⟩ := map_fz_get h; cases e
  bo := fun i m h => by obtain ⟨d', e, q⟩ := map_fz_get h; cases e
  bos := fun i p h => by
    have h : boOf (ds.map Slot.fz) vs i = some p := h
    rw [boOf_fz] at h
    cases h
  dis := fun i j p n ⟨⟨m, z⟩, _⟩ _ => by
    rcases z with z | z
    · obtain ⟨d', e, q⟩ := map_fz_get z; cases e
    · obtain ⟨d', e, q⟩ := map_fz_get z; cases e
  inv := R.inv
  xv := fun i h => by obtain ⟨d', e, q⟩ := map_fz_get h; cases e
/-- behind a call to which nothing was lent -/
theorem RS.back (R : RS c f G E σ H) {as : Ev} (hb : boOf as vs = fun _ => none) {E1 : Ev} {σ1 : L2.St} (R1 : RS c (startF G H as vs) G' E1 σ1 H') : Gro G H G' H' where
  hh := fun a o h => R1.fr a o h (fun i z => by
    have z : boOf as vs i = some a := z
    rw [hb] at z
    cases z)
  gg := R1.g0
  gh := R1.gh
  new := fun a o h => by
    rcases R1.new a o h with z | z
    · refine .inl ?_
      have z : G a ≠ none := z
      cases q : G a with
      | none => exact absurd q z
      | some u =>
        have := R1.g0 a u q
        rw [h] at this
        cases this
        rfl
    · exact .inr z
theorem RelR.back (R : RS c f G E σ H) {as E1 : Ev} {σ1 : L2.St} {v : V} {r : RV} (h : RelR c (startF G H as vs) G' E1 σ1 H' v r) (hr : ∀ j, r ≠ .sl j) : RelN c G' H H' v r := by
  cases r with
  | sl j => exact absurd rfl (hr j)
  | fz d => exact h
  | ow m =>
    obtain ⟨p, h1, h2, h3, h4, _⟩ := h
    exact ⟨p, h1, h2, h3, h4⟩
end
theorem boOf_bo {m : MO} {p : Addr} {vs : List V} {ds : List D} : boOf (.bo m :: ds.map Slot.fz) (.ref p :: vs) = fun i => if i = 0 then some p else none := by
  funext i
  cases i with
  | zero => rfl
  | succ i =>
    rw [if_neg (by omega)]
    have := congrFun (boOf_fz (ds := ds) (vs := vs)) i
    unfold boOf at this ⊢
    simpa using this
section
variable {c : Cfg} {f : Fr} {G G' : Hp} {E E' : Ev} {σ σ' : L2.St} {H H' : Hp} {vs : List V} {ds : List D} {m m' : MO} {p : Addr}
theorem RS.calleeB (R : RS c f G E σ H) (r : Reps c G vs ds) (ho : OwnRel c G H p m) (hg : G p = none) : RS c (startF G H (.bo m :: ds.map .fz) (.ref p :: vs)) G (.bo m :: ds.map .fz) ((V.ref p :: vs).map some) H where
  gh := R.gh
  g0 := .refl G
  new := fun a o h => .inl (by show G a ≠ none; rw [h]; intro z; cases z)
  fr := fun a o h _ => h
  len := by simp [r.length]
  fz := fun i d h => by
    cases i with
    | zero => cases h
    | succ i =>
      have h : (ds.map Slot.fz)[i]? = some (Slot.fz d) := h
      obtain ⟨d', e, q⟩ := map_fz_get h
      cases e
      obtain ⟨v, h1, h2⟩ := r.get q
      exact ⟨v, by show (vs.map some)[i]? = _; rw [List.getElem?_map, h1]; rfl, h2⟩
  ow := fun i m h => by
    cases i with
    | zero => cases h
    | succ i =>
      have h : (ds.map Slot.fz)[i]? = some (Slot.ow m) := h
      obtain ⟨d', e, q⟩ := map_fz_get h; cases e
  bo := fun i m h => by
    cases i with
    | zero => cases h; exact ⟨p, rfl, ho, hg, rfl⟩
    | succ i =>
      have h : (ds.map Slot.fz)[i]? = some (Slot.bo m) := h
      obtain ⟨d', e, q⟩ := map_fz_get h; cases e
  bos := fun i q h => by
    have h : boOf (.bo m :: ds.map Slot.fz) (.ref p :: vs) i = some q := h
    rw [boOf_bo] at h
    dsimp only at h
    split at h
    · rename_i z; subst z; exact ⟨m, rfl⟩
    · cases h
  dis := fun i j q n a b => by
    have z : ∀ {k : Nat}, Own (.bo m :: ds.map Slot.fz) ((V.ref p :: vs).map some) k q → k = 0 := fun {k} ⟨⟨m1, z⟩, _⟩ => by
      cases k with
      | zero => rfl
      | succ k =>
        rcases z with z | z
        · have z : (ds.map Slot.fz)[k]? = some (Slot.ow m1) := z
          obtain ⟨d', e, q⟩ := map_fz_get z; cases e
        · have z : (ds.map Slot.fz)[k]? = some (Slot.bo m1) := z
          obtain ⟨d', e, q⟩ := map_fz_get z; cases e
    exact n ((z a).trans (z b).symm)
  inv := R.inv
  xv := fun i h => by
    cases i with
    | zero => cases h
    | succ i =>
      have h : (ds.map Slot.fz)[i]? = some Slot.xv := h
      obtain ⟨d', e, q⟩ := map_fz_get h; cases e
/-- behind a call to which slot j was lent -/
theorem RS.backB (R : RS c f G E σ H) {j : Nat} (hs : σ[j]? = some (some (V.ref p))) (he : E[j]? = some (Slot.ow m) ∨ E[j]? = some (Slot.bo m)) (ho : OwnRel c G H p m)
    {E1 : Ev} {σ1 : L2.St} (R1 : RS c (startF G H (.bo m :: ds.map .fz) (.ref p :: vs)) G' (.bo m' :: E1) σ1 H') : RS c f G' (M.setOwn E j m') σ H' := by
  obtain ⟨q, hq1, hq2, hq3, hq4⟩ := R1.bo 0 m' rfl
  have hq4 : boOf (.bo m :: ds.map Slot.fz) (.ref p :: vs) 0 = some q := hq4
  cases hq4
  have keep : ∀ a o, a ≠ p → H a = some o → H' a = some o := fun a o n h => R1.fr a o h fun i z => by
    have z : boOf (.bo m :: ds.map Slot.fz) (.ref p :: vs) i = some a := z
    rw [boOf_bo] at z
    dsimp only at z
    split at z
    · exact n (Option.some.inj z).symm
    · cases z
  have new : ∀ a o, G' a = some o → G a = some o ∨ H a = none := fun a o h => by
    rcases R1.new a o h with z | z
    · refine .inl ?_
      have z : G a ≠ none := z
      cases q : G a with
      | none => exact absurd q z
      | some u =>
        have := R1.g0 a u q
        rw [h] at this
        cases this
        rfl
    · exact .inr z
  obtain ⟨hgp, _⟩ := R.ownG (⟨⟨m, he⟩, hs⟩ : Own E σ j p)
  -- first the data and the other things grow, p as it was; then p is changed
  obtain ⟨op, hop⟩ := ho.there
  let Hm : Hp := fun a => if a = p then some op else H' a
  have g : Gro G H G' Hm := {
    hh := fun a o h => by
      show (if a = p then some op else H' a) = some o
      by_cases z : a = p
      · subst z; rw [if_pos rfl]; rw [hop] at h; exact h
      · rw [if_neg z]; exact keep a o z h
    gg := R1.g0
    gh := fun a o h => by
      show (if a = p then some op else H' a) = some o
      by_cases z : a = p
      · subst z; rw [hq3] at h; cases h
      · rw [if_neg z]; exact R1.gh a o h
    new := new }
  have R2 := R.gro g
  obtain ⟨o', ho'⟩ := hq2.there
  have eH : upd Hm p o' = H' := by
    funext a
    unfold upd
    by_cases z : a = p
    · subst z; rw [if_pos rfl, ho']
    · rw [if_neg z]; show (if a = p then some op else H' a) = _; rw [if_neg z]
  have := R2.setOwn (m' := m') (o := o') hs he (by rw [eH]; exact hq2)
  rwa [eH] at this
end
section
variable {X : Cx} {c : Cfg} {W : WX} {e o : Expr} {es : List Expr} {mr : AM} {F : FM} {n : Nat}
theorem fn_read {σ : L2.St} {H : Hp} {Q : VK} (hn : ∀ {E E1 : Ev} {rs}, mr E = .ok rs E1 → rs.length = n) (h : tE c W (mFn F mr) σ H Q) : tCallS (spM c n F) (WE W) (tA c W mr) σ H Q := by
  obtain ⟨f, G, E, R, h⟩ := h
  refine ⟨f, G, E, R, ?_⟩
  unfold mFn at h
  cases q : mr E with
  | bad => rw [q] at h; exact h
  | ex x E1 => rw [q] at h; exact h
  | ok rs E1 =>
    rw [q] at h
    intro G1 vs H1 e1 R1 r1
    have h := postE_mono e1 h
    simp only [Res.bind] at h
    cases q2 : fzs E1 rs with
    | none => rw [q2] at h; exact h.elim
    | some pr =>
      obtain ⟨ds, E2⟩ := pr
      rw [q2] at h
      simp only at h
      obtain ⟨G2, e2, R2, rep⟩ := fzs_rep R1 r1 q2
      have lens : ∀ {rs : List RV} {E1 E2 : Ev} {ds : List D}, fzs E1 rs = some (ds, E2) → ds.length = rs.length := by
        intro rs
        induction rs with
        | nil => intro E1 E2 ds q; cases q; rfl
        | cons r rs ih =>
          intro E1 E2 ds q
          simp only [fzs] at q
          split at q
          · split at q
            · rename_i h2
              cases q
              simp [ih h2]
            · cases q
          · cases q
      refine ⟨by rw [rep.length, lens q2, hn q], G2, ds.map .fz, ?_, R2.callee rep, ?_⟩
      · rw [List.all_map]
        exact List.all_eq_true.mpr fun _ _ => rfl
      cases q3 : F (ds.map .fz) with
      | bad => rw [q3] at h; exact h
      | ex x E3 =>
        rw [q3] at h
        intro G3 σ3 cls d H3 e3 R3 rel
        exact h G3 cls d H3 (e2.trans e3) (R2.gro (R2.back boOf_fz R3)) rel
      | ok r E3 =>
        rw [q3] at h
        intro G3 σ3 v H3 e3 R3 rel
        have g := R2.back boOf_fz R3
        cases r with
        | sl j => exact h.elim
        | fz d => exact h G3 v H3 (e2.trans e3) (R2.gro g) rel
        | ow m => exact h G3 v H3 (e2.trans e3) (R2.gro g) (RelN.rel R2 (RelR.back R2 rel (fun j z => by cases z)))
theorem de_fn {o : Expr} (h : ∀ {t : TA}, PA X es t → PE X o (tCallS (spM c n F) (WE W) t)) (ha : PA X es (tA c W mr)) (hn : ∀ {E E1 : Ev} {rs}, mr E = .ok rs E1 → rs.length = n) : PE X o (tE c W (mFn F mr)) := pe_imp (h ha) fun _ _ _ q => fn_read hn q
theorem aNil_len {E E1 : Ev} {rs : List RV} (h : aNil E = .ok rs E1) : rs.length = 0 := by cases h; rfl
theorem aCons_len {ma : EM} {mr : AM} {n : Nat} (hn : ∀ {E E1 : Ev} {rs}, mr E = .ok rs E1 → rs.length = n) {E E1 : Ev} {rs : List RV} (h : aCons ma mr E = .ok rs E1) : rs.length = n + 1 := by
  unfold aCons at h
  cases q : ma E with
  | bad => rw [q] at h; cases h
  | ex x E' => rw [q] at h; cases h
  | ok r E' =>
    rw [q] at h
    simp only [Res.bind] at h
    cases q2 : mr E' with
    | bad => rw [q2] at h; cases h
    | ex x E' => rw [q2] at h; cases h
    | ok rs' E'' =>
      rw [q2] at h
      cases h
      simp [hn q2]
theorem fnB_read {x : Str} {p0 : Pos} {j : Nat} {σ : L2.St} {H : Hp} {Q : VK} (hn : ∀ {E E1 : Ev} {rs}, mr E = .ok rs E1 → rs.length = n) (h : tE c W (mFnB F j mr) σ H Q) : tCallS (spM c (n + 1) F) (WE W) (tCons (tVar j) (tA c W mr)) σ H Q := by
  obtain ⟨f, G, E, R, h⟩ := h
  unfold mFnB at h
  cases q0 : own E j with
  | none => rw [q0] at h; exact h.elim
  | some m0 =>
  rw [q0] at h
  obtain ⟨p, hs0, ho0, _⟩ := R.own q0
  refine ⟨.ref p, hs0, f, G, E, R, ?_⟩
  cases q : mr E with
  | bad => rw [q] at h; exact h
  | ex x E1 => rw [q] at h; exact h
  | ok rs E1 =>
    rw [q] at h
    intro G1 vs H1 e1 R1 r1
    have h := postE_mono e1 h
    simp only [Res.bind] at h
    cases q2 : fzs E1 rs with
    | none => rw [q2] at h; exact h.elim
    | some pr =>
      obtain ⟨ds, E2⟩ := pr
      rw [q2] at h
      simp only at h
      obtain ⟨G2, e2, R2, rep⟩ := fzs_rep R1 r1 q2
      have lens : ∀ {rs : List RV} {E1 E2 : Ev} {ds : List D}, fzs E1 rs = some (ds, E2) → ds.length = rs.length := by
        intro rs
        induction rs with
        | nil => intro E1 E2 ds q; cases q; rfl
        | cons r rs ih =>
          intro E1 E2 ds q
          simp only [fzs] at q
          split at q
          · split at q
            · rename_i h2
              cases q
              simp [ih h2]
            · cases q
          · cases q
      cases q4 : own E2 j with
      | none => rw [q4] at h; exact h.elim
      | some m =>
      rw [q4] at h
      simp only at h
      obtain ⟨p2, hs2, ho2, he2, hg2⟩ := R2.own q4
      rw [hs0] at hs2
      cases hs2
      refine ⟨by rw [List.length_cons, rep.length, lens q2, hn q], G2, .bo m :: ds.map .fz, ?_, R2.calleeB rep ho2 hg2, ?_⟩
      · rw [List.all_cons, List.all_map]
        exact (Bool.and_eq_true _ _).mpr ⟨rfl, List.all_eq_true.mpr fun _ _ => rfl⟩
      cases q3 : F (.bo m :: ds.map .fz) with
      | bad => rw [q3] at h; exact h
      | ex x E3 =>
        rw [q3] at h
        cases E3 with
        | nil => exact h.elim
        | cons s3 E3 =>
        cases s3 with
        | bo m' =>
          intro G3 σ3 cls d H3 e3 R3 rel
          exact h G3 cls d H3 (e2.trans e3) (R2.backB hs0 he2 ho2 R3) rel
        | _ => exact h.elim
      | ok r E3 =>
        rw [q3] at h
        cases E3 with
        | nil => cases r <;> exact h.elim
        | cons s3 E3 =>
        cases s3 with
        | bo m' =>
          cases r with
          | sl j => exact h.elim
          | fz d =>
            intro G3 σ3 v H3 e3 R3 rel
            exact h G3 v H3 (e2.trans e3) (R2.backB hs0 he2 ho2 R3) rel
          | ow r =>
            intro G3 σ3 v H3 e3 R3 rel
            refine h G3 v H3 (e2.trans e3) (R2.backB hs0 he2 ho2 R3) ?_
            obtain ⟨p3, z1, z2, z3, z4, _⟩ := rel
            have z4 : H1 p3 = none := z4
            refine ⟨p3, z1, z2, z3, R2.h0 z4, fun i o => ?_⟩
            have eo : Own E2 σ i p3 := by
              obtain ⟨⟨m1, y1⟩, y2⟩ := o
              by_cases n : j = i
              · subst n
                exact ⟨⟨m, he2⟩, y2⟩
              · unfold setOwn at y1
                rw [List.getElem?_set_ne n] at y1
                exact ⟨⟨m1, y1⟩, y2⟩
            obtain ⟨_, m1, hm1⟩ := R2.ownG eo
            obtain ⟨u, hu⟩ := hm1.there
            rw [z4] at hu
            cases hu
        | _ => cases r <;> exact h.elim
theorem de_fnB {o : Expr} {x : Str} {p0 : Pos} {j : Nat} (h : ∀ {t : TA}, PA X (.Name x p0 :: es) t → PE X o (tCallS (spM c (n + 1) F) (WE W) t)) (hv : PE X (.Name x p0) (tVar j)) (ha : PA X es (tA c W mr)) (hn : ∀ {E E1 : Ev} {rs}, mr E = .ok rs E1 → rs.length = n)
    (hs : starEach (.Name x p0 :: es) X.env = (false, eval (.Name x p0) X.env) :: starEach es X.env := by rfl) : PE X o (tE c W (mFnB F j mr)) := pe_imp (h (pa_cons hv ha hs)) fun _ _ _ q => fnB_read (x := x) (p0 := p0) hn q
end
end M

namespace M
open PySem PySem.Spec PyProof.Rows L2

section
variable {X : Cx} {c : Cfg}
/-- a built-in's rule from a rule by values -/
theorem calld {f : Value} {r : List V → Hp → VK → Prop} {op : List D → Option RV} (h : CallR X f r) (i : ∀ {G H : Hp} {vs : List V} {ds : List D} {a : RV} {Q : VK}, Same G H → Pks c G H vs ds → op ds = some a → Made c G H a Q → r vs H Q) : CallR X f (rDn c op) :=
  callr_imp h fun xs H Q ⟨G, ds, a, e, hp, q, m⟩ => i e hp q m

/-! ### len, abs, min, max, int -/
def lenD : List D → Option RV
  | [.lst l] => some (.fz (.int l.length))
  | [.frl l] => some (.fz (.int l.length))
  | [.tup l] => some (.fz (.int l.length))
  | _ => none
theorem d_len (hK : c.K = X.K) : CallR X (.builtin "len") (rDn c lenD) := calld call_len_seq fun e hp q m => by
  cases hp with
  | nil => cases q
  | cons p1 t =>
    cases t with
    | cons _ _ => unfold lenD at q; split at q <;> simp_all
    | nil =>
      unfold lenD at q
      split at q
      · rename_i l z
        cases z; cases q
        obtain ⟨a, vs, rfl, h1, r1⟩ := p1
        exact ⟨_, _, rfl, .inl (.of h1), by rw [r1.length]; exact m.flat e (.int _)⟩
      · rename_i l z
        cases z; cases q
        obtain ⟨a, vs, rfl, h1, r1⟩ := p1
        exact ⟨_, _, rfl, .inl (hK ▸ h1), by rw [r1.length]; exact m.flat e (.int _)⟩
      · rename_i l z
        cases z; cases q
        cases p1 with
        | tup h1 r1 => exact ⟨_, _, rfl, .inr (hK ▸ sqt_mono e h1), by rw [r1.length]; exact m.flat e (.int _)⟩
      · cases q
def absD : List D → Option RV
  | [.int i] => some (.fz (.int (if i < 0 then -i else i)))
  | _ => none
theorem d_abs : CallR X (.builtin "abs") (rDn c absD) := calld call_abs fun e hp q m => by
  unfold absD at q
  split at q
  · rename_i i
    cases q
    cases hp with
    | cons p1 t =>
      cases t
      cases p1
      exact ⟨i, rfl, m.flat e (.int _)⟩
  · cases q
def max2D : List D → Option RV
  | [.int i, .int j] => some (.fz (.int (if j > i then j else i)))
  | _ => none
def min2D : List D → Option RV
  | [.int i, .int j] => some (.fz (.int (if j < i then j else i)))
  | _ => none
theorem d_max2 (hc : X.calm = true) : CallR X (.builtin "max") (rDn c max2D) := calld (call_max2 hc) fun e hp q m => by
  unfold max2D at q
  split at q
  · rename_i i j
    cases q
    cases hp with
    | cons p1 t =>
      cases t with
      | cons p2 t =>
        cases t
        cases p1
        cases p2
        exact ⟨i, j, rfl, m.flat e (.int _)⟩
  · cases q
theorem d_min2 (hc : X.calm = true) : CallR X (.builtin "min") (rDn c min2D) := calld (call_min2 hc) fun e hp q m => by
  unfold min2D at q
  split at q
  · rename_i i j
    cases q
    cases hp with
    | cons p1 t =>
      cases t with
      | cons p2 t =>
        cases t
        cases p1
        cases p2
        exact ⟨i, j, rfl, m.flat e (.int _)⟩
  · cases q
def intD : List D → Option RV
  | [.int i] => some (.fz (.int i))
  | [.bl k] => some (.fz (.int (if k then 1 else 0)))
  | _ => none
theorem d_int : CallR X (.type "int") (rDn c intD) := calld call_int1 fun e hp q m => by
  unfold intD at q
  split at q
  · rename_i i
    cases q
    cases hp with
    | cons p1 t =>
      cases t
      cases p1
      exact .inl ⟨i, rfl, m.flat e (.int _)⟩
  · rename_i k
    cases q
    cases hp with
    | cons p1 t =>
      cases t
      cases p1
      exact .inr ⟨k, rfl, m.flat e (.int _)⟩
  · cases q
def divmodD : List D → Option RV
  | [.int i, .int j] => if decide (0 < j) && !Builtin.divisionGoesByPylong i j then some (.fz (.tup [.int (i / j), .int (i % j)])) else none
  | _ => none
theorem d_divmod : CallR X (.builtin "divmod") (rDn c divmodD) := calld call_divmodW fun e hp q m => by
  unfold divmodD at q
  split at q
  · rename_i i j
    split at q
    · rename_i hd
      cases q
      simp only [Bool.and_eq_true, decide_eq_true_eq, Bool.not_eq_true'] at hd
      cases hp with
      | cons p1 t =>
        cases t with
        | cons p2 t =>
          cases t
          cases p1
          cases p2
          exact ⟨i, j, rfl, hd, fun p hp => m.tup e (.cons (.int _) (.cons (.int _) .nil)) hp⟩
    · cases q
  · cases q

/-! ### tuple(x), list(x) -/
def tupleD : List D → Option RV
  | [.lst l] => some (.fz (.tup l))
  | [.tup l] => some (.fz (.tup l))
  | _ => none
theorem d_tuple (hK : c.K = X.K) : CallR X (.type "tuple") (rDn c tupleD) := calld call_tuple_of fun e hp q m => by
  unfold tupleD at q
  split at q
  · cases q
    cases hp with
    | cons p1 t =>
      cases t
      obtain ⟨a, vs, rfl, h1, r1⟩ := p1
      exact ⟨_, _, rfl, .inl ⟨.of h1, fun p hp => m.tup e r1 hp⟩⟩
  · cases q
    cases hp with
    | cons p1 t =>
      cases t
      cases p1 with
      | tup h1 r1 => exact ⟨_, _, rfl, .inr ⟨hK ▸ sqt_mono e h1, m.flat e (.tup h1 r1)⟩⟩
  · cases q
def listD : List D → Option RV
  | [.lst l] => some (.ow (.lst l))
  | [.frl l] => some (.ow (.lst l))
  | [.tup l] => some (.ow (.lst l))
  | _ => none
theorem d_list (hK : c.K = X.K) : CallR X (.type "list") (rDn c listD) := calld call_list_of fun e hp q m => by
  unfold listD at q
  split at q
  · cases q
    cases hp with
    | cons p1 t =>
      cases t
      obtain ⟨a, vs, rfl, h1, r1⟩ := p1
      exact ⟨_, _, rfl, .inl (.of h1), fun p hp => m.lst e r1 hp⟩
  · cases q
    cases hp with
    | cons p1 t =>
      cases t
      obtain ⟨a, vs, rfl, h1, r1⟩ := p1
      exact ⟨_, _, rfl, .inl (hK ▸ h1), fun p hp => m.lst e r1 hp⟩
  · cases q
    cases hp with
    | cons p1 t =>
      cases t
      cases p1 with
      | tup h1 r1 => exact ⟨_, _, rfl, .inr (hK ▸ sqt_mono e h1), fun p hp => m.lst e r1 hp⟩
  · cases q

/-! ### sum, any, all, sorted -/
def intsD : List D → Option (List Int)
  | [] => some []
  | .int i :: l => (intsD l).map (i :: ·)
  | _ :: _ => none
def boolsD : List D → Option (List Bool)
  | [] => some []
  | .bl i :: l => (boolsD l).map (i :: ·)
  | _ :: _ => none
theorem intsD_map : ∀ {ds : List D} {ns : List Int}, intsD ds = some ns → ds = ns.map D.int
  | [], _, h => by cases h; rfl
  | .int i :: l, ns, h => by
    cases q : intsD l with
    | none => simp [intsD, q] at h
    | some ms =>
      simp [intsD, q] at h
      subst h
      rw [intsD_map q]
      rfl
theorem boolsD_map : ∀ {ds : List D} {ns : List Bool}, boolsD ds = some ns → ds = ns.map D.bl
  | [], _, h => by cases h; rfl
  | .bl i :: l, ns, h => by
    cases q : boolsD l with
    | none => simp [boolsD, q] at h
    | some ms =>
      simp [boolsD, q] at h
      subst h
      rw [boolsD_map q]
      rfl
theorem Reps.of_bls {G : Hp} : ∀ {vs : List V} {l : List Bool}, Reps c G vs (l.map D.bl) → vs = l.map V.bl
  | [], [], _ => rfl
  | _ :: _, i :: l, .cons r t => by cases r; rw [Reps.of_bls t]; rfl
def sumL : List D → Option RV
  | [.lst l] => (intsD l).map fun ns => .fz (.int ns.sum)
  | [.frl l] => (intsD l).map fun ns => .fz (.int ns.sum)
  | _ => none
theorem d_sumL (hK : c.K = X.K) (hc : X.calm = true) : CallR X (.builtin "sum") (rDn c sumL) := calld (cr_sum hc) fun e hp q m => by
  unfold sumL at q
  split at q
  · rename_i l
    cases z : intsD l with
    | none => rw [z] at q; cases q
    | some ns =>
      rw [z] at q
      cases q
      cases hp with
      | cons p1 t =>
        cases t
        obtain ⟨a, vs, rfl, h1, r1⟩ := p1
        rw [intsD_map z] at r1
        rw [r1.of_ints] at h1
        exact ⟨a, ns, rfl, .of h1, m.flat e (.int _)⟩
  · rename_i l
    cases z : intsD l with
    | none => rw [z] at q; cases q
    | some ns =>
      rw [z] at q
      cases q
      cases hp with
      | cons p1 t =>
        cases t
        obtain ⟨a, vs, rfl, h1, r1⟩ := p1
        rw [intsD_map z] at r1
        rw [r1.of_ints] at h1
        exact ⟨a, ns, rfl, hK ▸ h1, m.flat e (.int _)⟩
  · cases q
def rSumT (K : PySem.W.Frag) : List V → Hp → VK → Prop := fun vs H Q => ∃ (a : Addr) (ns : List Int), vs = [V.ref a] ∧ SqT K H a (ns.map V.int) ∧ Q (.int ns.sum) H
theorem cr_sumT (hc : X.calm = true) : CallR X (.builtin "sum") (rSumT X.K) := by
  intro pins s σ H vs us Q I r h
  obtain ⟨a, ns, rfl, hs, q⟩ := h
  obtain ⟨its, rv, ht, _⟩ := I.tuple hs
  obtain ⟨u, rfl, rr⟩ := Vals.one r
  obtain rfl : u = Value.ref a := rr
  have hi : IntsAre its ns := rv.ints
  obtain ⟨xs, e⟩ := hi.allInts.items
  have hn : numsOf (intItems xs).toList = ns := by rw [← e]; exact hi.numsOf
  rw [nums_intItems] at hn
  rw [e] at ht
  have hT : s.heap.IsTuple a (intItems xs) := ht
  refine PySem.call_sum_walkG (wpAny_pyIter_tuple hT ?_)
  have hlt : a < s.heap.objs.size := by obtain ⟨_, z, _⟩ := hT; exact Heap.lt_size z
  refine ⟨_, _, _, _, _, _, numAt xs, rfl, Walks.tuple (A := X.A.in1) (I.ok.hd hc) _ a (Nat.ne_of_lt hlt) (intItems xs), ⟨⟨_, Heap.get?_push_size _ rfl, rfl, rfl⟩, hT.at fun o q => Heap.get?_push_of_some _ q⟩, ?_, fun _ _ => intItems_at, fun h' tk t' hk => ?_⟩
  · intro b hb
    show b < (s.heap.push _).objs.size
    rw [Heap.size_push]
    rcases List.mem_cons.mp hb with rfl | hb
    · exact Nat.lt_succ_self _
    · rw [List.mem_singleton.mp hb]
      exact Nat.lt_succ_of_lt hlt
  · have e2 : preSum (numAt xs) (intItems xs).size = ns.sum := by
      rw [preSum_eq, List.take_of_length_le (by simp [intItems]), hn]
    rw [e2]
    exact ⟨.int _, H, I.kept fun b o q => hk b o (fun z => by
      rw [List.mem_singleton.mp z] at q
      exact absurd (Heap.lt_size q) (Nat.lt_irrefl _)) (Heap.get?_push_of_some _ q), ⟨_, rfl⟩, q⟩
def sumT : List D → Option RV
  | [.tup l] => (intsD l).map fun ns => .fz (.int ns.sum)
  | _ => none
theorem d_sumT (hK : c.K = X.K) (hc : X.calm = true) : CallR X (.builtin "sum") (rDn c sumT) := calld (cr_sumT hc) fun e hp q m => by
  unfold sumT at q
  split at q
  · rename_i l
    cases z : intsD l with
    | none => rw [z] at q; cases q
    | some ns =>
      rw [z] at q
      cases q
      cases hp with
      | cons p1 t =>
        cases t
        cases p1 with
        | tup h1 r1 =>
          rw [intsD_map z] at r1
          rw [r1.of_ints] at h1
          exact ⟨_, ns, rfl, hK ▸ sqt_mono e h1, m.flat e (.int _)⟩
  · cases q
def sumD := orO sumL sumT
theorem d_sum (hK : c.K = X.K) (hc : X.calm = true) : CallR X (.builtin "sum") (rDn c sumD) := calld_or (d_sumL hK hc) (d_sumT hK hc)
def anyD : List D → Option RV
  | [.lst l] => (boolsD l).map fun ns => .fz (.bl (ns.any id))
  | _ => none
def allD : List D → Option RV
  | [.lst l] => (boolsD l).map fun ns => .fz (.bl (ns.all id))
  | _ => none
theorem d_any (hc : X.calm = true) : CallR X (.builtin "any") (rDn c anyD) := calld (cr_any hc) fun e hp q m => by
  unfold anyD at q
  split at q
  · rename_i l
    cases z : boolsD l with
    | none => rw [z] at q; cases q
    | some ns =>
      rw [z] at q
      cases q
      cases hp with
      | cons p1 t =>
        cases t
        obtain ⟨a, vs, rfl, h1, r1⟩ := p1
        rw [boolsD_map z] at r1
        rw [r1.of_bls] at h1
        exact ⟨a, ns, rfl, .of h1, m.flat e (.bl _)⟩
  · cases q
theorem d_all (hc : X.calm = true) : CallR X (.builtin "all") (rDn c allD) := calld (cr_all hc) fun e hp q m => by
  unfold allD at q
  split at q
  · rename_i l
    cases z : boolsD l with
    | none => rw [z] at q; cases q
    | some ns =>
      rw [z] at q
      cases q
      cases hp with
      | cons p1 t =>
        cases t
        obtain ⟨a, vs, rfl, h1, r1⟩ := p1
        rw [boolsD_map z] at r1
        rw [r1.of_bls] at h1
        exact ⟨a, ns, rfl, .of h1, m.flat e (.bl _)⟩
  · cases q

/-! ### isinstance with a built-in class -/
def tyName : D → Option String
  | .non => some "NoneType"
  | .bl _ => some "bool"
  | .int _ => some "int"
  | .str _ => some "str"
  | .tup _ => some "tuple"
  | .lst _ => some "list"
  | .frl _ => some "list"
  | .dct _ => some "dict"
  | _ => none
def tyNames : List String := ["NoneType", "bool", "int", "str", "tuple", "list", "dict"]
def clsNames : List String := ["bool", "int", "str", "tuple", "list", "dict"]
def isB (t n : String) : Bool := t == n || (t == "bool" && n == "int")
theorem kit_all : ∀ t ∈ tyNames, ∀ n ∈ clsNames, kitB t n = some (isB t n) := by
  intro t ht n hn
  simp only [tyNames, clsNames, List.mem_cons, List.not_mem_nil, or_false] at ht hn
  rcases ht with rfl | rfl | rfl | rfl | rfl | rfl | rfl <;> rcases hn with rfl | rfl | rfl | rfl | rfl | rfl <;> decide +kernel
def isiD : List D → Option RV
  | [d, .ty n] => match tyName d with
    | some t => if clsNames.contains n then some (.fz (.bl (isB t n))) else none
    | none => none
  | _ => none
theorem tyX_of {G H : Hp} {v : V} {d : D} {t : String} (e : Same G H) (h : Pk c G H v d) (q : tyName d = some t) : t ∈ tyNames ∧ TyX c.K H v (.type t) := by
  cases d with
  | non => cases q; cases h; exact ⟨by decide, .base .non⟩
  | bl b => cases q; cases h; exact ⟨by decide, .base (.bl _)⟩
  | int b => cases q; cases h; exact ⟨by decide, .base (.int _)⟩
  | str b => cases q; cases h; exact ⟨by decide, .base (.str _)⟩
  | tup l =>
    cases q
    cases h with
    | tup h1 r1 =>
      refine ⟨by decide, ?_⟩
      rcases sqt_mono e h1 with (z | ⟨o, z⟩) | ⟨o, its, n, z, w, _⟩
      · exact .base (.tup z)
      · exact .fTuple z
      · exact .kTuple z w
  | lst l =>
    cases q
    obtain ⟨a, vs, rfl, h1, _⟩ := h
    exact ⟨by decide, .base (.lst h1)⟩
  | frl l =>
    cases q
    obtain ⟨a, vs, rfl, h1, _⟩ := h
    refine ⟨by decide, ?_⟩
    rcases h1 with (z | ⟨o, z⟩) | ⟨o, its, n, z, w, _⟩
    · exact .base (.lst z)
    · exact .base (.frz z)
    · exact .kList z w
  | dct l =>
    cases q
    obtain ⟨a, vs, rfl, h1, _⟩ := h
    exact ⟨by decide, .base (.dK h1)⟩
  | _ => cases q
theorem d_isi (hK : c.K = X.K) : CallR X (.builtin "isinstance") (rDn c isiD) := calld call_isi fun e hp q m => by
  unfold isiD at q
  split at q
  · rename_i d n
    split at q
    · rename_i t ht
      split at q
      · rename_i hn
        cases q
        cases hp with
        | cons p1 t2 =>
          cases t2 with
          | cons p2 t3 =>
            cases t3
            have p2' := Pk.rep e p2
            cases p2'
            obtain ⟨h1, h2⟩ := tyX_of e p1 ht
            exact ⟨_, _, _, _, _, rfl, .ty _, hK ▸ h2, kit_ty (kit_all _ h1 _ (by simpa using hn)), m.flat e (.bl _)⟩
      · cases q
    · cases q
  · cases q

/-! ### slices -/
def cutD (ds : List D) (lo hi : Option Int) : List D := (ds.drop (HT.sIx ds.length 0 lo)).take (HT.sIx ds.length ds.length hi - HT.sIx ds.length 0 lo)
theorem Reps.cut {G : Hp} {vs : List V} {ds : List D} (h : Reps c G vs ds) (lo hi : Option Int) : Reps c G (cutV vs lo hi) (cutD ds lo hi) := by
  unfold cutV cutD
  rw [h.length]
  exact (h.drop _).take _
def slD (d : D) (lo hi : Option Int) : Option RV := match d with
  | .lst l => some (.ow (.lst (cutD l lo hi)))
  | .frl l => some (.ow (.lst (cutD l lo hi)))
  | .tup l => some (.fz (.tup (cutD l lo hi)))
  | _ => none
abbrev OM := Ev → Res (Option Int)
def oNone : OM := fun E => .ok none E
def oSome (m : EM) : OM := fun E => (m E).bind fun r E1 => match pk E1 r with
  | some (.int i) => .ok (some i) E1
  | _ => .bad
def mSl (m : EM) (lo hi : OM) : EM := fun E => (m E).bind fun r E1 => (lo E1).bind fun a E2 => (hi E2).bind fun b E3 => match pk E3 r.settle with
  | some d => match slD d a b with
    | some r => .ok r E3
    | none => .bad
  | none => .bad
def tO (c : Cfg) (W : WX) (m : OM) : TO := fun σ H Q => ∃ f G E, RS c f G E σ H ∧ match m E with
  | .ok o E' => ∀ G' H', Same G G' → RS c f G' E' σ H' → Q o H'
  | .ex x E' => XW c W f G σ x E'
  | .bad => False
variable {W : WX} {e : Expr} {m : EM} {lo hi : OM} {elo ehi : Option Expr} {p2 pos : Pos}
theorem po_imp {t t' : TO} {e : Option Expr} (h : PO X e t) (i : ∀ σ H Q, t' σ H Q → t σ H Q) : PO X e t' := ⟨fun pins s σ H Q I q => h.run pins s σ H Q I (i σ H Q q)⟩
theorem do_none : PO X none (tO c W oNone) := po_imp po_none fun σ H Q ⟨f, G, E, R, h⟩ => h G H (.refl _) R
theorem do_some (h : PE X e (tE c W m)) : PO X (some e) (tO c W (oSome m)) := po_imp (po_some h) fun σ H Q ⟨f, G, E, R, h⟩ => by
  refine tE_raw R ?_
  unfold oSome at h
  cases q : m E with
  | bad => rw [q] at h; exact h
  | ex x E' => rw [q] at h; exact h
  | ok r E1 =>
    rw [q] at h
    intro G1 v H1 e1 R1 r1
    simp only [Res.bind] at h
    cases q2 : pk E1 r with
    | none => rw [q2] at h; exact h.elim
    | some d =>
      rw [q2] at h
      cases d with
      | int i =>
        have rep := R1.pk r1 q2
        cases rep
        exact ⟨i, rfl, h G1 H1 e1 R1⟩
      | _ => exact h.elim
theorem slr_imp {r r' : V → Option Int → Option Int → Hp → VK → Prop} (h : SlR X r) (i : ∀ x lo hi H Q, r' x lo hi H Q → r x lo hi H Q) : SlR X r' := fun pins s σ H x v vl vu lo hi sl Q I rx hs pl pu q => h pins s σ H x v vl vu lo hi sl Q I rx hs pl pu (i x lo hi H Q q)
def rSlD (c : Cfg) : V → Option Int → Option Int → Hp → VK → Prop := fun x lo hi H Q => ∃ G d r, Same G H ∧ Pk c G H x d ∧ slD d lo hi = some r ∧ Made c G H r Q
theorem d_sl (hK : c.K = X.K) : SlR X (rSlD c) := slr_imp (SlR.or sl_list sl_tupA) fun x lo hi H Q ⟨G, d, r, e, hp, q, m⟩ => by
  cases d with
  | lst l =>
    cases q
    obtain ⟨a, vs, rfl, h1, r1⟩ := hp
    exact .inl ⟨a, vs, rfl, .of h1, fun p hp => m.lst e (r1.cut lo hi) hp⟩
  | frl l =>
    cases q
    obtain ⟨a, vs, rfl, h1, r1⟩ := hp
    exact .inl ⟨a, vs, rfl, hK ▸ h1, fun p hp => m.lst e (r1.cut lo hi) hp⟩
  | tup l =>
    cases q
    cases hp with
    | @tup a vs _ h1 r1 =>
      refine .inr ⟨a, vs, rfl, hK ▸ sqt_mono e h1, fun hw => ?_, fun _ p hp => m.tup e (r1.cut lo hi) hp⟩
      refine m.flat e ?_
      have : cutD l lo hi = l := by
        unfold cutD
        rw [← r1.length, hw.1, hw.2, List.drop_zero, Nat.sub_zero, List.take_of_length_le (by rw [r1.length]; exact Nat.le_refl _)]
      rw [this]
      exact .tup h1 r1
  | _ => cases q
theorem de_sl (hK : c.K = X.K) (he : PE X e (tE c W m)) (hl : PO X elo (tO c W lo)) (hu : PO X ehi (tO c W hi)) : PE X (.Subscript e (.Slice elo ehi none p2) pos) (tE c W (mSl m lo hi)) := pe_imp (pe_slice (d_sl hK) he hl hu) fun σ H Q ⟨f, G, E, R, h⟩ => by
  refine tE_bindE R h fun r E1 G1 v H1 e1 R1 r1 h1 => ?_
  refine ⟨f, G1, E1, R1, ?_⟩
  have h2 := postE_bind h1
  cases q : lo E1 with
  | bad => rw [q] at h2; exact h2
  | ex x E' => rw [q] at h2; exact h2
  | ok a E2 =>
    rw [q] at h2
    intro G2 H2 e2 R2
    refine ⟨f, G2, E2, R2, ?_⟩
    have h3 := postE_bind h2
    cases q3 : hi E2 with
    | bad => rw [q3] at h3; exact h3
    | ex x E' => rw [q3] at h3; exact XW.mono e2 h3
    | ok b E3 =>
      rw [q3] at h3
      intro G3 H3 e3 R3
      have h3 := postE_mono (e2.trans e3) h3
      split at h3
      · rename_i d pd
        split at h3
        · rename_i r2 hr
          exact ⟨G3, d, r2, R3.gh, R3.pk (r1.mono_settled (e2.trans e3)) pd, hr, fun G' v' H' g rel => h3 G' v' H' g.gg (R3.gro g) (RelN.rel R3 rel)⟩
        · exact h3.elim
      · exact h3.elim
end
end M

namespace M
open PySem PySem.Spec PyProof.Rows L2

/-! ### enumerate of a tuple -/
def ItT (K : PySem.W.Frag) (a : Addr) : It where
  go i H := ∃ (xs : List V) (x : V), SqT K H a xs ∧ xs[i]? = some x
  yld i H v H' := ∃ T x, v = .ref T ∧ H T = none ∧ H' = upd H T (.tup [.int (i : Nat), x]) ∧ ∀ xs, SqT K H a xs → xs[i]? = some x
  stop i H := ∃ xs : List V, SqT K H a xs ∧ xs.length = i
def enumT (e it a : Addr) (i : Nat) (h : Heap) : Prop := (∃ old, IsEnum h e it ((i : Nat) : Int) old) ∧ h.IsTupleIter it a i ∧ e ≠ it
theorem turn_enumT {P : Program} {w : World} {K : PySem.W.Frag} {elts : List Expr} {kk : Nat} {tpos : Pos} (a e it : Addr) : Turn P w K (.Tuple elts kk tpos) (ItT K a) [e, it] e (enumT e it a) where
  mem := List.mem_cons_self
  obj := by
    rintro i h ⟨⟨old, he⟩, ⟨o, ho, hc, hd⟩, _⟩ b hb
    rcases List.mem_cons.mp hb with rfl | hb
    · exact ⟨_, he, fun v q => nomatch q⟩
    · rw [List.mem_singleton.mp hb]
      exact ⟨o, ho, fun v q => by rw [hd] at q; cases q⟩
  keep := by
    rintro i h h' ⟨⟨old, he⟩, hi, hne⟩ k
    exact ⟨⟨old, k e (List.mem_cons_self) _ he⟩, hi.at fun o q => k it (List.mem_cons_of_mem _ (List.mem_singleton.mpr rfl)) o q, hne⟩
  item := by
    intro X hP hw hK hc i pins s σ H E I hf st hg
    subst hP hw hK
    obtain ⟨⟨old, he⟩, hit, hne⟩ := st
    obtain ⟨xs, x, hq, hx⟩ := hg
    obtain ⟨its, rv, pt, hz⟩ := I.tuple hq
    obtain ⟨u, hu, ru⟩ := rv.get hx
    have hT : s.heap.IsTuple a its.toArray := pt
    have hel : e < s.heap.objs.size := Heap.lt_size he
    have hil : it < s.heap.objs.size := by obtain ⟨_, q, _⟩ := hit; exact Heap.lt_size q
    have hia : i < its.toArray.size := by
      rw [List.size_toArray]
      exact (List.getElem?_eq_some_iff.mp hu).1
    obtain ⟨oa, hoa, hca, na, hda⟩ := id hT
    have nai : a ≠ it := fun z => by
      obtain ⟨o, ho, hc2, hd2⟩ := id hit
      rw [z, ho] at hoa
      cases hoa
      rw [hd2] at hda
      cases hda
    have nea : e ≠ a := fun z => by
      have he2 : s.heap.get? e = some _ := he
      rw [z, hoa] at he2
      cases he2
      cases hda
    have hef : e ∉ [it, a] := fun z => by
      rcases List.mem_cons.mp z with z | z
      · exact hne z
      · exact nea (List.mem_singleton.mp z)
    refine wpAny_pyNext_enum_itemD (Draws.tuple (A := X.A.in1) (I.ok.hd hc) it a nai its.toArray) he ⟨hit, hT⟩ hia hne hef fun y h' tk hy ho hst hnew hsz hk => ?_
    have ey : y = u := by
      have hy : its.toArray[i]? = some y := hy
      rw [List.getElem?_toArray, hu] at hy
      exact (Option.some.inj hy).symm
    subst ey
    refine ⟨_, rfl, wpAny_letOwnedTupleGo_enum (s := { s with heap := h', toks := tk + 1 }) ho fun h'' he' sb => ?_⟩
    have hnew2 := (sb.2 _ (Nat.ne_of_gt hel)).trans hnew
    have made : ObjOk X.prog X.w (upd H s.heap.objs.size (.tup [.int (i : Nat), x])) h'' s.heap.objs.size (.tup [.int (i : Nat), x]) := by
      refine ⟨?_, [.int i tk, y], .cons ⟨_, rfl⟩ (.cons ru .nil), _, hnew2, rfl, _, rfl⟩
      show 2 ≤ sizeLine
      decide
    have I1 := I.turnedNew (ch := [e, it]) (t' := tk + 1) (h' := h'') (fun b ob hb q => by
      have n1 : b ≠ e := fun z => hb (by rw [z]; exact List.mem_cons_self)
      have n2 : b ≠ it := fun z => hb (by rw [z]; exact List.mem_cons_of_mem _ (List.mem_singleton.mpr rfl))
      exact (sb.2 b n1).trans (hk b ob n1 n2 q)) hf (Nat.le_refl _) made
    refine ⟨.ref s.heap.objs.size, _, I1, rfl, ⟨_, x, rfl, I.hok.fresh (Nat.le_refl _), rfl, fun ys hy => ?_⟩, ⟨⟨y, ?_⟩, hst.1.at fun o q => (sb.2 it (Ne.symm hne)).trans q, hne⟩, fun b hb => ?_⟩
    · rw [I.tuple_inj hy hq]
      exact hx
    · have e1 : ((i + 1 : Nat) : Int) = (i : Int) + 1 := by omega
      rw [e1]
      exact he'
    · have lt : b < s.heap.objs.size := by
        rcases List.mem_cons.mp hb with rfl | hb
        · exact hel
        · rw [List.mem_singleton.mp hb]; exact hil
      rw [upd_ne (Nat.ne_of_lt lt)]
      exact (hf b hb).1
  done := by
    intro X hP hw hK hc i pins s σ H E I hf st hg
    subst hP hw hK
    obtain ⟨⟨old, he⟩, hit, hne⟩ := st
    obtain ⟨xs, hq, hx⟩ := hg
    obtain ⟨its, rv, pt, hz⟩ := I.tuple hq
    have hT : s.heap.IsTuple a its.toArray := pt
    obtain ⟨oa, hoa, hca, na, hda⟩ := id hT
    have nai : a ≠ it := fun z => by
      obtain ⟨o, ho, hc2, hd2⟩ := id hit
      rw [z, ho] at hoa
      cases hoa
      rw [hd2] at hda
      cases hda
    have en : i = its.toArray.size := by rw [List.size_toArray, ← rv.length]; exact hx.symm
    obtain ⟨f0, f1, f2, f3, f4, f5⟩ := hf it (List.mem_cons_of_mem _ (List.mem_singleton.mpr rfl))
    have st2 : s.heap.IsTupleIter it a its.toArray.size ∧ s.heap.IsTuple a its.toArray := ⟨en ▸ hit, hT⟩
    exact wpAny_pyNext_enum_endD (Draws.tuple (A := X.A.in1) (I.ok.hd hc) it a nai its.toArray) he st2 fun h' eb => ⟨rfl, I.turned (t' := s.toks) (fun b o hb q => eb b o hb q) f0 f1 f3 f4 f5⟩
  self := by
    rintro A i s Q E ⟨⟨_, he⟩, _⟩ h
    exact wpAny_pyIter_enum he h

theorem meets_enum1 {v : Value} {o : Obj} {H : Heap → Prop} (B : Begins v o H) :
    Meets (Builtin.«enumerate.__new__» ⟨[.type "enumerate", v], []⟩) (fun _ R s => H s.heap ∧
      R (.ok (.ret (.ref (s.heap.push o).objs.size))) { s with heap := (s.heap.push o).push { cls := .type "enumerate", data := .fields #[.none, .bool false, .ref s.heap.objs.size, rawInt 0, .none, .none] } }) := by
  refine Meets.of_wp fun prog w A R s h => ?_
  obtain ⟨hp, g, d, tk, os⟩ := s
  obtain ⟨h1, h⟩ := h
  have hsub := sub_enumerate
  have q1 : ∀ {A' : Around} {E : Value → Shared → Prop} {Q : Value → Shared → Prop}, Q (.ref hp.objs.size) ⟨hp.push o, g, d, tk, os⟩ → wpAny (model prog w) A' (pyIter v) Q E ⟨hp, g, d, tk, os⟩ := by
    intro A' E Q q
    exact B.iter prog w _ _ ⟨hp, g, d, tk, os⟩ _ h1 q
  wp_walk using q1
  refine wpAny_stack_any fun st => wpAny_pure ?_
  split
  case h_1 =>
    rename_i c _ _ _ _ _
    cases (c == Value.type "enumerate") <;> (wp_walk using q1; exact ⟨_, rfl, h⟩)
  case h_2 => wp_walk using q1; exact ⟨_, rfl, h⟩

theorem call_enum1 {prog : Program} {w : World} {A : Around} {E : Value → Shared → Prop} {s : Shared} {v : Value} {o : Obj} {H : Heap → Prop} {Q : Value → Shared → Prop} (B : Begins v o H) (h1 : H s.heap)
    (h : ∀ h', IsEnum h' (s.heap.objs.size + 1) s.heap.objs.size 0 .none → h'.get? s.heap.objs.size = some o → (∀ b o, s.heap.get? b = some o → h'.get? b = some o) → Q (.ref (s.heap.objs.size + 1)) { s with heap := h' }) :
    wpAny (model prog w) A (call (.type "enumerate") [v]) Q E s := by
  refine callType_new F.called_enumerate (by decide) (F.typeCall_enumerate_1 _) (F.newCall_enumerate_1 _) ?_ F.entry_enumerate_new (meets_enum1 B) ⟨h1, ?_⟩
  · intro obj
    exact F.args_object_init_2 obj _
  have hz : (s.heap.push o).objs.size = s.heap.objs.size + 1 := Heap.size_push ..
  show _ ∧ _
  rw [hz]
  have he : IsEnum ((s.heap.push o).push { cls := .type "enumerate", data := .fields #[.none, .bool false, .ref s.heap.objs.size, rawInt 0, .none, .none] }) (s.heap.objs.size + 1) s.heap.objs.size 0 .none := by
    have := Heap.get?_push_size (s.heap.push o) (o := { cls := .type "enumerate", data := .fields #[.none, .bool false, .ref s.heap.objs.size, rawInt 0, .none, .none] }) rfl
    rwa [hz] at this
  refine ⟨⟨_, he, rfl⟩, h _ he (Heap.get?_push_of_some _ (Heap.get?_push_size _ B.free)) ?_⟩
  intro b u x
  exact Heap.get?_push_of_some _ (Heap.get?_push_of_some _ x)
def iEnumT (K : PySem.W.Frag) (ta : TA) : TI := fun σ H R => ta σ H fun vs H1 => ∃ a xs, vs = [.ref a] ∧ SqT K H1 a xs ∧ R (ItT K a) H1
theorem pi_enumT {X : Cx} {e : Expr} {ta : TA} {p pos tpos : Pos} {elts : List Expr} {kk : Nat} (hg : Gl X "enumerate") (hm : X.mg "enumerate" = none) (ha : PA X [e] ta) (hs : starEach [e] X.env = [(false, eval e X.env)] := by rfl) :
    PI X (.Tuple elts kk tpos) (.Call (.Name "enumerate" p) [e] [] pos) (iEnumT X.K ta) := by
  constructor
  intro pins s σ H R I h
  refine Call_ (ld_blt I hg hm boot_enumerate (callWith_type1 (thn (ha.run pos pins s σ H _ I h) ?_) hs rfl))
  rintro us s1 ⟨vs, H1, I1, r1, a, xs, rfl, hq, q⟩
  obtain ⟨u, rfl, rr⟩ := Vals.one r1
  obtain rfl : u = Value.ref a := rr
  obtain ⟨its, rv, pt, hz⟩ := I1.tuple hq
  refine call_enum1 (begins_tuple a its.toArray) (show s1.heap.IsTuple a its.toArray from pt) fun h' he hit hk => wpAny_pyIter_enum he ?_
  refine ⟨s1.heap.objs.size + 1, [s1.heap.objs.size + 1, s1.heap.objs.size], _, _, H1, rfl, I1.kept (t' := s1.toks) hk, turn_enumT a (s1.heap.objs.size + 1) s1.heap.objs.size, ⟨⟨.none, he⟩, ⟨_, hit, rfl, rfl⟩, Nat.succ_ne_self _⟩, fun b hb => ?_, q⟩
  have hle : s1.heap.objs.size ≤ b := by
    rcases List.mem_cons.mp hb with rfl | hb
    · exact Nat.le_add_right _ _
    · rw [List.mem_singleton.mp hb]; exact Nat.le_refl _
  exact I1.fpOk hle (I1.hok.fresh hle)
def enumD (ds : List D) : List D := (List.range ds.length).map fun i => .tup [.int (i : Nat), (ds[i]?).getD .non]
section
variable {X : Cx} {c : Cfg} {W : WX} {a b tg iter : Expr} {m m' : EM}
theorem yields_enumT {G H : Hp} {p : Addr} {vs : List V} {ds : List D} (h : SqT c.K G p vs) (r : Reps c G vs ds) : Yields c G H (enumD ds) (ItT c.K p) := fun i G1 H1 e1 e2 _ => by
  have hs : SqT c.K H1 p vs := sqt_mono (e1.trans e2) h
  have hl : (enumD ds).length = ds.length := by unfold enumD; simp
  rw [hl]
  refine ⟨fun hi => ?_, fun hi => ⟨vs, hs, by rw [r.length]; exact hi⟩⟩
  have hv : i < vs.length := by rw [r.length]; exact hi
  refine ⟨⟨vs, _, hs, List.getElem?_eq_getElem hv⟩, fun x H' y => ?_⟩
  obtain ⟨T, x', rfl, hT, rfl, y⟩ := y
  obtain ⟨d, hd, rep⟩ := r.getV (y vs hs)
  have g := Gro.newG (o := HO.tup [.int (i : Nat), x']) e2 hT
  refine ⟨.tup [.int (i : Nat), d], ?_, _, g, .tup (.inl (.inl upd_same)) ((Reps.cons (.int _) (.cons (rep.mono e1) .nil)).mono g.gg)⟩
  unfold enumD
  rw [List.getElem?_map, List.getElem?_range hi]
  simp only [Option.map_some, hd, Option.getD_some]
def iEnumM (m : EM) : IM := fun E => (m E).bind fun r E1 => match fzn E1 r with
  | some (.tup ds, E2) => .ok (enumD ds) E2
  | _ => .bad
theorem di_enum (hK : c.K = X.K) (h : ∀ {ta : TA}, PA X [a] ta → PI X tg iter (iEnumT X.K ta)) (ha : PE X a (tE c W m)) (hs : starEach [a] X.env = (false, eval a X.env) :: starEach [] X.env := by rfl) : PI X tg iter (tI c W (iEnumM m)) :=
  pi_imp (h (pa_cons ha pa_nil hs)) fun σ H R ⟨f, G, E, Rr, h⟩ => by
    refine tE_sub Rr ?_
    unfold iEnumM at h
    cases q : m E with
    | bad => rw [q] at h; exact h
    | ex x E' => rw [q] at h; exact h
    | ok r E1 =>
      rw [q] at h
      intro G1 v H1 e1 R1 r1
      simp only [Res.bind] at h
      cases q2 : fzn E1 r with
      | none => rw [q2] at h; exact h.elim
      | some p =>
        obtain ⟨d, E2⟩ := p
        rw [q2] at h
        obtain ⟨G2, e2, R2, rep⟩ := R1.frz r1 ((fzn_settle _ _).trans q2)
        cases d with
        | tup ds =>
          cases rep with
          | tup h1 reps => exact ⟨_, _, rfl, hK ▸ sqt_mono R2.gh h1, h G2 H1 _ (e1.trans e2) R2 (hK ▸ yields_enumT h1 reps)⟩
        | _ => exact h.elim
/-! ### zip -/
def zipD (xs ys : List D) : List D := (List.range (min xs.length ys.length)).map fun i => .tup [(xs[i]?).getD .non, (ys[i]?).getD .non]
theorem yields_zipT {G H : Hp} {p p' : Addr} {vs ws : List V} {ds es : List D} (h : SqT c.K G p vs) (r : Reps c G vs ds) (h' : SqT c.K G p' ws) (r' : Reps c G ws es) : Yields c G H (zipD ds es) (RZ.ItzT c.K p p') := fun i G1 H1 e1 e2 _ => by
  have hs : SqT c.K H1 p vs := sqt_mono (e1.trans e2) h
  have hs' : SqT c.K H1 p' ws := sqt_mono (e1.trans e2) h'
  have hl : (zipD ds es).length = min ds.length es.length := by unfold zipD; simp
  rw [hl]
  refine ⟨fun hi => ?_, fun hi => ⟨vs, ws, hs, hs', by rw [r.length, r'.length]; omega⟩⟩
  have hv : i < vs.length := by rw [r.length]; omega
  have hw : i < ws.length := by rw [r'.length]; omega
  refine ⟨⟨vs, ws, _, _, hs, hs', List.getElem?_eq_getElem hv, List.getElem?_eq_getElem hw⟩, fun x H' y => ?_⟩
  obtain ⟨T, x', y', rfl, hT, rfl, yx, yy⟩ := y
  obtain ⟨d, hd, rep⟩ := r.getV (yx vs hs)
  obtain ⟨d', hd', rep'⟩ := r'.getV (yy ws hs')
  have g := Gro.newG (o := HO.tup [x', y']) e2 hT
  refine ⟨.tup [d, d'], ?_, _, g, .tup (.inl (.inl upd_same)) ((Reps.cons (rep.mono e1) (.cons (rep'.mono e1) .nil)).mono g.gg)⟩
  unfold zipD
  rw [List.getElem?_map, List.getElem?_range hi]
  simp only [Option.map_some, hd, hd', Option.getD_some]
theorem yields_zipL {G H : Hp} {p p' : Addr} {vs ws : List V} {ds es : List D} (h : SqL c.K G p vs) (r : Reps c G vs ds) (h' : SqL c.K G p' ws) (r' : Reps c G ws es) : Yields c G H (zipD ds es) (Itz c.K p p') := fun i G1 H1 e1 e2 _ => by
  have hs : SqL c.K H1 p vs := sql_mono (e1.trans e2) h
  have hs' : SqL c.K H1 p' ws := sql_mono (e1.trans e2) h'
  have hl : (zipD ds es).length = min ds.length es.length := by unfold zipD; simp
  rw [hl]
  refine ⟨fun hi => ?_, fun hi => ⟨vs, ws, hs, hs', by rw [r.length, r'.length]; omega⟩⟩
  have hv : i < vs.length := by rw [r.length]; omega
  have hw : i < ws.length := by rw [r'.length]; omega
  refine ⟨⟨vs, ws, _, _, hs, hs', List.getElem?_eq_getElem hv, List.getElem?_eq_getElem hw⟩, fun x H' y => ?_⟩
  obtain ⟨T, x', y', rfl, hT, rfl, yx, yy⟩ := y
  obtain ⟨d, hd, rep⟩ := r.getV (yx vs hs)
  obtain ⟨d', hd', rep'⟩ := r'.getV (yy ws hs')
  have g := Gro.newG (o := HO.tup [x', y']) e2 hT
  refine ⟨.tup [d, d'], ?_, _, g, .tup (.inl (.inl upd_same)) ((Reps.cons (rep.mono e1) (.cons (rep'.mono e1) .nil)).mono g.gg)⟩
  unfold zipD
  rw [List.getElem?_map, List.getElem?_range hi]
  simp only [Option.map_some, hd, hd', Option.getD_some]
end

/-! ### a def as callers see it -/
structure Cal (P : Program) (w : World) (K : PySem.W.Frag) (mg : Str → Option Value) (base : Heap) (c : Cfg) (x : Str) (k : Nat) (ps : List Str) (n : Nat) (F : FM) (dds : List D) : Prop where
  ex : ∃ (f : Addr) (fd : FuncData) (ds : List Value) (dvs : List V), mg x = some (.ref f) ∧ PySem.W.keepIn K (.ref f) = true ∧ FnOk P w K mg base (L2.CX P w) k f fd ps (spM c n F) ∧ Binds K fd ps ds ∧ Vals dvs ds ∧ ∀ G, Reps c G dvs dds
theorem Cal.mono {P : Program} {w : World} {K : PySem.W.Frag} {mg : Str → Option Value} {base : Heap} {c : Cfg} {x : Str} {k k' : Nat} {ps : List Str} {n : Nat} {F : FM} {dds : List D} (h : Cal P w K mg base c x k ps n F dds) (hk : k ≤ k') : Cal P w K mg base c x k' ps n F dds := by
  obtain ⟨f, fd, ds, dvs, a, b, d, e⟩ := h.ex
  exact ⟨f, fd, ds, dvs, a, b, d.mono hk, e⟩
theorem mk_fnD {P : Program} {w : World} {K : PySem.W.Frag} {mg : Str → Option Value} {base : Heap} {x qual : Str} {params : Arguments} {body : List Stmt} {scope : Scope} {dvs : List V} {kws : List (Str × V)} {f : Addr} {fd : FuncData} {N ps : List Str} {k n m : Nat} {c : Cfg} {bm : SM}
    (F : FunD K x qual params body scope dvs kws f fd) (S : FnScope N ps scope) (hn : N.length = n) (hm : ps.length = m)
    (hb : ∀ (cdv : Value) (A : Around) (outer : List Env) (s : Shared) (H : Hp) (E : XK), Room k (A.deeper (envOfC qual scope s.heap.objs.size f cdv)) →
      PSs (cxOf (L2.CX P w) P w K mg base N qual scope f cdv A outer s H E) body (tS c (fun cls d _ H' => E cls d H') bm)) :
    FnOk P w K mg base (L2.CX P w) (k + 1) f fd ps (spM c m (runF n bm)) := by
  refine F.ok S (fun vs H Q E h => by rw [hm]; exact h.1) fun cdv A outer s H vs Q E hr h => ⟨_, hb cdv A outer s H E hr, ?_⟩
  obtain ⟨hl, G, as, _, R, h⟩ := h
  have R1 := R.start (N := N)
  refine ⟨_, G, _, R1, ?_⟩
  unfold runF at h
  rw [← hn] at h
  cases q : bm (as ++ List.replicate (N.length - as.length) .un) with
  | nx E1 => rw [q] at h; exact fun G' σ' H' e R' => h G' σ' .non H' e R' .non
  | rt r E1 => rw [q] at h; exact fun G' σ' v H' e R' rel => h G' σ' v H' e R' rel
  | ex x E1 => rw [q] at h; exact fun σ' G' cls d H' e R' rel => h G' σ' cls d H' e R' rel
  | bk E1 => rw [q] at h; exact h.elim
  | ct E1 => rw [q] at h; exact h.elim
  | bad => rw [q] at h; exact h.elim
/-- a def of which nothing is promised -/
def badF : FM := fun _ => .bad
theorem fn_bad {P : Program} {w : World} {K : PySem.W.Frag} {mg : Str → Option Value} {base : Heap} {c : Cfg} {k m : Nat} {f : Addr} {fd : FuncData} {ps : List Str} (hm : ps.length = m) : FnOk P w K mg base (L2.CX P w) k f fd ps (spM c m badF) :=
  ⟨fun vs H Q E h => by rw [hm]; exact h.1, fun A outer s H args us vs Q E _ _ _ _ h => by
    obtain ⟨_, _, _, _, _, h⟩ := h
    exact h.elim⟩
/-- all arguments are data, the defaults behind them -/
def mFnD (F : FM) (dds : List D) (ma : AM) : EM := mFn (fun as => F (as ++ dds.map .fz)) ma
section
variable {X : Cx} {c : Cfg} {W : WX} {e o : Expr} {es : List Expr} {mr : AM} {F : FM} {n : Nat} {x : Str} {p p0 pos : Pos} {k kX : Nat} {ps : List Str} {dds : List D}
theorem fnD_read {σ : L2.St} {H : Hp} {Q : VK} {dvs : List V} (hd : ∀ G, Reps c G dvs dds) (hn : ∀ {E E1 : Ev} {rs}, mr E = .ok rs E1 → rs.length + dds.length = n) (h : tE c W (mFnD F dds mr) σ H Q) : tCallSD (spM c n F) dvs (WE W) (tA c W mr) σ H Q := by
  obtain ⟨f, G, E, R, h⟩ := h
  refine ⟨f, G, E, R, ?_⟩
  unfold mFnD mFn at h
  cases q : mr E with
  | bad => rw [q] at h; exact h
  | ex x E1 => rw [q] at h; exact h
  | ok rs E1 =>
    rw [q] at h
    intro G1 vs H1 e1 R1 r1
    have h := postE_mono e1 h
    simp only [Res.bind] at h
    cases q2 : fzs E1 rs with
    | none => rw [q2] at h; exact h.elim
    | some pr =>
      obtain ⟨ds, E2⟩ := pr
      rw [q2] at h
      simp only at h
      obtain ⟨G2, e2, R2, rep⟩ := fzs_rep R1 r1 q2
      have rep2 := rep.append (hd G2)
      have lens : ∀ {rs : List RV} {E1 E2 : Ev} {ds : List D}, fzs E1 rs = some (ds, E2) → ds.length = rs.length := by
        intro rs
        induction rs with
        | nil => intro E1 E2 ds q; cases q; rfl
        | cons r rs ih =>
          intro E1 E2 ds q
          simp only [fzs] at q
          split at q
          · split at q
            · rename_i h2
              cases q
              simp [ih h2]
            · cases q
          · cases q
      have hl := hn q
      have em : ds.map Slot.fz ++ dds.map Slot.fz = (ds ++ dds).map Slot.fz := by rw [List.map_append]
      rw [em] at h
      refine ⟨by rw [rep2.length, List.length_append, lens q2]; exact hl, G2, (ds ++ dds).map .fz, ?_, R2.callee rep2, ?_⟩
      · rw [List.all_map]
        exact List.all_eq_true.mpr fun _ _ => rfl
      cases q3 : F ((ds ++ dds).map .fz) with
      | bad => rw [q3] at h; exact h
      | ex x E3 =>
        rw [q3] at h
        intro G3 σ3 cls d H3 e3 R3 rel
        exact h G3 cls d H3 (e2.trans e3) (R2.gro (R2.back boOf_fz R3)) rel
      | ok r E3 =>
        rw [q3] at h
        intro G3 σ3 v H3 e3 R3 rel
        have g := R2.back boOf_fz R3
        cases r with
        | sl j => exact h.elim
        | fz d => exact h G3 v H3 (e2.trans e3) (R2.gro g) rel
        | ow m => exact h G3 v H3 (e2.trans e3) (R2.gro g) (RelN.rel R2 (RelR.back R2 rel (fun j z => by cases z)))
theorem de_cal (C : Cal X.prog X.w X.K X.mg X.base c x k ps n F dds) (hr : Room kX X.A) (hg : Gl X x) (tk : Takes X W) (ha : PA X (e :: es) (tA c W mr)) (hn : ∀ {E E1 : Ev} {rs}, mr E = .ok rs E1 → rs.length + dds.length = n) (hk : k ≤ kX := by decide) (hdb : (x == ("__debug__" : Str)) = false := by decide)
    (he : starEach (e :: es) X.env = (false, eval e X.env) :: starEach es X.env := by rfl) (hpl : (backTo pos (starEach es X.env)).any (·.1) = false := by rfl) : PE X (.Call (.Name x p) (e :: es) [] pos) (tE c W (mFnD F dds mr)) := by
  obtain ⟨f, fd, ds, dvs, h1, h2, h3, h4, h5, h6⟩ := C.ex
  exact pe_imp (pe_callSD h3 (hr.mono hk) hg h1 h2 h4 h5 (passAt tk) ha hdb he hpl) fun _ _ _ q => fnD_read h6 hn q
theorem de_calB {j : Nat} (C : Cal X.prog X.w X.K X.mg X.base c x k ps (n + 1) F []) (hr : Room kX X.A) (hg : Gl X x) (tk : Takes X W) (hv : PE X o (tVar j)) {y : Str} (ho : o = .Name y p0) (ha : PA X es (tA c W mr)) (hn : ∀ {E E1 : Ev} {rs}, mr E = .ok rs E1 → rs.length = n) (hk : k ≤ kX := by decide) (hdb : (x == ("__debug__" : Str)) = false := by decide)
    (he : starEach (o :: es) X.env = (false, eval o X.env) :: starEach es X.env := by rfl) (hpl : (backTo pos (starEach es X.env)).any (·.1) = false := by rfl) : PE X (.Call (.Name x p) (o :: es) [] pos) (tE c W (mFnB F j mr)) := by
  subst ho
  obtain ⟨f, fd, ds, dvs, h1, h2, h3, h4, h5, h6⟩ := C.ex
  have e5 : dvs = [] := by
    have := (h6 (fun _ => none)).length
    simpa using this
  subst e5
  cases h5
  exact pe_imp (pe_callS h3 (hr.mono hk) hg h1 h2 h4 (passAt tk) (pa_cons hv ha he) hdb he hpl) fun _ _ _ q => fnB_read (x := y) (p0 := p0) hn q
end
theorem hu64 {k : Nat} {A : Around} (hr : Room k A) : A.units + 64 < cLine := by
  have := hr.un
  omega
end M

namespace M
open PySem PySem.Spec PyProof.Rows L2
section
variable {E E1 : Ev} {rs : List RV} {m1 m2 m3 m4 m5 : EM}
theorem alen0 (h : aNil E = .ok rs E1) : rs.length = 0 := by cases h; rfl
theorem alenS {ma : EM} {mr : AM} {n : Nat} (hn : ∀ (E E1 : Ev) (rs : List RV), mr E = .ok rs E1 → rs.length = n) (h : aCons ma mr E = .ok rs E1) : rs.length = n + 1 := aCons_len (fun {E E1 rs} h => hn E E1 rs h) h
theorem alen1 (h : aCons m1 aNil E = .ok rs E1) : rs.length = 1 := alenS (fun _ _ _ h => alen0 h) h
theorem alen2 (h : aCons m1 (aCons m2 aNil) E = .ok rs E1) : rs.length = 2 := alenS (fun _ _ _ h => alen1 h) h
theorem alen3 (h : aCons m1 (aCons m2 (aCons m3 aNil)) E = .ok rs E1) : rs.length = 3 := alenS (fun _ _ _ h => alen2 h) h
theorem alen4 (h : aCons m1 (aCons m2 (aCons m3 (aCons m4 aNil))) E = .ok rs E1) : rs.length = 4 := alenS (fun _ _ _ h => alen3 h) h
theorem alen5 (h : aCons m1 (aCons m2 (aCons m3 (aCons m4 (aCons m5 aNil)))) E = .ok rs E1) : rs.length = 5 := alenS (fun _ _ _ h => alen4 h) h
end
section
variable {X : Cx} {c : Cfg} {W : WX} {x : Str} {pos : Pos}
theorem de_gint {i : Int} (h : ∃ t, X.mg x = some (.int i t)) (hg : Gl X x) (hd : (x == ("__debug__" : Str)) = false := by decide) : PE X (.Name x pos) (tE c W (mC (.int i))) := by
  obtain ⟨t, h⟩ := h
  exact de_c (pe_glob (v := .int i) hg h ⟨t, rfl⟩ hd) fun _ => .int _
theorem de_ty {n : String} (hg : Gl X x) (hm : X.mg x = none) (hv : bootBuiltins x = some (.type n)) (hn : x ≠ "__name__" := by decide) (hd : (x == ("__debug__" : Str)) = false := by decide) : PE X (.Name x pos) (tE c W (mC (.ty n))) :=
  de_c (pe_bltn (v := .ty n) hg hm hv rfl hn hd) fun _ => .ty _
end
theorem bt_len : bootBuiltins "len" = some (.builtin "len") := by decide +kernel
theorem bt_abs : bootBuiltins "abs" = some (.builtin "abs") := by decide +kernel
theorem bt_sum : bootBuiltins "sum" = some (.builtin "sum") := by decide +kernel
theorem bt_min : bootBuiltins "min" = some (.builtin "min") := by decide +kernel
theorem bt_max : bootBuiltins "max" = some (.builtin "max") := by decide +kernel
theorem bt_any : bootBuiltins "any" = some (.builtin "any") := by decide +kernel
theorem bt_all : bootBuiltins "all" = some (.builtin "all") := by decide +kernel
theorem bt_repr : bootBuiltins "repr" = some (.builtin "repr") := by decide +kernel
theorem bt_sorted : bootBuiltins "sorted" = some (.builtin "sorted") := by decide +kernel
theorem bt_divmod : bootBuiltins "divmod" = some (.builtin "divmod") := by decide +kernel
theorem bt_isinstance : bootBuiltins "isinstance" = some (.builtin "isinstance") := by decide +kernel
theorem bt_int : bootBuiltins "int" = some (.type "int") := by decide +kernel
theorem bt_bool : bootBuiltins "bool" = some (.type "bool") := by decide +kernel
theorem bt_str : bootBuiltins "str" = some (.type "str") := by decide +kernel
theorem bt_tuple : bootBuiltins "tuple" = some (.type "tuple") := by decide +kernel
theorem bt_list : bootBuiltins "list" = some (.type "list") := by decide +kernel
theorem bt_set : bootBuiltins "set" = some (.type "set") := by decide +kernel
theorem bt_dict : bootBuiltins "dict" = some (.type "dict") := by decide +kernel
/-- a def's wish about exceptions is taken -/
theorem tk_of {P : Program} {w : World} {K : PySem.W.Frag} {mg : Str → Option Value} {base : Heap} {N : List Str} {qual : Str} {scope : Scope} {f : Addr} {cdv : Value} {A : Around} {outer : List Env} {s : Shared} {H : Hp} {E : XK} :
    Takes (cxOf (L2.CX P w) P w K mg base N qual scope f cdv A outer s H E) (fun cls d _ H' => E cls d H') := takes_of rfl rfl rfl rfl
end M
namespace M
open PySem PySem.Spec PyProof.Rows L2
theorem RS.init {c : Cfg} {G H : Hp} {vs : List V} {ds : List D} (hP : c.P G) (e : Same G H) (r : Reps c G vs ds) : RS c (startF G H (ds.map .fz) vs) G (ds.map .fz) (vs.map some) H where
  gh := e
  g0 := .refl G
  new := fun a o h => .inl (by show G a ≠ none; rw [h]; intro z; cases z)
  fr := fun a o h _ => h
  len := by rw [List.length_map, List.length_map]; exact r.length
  fz := fun i d h => by
    obtain ⟨d', e, q⟩ := map_fz_get h
    cases e
    obtain ⟨v, h1, h2⟩ := r.get q
    exact ⟨v, by rw [List.getElem?_map, h1]; rfl, h2⟩
  ow := fun i m h => by obtain ⟨d', e, q⟩ := map_fz_get h; cases e
  bo := fun i m h => by obtain ⟨d', e, q⟩ := map_fz_get h; cases e
  bos := fun i p h => by
    have h : boOf (ds.map Slot.fz) vs i = some p := h
    rw [boOf_fz] at h
    cases h
  dis := fun i j p n ⟨⟨m, z⟩, _⟩ _ => by
    rcases z with z | z
    · obtain ⟨d', e, q⟩ := map_fz_get z; cases e
    · obtain ⟨d', e, q⟩ := map_fz_get z; cases e
  inv := hP
  xv := fun i h => by obtain ⟨d', e, q⟩ := map_fz_get h; cases e
/-- nothing is let out where nothing is wished for -/
theorem fn_nox {P : Program} {w : World} {K : PySem.W.Frag} {mg : Str → Option Value} {base : Heap} {k : Nat} {f : Addr} {fd : FuncData} {ps : List Str} {sp : Sp} (F : FnOk P w K mg base (L2.CX P w) k f fd ps sp) :
    FnOk P w K mg base CX0 k f fd ps (fun vs H Q _ => sp vs H Q E0) where
  len := fun vs H Q E h => F.len vs H Q E0 h
  run := fun A outer s H args us vs Q E hr he hb hv hs => by
    refine codeAny_mono (F.run A outer s H args us vs Q E0 hr he hb hv hs) fun r s' hq => ?_
    cases r with
    | ok fl => cases fl <;> exact hq
    | error e =>
      obtain ⟨_, _, _, _, _, _, _, _, _, _, _, _, z⟩ := hq
      exact z.elim
theorem law_sp {K : PySem.W.Frag} {c : Cfg} (hP : ∀ G, c.P G) (hK : c.K = K) {F : FM} {H : Hp} {a : Addr} {ns : List Int} (hS : SqL K H a (ns.map V.int)) (h : ∃ E, F [.fz (.frl (ns.map D.int))] = .ok (.fz (.bl true)) E) :
    spM c 1 F [.ref a] H (fun v _ => v = .bl true) E0 := by
  subst hK
  obtain ⟨E, h⟩ := h
  refine ⟨rfl, H, [.fz (.frl (ns.map D.int))], rfl, RS.init (ds := [.frl (ns.map D.int)]) (hP H) (.refl H) (.cons (.frl hS (Reps.ints ns)) .nil), ?_⟩
  rw [h]
  intro G' σ' v H' _ _ rel
  cases rel
  rfl
end M

/-! evaluation of mirrors by simp -/
namespace M
open PySem PySem.Spec PyProof.Rows L2
/-- a mark that keeps simp out of what comes after -/
structure Tg {γ : Type} (g : γ) : Type where
  mk ::
def Res.bd {α β : Type} (r : Res α) (g : α → Ev → Res β) (t : Tg g := .mk) : Res β := r.bind g
def Res.ot {α : Type} (r : Res α) (g : α → Ev → Out) (t : Tg g := .mk) : Out := r.out g
def Out.seq (o : Out) (b : SM) (t : Tg b := .mk) : Out := match o with
  | .nx E1 => b E1
  | o => o
@[simp] theorem sSeq_eq (a b : SM) (E : Ev) : sSeq a b E = (a E).seq b := rfl
@[simp] theorem seq_nx (E : Ev) (b : SM) : (Out.nx E).seq b = b E := rfl
@[simp] theorem seq_rt (r : RV) (E : Ev) (b : SM) : (Out.rt r E).seq b = .rt r E := rfl
@[simp] theorem seq_bk (E : Ev) (b : SM) : (Out.bk E).seq b = .bk E := rfl
@[simp] theorem seq_ct (E : Ev) (b : SM) : (Out.ct E).seq b = .ct E := rfl
@[simp] theorem seq_ex (x : Exn) (E : Ev) (b : SM) : (Out.ex x E).seq b = .ex x E := rfl
@[simp] theorem seq_bad (b : SM) : Out.bad.seq b = .bad := rfl
@[simp] theorem bind_ok {α β : Type} (a : α) (E : Ev) (g : α → Ev → Res β) : (Res.ok a E).bd g = g a E := rfl
@[simp] theorem bind_ex {α β : Type} (x : Exn) (E : Ev) (g : α → Ev → Res β) : (Res.ex x E : Res α).bd g = .ex x E := rfl
@[simp] theorem bind_bad {α β : Type} (g : α → Ev → Res β) : (Res.bad : Res α).bd g = .bad := rfl
@[simp] theorem out_ok {α : Type} (a : α) (E : Ev) (g : α → Ev → Out) : (Res.ok a E).ot g = g a E := rfl
@[simp] theorem out_ex {α : Type} (x : Exn) (E : Ev) (g : α → Ev → Out) : (Res.ex x E : Res α).ot g = .ex x E := rfl
@[simp] theorem out_bad {α : Type} (g : α → Ev → Out) : (Res.bad : Res α).ot g = .bad := rfl
@[simp] theorem rx_ok (r : RV) (E : Ev) : (Res.ok r E).rx = .ok r := rfl
@[simp] theorem rx_ex (x : Exn) (E : Ev) : (Res.ex x E).rx = .ex x := rfl
@[simp] theorem rx_bad : Res.bad.rx = .bad := rfl
@[simp] theorem mC_eq (d : D) (E : Ev) : mC d E = .ok (.fz d) E := rfl
@[simp] theorem mBin_eq (op : D → D → Option RV) (ma mb : EM) (E : Ev) : mBin op ma mb E = (ma E).bd fun a E1 => (mb E1).bd fun b E2 => match pk E2 a.settle, pk E2 b.settle with
  | some x, some y => match op x y with
    | some r => .ok r E2
    | none => .bad
  | _, _ => .bad := rfl
@[simp] theorem mUn_eq (op : D → Option RV) (ma : EM) (E : Ev) : mUn op ma E = (ma E).bd fun a E1 => match pk E1 a.settle with
  | some x => match op x with
    | some r => .ok r E1
    | none => .bad
  | _ => .bad := rfl
@[simp] theorem mBad_eq (E : Ev) : mBad E = .bad := rfl
@[simp] theorem tTru_eq (ma : EM) (E : Ev) : tTru ma E = (ma E).bd fun a E1 => match pk E1 a.settle with
  | some x => match truD x with
    | some b => .ok b E1
    | none => .bad
  | _ => .bad := rfl
@[simp] theorem tCmpM_eq (op : D → D → Option RV) (ma mb : EM) (E : Ev) : tCmpM op ma mb E = (ma E).bd fun a E1 => (mb E1).bd fun b E2 => match pk E2 a.settle, pk E2 b.settle with
  | some x, some y => match op x y with
    | some (.fz (.bl k)) => .ok k E2
    | _ => .bad
  | _, _ => .bad := rfl
@[simp] theorem tAndM_eq (ta tb : BM) (E : Ev) : tAndM ta tb E = (ta E).bd fun a E1 => if a then tb E1 else .ok false E1 := rfl
@[simp] theorem tOrM_eq (ta tb : BM) (E : Ev) : tOrM ta tb E = (ta E).bd fun a E1 => if a then .ok true E1 else tb E1 := rfl
@[simp] theorem tNotM_eq (ta : BM) (E : Ev) : tNotM ta E = (ta E).bd fun a E1 => .ok (!a) E1 := rfl
@[simp] theorem mIf_eq (t : BM) (ma mb : EM) (E : Ev) : mIf t ma mb E = (t E).bd fun b E1 => if b then ma E1 else mb E1 := rfl
@[simp] theorem mAndV_eq (ma mb : EM) (E : Ev) : mAndV ma mb E = (ma E).bd fun a E1 => match pk E1 a.settle with
  | some (.bl k) => if k then mb E1 else .ok (.fz (.bl false)) E1
  | _ => .bad := rfl
@[simp] theorem mOrV_eq (ma mb : EM) (E : Ev) : mOrV ma mb E = (ma E).bd fun a E1 => match pk E1 a.settle with
  | some (.bl k) => if k then .ok (.fz (.bl true)) E1 else mb E1
  | _ => .bad := rfl
@[simp] theorem mNotV_eq (ma : EM) (E : Ev) : mNotV ma E = (ma E).bd fun a E1 => match pk E1 a.settle with
  | some (.bl k) => .ok (.fz (.bl (!k))) E1
  | _ => .bad := rfl
@[simp] theorem aNil_eq (E : Ev) : aNil E = .ok [] E := rfl
@[simp] theorem aCons_eq (ma : EM) (mr : AM) (E : Ev) : aCons ma mr E = (ma E).bd fun a E1 => (mr E1).bd fun rs E2 => .ok (a.settle :: rs) E2 := rfl
@[simp] theorem mTup_eq (ma : AM) (E : Ev) : mTup ma E = (ma E).bd fun rs E1 => match fzs E1 rs with
  | some (ds, E2) => if ds.length ≤ maxLen then .ok (.fz (.tup ds)) E2 else .bad
  | none => .bad := rfl
@[simp] theorem mLst_eq (ma : AM) (E : Ev) : mLst ma E = (ma E).bd fun rs E1 => match fzs E1 rs with
  | some (ds, E2) => if ds.length ≤ maxLen then .ok (.ow (.lst ds)) E2 else .bad
  | none => .bad := rfl
@[simp] theorem mCall_eq (op : List D → Option RV) (ma : AM) (E : Ev) : mCall op ma E = (ma E).bd fun rs E1 => match pks E1 rs with
  | some ds => match op ds with
    | some r => .ok r E1
    | none => .bad
  | none => .bad := rfl
@[simp] theorem mFnD_eq (F : FM) (dds : List D) (ma : AM) (E : Ev) : mFnD F dds ma E = (ma E).bd fun rs E1 => match fzs E1 rs with
  | some (ds, E2) => match (F (ds.map .fz ++ dds.map .fz)).rx with
    | .ok (.fz d) => .ok (.fz d) E2
    | .ok (.ow m) => .ok (.ow m) E2
    | .ex x => .ex x E2
    | _ => .bad
  | none => .bad := rfl
@[simp] theorem sNil_eq (E : Ev) : sNil E = .nx E := rfl
@[simp] theorem sBad_eq (E : Ev) : sBad E = .bad := rfl
@[simp] theorem sSet_eq (i : Nat) (m : EM) (E : Ev) : sSet i m E = (m E).ot fun r E1 => match asg E1 i r with
  | some E2 => .nx E2
  | none => .bad := rfl
@[simp] theorem sDrop_eq (m : EM) (E : Ev) : sDrop m E = (m E).ot fun _ E1 => .nx E1 := rfl
@[simp] theorem sRet_eq (m : EM) (E : Ev) : sRet m E = (m E).ot fun r E1 => retv E1 r := rfl
@[simp] theorem sRetN_eq (E : Ev) : sRetN E = .rt (.fz .non) E := rfl
@[simp] theorem sIf_eq (t : BM) (a b : SM) (E : Ev) : sIf t a b E = (t E).ot fun k E1 => if k then a E1 else b E1 := rfl
@[simp] theorem sBrk_eq (E : Ev) : sBrk E = .bk E := rfl
@[simp] theorem sCt_eq (E : Ev) : sCt E = .ct E := rfl
@[simp] theorem sAsg_eq (t : TgM) (m : EM) (E : Ev) : sAsg t m E = (m E).ot fun r E1 => match fzn E1 r with
  | some (d, E2) => match t d E2 with
    | some E3 => .nx E3
    | none => .bad
  | none => .bad := rfl
@[simp] theorem sPar_eq (i j : Nat) (ma mb : EM) (E : Ev) : sPar i j ma mb E = (ma E).ot fun a E1 => match rz E1 a with
  | some (ra, E2) => (mb E2).ot fun b E3 => match rz E3 b with
    | some (rb, E4) => match put E4 i ra with
      | some E5 => match put E5 j rb with
        | some E6 => .nx E6
        | none => .bad
      | none => .bad
    | none => .bad
  | none => .bad := rfl
@[simp] theorem sFor_eq (mi : IM) (t : TgM) (body : SM) (E : Ev) : sFor mi t body E = (mi E).ot fun ds E1 => forLoop t body ds E1 := rfl
@[simp] theorem mLc_eq (mi : IM) (t : TgM) (cond : BM) (elt : EM) (vs : List Nat) (E : Ev) : mLc mi t cond elt vs E = (mi E).bd fun ds E1 => if allNotBo E1 vs = true then lcLoop t cond elt vs ds [] (wipeE E1 vs) else .bad := rfl
@[simp] theorem iSeq_eq (m : EM) (E : Ev) : iSeq m E = (m E).bd fun r E1 => match fzn E1 r with
  | some (.lst ds, E2) => .ok ds E2
  | some (.frl ds, E2) => .ok ds E2
  | some (.tup ds, E2) => .ok ds E2
  | _ => .bad := rfl
@[simp] theorem iEnumM_eq (m : EM) (E : Ev) : iEnumM m E = (m E).bd fun r E1 => match fzn E1 r with
  | some (.tup ds, E2) => .ok (enumD ds) E2
  | _ => .bad := rfl
@[simp] theorem iRange1_eq (m : EM) (E : Ev) : iRange1 m E = (m E).bd fun r E1 => match pk E1 r with
  | some (.int j) => if decide (-(2 ^ 62) ≤ j) && decide (j < 2 ^ 62) then .ok ((List.range j.toNat).map fun i => .int (i : Nat)) E1 else .bad
  | _ => .bad := rfl
@[simp] theorem tYesM_eq (E : Ev) : tYesM E = .ok true E := rfl
@[simp] theorem oNone_eq (E : Ev) : oNone E = .ok none E := rfl
@[simp] theorem oSome_eq (m : EM) (E : Ev) : oSome m E = (m E).bd fun r E1 => match pk E1 r with
  | some (.int i) => .ok (some i) E1
  | _ => .bad := rfl
@[simp] theorem mSl_eq (m : EM) (lo hi : OM) (E : Ev) : mSl m lo hi E = (m E).bd fun r E1 => (lo E1).bd fun a E2 => (hi E2).bd fun b E3 => match pk E3 r.settle with
  | some d => match slD d a b with
    | some r => .ok r E3
    | none => .bad
  | none => .bad := rfl
@[simp] theorem mAppend_eq (j : Nat) (m : EM) (E : Ev) : mAppend j m E = match own E j with
  | some (.lst _) => (m E).bd fun r E1 => match fzn E1 r with
    | some (d, E2) => match own E2 j with
      | some (.lst ds) => if ds.length < maxLen then .ok (.fz .non) (setOwn E2 j (.lst (ds ++ [d]))) else .bad
      | _ => .bad
    | none => .bad
  | _ => .bad := rfl
@[simp] theorem mExtend_eq (j : Nat) (m : EM) (E : Ev) : mExtend j m E = match own E j with
  | some (.lst _) => (m E).bd fun r E1 => match fzn E1 r with
    | some (.lst es, E2) => match own E2 j with
      | some (.lst ds) => if ds.length + es.length ≤ maxLen then .ok (.fz .non) (setOwn E2 j (.lst (ds ++ es))) else .bad
      | _ => .bad
    | _ => .bad
  | _ => .bad := rfl
@[simp] theorem sSetIx_eq (j : Nat) (mi m : EM) (E : Ev) : sSetIx j mi m E = (m E).ot fun r E1 => match fzn E1 r with
  | some (d, E2) => match own E2 j with
    | some (.lst _) => (mi E2).ot fun ri E3 => match pk E3 ri, own E3 j with
      | some (.int i), some (.lst ds) => match ixN ds.length i with
        | some k => .nx (setOwn E3 j (.lst (ds.set k d)))
        | none => .bad
      | _, _ => .bad
    | _ => .bad
  | none => .bad := rfl
@[simp] theorem settle_fz (d : D) : (RV.fz d).settle = .fz d := rfl
@[simp] theorem settle_ow (m : MO) : (RV.ow m).settle = .fz m.d := rfl
@[simp] theorem settle_sl (j : Nat) : (RV.sl j).settle = .sl j := rfl
@[simp] theorem pk_fz (E : Ev) (d : D) : pk E (.fz d) = some d := rfl
@[simp] theorem pk_ow (E : Ev) (m : MO) : pk E (.ow m) = some m.d := rfl
@[simp] theorem fzn_fz (E : Ev) (d : D) : fzn E (.fz d) = some (d, E) := rfl
@[simp] theorem fzn_ow (E : Ev) (m : MO) : fzn E (.ow m) = some (m.d, E) := rfl
@[simp] theorem MOd_lst (l : List D) : (MO.lst l).d = .lst l := rfl
@[simp] theorem MOd_dct (l : List (Key × D)) : (MO.dct l).d = .dct l := rfl
@[simp] theorem retv_fz (E : Ev) (d : D) : retv E (.fz d) = .rt (.fz d) E := rfl
@[simp] theorem retv_ow (E : Ev) (m : MO) : retv E (.ow m) = .rt (.ow m) E := rfl
@[simp] theorem pks_nil (E : Ev) : pks E [] = some [] := rfl
@[simp] theorem fzs_nil (E : Ev) : fzs E [] = some ([], E) := rfl
@[simp] theorem rz_fz (E : Ev) (d : D) : rz E (.fz d) = some (.fz d, E) := rfl
@[simp] theorem rz_ow (E : Ev) (m : MO) : rz E (.ow m) = some (.ow m, E) := rfl
@[simp] theorem wipeE_nil (E : Ev) : wipeE E [] = E := rfl
@[simp] theorem wipeE_cons (E : Ev) (v : Nat) (vs : List Nat) : wipeE E (v :: vs) = (wipeE E vs).set v .un := rfl
@[simp] theorem forLoop_nil (t : TgM) (b : SM) (E : Ev) : forLoop t b [] E = .nx E := rfl
@[simp] theorem lcLoop_nil (t : TgM) (cond : BM) (elt : EM) (vs : List Nat) (acc : List D) (E : Ev) : lcLoop t cond elt vs [] acc E = .ok (.ow (.lst acc)) E := rfl

/-- what stands in a slot -/
def cont (E : Ev) (j : Nat) : Option D := match E[j]? with
  | some (.fz d) => some d
  | some (.ow m) => some m.d
  | some (.bo m) => some m.d
  | _ => none
@[simp] theorem pk_sl (E : Ev) (j : Nat) : pk E (.sl j) = match E[j]? with
    | some (.fz d) => some d
    | some (.ow m) => some m.d
    | some (.bo m) => some m.d
    | _ => none := rfl
@[simp] theorem fzn_sl (E : Ev) (j : Nat) : fzn E (.sl j) = match E[j]? with
    | some (.fz d) => some (d, E)
    | some (.ow m) => some (m.d, E.set j (.fz m.d))
    | _ => none := rfl
@[simp] theorem mVar_eq (j : Nat) (E : Ev) : mVar j E = match E[j]? with
  | none => .bad
  | some .un => .bad
  | _ => .ok (.sl j) E := rfl
@[simp] theorem retv_sl (E : Ev) (j : Nat) : retv E (.sl j) = match E[j]? with
    | some (.fz d) => .rt (.fz d) E
    | some (.ow m) => .rt (.ow m) (E.set j .un)
    | _ => .bad := rfl
@[simp] theorem rz_sl (E : Ev) (j : Nat) : rz E (.sl j) = match fzn E (.sl j) with
    | some (d, E1) => some (.fz d, E1)
    | none => none := rfl
@[simp] theorem asg_eq (E : Ev) (i : Nat) (r : RV) : asg E i r = if notBo E i then match r with
    | .fz d => some (E.set i (.fz d))
    | .ow m => some (E.set i (.ow m))
    | .sl j => match fzn E (.sl j) with
      | some (d, E1) => some (E1.set i (.fz d))
      | none => none
  else none := rfl
@[simp] theorem put_fz (E : Ev) (i : Nat) (d : D) : put E i (.fz d) = if notBo E i then some (E.set i (.fz d)) else none := rfl
@[simp] theorem put_ow (E : Ev) (i : Nat) (m : MO) : put E i (.ow m) = if notBo E i then some (E.set i (.ow m)) else none := rfl
@[simp] theorem notBo_eq (E : Ev) (i : Nat) : notBo E i = match E[i]? with
  | some (.bo _) => false
  | _ => true := rfl
@[simp] theorem pks_cons (E : Ev) (r : RV) (rs : List RV) : pks E (r :: rs) = match pk E r, pks E rs with
    | some d, some ds => some (d :: ds)
    | _, _ => none := rfl
@[simp] theorem fzs_cons (E : Ev) (r : RV) (rs : List RV) : fzs E (r :: rs) = match fzn E r with
    | some (d, E1) => match fzs E1 rs with
      | some (ds, E2) => some (d :: ds, E2)
      | none => none
    | none => none := rfl
@[simp] theorem own_eq (E : Ev) (j : Nat) : own E j = match E[j]? with
  | some (.ow m) => some m
  | some (.bo m) => some m
  | _ => none := rfl
@[simp] theorem setOwn_eq (E : Ev) (j : Nat) (m' : MO) : setOwn E j m' = E.set j (match E[j]? with
  | some (.bo _) => .bo m'
  | _ => .ow m') := rfl
@[simp] theorem tgName_eq (i : Nat) (d : D) (E : Ev) : tgName i d E = if notBo E i then some (E.set i (.fz d)) else none := rfl
@[simp] theorem tgTup_eq (ts : List TgM) (ds : List D) (E : Ev) : tgTup ts (.tup ds) E = tgs ts ds E := rfl
@[simp] theorem tgs_nil (E : Ev) : tgs [] [] E = some E := rfl
@[simp] theorem tgs_cons (t : TgM) (ts : List TgM) (d : D) (ds : List D) (E : Ev) : tgs (t :: ts) (d :: ds) E = match t d E with
    | some E1 => tgs ts ds E1
    | none => none := rfl
@[simp] theorem allNotBo_nil (E : Ev) : allNotBo E [] = true := rfl
@[simp] theorem allNotBo_cons (E : Ev) (v : Nat) (vs : List Nat) : allNotBo E (v :: vs) = (notBo E v && allNotBo E vs) := rfl
theorem runF_eq (n : Nat) (body : SM) (as : Ev) : runF n body as = match body (as ++ List.replicate (n - as.length) .un) with
  | .rt r E => .ok r E
  | .nx E => .ok (.fz .non) E
  | .ex x E => .ex x E
  | _ => .bad := rfl
/-- a loop without a surprise: each turn ends in the next -/
theorem forLoop_cons (t : TgM) (b : SM) (d : D) (ds : List D) (E : Ev) : forLoop t b (d :: ds) E = match t d E with
    | none => .bad
    | some E1 => match b E1 with
      | .nx E2 => forLoop t b ds E2
      | .ct E2 => forLoop t b ds E2
      | .bk E2 => .nx E2
      | .rt r E2 => .rt r E2
      | .ex x E2 => .ex x E2
      | .bad => .bad := rfl
/-- a comprehension whose turns leave the slots as they were -/
theorem lc_pure {t : TgM} {elt : EM} {vs : List Nat} {E : Ev} {f : D → D} : ∀ {ds acc : List D}, (∀ d ∈ ds, ∃ E1 r E3 E4, t d E = some E1 ∧ elt E1 = .ok r E3 ∧ fzn E3 r = some (f d, E4) ∧ allNotBo E4 vs = true ∧ wipeE E4 vs = E) → acc.length + ds.length ≤ maxLen →
    lcLoop t tYesM elt vs ds acc E = .ok (.ow (.lst (acc ++ ds.map f))) E
  | [], acc, _, _ => by simp [lcLoop]
  | d :: ds, acc, h, hl => by
    obtain ⟨E1, r, E3, E4, h1, h2, h3, h4, h5⟩ := h d List.mem_cons_self
    have hl' : acc.length < maxLen := by simp only [List.length_cons] at hl; omega
    simp only [lcLoop, h1, tYesM, h2, h3, h4, hl', h5]
    simp only [and_self, if_true]
    rw [lc_pure (fun d hd => h d (List.mem_cons_of_mem _ hd)) (by simp only [List.length_append, List.length_cons, List.length_nil] at hl ⊢; omega)]
    simp
end M

/-! dicts of data -/
namespace M
open PySem L2
def vD (ds : List (Key × D)) (k : Key) : Option D := match ds with
  | [] => none
  | p :: r => if p.1 = k then some p.2 else vD r k
def hasK (ds : List (Key × D)) (k : Key) : Bool := (vD ds k).isSome
def replD (ds : List (Key × D)) (k : Key) (d : D) : List (Key × D) := match ds with
  | [] => []
  | p :: r => if p.1 = k then (p.1, d) :: replD r k d else p :: replD r k d
def putD (ds : List (Key × D)) (k : Key) (d : D) : List (Key × D) := if hasK ds k = true then replD ds k d else ds ++ [(k, d)]
def keyD : D → Option Key
  | .int i => some (.inl i)
  | .str s => some (.inr s)
  | _ => none
section
variable {c : Cfg} {G H : Hp}
theorem keyD_rep {v : V} {d : D} {k : Key} (h : keyD d = some k) (r : Pk c G H v d) : v = kV k := by
  cases d with
  | int i => cases h; cases r; rfl
  | str s => cases h; cases r; rfl
  | _ => cases h
theorem vD_rel : ∀ {kvs : List (Key × V)} {ds : List (Key × D)} {k : Key}, kvs.map (·.1) = ds.map (·.1) → Reps c G (kvs.map (·.2)) (ds.map (·.2)) →
    (∀ d, vD ds k = some d → ∃ v, valV kvs k = some v ∧ Rep c G v d) ∧ (vD ds k = none → valV kvs k = none)
  | [], [], k, _, _ => ⟨(fun d h => by cases h), (fun _ => valV_nil)⟩
  | [], _ :: _, k, e, _ => by cases e
  | _ :: _, [], k, e, _ => by cases e
  | p :: r, q :: s, k, e, t => by
    rw [List.map_cons, List.map_cons] at e
    injection e with e1 e2
    rw [List.map_cons, List.map_cons] at t
    cases t with
    | cons t1 t2 =>
      obtain ⟨i1, i2⟩ := vD_rel (k := k) e2 t2
      rw [vD]
      by_cases z : q.1 = k
      · rw [if_pos z, valV_pos (e1.trans z)]
        exact ⟨(fun d h => by cases h; exact ⟨_, rfl, t1⟩), (fun h => by cases h)⟩
      · rw [if_neg z, valV_neg (fun y => z (e1.symm.trans y))]
        exact ⟨i1, i2⟩
theorem replD_keys : ∀ (ds : List (Key × D)) (k : Key) (d : D), (replD ds k d).map (·.1) = ds.map (·.1)
  | [], k, d => rfl
  | p :: r, k, d => by
    rw [replD]
    split <;> simp [replD_keys r k d]
theorem replV_keys (kvs : List (Key × V)) (k : Key) (v : V) : (kvs.map fun kv => if kv.1 = k then (kv.1, v) else kv).map (·.1) = kvs.map (·.1) := by
  rw [List.map_map]
  apply List.map_congr_left
  intro x _
  simp only [Function.comp]
  split <;> rfl
theorem replD_rel {v : V} {d : D} {k : Key} (rd : Rep c G v d) : ∀ {kvs : List (Key × V)} {ds : List (Key × D)}, kvs.map (·.1) = ds.map (·.1) → Reps c G (kvs.map (·.2)) (ds.map (·.2)) →
    Reps c G ((kvs.map fun kv => if kv.1 = k then (kv.1, v) else kv).map (·.2)) ((replD ds k d).map (·.2))
  | [], [], _, _ => .nil
  | [], _ :: _, e, _ => by cases e
  | _ :: _, [], e, _ => by cases e
  | p :: r, q :: s, e, t => by
    rw [List.map_cons, List.map_cons] at e
    injection e with e1 e2
    rw [List.map_cons, List.map_cons] at t
    cases t with
    | cons t1 t2 =>
      have ih := replD_rel (k := k) rd e2 t2
      rw [replD, List.map_cons, List.map_cons]
      by_cases z : q.1 = k
      · rw [if_pos z, if_pos (e1.trans z)]
        exact .cons rd ih
      · rw [if_neg z, if_neg (fun y => z (e1.symm.trans y))]
        exact .cons t1 ih
theorem putD_rel {v : V} {d : D} {k : Key} {kvs : List (Key × V)} {ds : List (Key × D)} (rd : Rep c G v d) (e : kvs.map (·.1) = ds.map (·.1)) (t : Reps c G (kvs.map (·.2)) (ds.map (·.2))) :
    (putK kvs k v).map (·.1) = (putD ds k d).map (·.1) ∧ Reps c G ((putK kvs k v).map (·.2)) ((putD ds k d).map (·.2)) := by
  obtain ⟨h1, h2⟩ := vD_rel (k := k) e t
  unfold putD hasK
  cases q : vD ds k with
  | none =>
    rw [putK_new v (h2 q)]
    simp only [Option.isSome_none]
    rw [if_neg (by decide)]
    rw [List.map_append, List.map_append, List.map_append, List.map_append, e]
    exact ⟨rfl, t.append (.cons rd .nil)⟩
  | some x =>
    obtain ⟨y, hy, _⟩ := h1 x q
    have hany : (kvs.any fun kv => decide (kv.1 = k)) = true := by rw [valV_any, hy]; rfl
    simp only [Option.isSome_some]
    unfold putK
    rw [if_pos hany, if_pos trivial, replV_keys, replD_keys]
    exact ⟨e, replD_rel rd e t⟩
end
/-- {} -/
def mDict0 : EM := fun E => .ok (.ow (.dct [])) E
/-- x[k] of an own dict -/
def mDGet (j : Nat) (mi : EM) : EM := fun E => match own E j with
  | some (.dct _) => (mi E).bind fun ri E1 => match pk E1 ri, own E1 j with
    | some d, some (.dct ds) => match keyD d with
      | some k => match vD ds k with
        | some x => .ok (.fz x) E1
        | none => .bad
      | none => .bad
    | _, _ => .bad
  | _ => .bad
/-- x.get(k, z) of an own dict -/
def mGet2 (j : Nat) (mi mz : EM) : EM := fun E => match own E j with
  | some (.dct _) => (mi E).bind fun ri E1 => (mz E1).bind fun rz E2 => match pk E2 ri.settle, pk E2 rz, own E2 j with
    | some d, some (.int z), some (.dct ds) => match keyD d with
      | some k => .ok (.fz ((vD ds k).getD (.int z))) E2
      | none => .bad
    | _, _, _ => .bad
  | _ => .bad
/-- x[k] = e of an own dict -/
def sDPutM (j : Nat) (mi m : EM) : SM := fun E => (m E).out fun r E1 => match fzn E1 r with
  | some (d, E2) => match own E2 j with
    | some (.dct _) => (mi E2).out fun ri E3 => match pk E3 ri, own E3 j with
      | some dk, some (.dct ds) => match keyD dk with
        | some k => if ds.length < maxLen then .nx (setOwn E3 j (.dct (putD ds k d))) else .bad
        | none => .bad
      | _, _ => .bad
    | _ => .bad
  | none => .bad
section
variable {X : Cx} {c : Cfg} {W : WX} {e o : Expr} {m mi mz : EM} {pos apos cpos : Pos}
theorem de_dict0 : PE X (.Dict [] [] pos) (tE c W mDict0) := pe_imp pe_dnewK fun σ H Q ⟨f, G, E, R, h⟩ p hp => by
  have g := Gro.newH (o := HO.dK []) R.gh hp
  exact h _ _ _ (.refl _) (R.gro g) (RelN.rel (r := .ow (.dct [])) R ⟨p, rfl, ⟨[], upd_same, rfl, .nil⟩, none_of R.gh hp, hp⟩)
theorem de_dget {x : Str} {i : Expr} {j : Nat} {p0 : Pos} (hu : X.A.units + 64 < cLine) (hv : PE X (.Name x p0) (tVar j)) (hi : PE X i (tE c W mi)) (hs : NoSl i) : PE X (.Subscript (.Name x p0) i pos) (tE c W (mDGet j mi)) :=
  pe_imp (pe_dget (by omega) hv hi hs) fun σ H Q ⟨f, G, E, R, h⟩ => by
    unfold mDGet at h
    split at h
    · rename_i ds0 q0
      obtain ⟨p, hs0, _⟩ := R.own q0
      refine ⟨_, hs0, ?_⟩
      refine tE_bindE R h fun r E1 G1 v H1 e1 R1 r1 h1 => ?_
      split at h1
      · rename_i d ds q1 q2
        split at h1
        · rename_i k hk
          split at h1
          · rename_i x hx
            obtain ⟨p2, hs2, ho2, _⟩ := R1.own q2
            rw [hs0] at hs2
            cases hs2
            obtain ⟨kvs, hH, ek, reps⟩ := ho2
            obtain ⟨y, hy, ry⟩ := (vD_rel (k := k) ek reps).1 x hx
            have ev := keyD_rep hk (R1.pk r1 ((pk_settle _ _).trans q1))
            subst ev
            refine ⟨p, y, rfl, ?_, h1 G1 _ _ (.refl _) R1 ry⟩
            rw [← hy]
            exact DGet.k hH
          · exact h1.elim
        · exact h1.elim
      · exact h1.elim
    · exact h.elim
theorem de_get2 {x : Str} {i z : Expr} {j : Nat} {p0 : Pos} (hu : X.A.units + 64 < cLine) (hv : PE X (.Name x p0) (tVar j)) (hi : PE X i (tE c W mi)) (hz : PE X z (tE c W mz)) (m2 : M2 X (.Name x p0) "get" apos i z cpos) :
    PE X (.Call (.Attribute (.Name x p0) "get" apos) [i, z] [] cpos) (tE c W (mGet2 j mi mz)) :=
  pe_imp (pe_dget2 (by omega) hv hi hz m2) fun σ H Q ⟨f, G, E, R, h⟩ => by
    unfold mGet2 at h
    split at h
    · rename_i ds0 q0
      obtain ⟨p, hs0, ho0, _⟩ := R.own q0
      obtain ⟨kvs0, hH0, _⟩ := ho0
      refine ⟨_, hs0, p, rfl, .inl ⟨kvs0, .of hH0⟩, ?_⟩
      refine tE_bindE R h fun r E1 G1 v H1 e1 R1 r1 h1 => ?_
      refine tE_bindE R1 h1 fun r2 E2 G2 v2 H2 e2 R2 r2r h2 => ?_
      split at h2
      · rename_i d z ds q1 q3 q2
        split at h2
        · rename_i k hk
          obtain ⟨p2, hs2, ho2, _⟩ := R2.own q2
          rw [hs0] at hs2
          cases hs2
          obtain ⟨kvs, hH, ek, reps⟩ := ho2
          have ev := keyD_rep hk (R2.pk (r1.mono_settled e2) q1)
          subst ev
          have ez := R2.pk r2r ((pk_settle _ _).trans q3)
          cases ez
          refine ⟨_, DGet.k hH, ?_⟩
          obtain ⟨i1, i2⟩ := vD_rel (k := k) ek reps
          cases hx : vD ds k with
          | none =>
            rw [hx] at h2
            rw [i2 hx]
            exact h2 G2 _ _ (.refl _) R2 (.int _)
          | some x =>
            rw [hx] at h2
            obtain ⟨y, hy, ry⟩ := i1 x hx
            rw [hy]
            exact h2 G2 _ _ (.refl _) R2 ry
        · exact h2.elim
      · exact h2.elim
    · exact h.elim
theorem ds_dput {x : Str} {i : Expr} {j : Nat} {p0 pos' : Pos} (hu : X.A.units + 64 < cLine) (hv : PE X (.Name x p0) (tVar j)) (hi : PE X i (tE c W mi)) (ha : PE X e (tE c W m)) (hs : swapsWith e (some (.Subscript (.Name x p0) i pos')) pos.line X.env = pure false := by rfl) :
    PS X (.Assign [.Subscript (.Name x p0) i pos'] e pos) (tS c W (sDPutM j mi m)) := ps_imp (ps_dput (by omega) hv hi ha hs) fun Dn σ H ⟨f, G, E, R, h⟩ =>
  tE_outS R h fun r E1 G1 v H1 e1 R1 r1 h1 => by
    split at h1
    · rename_i d E2 q
      obtain ⟨G2, e2, R2, rep⟩ := R1.frz r1 q
      split at h1
      · rename_i ds0 q0
        obtain ⟨p, hs0, ho0, _⟩ := R2.own q0
        refine ⟨_, hs0, ?_⟩
        refine tE_outS R2 (postS_mono e2 h1) fun ri E3 G3 w H3 e3 R3 r3 h3 => ?_
        split at h3
        · rename_i dk ds q3 q4
          split at h3
          · rename_i k hk
            split at h3
            · rename_i hl
              obtain ⟨p2, hs2, ho2, he2, _⟩ := R3.own q4
              rw [hs0] at hs2
              cases hs2
              obtain ⟨kvs, hH, ek, reps⟩ := ho2
              have ev := keyD_rep hk (R3.pk r3 q3)
              subst ev
              have ll : kvs.length = ds.length := by
                have := congrArg List.length ek
                simpa using this
              obtain ⟨k1, k2⟩ := putD_rel (k := k) (rep.mono e3) ek reps
              refine ⟨p, _, rfl, DPut.k hH (by rw [maxLen_eq, ll]; exact hl), ?_⟩
              exact h3 G3 σ _ (.refl _) (R3.setOwn hs0 he2 ⟨_, upd_same, k1, k2⟩)
            · exact h3.elim
          · exact h3.elim
        · exact h3.elim
      · exact h1.elim
    · exact h1.elim
end
end M

/-! sorted keys; dict(pairs) -/
namespace M
open PySem L2
def insI (x : Int) : List Int → List Int
  | [] => [x]
  | y :: l => if x ≤ y then x :: y :: l else y :: insI x l
def sortI : List Int → List Int
  | [] => []
  | x :: l => insI x (sortI l)
theorem insI_perm (x : Int) : ∀ l, (insI x l).Perm (x :: l)
  | [] => .refl _
  | y :: l => by
    rw [insI]
    split
    · exact .refl _
    · exact ((insI_perm x l).cons y).trans (.swap x y l)
theorem sortI_perm : ∀ l, (sortI l).Perm l
  | [] => .refl _
  | x :: l => (insI_perm x (sortI l)).trans ((sortI_perm l).cons x)
theorem insI_sorted (x : Int) : ∀ {l}, l.Pairwise (· ≤ ·) → (insI x l).Pairwise (· ≤ ·)
  | [], _ => by simp [insI]
  | y :: l, h => by
    rw [List.pairwise_cons] at h
    rw [insI]
    split
    · rename_i hl
      rw [List.pairwise_cons, List.pairwise_cons]
      refine ⟨fun z hz => ?_, h⟩
      rcases List.mem_cons.mp hz with rfl | hz
      · exact hl
      · exact Int.le_trans hl (h.1 z hz)
    · rename_i hl
      rw [List.pairwise_cons]
      refine ⟨fun z hz => ?_, insI_sorted x h.2⟩
      rcases List.mem_cons.mp ((insI_perm x l).mem_iff.mp hz) with rfl | hz
      · omega
      · exact h.1 z hz
theorem sortI_sorted : ∀ l, (sortI l).Pairwise (· ≤ ·)
  | [] => .nil
  | x :: l => insI_sorted x (sortI_sorted l)
theorem sorted_eq : ∀ {a b : List Int}, a.Perm b → a.Pairwise (· ≤ ·) → b.Pairwise (· ≤ ·) → a = b
  | [], b, p, _, _ => (List.Perm.nil_eq p)
  | x :: a, [], p, _, _ => by have := p.length_eq; simp at this
  | x :: a, y :: b, p, h1, h2 => by
    rw [List.pairwise_cons] at h1 h2
    have e : x = y := by
      have m1 : x ∈ y :: b := p.mem_iff.mp List.mem_cons_self
      have m2 : y ∈ x :: a := p.mem_iff.mpr List.mem_cons_self
      rcases List.mem_cons.mp m1 with e | m1
      · exact e
      · rcases List.mem_cons.mp m2 with e | m2
        · exact e.symm
        · exact Int.le_antisymm (h1.1 y m2) (h2.1 x m1)
    subst e
    rw [sorted_eq (List.Perm.cons_inv p) h1.2 h2.2]
def intKeys : List (Key × D) → Option (List Int)
  | [] => some []
  | (.inl i, _) :: r => (intKeys r).map (i :: ·)
  | (.inr _, _) :: _ => none
theorem intKeys_of : ∀ {ds : List (Key × D)} {ks : List Int}, intKeys ds = some ks → ds.map (·.1) = ks.map Sum.inl
  | [], ks, h => by cases h; rfl
  | (.inl i, d) :: r, ks, h => by
    rw [intKeys] at h
    cases q : intKeys r with
    | none => rw [q] at h; cases h
    | some l =>
      rw [q] at h
      cases h
      rw [List.map_cons, List.map_cons, intKeys_of q]
  | (.inr i, d) :: r, ks, h => by cases h
def sortedDD : List D → Option RV
  | [.dct ds] => match intKeys ds with
    | some ks => if ks.length < 64 then some (.ow (.lst ((sortI ks).map D.int))) else none
    | none => none
  | _ => none
section
variable {X : Cx} {c : Cfg}
theorem Pk.dctAt {G H : Hp} {v : V} {ds : List (Key × D)} (e : Same G H) (h : Pk c G H v (.dct ds)) : ∃ a kvs, v = .ref a ∧ H a = some (.dK kvs) ∧ kvs.map (·.1) = ds.map (·.1) ∧ Reps c G (kvs.map (·.2)) (ds.map (·.2)) := by
  obtain ⟨a, kvs, rfl, h1, h2, h3⟩ := h
  exact ⟨a, kvs, rfl, h1, h2, h3⟩
theorem d_sortedDD (hcalm : X.calm = true) : CallR X (.builtin "sorted") (rDn c sortedDD) := calld (call_sortedDI hcalm) fun e hp q m => by
  unfold sortedDD at q
  split at q
  · split at q
    · rename_i ds ks hk
      split at q
      · rename_i hl
        cases q
        cases hp with
        | cons p1 t =>
          cases t
          obtain ⟨a, kvs, rfl, h1, h2, h3⟩ := Pk.dctAt e p1
          refine ⟨a, kvs, ks, rfl, .of h1, h2.trans (intKeys_of hk), hl, fun ys p pm ps hp => ?_⟩
          have ey : ys = sortI ks := sorted_eq (pm.trans (sortI_perm ks).symm) ps (sortI_sorted ks)
          subst ey
          exact m.lst e (Reps.ints _) hp
      · cases q
    · cases q
  · cases q
end
end M

/-! own classes of errors over any built-in one -/
namespace M
open PySem PySem.Spec PyProof.Rows L2
/-- an own class of errors; the nearest built-in one, B, makes its objects -/
structure XC (K : PySem.W.Frag) (B newId initId : String) (bmB : List Value) (C : Addr) : Prop where
  bf : ExcBaseFacts B newId initId bmB
  sf : StoreFacts B bmB "object.__setattr__" "object"
  inn : PySem.W.excInitIn K C bmB newId = true
  ov : PySem.W.excOver K C bmB = true
  hd : (match PySem.W.clsIn K C with | some cd => cd.hasDict | none => false) = true
  sa : PySem.W.findIn K (.ref C) "__setattr__" = some (some (.builtin "object.__setattr__"))
  exC : PySem.W.subIn K (.ref C) (.type "BaseException") = some true
  tyC : PySem.W.typeIn K (.ref C) = some (.type "type")
  kC : PySem.W.keepIn K (.ref C) = true
section
variable {B newId initId : String} {bmB : List Value}
section
variable {prog : Program} {w : World} {A : Around} {R : Result → Shared → Prop} {hp : Heap} {g : Array GenState} {d : Drawn} {t : Nat} {os : OsState}
/-- the first field: the object gets its dict -/
theorem x_first {K : PySem.W.Frag} {f : Str} {tk : Tok} {u : Value} {a C : Addr} {vs : Array Value} (T : XC K B newId initId bmB C)
    (X : K.In hp) (ha : hp.get? a = some { cls := .ref C, data := .fields vs }) (hn : PySem.W.findIn K (.ref C) f = some none)
    (hq : ∀ h' tk' dx, (∀ b o, b ≠ a → hp.get? b = some o → h'.get? b = some o) → hp.objs.size ≤ dx → dx ≠ a → h'.get? a = some { cls := .ref C, dict := some dx, data := .fields vs } →
      h'.Ns1 dx (fun y => if y = f then some u else none) → R (.ok (.ret .none)) ⟨h', g, d, tk', os⟩) :
    codeAny (model prog w) A (.call (.builtin "object.__setattr__") ⟨[.ref a, .str f tk, u], []⟩) R ⟨hp, g, d, t, os⟩ := by
  have hne : a ≠ hp.objs.size := Nat.ne_of_lt (Heap.lt_size ha)
  have tn : PySem.W.takerIn K C f = some none := by
    unfold PySem.W.takerIn
    rw [hn]
    rfl
  refine PySem.W.osa_openX (s := ⟨hp, g, d, t, os⟩) T.sf X (ox := { cls := .ref C, data := .fields vs }) (od := none) ⟨ha, rfl, rfl, trivial⟩ T.ov tn fun b => ?_
  have hh := T.hd
  cases hc : PySem.W.clsIn K C with
  | none => rw [hc] at hh; cases hh
  | some cd =>
    rw [hc] at hh
    have hl : PySem.W.Looks (model prog w) hp (classData C) cd := PySem.W.looks_clsIn X hc
    obtain ⟨c1, c2, c3, c4, c5, c6, c7, c8, c9, c10, c11⟩ := cd
    dsimp only at hh
    subst hh
    show wpAny _ _ (Builtin.ObjectAttr.storeInOwnDict (.ref a) (.ref C) (.str f tk) f u b) _ _ _
    unfold Builtin.ObjectAttr.storeInOwnDict Builtin.ObjectAttr.ownDictForStores
    repeat (first | with_reducible refine PySem.HandSPX.store_in_new ?_ ?_ | with_reducible refine wpAny_loadPart_at ha ?_ | with_reducible refine hl.at ?_ | wp_step)
    · refine ⟨_, #[], _, (Heap.get?_update_ne _ _ _ _ hne.symm).trans (Heap.get?_push_at rfl rfl), rfl, ?_, fun _ => rfl⟩
      intro z hz
      simp at hz
    · intro h2 tk2 ns sb
      have ha2 : (hp.push { cls := .type "dict", data := .dict #[] }).get? a = some { cls := .ref C, data := .fields vs } := Heap.get?_push_of_some _ ha
      refine hq h2 tk2 hp.objs.size (fun c o hc ho => ?_) (Nat.le_refl _) hne.symm ?_ ns
      · exact (sb.2 c (Nat.ne_of_lt (Heap.lt_size ho))).trans ((Heap.get?_update_ne _ _ _ _ hc).trans (Heap.get?_push_of_some _ ho))
      · exact (sb.2 a hne).trans (Heap.get?_update_self _ ha2 rfl)
end
section
variable {X : Cx} {pins : List (Addr × Obj)} {σ : L2.St} {H : Hp} {s : Shared} {a C : Addr} {f : Str} {y : V} {u : Value}
/-- self.f = y, the first field of an error -/
theorem x_store {Q : Unit → Shared → Prop} {E : Value → Shared → Prop} {A : Around} (T : XC X.K B newId initId bmB C) (I : Inv X pins σ H s) (ea : H a = some (exo a C none)) (hno : PySem.W.findIn X.K (.ref C) f = some none) (ry : RelV y u)
    (h : ∀ p s', H p = none → p ≠ a → Inv X pins σ (upd (upd H p (exd p [(f, y)])) a (exo a C (some p))) s' → Q () s') : wpAny (model X.prog X.w) A (setAttr (.ref a) f u) Q E s := by
  obtain ⟨t1, ho⟩ := exo_at I.hok ea
  obtain ⟨hp, g, d, t, os⟩ := s
  refine PySem.W.set_plain I.kIn (ox := { cls := .ref C, dict := none, data := .fields #[.ref t1, .none, .none, .none, .bool false, .none] }) (od := none) ⟨ho, rfl, rfl, trivial⟩ T.sa ?_
  refine x_first T I.kIn ho hno fun h2 tk2 p k fresh pa ha2 ns => ?_
  have hp0 : H p = none := I.hok.fresh fresh
  have old : ∀ {c : Addr} {o : Obj}, hp.get? c = some o → c ≠ p := fun z => Nat.ne_of_lt (Nat.lt_of_lt_of_le (Heap.lt_size z) fresh)
  have nota : ∀ {c : Addr}, H c = none → c ≠ a := fun n z => by rw [z, ea] at n; cases n
  have two : ∀ {c : Addr} {o : HO}, H c = some o → c ≠ a → upd (upd H p (exd p [(f, y)])) a (exo a C (some p)) c = some o := fun z n => by
    rw [upd_ne n, upd_ne (ne_of_none z hp0)]
    exact z
  have un : Un X.fs [] H (upd (upd H p (exd p [(f, y)])) a (exo a C (some p))) hp h2 :=
    ⟨fun c o z n _ _ => k c o (nota n) z, fun c o z n _ _ => ⟨o.slots, k c o (nota n) z⟩, fun c o z n _ => by rw [upd_ne (nota n), upd_ne (old z)]; exact n,
      fun c o z _ => (Decidable.em (c = a)).elim (fun hc => ⟨_, hc ▸ ha2⟩) fun hc => ⟨o, k c o hc z⟩, fun c xs z => two z (at_ne ea z exo_tup), fun c o v z => two z (at_ne ea z exo_frz), fun c ps z => ⟨#[], by rw [two z (at_ne ea z exo_tbl)]; simp⟩⟩
  refine h p _ hp0 pa (I.un (t' := tk2) un fun c o z => ?_)
  rcases Decidable.em (c = a) with rfl | hc
  · rw [upd_same] at z
    cases z
    exact exo_ok ha2
  · rw [upd_ne hc] at z
    rcases Decidable.em (c = p) with rfl | hd
    · rw [upd_same] at z
      cases z
      exact exd_ok ns (relO_put (fs := []) ry fun _ => True.intro)
    · rw [upd_ne hd] at z
      refine (I.hok c o z).stay (fun c2 v hv r => k c2 v ?_ r) (fun c2 hv => ?_) fun c2 xs hv => two hv (at_ne ea hv exo_tup)
      · rcases hv with rfl | hv
        · exact hc
        · exact at_ne ea hv exo_own
      · exact two hv (at_ne ea hv exo_own)
end
end
end M
namespace M
open PySem PySem.Spec PyProof.Rows L2
section
variable {B newId initId : String} {bmB : List Value}
section
variable {X : Cx} {pins : List (Addr × Obj)} {σ : L2.St} {H : Hp} {s : Shared} {a C : Addr} {f : Str}
/-- B.__init__(self, ..) of the built-in base -/
theorem x_init {us : List Value} {Q : Value → Shared → Prop} {E : Value → Shared → Prop} {A : Around} (T : XC X.K B newId initId bmB C) (I : Inv X pins σ H s) (ea : H a = some (exo a C none)) (hl : us.length ≤ sizeLine)
    (h : ∀ s', Inv X pins σ H s' → Q .none s') : wpAny (model X.prog X.w) A (call (.builtin initId) (.ref a :: us)) Q E s := by
  obtain ⟨nm, N, qn, bs, bm, hd, sn, sub, ab, col, dd, k0, k1, k2, k3, k5, there, hT⟩ := PySem.W.excInit_of I.kIn T.inn
  obtain ⟨t1, ho⟩ := exo_at I.hok ea
  cases s with
  | mk hp gg dr tk os =>
  refine wpAny_call (PySem.HandSPX.init_base T.bf hT there ho hl fun g' t2 kept gx => ?_)
  have J := I.write (t' := tk) (x := a) (e := a) (o := exo a C none) (by rw [ea]; trivial) (.inl rfl) kept ⟨_, gx⟩ (exo_ok gx)
  have same : upd H a (exo a C none) = H := funext fun b => (Decidable.em (b = a)).elim (fun z => by rw [z, upd_same, ea]) fun z => upd_ne z
  rw [same] at J
  exact h _ J
/-- what __init__ does -/
def spI (C : Addr) (f : Str) : Sp := fun vs H Q _ => ∃ a v, vs = [.ref a, v] ∧ H a = some (exo a C none) ∧ ∀ d, H d = none → d ≠ a → Q .non (upd (upd H d (exd d [(f, v)])) a (exo a C (some d)))
def tMk (C : Addr) (f : Str) (ta : TA) : L2.St → Hp → XK → Prop := fun σ H Q => ta σ H fun vs H1 => ∃ v, vs = [v] ∧ ∀ d, H1 d = none → Q (.ref C) (some d) (upd H1 d (.xd [(f, v)]))
variable {e : Expr} {es : List Expr} {ta : TA} {p pos : Pos} {x : Str} {fI : Addr} {k : Nat} {fd : FuncData} {CX : CXT}
theorem made_eq {H1 : Hp} {a d C : Addr} {f : Str} {v : V} (na : H1 a = none) (ne : d ≠ a) :
    upd (del (upd (upd (upd H1 a (exo a C none)) d (exd d [(f, v)])) a (exo a C (some d))) a) d (.xd [(f, v)]) = upd H1 d (.xd [(f, v)]) := by
  funext b
  rcases Decidable.em (b = d) with rfl | hd
  · rw [upd_same, upd_same]
  rw [upd_ne hd, upd_ne hd]
  rcases Decidable.em (b = a) with rfl | ha
  · rw [del_same, na]
  rw [del_ne ha, upd_ne ha, upd_ne hd, upd_ne ha]
/-- C(e), an error -/
theorem x_make (T : XC X.K B newId initId bmB C) (iC : PySem.W.findIn X.K (.ref C) "__init__" = some (some (.ref fI))) (tI : PySem.W.typeIn X.K (.ref fI) = some (.type "function"))
    (F1 : FnOk X.prog X.w X.K X.mg X.base CX k fI fd ["self", f] (spI C f)) (hr : Room (k + 1) X.A) (hb : Binds X.K fd ["self", f] []) (hx : Passes CX X (fun _ _ _ => False)) (hg : Gl X x) (hm : X.mg x = some (.ref C)) (ha : PA X (e :: es) ta)
    (hdb : (x == ("__debug__" : Str)) = false := by decide) (he : starEach (e :: es) X.env = (false, eval e X.env) :: starEach es X.env := by rfl) (hpl : (backTo pos (starEach es X.env)).any (·.1) = false := by rfl) :
    PMk X (.Call (.Name x p) (e :: es) [] pos) (tMk C f ta) := fun pins s σ H Q I h => by
  obtain ⟨nm, N, qn, bs, bm, hd, sn, sub, ab, col, dd, k0, k1, k2, k3, k5, there, hT⟩ := PySem.W.excInit_of I.kIn T.inn
  refine wpAny_Call_Name_kw (ld_glob I hg hm ?_ hdb)
  refine PySem.W.callWith_K (h₀ := X.base) I.ok.mod.kin T.kC (thn (ha.run pos pins s σ H _ I h) fun us s1 hh => ?_) he hpl
  obtain ⟨vs, H1, I1, r1, v, rfl, q⟩ := hh
  refine ⟨I1.kIn, ?_⟩
  obtain ⟨u, rfl, rv⟩ := Vals.one r1
  obtain ⟨nm, N, qn, bs, bm, hd, sn, sub, ab, col, dd, k0, k1, k2, k3, k5, there, hT⟩ := PySem.W.excInit_of I1.kIn T.inn
  cases s1 with
  | mk hp g dr tk os =>
  have up : hp.objs.size ≤ hp.objs.size + 1 := Nat.le_succ _
  have fresh : H1 (hp.objs.size + 1) = none := I1.hok.fresh up
  have older : ∀ b o, hp.get? b = some o → ((hp.push (PySem.W.kdv_tup [u])).push (PySem.HandSPX.excO C hp.objs.size)).get? b = some o := fun b o z => Heap.get?_push_of_some _ (Heap.get?_push_of_some _ z)
  have laid : ((hp.push (PySem.W.kdv_tup [u])).push (PySem.HandSPX.excO C hp.objs.size)).get? (hp.objs.size + 1) = some (PySem.HandSPX.excO C hp.objs.size) := by heap_get
  have I2 := I1.laid (t' := tk) (a := hp.objs.size + 1) (o := exo (hp.objs.size + 1) C none) older up (exo_ok laid)
  have rs : Vals [V.ref (hp.objs.size + 1), v] [Value.ref (hp.objs.size + 1), u] := .cons rfl (.cons rv .nil)
  refine wpAny_call (PySem.HandSPX.call_own T.bf hT there (PySem.W.looks_findIn I1.kIn iC) (fun self => PySem.W.bind_fn I1.kIn self tI) (by rw [sizeLine_eq]; exact (by decide : 1 ≤ 16777216)) ?_)
  refine codeAny_mono (F1.run _ X.stack _ _ ⟨Value.ref (hp.objs.size + 1) :: [u], []⟩ [Value.ref (hp.objs.size + 1), u] _ _ (fun _ _ _ => False) (hr.make C [u] []) (I2.env0.make C [u] []) (hb _ [Value.ref (hp.objs.size + 1), u] I2.kIn rfl) rs
    ⟨_, v, rfl, upd_same, fun d nd ne => ⟨rfl, d, ne, nd, rfl⟩⟩ : codeAny _ _ _ (CR CX X.stack X.prog X.w _ _ (fun w H2 => w = .non ∧ ∃ d, d ≠ hp.objs.size + 1 ∧ (upd H1 (hp.objs.size + 1) (exo (hp.objs.size + 1) C none)) d = none ∧ H2 = upd (upd (upd H1 (hp.objs.size + 1) (exo (hp.objs.size + 1) C none)) d (exd d [(f, v)])) (hp.objs.size + 1) (exo (hp.objs.size + 1) C (some d))) _) _) fun r s' back => ?_
  cases r with
  | error er => exact hx pins σ _ _ er s' I2 back
  | ok fl =>
    cases fl with
    | ret z =>
      obtain ⟨w, H2, os2, bare2, un2, hok2, rw2, rfl, d, ne, nd, rfl⟩ := back
      cases s' with
      | mk h2 g2 d2 t2 os' =>
      have nd1 : H1 d = none := by rw [upd_ne ne] at nd; exact nd
      refine ⟨rw2, mk_end (fs := [(f, v)]) (raises_own T.exC T.tyC) I1 up older un2 hok2 os2 bare2 upd_same (by rw [upd_ne ne, upd_same]) nd1 ?_⟩
      rw [made_eq fresh ne]
      exact q d nd1
    | next => exact False.elim back
    | brk => exact False.elim back
    | cont => exact False.elim back
/-- self.f = e of an error that is being made -/
def tXst (C : Addr) (f : Str) (to te : TE) : TS := fun D σ H => te σ H fun y H1 => to σ H1 fun x H2 => ∃ a, x = .ref a ∧ H2 a = some (exo a C none) ∧ ∀ d, H2 d = none → d ≠ a → D.nx σ (upd (upd H2 d (exd d [(f, y)])) a (exo a C (some d)))
variable {o : Expr} {to te : TE} {p' p1 p2 : Pos}
theorem x_ost (T : XC X.K B newId initId bmB C) (hno : PySem.W.findIn X.K (.ref C) f = some none) (ho : PE X o to) (he : PE X e te) (hs : swapsWith e (some (.Attribute o f p')) pos.line X.env = pure false := by rfl) :
    PS X (.Assign [.Attribute o f p'] e pos) (tXst C f to te) := by
  constructor
  intro pins s σ H D I h
  refine plainObj_wpAny_Assign_Attribute (thn (he.run pins s σ H _ I h) fun v s1 h1 => ?_) hs
  obtain ⟨y, H1, I1, r1, h1⟩ := h1
  refine thn (ho.run pins s1 σ H1 _ I1 h1) fun u s2 h2 => ?_
  obtain ⟨x, H2, I2, r2, a, rfl, ea, q⟩ := h2
  cases r2
  exact x_store T I2 ea hno r1 fun d s' n ne J => ⟨σ, _, J, q d n ne⟩
/-- how the base's __init__ is found -/
def InitAt (X : Cx) (b : Str) (initId : String) : Prop := ∀ (p1 : Pos) (pl : Sem Bool) (pins : List (Addr × Obj)) (s : Shared) (σ : L2.St) (H : Hp) (Q : Value × List Value → Shared → Prop), Inv X pins σ H s → (∀ s', Inv X pins σ H s' → Q (.builtin initId, []) s') →
  wpAny (model X.prog X.w) X.A (eval (.Name b p1) X.env) (fun ov s1 => wpAny (model X.prog X.w) X.A (getMethod ov "__init__" pl) Q X.xe s1) X.xe s
theorem initAt_bltn {T : String} {b : Str} (hg : Gl X b) (hm : X.mg b = none) (hv : bootBuiltins b = some (.type T)) (hn : b ≠ "__name__") (hd : (b == ("__debug__" : Str)) = false) (ht : typeOf (.type T) = pure (.type "type")) (hs : Manifest.isStub T = false)
    (vV : PySem.W.findCls X.K (.type T) (.type "type") "__init__" = some (.val (.builtin initId))) (hh : PySem.W.handedIn (.builtin initId) = true) : InitAt X b initId := fun p1 pl pins s σ H Q I h => by
  refine ld_blt I hg hm hv ?_ hn hd
  obtain ⟨m, fr⟩ := I.fr
  exact PySem.W.method_type fr I.ok.mod.kin ht hs vV hh (h _ (I.tok _))
theorem initAt_own {b : Str} {C0 : Addr} {mc : Value} (hg : Gl X b) (hm : X.mg b = some (.ref C0)) (hd : (b == ("__debug__" : Str)) = false) (rd : PySem.W.readsIn X.K C0 mc = true) (ga : PySem.W.specialIn X.K (.ref C0) "__getattribute__" = some (some (.builtin "type.__getattribute__")))
    (vV : PySem.W.findCls X.K (.ref C0) mc "__init__" = some (.val (.builtin initId))) (hh : PySem.W.handedIn (.builtin initId) = true) : InitAt X b initId := fun p1 pl pins s σ H Q I h => by
  refine ld_glob I hg hm ?_ hd
  exact PySem.W.method_cls I.kIn ga (PySem.W.cls_value I.kIn rd vV hh (h _ (I.tok _)))
/-- b.__init__(self, ..) -/
def tXi (C : Addr) (ta : TA) : TE := fun σ H Q => ta σ H fun vs H1 => ∃ a ws, vs = .ref a :: ws ∧ ws.length ≤ 1000 ∧ H1 a = some (exo a C none) ∧ Q .non H1
theorem pe_xi {b : Str} {pl : Sem Bool} (T : XC X.K B newId initId bmB C) (hi : InitAt X b initId) (ha : PA X (e :: es) ta)
    (hc : eval (.Call (.Attribute (.Name b p1) "__init__" p2) (e :: es) [] pos) X.env = (do
      let ov ← eval (.Name b p1) X.env
      standAt p2.atName
      let (f, first) ← holding [ov] (getMethod ov "__init__" pl)
      callWith pos f first (backTo pos (starEach (e :: es) X.env)) (backToKw pos (keywordEach [] X.env))) := by rfl)
    (he : starEach (e :: es) X.env = (false, eval e X.env) :: starEach es X.env := by rfl) (hpl : (backTo pos (starEach es X.env)).any (·.1) = false := by rfl) :
    PE X (.Call (.Attribute (.Name b p1) "__init__" p2) (e :: es) [] pos) (tXi C ta) := by
  constructor
  intro pins s σ H Q I h
  refine PySem.W.methodCall_KW (hi p1 pl pins s σ H _ I fun s1 I1 => ?_) hc
  show wpAny _ _ (callWith pos (Value.builtin initId) [] (backTo pos (starEach (e :: es) X.env)) []) _ _ _
  refine PyProof.Rows.callWith_method1 (thn (ha.run pos pins _ σ H _ I1 h) fun us s2 hh => ?_) he hpl
  obtain ⟨vs, H1, I2, r, a, ws, rfl, hl, ea, q⟩ := hh
  cases r with
  | @cons _ u0 _ ur ra rw' =>
    cases ra
    have small : ur.length ≤ sizeLine := by rw [← Paired.length rw', sizeLine_eq]; omega
    exact x_init T I2 ea small fun s' J => ⟨.non, H1, J, rfl, q⟩
end
end
end M

/-! try with any number of clauses 'except x as n'; raise; the mirror of both -/
namespace M
open PySem PySem.Spec PyProof.Rows L2
abbrev TSx := Addr → Value → Option Addr → TS
/-- the ends of a suite whose name is forgotten behind it -/
def unE (i : Nat) (D : Ends) : Ends := { nx := fun σ H => D.nx (σ.set i none) H, rt := D.rt, bk := fun σ H => D.bk (σ.set i none) H, ct := fun σ H => D.ct (σ.set i none) H }
def wCl (K : PySem.W.Frag) (Wo : WX) (D : Ends) : List (Value × Nat × TSx) → WX
  | [] => Wo
  | (k, i, ts) :: rest => fun cls d σ H => ∃ b, PySem.W.exmOne K cls k = some b ∧ (b = true → ∀ a, H a = none → ts a cls d (unE i D) (σ.set i (some (.ref a))) H) ∧ (b = false → wCl K Wo D rest cls d σ H)
inductive Cls1 (X : Cx) : List ExceptHandler → List (Value × Nat × TSx) → Prop
  | nil : Cls1 X [] []
  | cons {x n : Str} {k : Value} {i : Nat} {ts : TSx} {b0 : Stmt} {bs : List Stmt} {p1 p2 : Pos} {hds : List ExceptHandler} {l : List (Value × Nat × TSx)} (at_ : X.N[i]? = some n) (loc : X.env.kindOf n = some .local) (nam : Names X x k)
      (su : ∀ (a : Addr) (oe : Obj) (cls : Value) (d : Option Addr) (pn : List (Addr × Obj)), Zc cls d oe → (∃ vs, oe.data = .fields vs) → PSs (X.suite a ((a, oe) :: pn)) (b0 :: bs) (ts a cls d)) (rest : Cls1 X hds l) :
      Cls1 X (.ExceptHandler (some (.Name x p1)) (some n) (b0 :: bs) p2 :: hds) ((k, i, ts) :: l)
section
variable {X : Cx} {body : List Stmt} {h0 : ExceptHandler} {hds : List ExceptHandler} {l : List (Value × Nat × TSx)} {pos : Pos} {tb : WX → TS} {Wo : WX}
theorem x_try (top : X.stack = X.env :: X.outer) (fr : X.env.frame = some X.env.locals) (nod : X.N.Nodup) (tk : Takes X Wo)
    (hb : ∀ (W : WX) (pn : List (Addr × Obj)) (xe : Value → Shared → Prop), Takes (X.tr pn xe) W → PassesOwn (model X.prog X.w) X.A X.env xe → PSs (X.tr pn xe) body (tb W))
    (hh : Cls1 X (h0 :: hds) l) : PS X (.Try body (h0 :: hds) [] [] pos) (fun D σ H => tb (wCl X.K Wo D l) D σ H) := by
  constructor
  intro pins s σ H D I h
  have good := I.ok
  have frames : X.A.frames = some (X.env :: X.outer) := by rw [good.frames, top]
  let air : Value → Shared → Prop := fun e s₁ => wpAny (model X.prog X.w) X.A (noteFrame e X.env) (fun _ s₂ => wpAny (model X.prog X.w) X.A (setFlight e none) (fun _ s₃ =>
    wpAny (model X.prog X.w) X.A (handleBy e X.env (h0 :: hds)) (SP X pins D) X.xe s₃) X.xe s₂) X.xe s₁
  have catch_ : Takes (X.tr (X.pn ++ pins) air) (wCl X.K Wo D l) := by
    rintro u t ⟨a, ground, sI, ps, τ, Hx, cls, d, rfl, J', nb, up, sky, na, os, ag, wish⟩
    have J : Inv X pins τ Hx sI := J'.ofTry good
    have sky2 : Sky ground (X.env :: X.outer) a (Zc cls d) X.env.locals t.heap := top ▸ sky
    show wpAny (model X.prog X.w) X.A (noteFrame (.ref a) X.env) _ _ _
    refine Sky.land Zc.steady frames fr sky2 fun g3 fl3 up3 => ?_
    have J3 : Inv X pins τ Hx { t with heap := g3 } := J.landed nb fl3.1 (up.trans up3) os ag
    obtain ⟨oe3, vs3, he3, hz3, hd3⟩ := fl3.there
    have away : a ∉ frs (X.env :: X.outer) := fun hm => by
      obtain ⟨_, o', e', hnf⟩ := (fl3.2.2.1).mem hm
      rw [he3] at e'
      cases e'
      exact hnf _ hd3
    have nL : a ≠ X.env.locals := fun z => away (List.mem_filterMap.mpr ⟨X.env, List.mem_cons_self, by rw [fr, z]⟩)
    have nF : a ∉ X.fs := fun hm => by
      obtain ⟨en, hen, q⟩ := List.mem_filterMap.mp hm
      exact away (List.mem_filterMap.mpr ⟨en, List.mem_cons_of_mem _ hen, q⟩)
    have S3 := J3.suite he3 hd3 na nL nF
    suffices go : ∀ (cs : List ExceptHandler) (m : List (Value × Nat × TSx)), Cls1 X cs m → wCl X.K Wo D m cls d τ Hx → wpAny (model X.prog X.w) X.A (handleBy (.ref a) X.env cs) (SP X pins D) X.xe { t with heap := g3 } from go _ _ hh wish
    intro cs m hk
    induction hk with
    | nil =>
      intro wo
      refine wpAny_handleBy_nil ?_
      obtain ⟨k1, k2, k3, oe, vs, T, oT, tr, at1, hz, hd, f1, hr⟩ := id fl3
      unfold PySem.passOn
      refine wpAny_bind (wpAny_field at1 hd f1 ?_)
      rw [if_neg (show ¬ ((Value.ref T == Value.none) = true) by simp)]
      refine wpAny_bind ?_
      rw [fr]
      refine HandSPX.setFlight_upZ fl3 fun g4 fl4 up4 => wpAny_throw (tk _ _ ⟨a, ground, sI, pins, τ, Hx, cls, d, rfl, J, nb, (up.trans up3).trans up4, .inr (.inr (top.symm ▸ fl4)), na, os, ag, wo⟩)
    | @cons x n k i ts b0 bs p1 p2 hds2 l2 at_ loc nam su rest ih =>
      rintro ⟨b, hb1, yes, no⟩
      refine wpAny_handleBy_cons (codeAny_handlers_test ?_) (by intro q; cases q)
      have what : PySem.W.Looks (model X.prog X.w) g3 (typeOf (.ref a)) cls := fun A Q E s2 k2 q => wpAny_typeOf_ref (k2 _ _ he3) (by rw [hz3.1]; exact q)
      have LM := PySem.W.exm_one (M := model X.prog X.w) J3.kIn what hb1
      have named : ∀ {Q : Value → Shared → Prop} {E : Value → Shared → Prop}, Q k { t with heap := g3 } → wpAny (model X.prog X.w) (X.A.mark (some (.ref a))) (eval (.Name x p1) X.env) Q E { t with heap := g3 } := fun {Q E} q => by
        obtain ⟨hg, hdbg, hm | ⟨hm, hv, hnn⟩⟩ := nam
        · exact ld_glob (X := X.suite a ((a, oe3) :: (X.pn ++ pins))) S3 hg hm q hdbg
        · exact ld_blt (X := X.suite a ((a, oe3) :: (X.pn ++ pins))) S3 hg hm hv q hnn hdbg
      refine named (LM.here ?_)
      cases b with
      | false =>
        show wpAny _ X.A (handleBy (.ref a) X.env hds2) _ _ _
        exact ih (no rfl)
      | true =>
        refine codeAny_handlers_suite_as (HandSPX.lands_againZ fl3 fun g4 fl4 up4 => ?_)
        have J4 : Inv X pins τ Hx { t with heap := g4 } := J.landed nb fl4.1 ((up.trans up3).trans up4) os ag
        obtain ⟨oe4, vs4, he4, hz4, hd4⟩ := fl4.there
        have S4 := J4.suite he4 hd4 na nL nF
        refine store_ok (X := X.suite a ((a, oe4) :: (X.pn ++ pins))) (v := .ref a) S4 nod at_ (.inl loc) rfl (fun s5 S5 => ?_) (.inr loc)
        refine wpAny_mono ((su a oe4 cls d (X.pn ++ pins) hz4 ⟨_, hd4⟩).run [] s5 _ Hx _ S5 (yes rfl a na)) (fun fl s6 sp => ?_) (fun _ _ z => False.elim z)
        have behind : ∀ {σ6 : L2.St} {H6 : Hp} {Q : Shared → Prop}, Inv (X.suite a ((a, oe4) :: (X.pn ++ pins))) [] σ6 H6 s6 → (∀ s7, Inv X pins (σ6.set i none) H6 s7 → Q s7) →
            wpAny (model X.prog X.w) X.A (do bindName X.env n .none; unbindBehindTheSuite X.env n p2) (fun _ s7 => Q s7) X.xe s6 := fun {σ6 H6 Q} S6 q => gone_ok (S6.unsuite good) nod at_ loc q
        cases fl with
        | next =>
          obtain ⟨σ6, H6, S6, q⟩ := sp
          exact behind S6 fun s7 J7 => ⟨_, _, J7, q⟩
        | brk =>
          obtain ⟨σ6, H6, S6, q⟩ := sp
          exact behind S6 fun s7 J7 => ⟨_, _, J7, q⟩
        | cont =>
          obtain ⟨σ6, H6, S6, q⟩ := sp
          exact behind S6 fun s7 J7 => ⟨_, _, J7, q⟩
        | ret u =>
          obtain ⟨v6, σ6, H6, S6, r6, q⟩ := sp
          exact behind S6 fun s7 J7 => ⟨_, _, _, J7, r6, q⟩
  refine wpAny_Try_except ?_
  refine wpAny_mono ((hb (wCl X.K Wo D l) (X.pn ++ pins) air catch_ PassesOwn.looking).run [] s σ H D (I.toTry _) h) (fun fl s1 sp => ?_) (fun e s1 he => he)
  cases fl with
  | next =>
    obtain ⟨τ, Ht, J, q⟩ := sp
    exact wpAny_execs_nil ⟨τ, Ht, J.ofTry good, q⟩
  | brk =>
    obtain ⟨τ, Ht, J, q⟩ := sp
    exact ⟨τ, Ht, J.ofTry good, q⟩
  | cont =>
    obtain ⟨τ, Ht, J, q⟩ := sp
    exact ⟨τ, Ht, J.ofTry good, q⟩
  | ret u =>
    obtain ⟨v, τ, Ht, J, r, q⟩ := sp
    exact ⟨v, τ, Ht, J.ofTry good, r, q⟩
end

/-! ### the config of a suite -/
theorem Rep.cv_aux {c c' : Cfg} (hK : c.K = c'.K) (hc : c.ct = c'.ct) (hg : c.ga = c'.ga) {G : Hp} : (∀ {v : V} {d : D}, Rep c G v d → Rep c' G v d) ∧ (∀ {vs : List V} {ds : List D}, Reps c G vs ds → Reps c' G vs ds) := by
  constructor
  · intro v d h
    refine Rep.rec (motive_1 := fun v d _ => Rep c' G v d) (motive_2 := fun vs ds _ => Reps c' G vs ds) .non (fun b => .bl b) (fun i => .int i) (fun s => .str s) (fun n => .ty n) (fun x => hg ▸ .gl x)
      (fun a _ r => .tup (hK ▸ a) r) (fun a _ r => .lst a r) (fun a _ r => .frl (hK ▸ a) r) (fun a k _ r => .dct a k r) (fun a k _ r => .obj (hc ▸ a) k r) .nil (fun _ _ a b => .cons a b) h
  · intro v d h
    refine Reps.rec (motive_1 := fun v d _ => Rep c' G v d) (motive_2 := fun vs ds _ => Reps c' G vs ds) .non (fun b => .bl b) (fun i => .int i) (fun s => .str s) (fun n => .ty n) (fun x => hg ▸ .gl x)
      (fun a _ r => .tup (hK ▸ a) r) (fun a _ r => .lst a r) (fun a _ r => .frl (hK ▸ a) r) (fun a k _ r => .dct a k r) (fun a k _ r => .obj (hc ▸ a) k r) .nil (fun _ _ a b => .cons a b) h
/-- the same but for what is known of an error in hand -/
structure Cfg.Eq (c c' : Cfg) : Prop where
  K : c.K = c'.K
  ct : c.ct = c'.ct
  ga : c.ga = c'.ga
  xt : c.xt = c'.xt
theorem Cfg.Eq.symm {c c' : Cfg} (e : c.Eq c') : c'.Eq c := ⟨e.K.symm, e.ct.symm, e.ga.symm, e.xt.symm⟩
theorem Rep.cv {c c' : Cfg} (e : c.Eq c') {G : Hp} {v : V} {d : D} (h : Rep c G v d) : Rep c' G v d := (Rep.cv_aux e.K e.ct e.ga).1 h
theorem Reps.cv {c c' : Cfg} (e : c.Eq c') {G : Hp} {v : List V} {d : List D} (h : Reps c G v d) : Reps c' G v d := (Rep.cv_aux e.K e.ct e.ga).2 h
theorem OwnRel.cv {c c' : Cfg} (e : c.Eq c') {G H : Hp} {p : Addr} {m : MO} (h : OwnRel c G H p m) : OwnRel c' G H p m := by
  cases m with
  | lst ds => obtain ⟨vs, h, r⟩ := h; exact ⟨vs, h, r.cv e⟩
  | dct ds => obtain ⟨vs, h, k, r⟩ := h; exact ⟨vs, h, k, r.cv e⟩
theorem RelR.cv {c c' : Cfg} (e : c.Eq c') {f : Fr} {G : Hp} {E : Ev} {σ : L2.St} {H : Hp} {v : V} {r : RV} (h : RelR c f G E σ H v r) : RelR c' f G E σ H v r := by
  cases r with
  | fz d => exact Rep.cv e h
  | ow m => obtain ⟨p, a, b, q⟩ := h; exact ⟨p, a, b.cv e, q⟩
  | sl j => exact h
theorem RS.cv {c c' : Cfg} (e : c.Eq c') {f : Fr} {G : Hp} {E : Ev} {σ : L2.St} {H : Hp} (R : RS c f G E σ H) (hP : c'.P G) (hx : ∀ (i : Nat), E[i]? = some Slot.xv → ∃ v, c'.xa = some v ∧ σ[i]? = some (some v)) : RS c' f G E σ H where
  gh := R.gh
  g0 := R.g0
  new := R.new
  fr := R.fr
  len := R.len
  fz := fun i d h => by
    obtain ⟨v, a, b⟩ := R.fz i d h
    exact ⟨v, a, b.cv e⟩
  ow := fun i m h => by
    obtain ⟨p, a, b, q⟩ := R.ow i m h
    exact ⟨p, a, b.cv e, q⟩
  bo := fun i m h => by
    obtain ⟨p, a, b, q⟩ := R.bo i m h
    exact ⟨p, a, b.cv e, q⟩
  bos := R.bos
  dis := R.dis
  inv := hP
  xv := hx
/-- an error in hand: at a, its dict d; the fields of x -/
def XAt (c : Cfg) (d : Option Addr) (x : Exn) (G : Hp) : Prop := x.fs = [] ∨ ∃ dx fs, d = some dx ∧ G dx = some (.xd fs) ∧ fs.map (·.1) = x.fs.map (·.1) ∧ Reps c G (fs.map (·.2)) (x.fs.map (·.2))
def Cfg.held (c : Cfg) (a : Addr) (d : Option Addr) (x : Exn) : Cfg := { c with xa := some (.ref a), P := fun G => c.P G ∧ XAt c d x G, mono := fun {G G'} e h => ⟨c.mono e h.1, h.2.imp id fun ⟨dx, fs, a, b, k, r⟩ => ⟨dx, fs, a, e _ _ b, k, r.mono e⟩⟩ }
theorem Cfg.held_eq (c : Cfg) (a : Addr) (d : Option Addr) (x : Exn) : c.Eq (c.held a d x) := ⟨rfl, rfl, rfl, rfl⟩
/-- x.f of the error in hand -/
def mXF (x : Exn) (i : Nat) (f : Str) : EM := fun E => match E[i]? with
  | some .xv => match x.fs.lookup f with
    | some d => .ok (.fz d) E
    | none => .bad
  | _ => .bad
theorem lookup_two {β γ : Type} {f : Str} {d : γ} : ∀ {a : List (Str × β)} {b : List (Str × γ)}, a.map (·.1) = b.map (·.1) → b.lookup f = some d → ∃ v : β, a.lookup f = some v ∧ ∃ n : Nat, (a.map (·.2))[n]? = some v ∧ (b.map (·.2))[n]? = some d
  | [], [], _, h => by cases h
  | [], _ :: _, e, _ => by cases e
  | _ :: _, [], e, _ => by cases e
  | (g, v) :: a, (g', d') :: b, e, h => by
    rw [List.map_cons, List.map_cons] at e
    injection e with e1 e2
    simp only at e1
    subst e1
    rw [List.lookup] at h ⊢
    split at h
    · rename_i z
      cases h
      exact ⟨v, rfl, 0, rfl, rfl⟩
    · rename_i z
      obtain ⟨w, h1, n, h2, h3⟩ := lookup_two e2 h
      exact ⟨w, h1, n + 1, by simpa using h2, by simpa using h3⟩
theorem de_xf {X : Cx} {c : Cfg} {a : Addr} {oe : Obj} {cls : Value} {d : Option Addr} {pn : List (Addr × Obj)} {e : Expr} {pos : Pos} {n : Str} {x : Exn} {i : Nat} {C : Addr} {W : WX} (T : XfC X.K C) (hno : PySem.W.findIn X.K (.ref C) n = some none) (hC : cls = .ref C)
    (hz : Zc cls d oe) (hf : ∃ vs, oe.data = .fields vs) (he : PE (X.suite a ((a, oe) :: pn)) e (tVar i)) (hb : attributeBase e n X.env (eval e X.env) = eval e X.env := by rfl) :
    PE (X.suite a ((a, oe) :: pn)) (.Attribute e n pos) (tE (c.held a d x) W (mXF x i n)) := pe_imp (pe_xf T hno hz hf he hb) fun σ H Q ⟨f, G, E, R, h⟩ => by
  unfold mXF at h
  split at h
  · rename_i hx
    split at h
    · rename_i dd hl
      obtain ⟨v, e1, e2⟩ := R.xv i hx
      cases e1
      rcases R.inv.2 with z | ⟨dx, fs, e3, e4, ek, reps⟩
      · rw [z] at hl; cases hl
      obtain ⟨w, l1, m, l2, l3⟩ := lookup_two ek hl
      obtain ⟨u, g1, g2⟩ := reps.get l3
      rw [l2] at g1
      cases g1
      exact ⟨_, e2, rfl, hC, dx, fs, w, e3, R.gh _ _ e4, l1, h G w H (.refl _) R (g2.cv (c.held_eq a d x))⟩
    · exact h.elim
  · exact h.elim

/-! ### raise -/
def sRaise (n : Nat) (f : Str) (m : EM) : SM := fun E => (m E).out fun r E1 => match fzn E1 r with
  | some (d, E2) => .ex ⟨n, [(f, d)]⟩ E2
  | none => .bad
theorem ds_raise {X : Cx} {c : Cfg} {W : WX} {e call : Expr} {pos : Pos} {n : Nat} {f : Str} {m : EM} {C : Addr} (calm : X.calm = true) (tk : Takes X W) (mk : ∀ {ta : TA}, PA X [e] ta → PMk X call (tMk C f ta)) (hC : c.xt n = .ref C) (ha : PE X e (tE c W m))
    (hs : starEach [e] X.env = (false, eval e X.env) :: starEach [] X.env := by rfl) : PS X (.Raise (some call) none pos) (tS c W (sRaise n f m)) := ps_imp (ps_raise calm tk (mk (pa_cons ha pa_nil hs))) fun Dn σ H ⟨f', G, E, R, h⟩ =>
  tE_outS R h fun r E1 G1 v H1 e1 R1 r1 h1 => by
    split at h1
    · rename_i dd E2 q
      obtain ⟨G2, e2, R2, rep⟩ := R1.frz r1 q
      refine ⟨v, rfl, fun d hd => ?_⟩
      have g := Gro.newG (o := HO.xd [(f, v)]) R2.gh hd
      exact h1 σ _ _ _ _ (e2.trans g.gg) (R2.gro g) ⟨hC.symm, .inr ⟨d, [(f, v)], rfl, upd_same, rfl, .cons (rep.mono g.gg) .nil⟩⟩
    · exact h1.elim

/-! ### try -/
structure Hd where
  cat : Nat → Option Bool
  slot : Nat
  su : Exn → SM
def noXv (E : Ev) : Bool := E.all fun s => match s with
  | .xv => false
  | _ => true
def notSl : RV → Bool
  | .sl _ => false
  | _ => true
/-- behind a suite -/
def unO (i : Nat) : Out → Out
  | .nx E => if notBo E i && noXv (E.set i .un) then .nx (E.set i .un) else .bad
  | .bk E => if notBo E i && noXv (E.set i .un) then .bk (E.set i .un) else .bad
  | .ct E => if notBo E i && noXv (E.set i .un) then .ct (E.set i .un) else .bad
  | .rt r E => if notSl r && (notBo E i && noXv (E.set i .un)) then .rt r (E.set i .un) else .bad
  | _ => .bad
def tryHs : List Hd → Exn → SM
  | [], x => fun E => .ex x E
  | h :: r, x => fun E => match h.cat x.cls with
    | some true => if notBo E h.slot && noXv E && decide (h.slot < E.length) then unO h.slot (h.su x (E.set h.slot .xv)) else .bad
    | some false => tryHs r x E
    | none => .bad
def sTry (body : SM) (hs : List Hd) : SM := fun E => match body E with
  | .ex x E1 => tryHs hs x E1
  | o => o
section
variable {X : Cx} {c : Cfg} {W : WX}
theorem noXv_of {E : Ev} {i : Nat} (h : noXv E = true) : E[i]? ≠ some Slot.xv := fun e => by
  have := List.all_eq_true.mp h _ (List.mem_of_getElem? e)
  cases this
/-- the clauses of a try and their mirrors -/
inductive HdsOk (X : Cx) (c : Cfg) : List ExceptHandler → List Hd → Prop
  | nil : HdsOk X c [] []
  | cons {x n : Str} {k : Value} {h : Hd} {b0 : Stmt} {bs : List Stmt} {p1 p2 : Pos} {hds : List ExceptHandler} {l : List Hd} (at_ : X.N[h.slot]? = some n) (loc : X.env.kindOf n = some .local) (nam : Names X x k)
      (cat : ∀ m b, h.cat m = some b → PySem.W.exmOne X.K (c.xt m) k = some b)
      (su : ∀ (a : Addr) (oe : Obj) (d : Option Addr) (pn : List (Addr × Obj)) (y : Exn), h.cat y.cls = some true → Zc (c.xt y.cls) d oe → (∃ vs, oe.data = .fields vs) → PSs (X.suite a ((a, oe) :: pn)) (b0 :: bs) (tS (c.held a d y) W0 (h.su y))) (rest : HdsOk X c hds l) :
      HdsOk X c (.ExceptHandler (some (.Name x p1)) (some n) (b0 :: bs) p2 :: hds) (h :: l)
/-- what a clause's suite is asked -/
def tsH (c : Cfg) (h : Hd) : TSx := fun a cls d D σ H => ∃ y, h.cat y.cls = some true ∧ cls = c.xt y.cls ∧ tS (c.held a d y) W0 (h.su y) D σ H
theorem hds_cls {hds : List ExceptHandler} {l : List Hd} (h : HdsOk X c hds l) : ∃ ks : List Value, ks.length = l.length ∧ Cls1 X hds ((ks.zip l).map fun p => (p.1, p.2.slot, tsH c p.2)) ∧ ∀ (Wo : WX) (D : Ends) (f : Fr) (G : Hp) (x : Exn) (E : Ev), (∀ G, c.P G) →
    postS c Wo f G (tryHs l x E) D → ∀ σ, XW c (wCl X.K Wo D ((ks.zip l).map fun p => (p.1, p.2.slot, tsH c p.2))) f G σ x E := by
  induction h with
  | nil => exact ⟨[], rfl, .nil, fun Wo D f G x E _ h σ => h σ⟩
  | @cons xn n k h b0 bs p1 p2 hds l at_ loc nam cat su rest ih =>
    obtain ⟨ks, hl, cl, ih⟩ := ih
    refine ⟨k :: ks, by simp [hl], ?_, fun Wo D f G x E hP hpost σ => ?_⟩
    · refine .cons at_ loc nam (fun a oe cls d pn hz hf => ?_) cl
      constructor
      intro pins s σ H Dn I ⟨y, hy, hc, q⟩
      subst hc
      exact (su a oe d pn y hy hz hf).run pins s σ H Dn I q
    · intro G' cls d H' e R rel
      show ∃ b, _
      rw [tryHs] at hpost
      cases hb : h.cat x.cls with
      | none => simp only [hb] at hpost; exact hpost.elim
      | some b =>
        refine ⟨b, by rw [rel.1]; exact cat _ _ hb, fun hb1 a na => ?_, fun hb0 => ?_⟩
        · subst hb1
          simp only [hb] at hpost
          split at hpost
          case isFalse => exact hpost.elim
          rename_i hok
          simp only [Bool.and_eq_true, decide_eq_true_eq] at hok
          have hxE := hok.1.2
          refine ⟨x, hb, rel.1, f, G', E.set h.slot .xv, ?_, ?_⟩
          · have R1 := R.drop (i := h.slot) (notBo_ne hok.1.1)
            have R2 : RS c f G' (E.set h.slot .un) (σ.set h.slot (some (.ref a))) H' := R1.reσ (by rw [List.length_set]) fun i hi => by
              by_cases z : h.slot = i
              · subst z; exact absurd (List.getElem?_set_self hok.2) hi
              · rw [List.getElem?_set_ne z]
            have lv : h.slot < σ.length := by have := R.len; omega
            have own : ∀ {j : Nat} {q : Addr}, Own (E.set h.slot Slot.xv) (σ.set h.slot (some (.ref a))) j q → Own (E.set h.slot Slot.un) (σ.set h.slot (some (.ref a))) j q := fun {j q} z => by
              obtain ⟨⟨m1, z1⟩, z2⟩ := z
              have n : h.slot ≠ j := fun n => by
                subst n
                rw [List.getElem?_set_self hok.2] at z1
                rcases z1 with z1 | z1 <;> cases z1
              rw [List.getElem?_set_ne n] at z1
              exact ⟨⟨m1, by rw [List.getElem?_set_ne n]; exact z1⟩, z2⟩
            have low : ∀ {j : Nat} {s : Slot}, (E.set h.slot Slot.xv)[j]? = some s → s ≠ .xv → (E.set h.slot Slot.un)[j]? = some s := fun {j s} z hs => by
              have n : h.slot ≠ j := fun n => by
                subst n
                rw [List.getElem?_set_self hok.2] at z
                cases z
                exact hs rfl
              rw [List.getElem?_set_ne n] at z ⊢
              exact z
            have R3 := R2.cv (c' := c.held a d x) (c.held_eq a d x) ⟨hP _, rel.2⟩ (fun i z => by
              by_cases n : h.slot = i
              · subst n; rw [List.getElem?_set_self hok.2] at z; cases z
              · rw [List.getElem?_set_ne n] at z; exact absurd z (noXv_of hxE))
            exact {
              gh := R3.gh
              g0 := R3.g0
              new := R3.new
              fr := R3.fr
              len := by have := R3.len; simpa using this
              fz := fun i d z => R3.fz i d (low z (by intro w; cases w))
              ow := fun i d z => R3.ow i d (low z (by intro w; cases w))
              bo := fun i d z => R3.bo i d (low z (by intro w; cases w))
              bos := fun i p z => by
                obtain ⟨m, hm⟩ := R3.bos i p z
                have n : h.slot ≠ i := fun n => by subst n; rw [List.getElem?_set_self hok.2] at hm; cases hm
                rw [List.getElem?_set_ne n] at hm
                exact ⟨m, by rw [List.getElem?_set_ne n]; exact hm⟩
              dis := fun i j p n a b => R3.dis i j p n (own a) (own b)
              inv := R3.inv
              xv := fun i z => by
                by_cases n : h.slot = i
                · subst n; exact ⟨_, rfl, List.getElem?_set_self lv⟩
                · rw [List.getElem?_set_ne n] at z; exact absurd z (noXv_of hxE) }
          · have hpost := postS_mono e hpost
            -- back from a suite's end
            have back : ∀ {E' : Ev} {G2 : Hp} {σ2 : L2.St} {H2 : Hp}, (notBo E' h.slot && noXv (E'.set h.slot .un)) = true → RS (c.held a d x) f G2 E' σ2 H2 → RS c f G2 (E'.set h.slot .un) (σ2.set h.slot none) H2 := fun {E' G2 σ2 H2} hq R => by
              rw [Bool.and_eq_true] at hq
              have R1 := R.drop (i := h.slot) (notBo_ne hq.1)
              have R2 := R1.reσ (σ' := σ2.set h.slot none) (by rw [List.length_set]) fun i hi => by
                by_cases z : h.slot = i
                · subst z
                  by_cases l : h.slot < E'.length
                  · exact absurd (List.getElem?_set_self l) hi
                  · have : σ2.length = E'.length := R.len
                    rw [List.getElem?_eq_none (by rw [List.length_set]; omega), List.getElem?_eq_none (by omega)]
                · rw [List.getElem?_set_ne z]
              exact R2.cv (c.held_eq a d x).symm (hP _) fun i z => absurd z (noXv_of hq.2)
            cases q : h.su x (E.set h.slot .xv) with
            | bad => rw [q] at hpost; exact hpost.elim
            | ex y E' => rw [q] at hpost; exact hpost.elim
            | nx E' =>
              rw [q, unO] at hpost
              split at hpost
              · rename_i hq
                intro G2 σ2 H2 e2 R2
                exact hpost G2 _ H2 e2 (back hq R2)
              · exact hpost.elim
            | bk E' =>
              rw [q, unO] at hpost
              split at hpost
              · rename_i hq
                intro G2 σ2 H2 e2 R2
                exact hpost G2 _ H2 e2 (back hq R2)
              · exact hpost.elim
            | ct E' =>
              rw [q, unO] at hpost
              split at hpost
              · rename_i hq
                intro G2 σ2 H2 e2 R2
                exact hpost G2 _ H2 e2 (back hq R2)
              · exact hpost.elim
            | rt r E' =>
              rw [q, unO] at hpost
              split at hpost
              · rename_i hq
                rw [Bool.and_eq_true] at hq
                intro G2 σ2 v H2 e2 R2 rel2
                refine hpost G2 _ v H2 e2 (back hq.2 R2) ?_
                have rel3 := rel2.cv (c.held_eq a d x).symm
                cases r with
                | sl j => cases hq.1
                | fz dd => exact rel3
                | ow m =>
                  obtain ⟨p, y1, y2, y3, y4, y5⟩ := rel3
                  refine ⟨p, y1, y2, y3, y4, fun j o => ?_⟩
                  obtain ⟨⟨m1, z1⟩, z2⟩ := o
                  have n : h.slot ≠ j := fun n => by
                    subst n
                    rcases z1 with z1 | z1
                    · rcases get_set z1 with ⟨_, z⟩ | ⟨n, _⟩
                      · cases z
                      · exact n rfl
                    · rcases get_set z1 with ⟨_, z⟩ | ⟨n, _⟩
                      · cases z
                      · exact n rfl
                  rw [List.getElem?_set_ne n] at z1 z2
                  exact y5 j ⟨⟨m1, z1⟩, z2⟩
              · exact hpost.elim
        · subst hb0
          simp only [hb] at hpost
          exact ih Wo D f G x E hP hpost σ G' cls d H' e R rel
theorem ds_try {body : List Stmt} {h0 : ExceptHandler} {hds : List ExceptHandler} {l : List Hd} {pos : Pos} {mb : SM} (top : X.stack = X.env :: X.outer) (fr : X.env.frame = some X.env.locals) (nod : X.N.Nodup) (tk : Takes X W) (hP : ∀ G, c.P G)
    (hb : ∀ (W' : WX) (pn : List (Addr × Obj)) (xe : Value → Shared → Prop), Takes (X.tr pn xe) W' → PassesOwn (model X.prog X.w) X.A X.env xe → PSs (X.tr pn xe) body (tS c W' mb))
    (hh : HdsOk X c (h0 :: hds) l) : PS X (.Try body (h0 :: hds) [] [] pos) (tS c W (sTry mb l)) := by
  obtain ⟨ks, _, cl, key⟩ := hds_cls hh
  refine ps_imp (x_try top fr nod tk hb cl) fun Dn σ H ⟨f, G, E, R, h⟩ => ⟨f, G, E, R, ?_⟩
  unfold sTry at h
  cases q : mb E with
  | ex x E1 => rw [q] at h; exact key W Dn f G x E1 hP h
  | nx E1 => rw [q] at h; exact h
  | rt r E1 => rw [q] at h; exact h
  | bk E1 => rw [q] at h; exact h
  | ct E1 => rw [q] at h; exact h
  | bad => rw [q] at h; exact h
end
end M

/-! defs that are called where nothing is being shown; repr of data -/
namespace M
open PySem PySem.Spec PyProof.Rows L2
/-- as FnOk, for callers around whom no list or tuple is being shown -/
structure FnG (P : Program) (w : World) (K : PySem.W.Frag) (mg : Str → Option Value) (base : Heap) (CX : CXT) (k : Nat) (f : Addr) (fd : FuncData) (ps : List Str) (sp : Sp) : Prop where
  len : ∀ vs H Q E, sp vs H Q E → vs.length = ps.length
  run : ∀ (A : Around) (outer : List Env) (s : Shared) (H : Hp) (args : Args) (us : List Value) (vs : List V) (Q : VK) (E : XK), Room k A → A.guards = some [] → Env0 P w K mg base A outer s H → BindsTo s fd args (ps.zip us) → Vals vs us → sp vs H Q E →
    codeAny (model P w) A (.call (.ref f) args) (CR CX outer P w H s Q E) s
section
variable {P : Program} {w : World} {K : PySem.W.Frag} {mg : Str → Option Value} {base : Heap} {CX : CXT} {k : Nat} {f : Addr} {fd : FuncData} {ps : List Str} {sp : Sp}
theorem FnG.of (F : FnOk P w K mg base CX k f fd ps sp) : FnG P w K mg base CX k f fd ps sp := ⟨F.len, fun A o s H args us vs Q E r _ => F.run A o s H args us vs Q E r⟩
theorem FnG.mono {j : Nat} (F : FnG P w K mg base CX j f fd ps sp) (h : j ≤ k) : FnG P w K mg base CX k f fd ps sp := ⟨F.len, fun A o s H args us vs Q E r => F.run A o s H args us vs Q E (r.mono h)⟩
theorem fnG_of {x qual : Str} {params : Arguments} {body : List Stmt} {scope : Scope} {dvs : List V} {kws : List (Str × V)} {N : List Str} (F : FunD K x qual params body scope dvs kws f fd) (S : FnScope N ps scope) (len : ∀ vs H Q E, sp vs H Q E → vs.length = ps.length)
    (walk : ∀ (cdv : Value) (A : Around) (outer : List Env) (s : Shared) (H : Hp) (vs : List V) (Q : VK) (E : XK), Room k (A.deeper (envOfC qual scope s.heap.objs.size f cdv)) → A.guards = some [] → sp vs H Q E →
      ∃ t, PSs (cxOf CX P w K mg base N qual scope f cdv A outer s H E) body t ∧ t { nx := fun _ H' => Q .non H', rt := Q } (start N vs) H) : FnG P w K mg base CX (k + 1) f fd ps sp := by
  obtain ⟨oc, od, dV, kV, doc, pm, an, cdv, ct, osl, rfl, there, coded, _, _⟩ := F.ex
  refine ⟨len, fun A outer s H args us vs Q E room gd e0 bound rel want => ?_⟩
  have many := len _ _ _ _ want
  have Ks : K.In s.heap := e0.mod.kin.keeps fun b o e => (e0.bs b o e).1
  have places : ∀ y ∈ ps.zip us, scope.names.lookup y.1 = some .local ∨ (scope.names.lookup y.1 = some .cell ∧ ((cellsFrom (s.heap.objs.size + 1) scope.names []).lookup y.1).isSome = true) := by
    rintro ⟨n, v⟩ hy
    exact (S.par n (List.of_mem_zip hy).1).imp id fun q => ⟨q, PySem.W.cellsFrom_some _ _ _ (.inl q)⟩
  refine codeAny_call_function room.depth (Ks _ _ there) rfl S.co S.gen rfl (PySem.W.codeRec_of Ks coded) (bound _ _ _ _ (wpAny_newFunctionEnv_cells S.kind places fun env he s1 inside => ?_))
  subst he
  have unl : s.heap.NoLimit := e0.mod.nolimit.keeps fun b o e => (e0.bs b o e).1
  refine ⟨unl.keeps inside.toInCall.keep, codeAny_func ?_⟩
  obtain ⟨t, ht, hq⟩ := walk cdv A outer s H vs Q E (room.deeper _) gd want
  refine wpAny_mono (ht.run [] s1 (start N vs) H _ (inv_start S room.hd e0 many rel inside) hq) (fun fl s' hs => ?_) fun e s' hs => hs
  have done : ∀ (σ' : L2.St) (H' : Hp) (v : V) (u : Value), Inv (cxOf CX P w K mg base N qual scope f cdv A outer s H E) [] σ' H' s' → RelV v u → Q v H' → CE outer P w H s Q u s' :=
    fun _ H' v _ J rv q => ⟨v, H', J.os, J.bare, J.base, J.hok, rv, q⟩
  cases fl with
  | next =>
    obtain ⟨σ', H', J, q⟩ := hs
    exact done _ _ .non .none J rfl q
  | ret u =>
    obtain ⟨v, σ', H', J, rv, q⟩ := hs
    exact done _ _ _ _ J rv q
  | brk => exact hs.choose_spec.choose_spec.2.elim
  | cont => exact hs.choose_spec.choose_spec.2.elim
theorem mk_fnG {x qual : Str} {params : Arguments} {body : List Stmt} {scope : Scope} {dvs : List V} {kws : List (Str × V)} {N : List Str} {n m : Nat} {c : Cfg} {bm : SM}
    (F : FunD K x qual params body scope dvs kws f fd) (S : FnScope N ps scope) (hn : N.length = n) (hm : ps.length = m)
    (hb : ∀ (cdv : Value) (A : Around) (outer : List Env) (s : Shared) (H : Hp) (E : XK), Room k (A.deeper (envOfC qual scope s.heap.objs.size f cdv)) → A.guards = some [] →
      PSs (cxOf (L2.CX P w) P w K mg base N qual scope f cdv A outer s H E) body (tS c (fun cls d _ H' => E cls d H') bm)) :
    FnG P w K mg base (L2.CX P w) (k + 1) f fd ps (spM c m (runF n bm)) := by
  refine fnG_of F S (fun vs H Q E h => by rw [hm]; exact h.1) fun cdv A outer s H vs Q E hr hg h => ⟨_, hb cdv A outer s H E hr hg, ?_⟩
  obtain ⟨hl, G, as, _, R, h⟩ := h
  refine ⟨_, G, _, R.start (N := N), ?_⟩
  unfold runF at h
  rw [← hn] at h
  cases q : bm (as ++ List.replicate (N.length - as.length) .un) with
  | nx E1 => rw [q] at h; exact fun G' σ' H' e R' => h G' σ' .non H' e R' .non
  | rt r E1 => rw [q] at h; exact fun G' σ' v H' e R' rel => h G' σ' v H' e R' rel
  | ex x E1 => rw [q] at h; exact fun σ' G' cls d H' e R' rel => h G' σ' cls d H' e R' rel
  | bk E1 => rw [q] at h; exact h.elim
  | ct E1 => rw [q] at h; exact h.elim
  | bad => rw [q] at h; exact h.elim
theorem fnG_bad {c : Cfg} {m : Nat} (hm : ps.length = m) : FnG P w K mg base (L2.CX P w) k f fd ps (spM c m badF) := .of (fn_bad hm)
end
/-- a def as callers see it, around whom nothing is being shown -/
structure CalG (P : Program) (w : World) (K : PySem.W.Frag) (mg : Str → Option Value) (base : Heap) (c : Cfg) (x : Str) (k : Nat) (ps : List Str) (n : Nat) (F : FM) (dds : List D) : Prop where
  ex : ∃ (f : Addr) (fd : FuncData) (ds : List Value) (dvs : List V), mg x = some (.ref f) ∧ PySem.W.keepIn K (.ref f) = true ∧ FnG P w K mg base (L2.CX P w) k f fd ps (spM c n F) ∧ Binds K fd ps ds ∧ Vals dvs ds ∧ ∀ G, Reps c G dvs dds
section
variable {P : Program} {w : World} {K : PySem.W.Frag} {mg : Str → Option Value} {base : Heap} {c : Cfg} {x : Str} {k : Nat} {ps : List Str} {n : Nat} {F : FM} {dds : List D}
theorem CalG.of (C : Cal P w K mg base c x k ps n F dds) : CalG P w K mg base c x k ps n F dds := by
  obtain ⟨f, fd, ds, dvs, a, b, d, e⟩ := C.ex
  exact ⟨f, fd, ds, dvs, a, b, .of d, e⟩
end
section
variable {X : Cx} {pins : List (Addr × Obj)} {σ : L2.St} {H : Hp} {s : Shared} {k kX n : Nat} {f : Addr} {fd : FuncData} {ps : List Str} {sp : Sp} {E : L2.St → XK} {Q : VK}
theorem runG {us ds : List Value} {vs dvs : List V} (F : FnG X.prog X.w X.K X.mg X.base (L2.CX X.prog X.w) k f fd ps sp) (hr : Room k X.A) (hg : X.A.guards = some []) (hb : Binds X.K fd ps ds) (hd : Vals dvs ds) (hx : PassesAt (L2.CX X.prog X.w) X σ (E σ))
    (I : Inv X pins σ H s) (r : Vals vs us) (h : sp (vs ++ dvs) H Q (E σ)) : wpAny (model X.prog X.w) X.A (call (.ref f) us) (EP X pins σ Q) X.xe s := by
  have rr := r.append hd
  have many : (us ++ ds).length = ps.length := rr.length.symm.trans (F.len _ _ _ _ h)
  refine wpAny_call (codeAny_mono (F.run X.A X.stack s H ⟨us, []⟩ _ _ Q (E σ) hr hg I.env0 (hb s us I.kIn many) rr h) fun r s' out => ?_)
  match r, out with
  | .error e, out => exact hx pins H s e s' I out
  | .ok (.ret u), out => exact I.after out
  | .ok .next, out => exact False.elim out
  | .ok .brk, out => exact False.elim out
  | .ok .cont, out => exact False.elim out
variable {c : Cfg} {W : WX} {e o : Expr} {es : List Expr} {mr : AM} {F : FM} {x : Str} {p p0 pos : Pos} {dds : List D}
theorem de_calG (C : CalG X.prog X.w X.K X.mg X.base c x k ps n F dds) (hr : Room kX X.A) (hgd : X.A.guards = some []) (hg : Gl X x) (tk : Takes X W) (ha : PA X (e :: es) (tA c W mr)) (hn : ∀ {E E1 : Ev} {rs}, mr E = .ok rs E1 → rs.length + dds.length = n) (hk : k ≤ kX := by decide) (hdb : (x == ("__debug__" : Str)) = false := by decide)
    (he : starEach (e :: es) X.env = (false, eval e X.env) :: starEach es X.env := by rfl) (hpl : (backTo pos (starEach es X.env)).any (·.1) = false := by rfl) : PE X (.Call (.Name x p) (e :: es) [] pos) (tE c W (mFnD F dds mr)) := by
  obtain ⟨f, fd, ds, dvs, h1, h2, h3, h4, h5, h6⟩ := C.ex
  refine pe_imp (t := tCallSD (spM c n F) dvs (WE W) (tA c W mr)) ⟨fun pins s σ H Q I h => ?_⟩ fun _ _ _ q => fnD_read h6 hn q
  refine wpAny_Call_Name_kw (ld_glob I hg h1 (PySem.W.callWith_K (h₀ := X.base) I.ok.mod.kin h2 (thn (ha.run pos pins s σ H _ I h) fun us s1 ⟨vs, H1, I1, r, q⟩ => ⟨I1.kIn, ?_⟩) he hpl) hdb)
  exact runG h3 (hr.mono hk) hgd h4 h5 (passAt tk σ) I1 r q
theorem de_calBG {j : Nat} (C : CalG X.prog X.w X.K X.mg X.base c x k ps (n + 1) F []) (hr : Room kX X.A) (hgd : X.A.guards = some []) (hg : Gl X x) (tk : Takes X W) (hv : PE X o (tVar j)) {y : Str} (ho : o = .Name y p0) (ha : PA X es (tA c W mr)) (hn : ∀ {E E1 : Ev} {rs}, mr E = .ok rs E1 → rs.length = n) (hk : k ≤ kX := by decide) (hdb : (x == ("__debug__" : Str)) = false := by decide)
    (he : starEach (o :: es) X.env = (false, eval o X.env) :: starEach es X.env := by rfl) (hpl : (backTo pos (starEach es X.env)).any (·.1) = false := by rfl) : PE X (.Call (.Name x p) (o :: es) [] pos) (tE c W (mFnB F j mr)) := by
  subst ho
  obtain ⟨f, fd, ds, dvs, h1, h2, h3, h4, h5, h6⟩ := C.ex
  obtain rfl : dvs = [] := by simpa using (h6 (fun _ => none)).length
  cases h5
  refine pe_imp (t := tCallS (spM c (n + 1) F) (WE W) (tCons (tVar j) (tA c W mr))) ⟨fun pins s σ H Q I h => ?_⟩ fun _ _ _ q => fnB_read (x := y) (p0 := p0) hn q
  refine wpAny_Call_Name_kw (ld_glob I hg h1 (PySem.W.callWith_K (h₀ := X.base) I.ok.mod.kin h2 (thn ((pa_cons hv ha he).run pos pins s σ H _ I h) fun us s1 ⟨vs, H1, I1, r, q⟩ => ⟨I1.kIn, ?_⟩) he hpl) hdb)
  exact runG h3 (hr.mono hk) hgd h4 .nil (passAt tk σ) I1 r (by rw [List.append_nil]; exact q)
end

/-! ### the end of a law -/
theorem lawG {P : Program} {w : World} {K : PySem.W.Frag} {mg mb : Str → Option Value} {CX : CXT} {k : Nat} {fa a : Addr} {fd : FuncData} {x : Str} {sp : Sp} {s₁ : Shared} {vs : List Value} {ns : List Int}
    (KX : K.In s₁.heap) (hns : s₁.heap.Ns mainGlobals mg) (hb : s₁.heap.Ns builtinsNs mb) (hbb : ∀ x : Str, x ≠ "__name__" → mb x = bootBuiltins x) (hlim : s₁.heap.NoLimit) (hg : s₁.gens = #[])
    (ha : s₁.heap.get? a = some { cls := .type "list", data := .seq vs.toArray }) (hi : IntsAre vs ns) (hl : ns.length ≤ sizeLine) (hr : Room k callerA)
    (F : ∀ base : Heap, K.In base → base.Ns mainGlobals mg → FnG P w K mg base CX k fa fd [x] sp) (hbind : ∀ (s : Shared) (u : Value), BindsTo s fd ⟨[u], []⟩ [(x, u)])
    (hsp : ∀ H : Hp, Only H → SqL K H a (ns.map V.int) → sp [.ref a] H (fun v _ => v = .bl true) fun _ _ _ => False)
    (hCX : ∀ H e s', CX [] H s₁ (fun _ _ _ => False) e s' → False) :
    codeAny (model P w) callerA (.call (.ref fa) ⟨[.ref a], []⟩) (fun r s' => r = .ok (.ret (.bool true)) ∧ OldK s₁.heap s'.heap ∧ s'.os = s₁.os ∧ AllBare s'.gens) s₁ := by
  -- the script is tracked, unless it is one of the module's own objects
  have pick : ∃ H : Hp, Only H ∧ SqL K H a (ns.map V.int) ∧ HOk P w H s₁.heap ∧ (∀ b, H b ≠ none → b = a) ∧ (H a ≠ none → K.lookup a = none) := by
    cases hk : K.lookup a with
    | some o =>
      have e := KX a o hk
      rw [ha] at e
      cases e
      exact ⟨fun _ => none, fun _ => .inl rfl, .inr ⟨_, vs.toArray, _, hk, rfl, rfl, rfl, by rw [List.size_toArray, hi.length]; exact hl, by simpa using vals_ints hi⟩, (fun b u z => by cases (show (none : Option HO) = some u from z)), (fun b z => absurd rfl z), fun z => absurd rfl z⟩
    | none =>
      refine ⟨fun b => if b = a then some (.frz { cls := .type "list", data := .seq vs.toArray } (.lst (ns.map V.int))) else none, fun b => ?_, .inl (.inr ⟨_, if_pos rfl⟩), fun b u z => ?_, fun b z => ?_, fun _ => rfl⟩
      · exact (Decidable.em (b = a)).elim (fun hb => .inr ⟨_, _, if_pos hb⟩) fun hb => .inl (if_neg hb)
      · by_cases hb : b = a
        · cases (if_pos hb).symm.trans z
          subst hb
          exact ⟨ha, by rw [List.length_map]; exact hl, vs, _, vals_ints hi, ha⟩
        · cases (if_neg hb).symm.trans z
      · exact Decidable.byContradiction fun hb => absurd (if_neg hb) z
  obtain ⟨H, only, sq, hok, alone, notK⟩ := pick
  have put : ∀ {b : Addr} {o : Obj}, s₁.heap.get? b = some o → H b = none → (hidT s₁.heap H).get? b = some o := fun e n => hidT_get e n
  have noDict : ∀ {b : Addr} {o : Obj} {es : Array DictEntry} {ep : Nat}, s₁.heap.get? b = some o → o.data = .dict es ep → H b = none := fun {b o es ep} e d => Decidable.byContradiction fun q => by
    have e' := alone b q
    subst e'
    rw [ha] at e
    cases e
    cases (show Data.seq vs.toArray _ = Data.dict es ep from d)
  have names : ∀ {b : Addr} {m : Str → Option Value}, s₁.heap.Ns b m → (hidT s₁.heap H).Ns b m := fun {b m} ⟨o, es, ep, e, d, r⟩ => ⟨o, es, ep, put e (noDict e d), d, r⟩
  have Kb : K.In (hidT s₁.heap H) := fun b o e => put (KX b o e) (Decidable.byContradiction fun q => by
    have e' := alone b q
    subst e'
    rw [notK q] at e
    cases e)
  have hM : Mod K mg (hidT s₁.heap H) := ⟨Kb, names hns, ⟨mb, names hb, hbb⟩, let ⟨mc, h1, h2⟩ := hlim; ⟨mc, names h1, h2⟩⟩
  have e0 : Env0 P w K mg (hidT s₁.heap H) callerA [] s₁ H := ⟨rfl, hM, fun b o e => of_hidT e, Nat.le_of_eq (hidT_size _ _), trivial, fun b z => absurd (show b ∈ ([] : List Addr) from z) (by simp), hok, .of_eq hg⟩
  refine codeAny_mono ((F _ Kb (names hns)).run callerA [] s₁ H ⟨[.ref a], []⟩ [.ref a] [.ref a] _ _ hr rfl e0 (hbind s₁ (.ref a)) (.cons rfl .nil) (hsp H only sq)) fun r s' out => ?_
  match r, out with
  | .error e, out => exact (hCX H e s' out).elim
  | .ok .next, out => exact False.elim out
  | .ok .brk, out => exact False.elim out
  | .ok .cont, out => exact False.elim out
  | .ok (.ret u), out =>
    obtain ⟨v, H', os, bare, un, hok', r', q⟩ := out
    obtain rfl : v = .bl true := q
    obtain rfl : u = Value.bool true := r'
    refine ⟨rfl, OldK.of_keep fun b o e => ?_, os, bare⟩
    cases q : H b with
    | none => exact un.keep b o e q (by intro z; exact absurd (show b ∈ ([] : List Addr) from z) (by simp)) (by simp)
    | some u =>
      rcases only b with z | ⟨ob, xs, z⟩
      · rw [q] at z; cases z
      · obtain ⟨e1, _⟩ := hok b _ z
        obtain ⟨e2, _⟩ := hok' b _ (un.frzs b ob _ z)
        rw [e] at e1
        cases e1
        exact e2
theorem walkG {l : PySem.W.OpenLaw} {n k : Nat} {q : Program} {loose : List Str} {XP : (Str → Option Value) → Heap → Prop} {YP : World → Heap → Prop} {d : DefRec} {CX : CXT} {x : Str}
    (hn : l.most = some n) (hn2 : n ≤ sizeLine) (hdf : d.params.defaults = []) (hr : Room k callerA)
    (F : ∀ (w : World) (mg : Str → Option Value) (fa : Addr) (h : Heap), YP w h → h.Ns mainGlobals mg → mg d.name = some (.ref fa) →
      ∃ (K : PySem.W.Frag) (fd : FuncData) (sp : Sp), K.In h ∧ (∀ (s : Shared) (u : Value), BindsTo s fd ⟨[u], []⟩ [(x, u)]) ∧
        (∀ (H : Hp) (a : Addr) (ns : List Int), ns.length ≤ n → Only H → SqL K H a (ns.map V.int) → sp [.ref a] H (fun v _ => v = .bl true) fun _ _ _ => False) ∧
        ∀ base : Heap, K.In base → base.Ns mainGlobals mg → FnG l.prog w K mg base CX k fa fd [x] sp)
    (hCX : ∀ (H : Hp) (s : Shared) (e : Value) (s' : Shared), CX [] H s (fun _ _ _ => False) e s' → False) :
    PySem.W.WalkO q loose XP YP l.row.toRowW d [] (fun f vs => PySem.call f vs) :=
  Att.attach_call hn hdf fun w s₀ s₁ mg mb fa o pm cd doc a vs ns G Y ho hd hcd hmg hobj hints hlen hg => by
    obtain ⟨K, fd, sp, KX, hb, hsp, hF⟩ := F w mg fa _ Y G.T.g hmg
    exact lawG KX G.T.g G.T.b G.T.builtins G.T.nolimit hg hobj hints (Nat.le_trans hlen hn2) hr hF hb (fun H hO hS => hsp H a ns hlen hO hS) fun H e s' => hCX H s₁ e s'
/-- nothing is let out where nothing is wished for -/
theorem fnG_nox {P : Program} {w : World} {K : PySem.W.Frag} {mg : Str → Option Value} {base : Heap} {k : Nat} {f : Addr} {fd : FuncData} {ps : List Str} {sp : Sp} (F : FnG P w K mg base (L2.CX P w) k f fd ps sp) :
    FnG P w K mg base CX0 k f fd ps (fun vs H Q _ => sp vs H Q E0) where
  len := fun vs H Q E h => F.len vs H Q E0 h
  run := fun A outer s H args us vs Q E hr hg he hb hv hs => codeAny_mono (F.run A outer s H args us vs Q E0 hr hg he hb hv hs) fun r s' hq => by
    cases r with
    | ok fl => cases fl <;> exact hq
    | error e =>
      obtain ⟨_, _, _, _, _, _, _, _, _, _, _, _, z⟩ := hq
      exact z.elim

/-! ### repr -/
mutual
theorem ints_short : ∀ {d : PyData}, d.showable = true → d.intsShort 1921 = true
  | .none, _ => rfl
  | .bool _, _ => rfl
  | .str _, _ => rfl
  | .int i, h => by
    have h' : i.natAbs.log2 < 1920 := by simpa [PyData.showable] using h
    have e := int_text_length_le (k := 1920) (by decide) h'
    simp only [PyData.intsShort, decide_eq_true_eq]
    show (PyData.shown (.int i)).length ≤ 1921
    rw [PyData.shown_int, PySem.ofString_length]
    omega
  | .list xs, h => by
    simp only [PyData.intsShort]
    exact ints_short_all (by simpa [PyData.showable] using h)
  | .tuple xs, h => by
    simp only [PyData.intsShort]
    exact ints_short_all (by simpa [PyData.showable] using h)
  | .dict kvs, h => by simp [PyData.intsShort]
theorem ints_short_all : ∀ {ds : List PyData}, PyData.showableAll ds = true → PyData.intsShortAll 1921 ds = true
  | [], _ => by simp [PyData.intsShortAll]
  | d :: ds, h => by
    have h' : d.showable = true ∧ PyData.showableAll ds = true := by simpa [PyData.showableAll] using h
    simp only [PyData.intsShortAll, ints_short h'.1, ints_short_all h'.2, Bool.and_self]
end
def reprOk (p : PyData) : Bool := p.canLay0 && (p.showable && (decide (p.depth ≤ 60) && (decide (p.bulk ≤ 4000) && !p.hasDict)))
def reprD : List D → Option RV
  | [d] => if reprOk (py d) then some (.fz (.str (py d).shown)) else none
  | _ => none
theorem shown_small {p : PyData} (h : reprOk p = true) : p.shown.length ≤ sizeLine := by
  unfold reprOk at h
  simp only [Bool.and_eq_true, decide_eq_true_eq] at h
  have e := PyData.shown_le_bulk 1921 (by decide) p (PyData.leavesShort_of_canLay0 1921 p h.1 (ints_short h.2.1))
  have e2 : (1921 + 2) * p.bulk ≤ 1923 * 4000 := Nat.mul_le_mul_left 1923 h.2.2.2.1
  rw [sizeLine_eq]
  omega
theorem d_repr {X : Cx} {c : Cfg} (hK : c.K = X.K) (hg : X.A.guards = some []) (hu : X.A.units + 64 < cLine) : CallR X (.builtin "repr") (rDn c reprD) := fun pins s σ H xs us Q I rx ⟨G, ds, r, e, hp, q, m⟩ => by
  unfold reprD at q
  split at q
  · rename_i d
    split at q
    · rename_i ok
      cases q
      cases hp with
      | cons p1 t =>
        cases t
        obtain ⟨u, rfl, ru⟩ := Vals.one rx
        have rep := p1.rep e
        have ok' := ok
        unfold reprOk at ok'
        simp only [Bool.and_eq_true, decide_eq_true_eq, Bool.not_eq_true'] at ok'
        obtain ⟨as, rd⟩ := Dp.reads I _ _ _ (hK ▸ Rep.dp ok'.1 rep) ru
        have fits := shown_small ok
        have fin : ∀ (h' : Heap) (t1 t2 : Tok), (∀ b o, s.heap.get? b = some o → h'.get? b = some o) → EP X pins σ Q (.str (py d).shown t1) { s with heap := h', toks := t2 } := fun h' t1 t2 k => ⟨.str (py d).shown, H, I.kept (t' := t2) k, ⟨t1, rfl⟩, m.flat e (.str _)⟩
        have hs := ok'.2.1
        have hn := ok'.2.2.2.2
        have hdp := ok'.2.2.1
        clear ok ok' m rep
        generalize py d = pd at rd fits fin hs hn hdp
        have refs : ∀ {a : Addr}, Reads s.heap (.ref a) pd as → wpAny (model X.prog X.w) X.A (call (.builtin "repr") [.ref a]) (EP X pins σ Q) X.xe s := fun {a} rd => PySem.repr_of_reads' rd hs (fun z => by rw [hn] at z; cases z) hg (by omega) (fun _ _ z => z) (fun h' u tk k => fin h' u tk k) fits
        have calm : ∀ t1 t2, EP X pins σ Q (.str pd.shown t1) { s with toks := t2 } := fun t1 t2 => fin s.heap t1 t2 fun _ _ z => z
        cases rd with
        | none => exact PySem.P.repr_of_none (by simpa only [PyData.shown] using calm _ _)
        | bool b => exact PySem.P.repr_of_bool (by simpa only [PyData.shown] using calm _ _)
        | int i t => exact PySem.P.repr_of_int (by simpa [PyData.showable] using hs) (by simpa only [PyData.shown] using calm _ _)
        | str x t => exact PySem.P.repr_of_str (by simpa only [PyData.shown] using calm _ _) (by simpa only [PyData.shown] using fits)
        | list h1 h2 h3 h4 => exact refs (.list h1 h2 h3 h4)
        | tuple h1 h2 h3 h4 => exact refs (.tuple h1 h2 h3 h4)
        | dict _ _ _ _ _ => exact absurd hn (by simp [PyData.hasDict])
    · cases q
  · cases q
end M

/-! defs called at a place: by position, with keywords, as values; the head with further tests -/
namespace M
open PySem PySem.Spec PyProof.Rows L2
/-- a def's promise, around A alone -/
structure FnAt (P : Program) (w : World) (K : PySem.W.Frag) (mg : Str → Option Value) (base : Heap) (CX : CXT) (A : Around) (f : Addr) (fd : FuncData) (ps : List Str) (sp : Sp) : Prop where
  len : ∀ vs H Q E, sp vs H Q E → vs.length = ps.length
  run : ∀ (outer : List Env) (s : Shared) (H : Hp) (args : Args) (us : List Value) (vs : List V) (Q : VK) (E : XK), Env0 P w K mg base A outer s H → BindsTo s fd args (ps.zip us) → Vals vs us → sp vs H Q E →
    codeAny (model P w) A (.call (.ref f) args) (CR CX outer P w H s Q E) s
/-- the keywords' values behind the positional ones, in the parameters' order -/
def permL {α : Type} (pi : List Nat) (l : List α) : List α := pi.filterMap fun i => l[i]?
def KB (fd : FuncData) (ps : List Str) (n : Nat) (ks : List Str) (pi : List Nat) : Prop := ∀ (s : Shared) (us ws : List Value), us.length = n → ws.length = ks.length → BindsTo s fd ⟨us, ks.zip ws⟩ (ps.zip (permL pi (us ++ ws)))
structure CalA (X : Cx) (c : Cfg) (x : Str) (ps : List Str) (n : Nat) (F : FM) (dds : List D) : Prop where
  ex : ∃ (f : Addr) (fd : FuncData) (ds : List Value) (dvs : List V), X.mg x = some (.ref f) ∧ PySem.W.keepIn X.K (.ref f) = true ∧ FnAt X.prog X.w X.K X.mg X.base (L2.CX X.prog X.w) X.A f fd ps (spM c n F) ∧ Binds X.K fd ps ds ∧ Vals dvs ds ∧ ∀ G, Reps c G dvs dds
section
variable {P : Program} {w : World} {K : PySem.W.Frag} {mg : Str → Option Value} {base : Heap} {CX : CXT} {k : Nat} {A : Around} {f : Addr} {fd : FuncData} {ps : List Str} {sp : Sp}
theorem FnAt.of (F : FnOk P w K mg base CX k f fd ps sp) (hr : Room k A) : FnAt P w K mg base CX A f fd ps sp := ⟨F.len, fun o s H args us vs Q E => F.run A o s H args us vs Q E hr⟩
theorem FnAt.ofG (F : FnG P w K mg base CX k f fd ps sp) (hr : Room k A) (hg : A.guards = some []) : FnAt P w K mg base CX A f fd ps sp := ⟨F.len, fun o s H args us vs Q E => F.run A o s H args us vs Q E hr hg⟩
end
section
variable {X : Cx} {c : Cfg} {x : Str} {k kX n : Nat} {ps : List Str} {F : FM} {dds : List D}
theorem Cal.at (C : Cal X.prog X.w X.K X.mg X.base c x k ps n F dds) (hr : Room kX X.A) (hk : k ≤ kX) : CalA X c x ps n F dds := by
  obtain ⟨f, fd, ds, dvs, a, b, d, e⟩ := C.ex
  exact ⟨f, fd, ds, dvs, a, b, .of d (hr.mono hk), e⟩
theorem CalG.at (C : CalG X.prog X.w X.K X.mg X.base c x k ps n F dds) (hr : Room kX X.A) (hg : X.A.guards = some []) (hk : k ≤ kX) : CalA X c x ps n F dds := by
  obtain ⟨f, fd, ds, dvs, a, b, d, e⟩ := C.ex
  exact ⟨f, fd, ds, dvs, a, b, .ofG d (hr.mono hk) hg, e⟩
variable {pins : List (Addr × Obj)} {σ : L2.St} {H : Hp} {s : Shared} {f : Addr} {fd : FuncData} {sp : Sp} {E : L2.St → XK} {Q : VK}
theorem runA {args : Args} {us : List Value} {vs : List V} (F : FnAt X.prog X.w X.K X.mg X.base (L2.CX X.prog X.w) X.A f fd ps sp) (hb : BindsTo s fd args (ps.zip us)) (hx : PassesAt (L2.CX X.prog X.w) X σ (E σ))
    (I : Inv X pins σ H s) (r : Vals vs us) (h : sp vs H Q (E σ)) : wpAny (model X.prog X.w) X.A (call (.ref f) args.pos args.kw) (EP X pins σ Q) X.xe s := by
  refine wpAny_call (codeAny_mono (F.run X.stack s H args _ _ Q (E σ) I.env0 hb r h) fun r s' out => ?_)
  match r, out with
  | .error e, out => exact hx pins H s e s' I out
  | .ok (.ret u), out => exact I.after out
  | .ok .next, out => exact False.elim out
  | .ok .brk, out => exact False.elim out
  | .ok .cont, out => exact False.elim out
variable {W : WX} {e o : Expr} {es : List Expr} {mr mk : AM} {p p0 pos : Pos}
theorem de_callA (C : CalA X c x ps n F dds) (hg : Gl X x) (tk : Takes X W) (ha : PA X (e :: es) (tA c W mr)) (hn : ∀ {E E1 : Ev} {rs}, mr E = .ok rs E1 → rs.length + dds.length = n) (hdb : (x == ("__debug__" : Str)) = false := by decide)
    (he : starEach (e :: es) X.env = (false, eval e X.env) :: starEach es X.env := by rfl) (hpl : (backTo pos (starEach es X.env)).any (·.1) = false := by rfl) : PE X (.Call (.Name x p) (e :: es) [] pos) (tE c W (mFnD F dds mr)) := by
  obtain ⟨f, fd, ds, dvs, h1, h2, h3, h4, h5, h6⟩ := C.ex
  refine pe_imp (t := tCallSD (spM c n F) dvs (WE W) (tA c W mr)) ⟨fun pins s σ H Q I h => ?_⟩ fun _ _ _ q => fnD_read h6 hn q
  refine wpAny_Call_Name_kw (ld_glob I hg h1 (PySem.W.callWith_K (h₀ := X.base) I.ok.mod.kin h2 (thn (ha.run pos pins s σ H _ I h) fun us s1 ⟨vs, H1, I1, r, q⟩ => ⟨I1.kIn, ?_⟩) he hpl) hdb)
  have rr := r.append h5
  have many : (us ++ ds).length = ps.length := rr.length.symm.trans (h3.len _ _ _ _ q)
  exact runA (args := ⟨us, []⟩) h3 (h4 s1 us I1.kIn many) (passAt tk σ) I1 rr q
theorem de_callAB {j : Nat} (C : CalA X c x ps (n + 1) F []) (hg : Gl X x) (tk : Takes X W) (hv : PE X o (tVar j)) {y : Str} (ho : o = .Name y p0) (ha : PA X es (tA c W mr)) (hn : ∀ {E E1 : Ev} {rs}, mr E = .ok rs E1 → rs.length = n) (hdb : (x == ("__debug__" : Str)) = false := by decide)
    (he : starEach (o :: es) X.env = (false, eval o X.env) :: starEach es X.env := by rfl) (hpl : (backTo pos (starEach es X.env)).any (·.1) = false := by rfl) : PE X (.Call (.Name x p) (o :: es) [] pos) (tE c W (mFnB F j mr)) := by
  subst ho
  obtain ⟨f, fd, ds, dvs, h1, h2, h3, h4, h5, h6⟩ := C.ex
  obtain rfl : dvs = [] := by simpa using (h6 (fun _ => none)).length
  cases h5
  refine pe_imp (t := tCallS (spM c (n + 1) F) (WE W) (tCons (tVar j) (tA c W mr))) ⟨fun pins s σ H Q I h => ?_⟩ fun _ _ _ q => fnB_read (x := y) (p0 := p0) hn q
  refine wpAny_Call_Name_kw (ld_glob I hg h1 (PySem.W.callWith_K (h₀ := X.base) I.ok.mod.kin h2 (thn ((pa_cons hv ha he).run pos pins s σ H _ I h) fun us s1 ⟨vs, H1, I1, r, q⟩ => ⟨I1.kIn, ?_⟩) he hpl) hdb)
  have many : (us ++ []).length = ps.length := by rw [List.append_nil]; exact r.length.symm.trans (h3.len _ _ _ _ q)
  have b := h4 s1 us I1.kIn many
  rw [List.append_nil] at b
  exact runA (args := ⟨us, []⟩) h3 b (passAt tk σ) I1 r q

/-! ### keywords -/
theorem filt_len {α β : Type} {pi : List Nat} {l : List α} {m : List β} (h : l.length = m.length) : (permL pi l).length = (permL pi m).length := by
  unfold permL
  induction pi with
  | nil => rfl
  | cons i pi ih =>
    rw [List.filterMap_cons, List.filterMap_cons]
    by_cases z : i < l.length
    · rw [List.getElem?_eq_getElem z, List.getElem?_eq_getElem (h ▸ z)]
      simp [ih]
    · rw [List.getElem?_eq_none (by omega), List.getElem?_eq_none (by omega)]
      exact ih
theorem valsPerm {vs : List V} {us : List Value} (r : Vals vs us) (pi : List Nat) : Vals (permL pi vs) (permL pi us) := by
  unfold permL
  induction pi with
  | nil => exact .nil
  | cons i pi ih =>
    rw [List.filterMap_cons, List.filterMap_cons]
    cases q : vs[i]? with
    | none =>
      have : us[i]? = none := by rw [List.getElem?_eq_none_iff] at q ⊢; rw [← r.length]; exact q
      rw [this]
      exact ih
    | some v =>
      obtain ⟨u, hu, ru⟩ := r.get q
      rw [hu]
      exact .cons ru ih
theorem Reps.perm {G : Hp} {vs : List V} {ds : List D} (r : Reps c G vs ds) (pi : List Nat) : Reps c G (permL pi vs) (permL pi ds) := by
  unfold permL
  induction pi with
  | nil => exact .nil
  | cons i pi ih =>
    rw [List.filterMap_cons, List.filterMap_cons]
    cases q : ds[i]? with
    | none =>
      have : vs[i]? = none := by rw [List.getElem?_eq_none_iff] at q ⊢; rw [r.length]; exact q
      rw [this]
      exact ih
    | some v =>
      obtain ⟨u, hu, ru⟩ := r.get q
      rw [hu]
      exact .cons ru ih
def mFnK (F : FM) (pi : List Nat) (ma mk : AM) : EM := fun E => (ma E).bind fun rs E1 => (mk E1).bind fun ks E2 => match fzs E2 (rs ++ ks) with
  | some (ds, E3) => match (F ((permL pi ds).map .fz)).rx with
    | .ok (.fz d) => .ok (.fz d) E3
    | .ok (.ow m) => .ok (.ow m) E3
    | .ex x => .ex x E3
    | _ => .bad
  | none => .bad
theorem fzs_len : ∀ {rs : List RV} {E1 E2 : Ev} {ds : List D}, fzs E1 rs = some (ds, E2) → ds.length = rs.length := by
  intro rs
  induction rs with
  | nil => intro E1 E2 ds q; cases q; rfl
  | cons r rs ih =>
    intro E1 E2 ds q
    simp only [fzs] at q
    split at q
    · split at q
      · rename_i h2
        cases q
        simp [ih h2]
      · cases q
    · cases q
theorem RelRs.append {f : Fr} {G : Hp} {E : Ev} {σ : L2.St} {H : Hp} : ∀ {vs ws : List V} {rs ts : List RV}, RelRs c f G E σ H vs rs → RelRs c f G E σ H ws ts → RelRs c f G E σ H (vs ++ ws) (rs ++ ts)
  | _, _, _, _, .nil, h => h
  | _, _, _, _, .cons a b t, h => .cons a b (RelRs.append t h)
structure CalK (X : Cx) (c : Cfg) (x : Str) (ps : List Str) (n m : Nat) (F : FM) (ks : List Str) (pi : List Nat) : Prop where
  ex : ∃ (f : Addr) (fd : FuncData), X.mg x = some (.ref f) ∧ PySem.W.keepIn X.K (.ref f) = true ∧ FnAt X.prog X.w X.K X.mg X.base (L2.CX X.prog X.w) X.A f fd ps (spM c m F) ∧ KB fd ps n ks pi
theorem callK_read {σ : L2.St} {H : Hp} {Q : VK} {m : Nat} {pi : List Nat} (hn : ∀ {E E1 E2 : Ev} {rs ts ds E3}, mr E = .ok rs E1 → mk E1 = .ok ts E2 → fzs E2 (rs ++ ts) = some (ds, E3) → (permL pi ds).length = m) (h : tE c W (mFnK F pi mr mk) σ H Q) :
    tA c W mr σ H fun vs H1 => tA c W mk σ H1 fun zs H2 => spM c m F (permL pi (vs ++ zs)) H2 Q (WE W σ) := by
  obtain ⟨f, G, E, R, h⟩ := h
  refine ⟨f, G, E, R, ?_⟩
  have h1 := postE_bind h
  cases q : mr E with
  | bad => rw [q] at h1; exact h1
  | ex x E1 => rw [q] at h1; exact h1
  | ok rs E1 =>
    rw [q] at h1
    intro G1 vs H1 e1 R1 r1
    refine ⟨f, G1, E1, R1, ?_⟩
    have h2 := postE_bind (postE_mono e1 h1)
    cases q2 : mk E1 with
    | bad => rw [q2] at h2; exact h2
    | ex x E2 => rw [q2] at h2; exact h2
    | ok ts E2 =>
      rw [q2] at h2
      intro G2 zs H2 e2 R2 r2
      have h3 := postE_mono e2 h2
      cases q3 : fzs E2 (rs ++ ts) with
      | none => simp only [q3] at h3; exact h3.elim
      | some pr =>
        obtain ⟨ds, E3⟩ := pr
        simp only [q3] at h3
        obtain ⟨G3, e3, R3, rep⟩ := fzs_rep R2 ((r1.mono e2).append r2) q3
        have rp := rep.perm pi
        refine ⟨by rw [rp.length]; exact hn q q2 q3, G3, (permL pi ds).map .fz, ?_, R3.callee rp, ?_⟩
        · rw [List.all_map]
          exact List.all_eq_true.mpr fun _ _ => rfl
        cases q4 : F ((permL pi ds).map .fz) with
        | bad => simp only [q4, Res.rx] at h3; exact h3.elim
        | ex x E4 =>
          simp only [q4, Res.rx] at h3
          intro G4 σ4 cls d H4 e4 R4 rel
          exact h3 G4 cls d H4 (e3.trans e4) (R3.gro (R3.back boOf_fz R4)) rel
        | ok r E4 =>
          simp only [q4, Res.rx] at h3
          intro G4 σ4 v H4 e4 R4 rel
          have g := R3.back boOf_fz R4
          cases r with
          | sl j => exact h3.elim
          | fz d => exact h3 G4 v H4 (e3.trans e4) (R3.gro g) rel
          | ow m => exact h3 G4 v H4 (e3.trans e4) (R3.gro g) (RelN.rel R3 (RelR.back R3 rel (fun j z => by cases z)))
theorem tA_len {σ : L2.St} {H : Hp} {Q : List V → Hp → Prop} {n : Nat} (hl : ∀ {E E1 : Ev} {rs}, mr E = .ok rs E1 → rs.length = n) (h : tA c W mr σ H Q) : tA c W mr σ H fun vs H1 => vs.length = n ∧ Q vs H1 := by
  obtain ⟨f, G, E, R, h⟩ := h
  refine ⟨f, G, E, R, ?_⟩
  cases q : mr E with
  | bad => rw [q] at h; exact h
  | ex x E1 => rw [q] at h; exact h
  | ok rs E1 =>
    rw [q] at h
    intro G1 vs H1 e1 R1 r1
    have hlen : ∀ {vs : List V} {rs : List RV}, RelRs c f G1 E1 σ H1 vs rs → vs.length = rs.length := by
      intro vs rs r
      induction r with
      | nil => rfl
      | cons _ _ _ ih => simp [ih]
    exact ⟨(hlen r1).trans (hl q), h G1 vs H1 e1 R1 r1⟩
theorem de_callK {m : Nat} {ks : List Str} {pi : List Nat} {kws : List Keyword} {tk' : TA} (C : CalK X c x ps n m F ks pi) (hg : Gl X x) (tk : Takes X W) (ha : PA X (e :: es) (tA c W mr)) (hkw : PK X kws (tA c W mk)) (hn : ∀ {E E1 : Ev} {rs}, mr E = .ok rs E1 → rs.length = n) (hm : ∀ {E E1 : Ev} {rs}, mk E = .ok rs E1 → rs.length = ks.length)
    (hp : ∀ l : List D, l.length = n + ks.length → (permL pi l).length = m)
    (hall : (backToKw pos (keywordEach kws X.env)).all (·.1.isSome) = true := by rfl) (hks : (backToKw pos (keywordEach kws X.env)).filterMap (·.1) = ks := by rfl)
    (hdb : (x == ("__debug__" : Str)) = false := by decide) (he : starEach (e :: es) X.env = (false, eval e X.env) :: starEach es X.env := by rfl)
    (hpl : ((backTo pos (starEach (e :: es) X.env)).any (·.1) || (backToKw pos (keywordEach kws X.env)).any (·.1.isNone)) = false := by rfl) :
    PE X (.Call (.Name x p) (e :: es) kws pos) (tE c W (mFnK F pi mr mk)) := by
  obtain ⟨f, fd, h1, h2, h3, h4⟩ := C.ex
  constructor
  intro pins s σ H Q I h
  have h := tA_len hn (callK_read (m := m) (pi := pi) (fun {E E1 E2 rs ts ds E3} a b z => hp ds (by rw [fzs_len z, List.length_append, hn a, hm b])) h)
  refine wpAny_Call_Name_kw (ld_glob I hg h1 (PySem.W.callWith_KW (h₀ := X.base) I.ok.mod.kin h2 hall (thn (ha.run pos pins s σ H _ I h) fun us s1 hh => ?_) hpl he) hdb)
  obtain ⟨vs, H1, I1, r, ln, q⟩ := hh
  refine thn (hkw.run pos pins s1 σ H1 _ I1 (tA_len hm q)) fun ws s2 hh => ?_
  obtain ⟨zs, H2, I2, rz, lk, q2⟩ := hh
  refine ⟨I2.kIn, ?_⟩
  rw [hks]
  exact runA (args := ⟨us, ks.zip ws⟩) h3 (h4 s2 us ws (r.length.symm.trans ln) (rz.length.symm.trans lk)) (passAt tk σ) I2 (valsPerm (r.append rz) pi) q2
theorem dk_nil : PK X [] (tA c W aNil) := ⟨fun pos pins s σ H Q I ⟨f, G, E, R, h⟩ => pk_nil.run pos pins s σ H Q I (h G [] H (.refl _) R .nil)⟩
theorem dk_cons {kws : List Keyword} {nm : Option Str} {kpos : Pos} {ma : EM} (ha : PE X e (tE c W ma)) (hr : PK X kws (tA c W mr)) : PK X (⟨nm, e, kpos⟩ :: kws) (tA c W (aCons ma mr)) :=
  ⟨fun pos pins s σ H Q I h => (pk_cons (nm := nm) (kpos := kpos) ha hr).run pos pins s σ H Q I (by
    obtain ⟨f, G, E, R, h⟩ := h
    refine tE_bindA R h fun ra E1 G1 v H1 e1 R1 r1 h1 => ?_
    refine tA_bindA R1 h1 fun rs E2 G2 vs H2 e2 R2 r2 h2 => ?_
    exact h2 G2 _ H2 (.refl _) R2 (.cons (settle_settle _) (r1.mono_settled e2) r2))⟩

/-! ### defs as values -/
/-- the defs that a value may name -/
def mFnV (tab : List (Str × FM)) (mf : EM) (ma : AM) : EM := fun E => (mf E).bind fun r E1 => match pk E1 r.settle with
  | some (.gl x) => match tab.lookup x with
    | some F => mFn F ma E1
    | none => .bad
  | _ => .bad
theorem de_gl (hg : Gl X x) (hm : X.mg x = some (.ref (c.ga x))) (hd : (x == ("__debug__" : Str)) = false := by decide) : PE X (.Name x pos) (tE c W (mC (.gl x))) := de_c (pe_glob (v := .ref (c.ga x)) hg hm rfl hd) fun _ => .gl _
theorem de_callV {tab : List (Str × FM)} {mf : EM} {fe : Expr} {ps : Str → List Str} (C : ∀ y F, tab.lookup y = some F → CalA X c y (ps y) n F [] ∧ X.mg y = some (.ref (c.ga y))) (tk : Takes X W) (hf : PE X fe (tE c W mf)) (ha : PA X (e :: es) (tA c W mr)) (hn : ∀ {E E1 : Ev} {rs}, mr E = .ok rs E1 → rs.length = n)
    (ht : eval (.Call fe (e :: es) [] pos) X.env = (do callWith pos (← eval fe X.env) [] (backTo pos (starEach (e :: es) X.env)) (backToKw pos (keywordEach [] X.env))) := by rfl)
    (he : starEach (e :: es) X.env = (false, eval e X.env) :: starEach es X.env := by rfl) (hpl : (backTo pos (starEach es X.env)).any (·.1) = false := by rfl) : PE X (.Call fe (e :: es) [] pos) (tE c W (mFnV tab mf mr)) := by
  constructor
  intro pins s σ H Q I ⟨f0, G, E, R, h⟩
  have h2 : tE c W mf σ H fun v H1 => ∃ (y : Str) (F : FM), tab.lookup y = some F ∧ v = .ref (c.ga y) ∧ tE c W (mFn F mr) σ H1 Q := by
    refine tE_bindE R h fun r E1 G1 v H1 e1 R1 r1 h1 => ?_
    split at h1
    · rename_i y py
      split at h1
      · rename_i F hF
        have rep := R1.pk r1 py
        cases rep
        exact ⟨y, F, hF, rfl, f0, G1, E1, R1, h1⟩
      · exact h1.elim
    · exact h1.elim
  refine Call_ (thn (hf.run pins s σ H _ I h2) fun u s1 hh => ?_) ht
  obtain ⟨v, H1, I1, rv, y, F, hF, rfl, q⟩ := hh
  cases rv
  obtain ⟨⟨f, fd, ds, dvs, k1, k2, k3, k4, k5, k6⟩, hm⟩ := C y F hF
  rw [hm] at k1
  cases k1
  obtain rfl : dvs = [] := by simpa using (k6 (fun _ => none)).length
  cases k5
  have q := fn_read hn q
  refine PySem.W.callWith_K (h₀ := X.base) I1.ok.mod.kin k2 (thn (ha.run pos pins s1 σ H1 _ I1 q) fun us s2 hh => ?_) he hpl
  obtain ⟨vs, H2, I2, r, q⟩ := hh
  refine ⟨I2.kIn, ?_⟩
  have many : (us ++ []).length = (ps y).length := by rw [List.append_nil]; exact r.length.symm.trans (k3.len _ _ _ _ q)
  have b := k4 s2 us I2.kIn many
  rw [List.append_nil] at b
  exact runA (args := ⟨us, []⟩) k3 b (passAt tk σ) I2 r q

/-! ### a star in a display or a call -/
def aStar (m : EM) (mr : AM) : AM := fun E => (m E).bind fun r E1 => match fzn E1 r with
  | some (.tup ds, E2) => (mr E2).bind fun rs E3 => .ok (ds.map .fz ++ rs) E3
  | some (.lst ds, E2) => (mr E2).bind fun rs E3 => .ok (ds.map .fz ++ rs) E3
  | some (.frl ds, E2) => (mr E2).bind fun rs E3 => .ok (ds.map .fz ++ rs) E3
  | _ => .bad
theorem relRs_fz {f : Fr} {G : Hp} {E : Ev} {σ : L2.St} {H : Hp} : ∀ {vs : List V} {ds : List D}, Reps c G vs ds → RelRs c f G E σ H vs (ds.map .fz)
  | _, _, .nil => .nil
  | _, _, .cons a t => .cons rfl a (relRs_fz t)
theorem da_star {m : EM} (hK : c.K = X.K) (ha : PE X e (tE c W m)) (hr : PA X es (tA c W mr)) (hs : starEach (.Starred e p :: es) X.env = (true, eval e X.env) :: starEach es X.env := by rfl) : PA X (.Starred e p :: es) (tA c W (aStar m mr)) :=
  pa_imp (StX.pa_star ha hr hs) fun σ H Q h => by
    obtain ⟨f, G, E, R, h⟩ := h
    refine tE_bindA R h fun r E1 G1 v H1 e1 R1 r1 h1 => ?_
    cases q : fzn E1 r with
    | none => simp only [q] at h1; exact h1.elim
    | some pr =>
      obtain ⟨d, E2⟩ := pr
      obtain ⟨G2, e2, R2, rep⟩ := R1.frz r1 ((fzn_settle _ _).trans q)
      have go : ∀ {vs : List V} {ds : List D}, Reps c G2 vs ds → postA c W f G1 σ ((mr E2).bind fun rs E3 => .ok (ds.map .fz ++ rs) E3) Q → tA c W mr σ H1 fun ys H2 => Q (vs ++ ys) H2 := fun {vs ds} reps h1 => by
        refine tA_bindA R2 (postA_mono e2 h1) fun rs E3 G3 ys H3 e3 R3 r3 h3 => ?_
        exact h3 G3 _ H3 (.refl _) R3 ((relRs_fz (reps.mono e3)).append r3)
      cases d with
      | tup ds =>
        simp only [q] at h1
        cases rep with
        | tup k1 reps => exact ⟨_, _, rfl, .inl (hK ▸ sqt_mono R2.gh k1), go reps h1⟩
      | lst ds =>
        simp only [q] at h1
        cases rep with
        | lst k1 reps => exact ⟨_, _, rfl, .inr (.of (R2.gh _ _ k1)), go reps h1⟩
      | frl ds =>
        simp only [q] at h1
        cases rep with
        | frl k1 reps => exact ⟨_, _, rfl, .inr (hK ▸ sql_mono R2.gh k1), go reps h1⟩
      | _ => simp only [q] at h1; exact h1.elim
end

/-! ### the head with further tests -/
def asM (g : Addr → Option Obj) (n : Nat) : List Addr := He.asD g n ++ [cStatics]
abbrev AlM : Type := He.AlD × Bool
def obM (n : Nat) (fa : List He.Fa) (fn : List He.DefD) (ex : List (PySem.W.Frag → Bool)) (g : Addr → Option Obj) : AlM := (He.obsD fa fn (He.frG g (asM g n)), ex.all fun t => t (He.frG g (asM g n)))
def hookM (n : Nat) (fa : List He.Fa) (fn : List He.DefD) (ex : List (PySem.W.Frag → Bool)) : PySem.W.Hook where
  α := AlM
  obs := fun s => obM n fa fn ex s.heap.get?
  val := fun _ => (He.valD fn, true)
  says := fun _ h => ∃ K : PySem.W.Frag, K.In h ∧ He.SaysD fa fn K ∧ ex.all (fun t => t K) = true
  of := fun _ s e => ⟨He.frG s.heap.get? (asM s.heap.get? n), He.frG_in, congrArg (fun z : AlM => z.1) e, congrArg (fun z : AlM => z.2) e⟩
  keeps := fun _ _ _ ⟨K, hK, c⟩ k => ⟨K, PySem.W.Frag.In.keeps hK k, c⟩
theorem obM_eq {n : Nat} {fa : List He.Fa} {fn : List He.DefD} {ex : List (PySem.W.Frag → Bool)} {g : Addr → Option Obj} {s : Shared} (h : ∀ a, g a = s.heap.get? a) : obM n fa fn ex g = (hookM n fa fn ex).obs s := by
  have e : g = s.heap.get? := funext h
  rw [e]
  rfl
theorem ex_at {ex : List (PySem.W.Frag → Bool)} {K : PySem.W.Frag} (h : ex.all (fun t => t K) = true) (i : Nat) {t : PySem.W.Frag → Bool} (e : ex[i]? = some t := by rfl) : t K = true := List.all_eq_true.mp h t (List.mem_of_getElem? e)
end M

/-! the tests of an own class of errors, its __init__; binding by keywords; tables of defs -/
namespace M
open PySem PySem.Spec PyProof.Rows L2
def eqOO (a b : Option (Option Value)) : Bool := decide (a = b)
def xcB (K : PySem.W.Frag) (C : Addr) (bmB : List Value) (newId : String) : Bool :=
  PySem.W.excInitIn K C bmB newId && (PySem.W.excOver K C bmB && ((match PySem.W.clsIn K C with | some cd => cd.hasDict | none => false) && (eqOO (PySem.W.findIn K (.ref C) "__setattr__") (some (some (.builtin "object.__setattr__"))) &&
    (decide (PySem.W.subIn K (.ref C) (.type "BaseException") = some true) && (decide (PySem.W.typeIn K (.ref C) = some (.type "type")) && PySem.W.keepIn K (.ref C))))))
theorem xcB_ok {K : PySem.W.Frag} {C : Addr} {B newId initId : String} {bmB : List Value} (bf : ExcBaseFacts B newId initId bmB) (sf : StoreFacts B bmB "object.__setattr__" "object") (h : xcB K C bmB newId = true) : XC K B newId initId bmB C := by
  unfold xcB eqOO at h
  simp only [Bool.and_eq_true, decide_eq_true_eq] at h
  exact ⟨bf, sf, h.1, h.2.1, h.2.2.1, h.2.2.2.1, h.2.2.2.2.1, h.2.2.2.2.2.1, h.2.2.2.2.2.2⟩
/-- C has the field f of its own, and its own __init__ -/
def xiB (K : PySem.W.Frag) (C fI : Addr) (f : Str) : Bool := eqOO (PySem.W.findIn K (.ref C) f) (some none) && (eqOO (PySem.W.findIn K (.ref C) "__init__") (some (some (.ref fI))) && decide (PySem.W.typeIn K (.ref fI) = some (.type "function")))
theorem xiB_ok {K : PySem.W.Frag} {C fI : Addr} {f : Str} (h : xiB K C fI f = true) : PySem.W.findIn K (.ref C) f = some none ∧ PySem.W.findIn K (.ref C) "__init__" = some (some (.ref fI)) ∧ PySem.W.typeIn K (.ref fI) = some (.type "function") := by
  unfold xiB eqOO at h
  simp only [Bool.and_eq_true, decide_eq_true_eq] at h
  exact h
/-- the base's __init__, read off a class -/
def fcB (K : PySem.W.Frag) (v : Value) (id : String) : Bool := match PySem.W.findCls K v (.type "type") "__init__" with
  | some (.val (.builtin j)) => j == id
  | _ => false
theorem fcB_ok {K : PySem.W.Frag} {v : Value} {id : String} (h : fcB K v id = true) : PySem.W.findCls K v (.type "type") "__init__" = some (.val (.builtin id)) := by
  unfold fcB at h
  split at h
  · rename_i j e
    rw [e, beq_iff_eq.mp h]
  · cases h
def rdB (K : PySem.W.Frag) (C : Addr) : Bool := PySem.W.readsIn K C (.type "type") && eqOO (PySem.W.specialIn K (.ref C) "__getattribute__") (some (some (.builtin "type.__getattribute__")))
theorem rdB_ok {K : PySem.W.Frag} {C : Addr} (h : rdB K C = true) : PySem.W.readsIn K C (.type "type") = true ∧ PySem.W.specialIn K (.ref C) "__getattribute__" = some (some (.builtin "type.__getattribute__")) := by
  unfold rdB eqOO at h
  simp only [Bool.and_eq_true, decide_eq_true_eq] at h
  exact h
def exB (K : PySem.W.Frag) (a b : Addr) (r : Bool) : Bool := decide (PySem.W.exmOne K (.ref a) (.ref b) = some r)
theorem exB_ok {K : PySem.W.Frag} {a b : Addr} {r : Bool} (h : exB K a b r = true) : PySem.W.exmOne K (.ref a) (.ref b) = some r := of_decide_eq_true h
section
variable {P : Program} {w : World} {K : PySem.W.Frag} {mg : Str → Option Value} {base : Heap} {k : Nat} {fI C : Addr} {fd : FuncData} {f b : Str} {B newId initId : String} {bmB : List Value}
/-- an error's __init__ -/
theorem init_fn {x qual t : Str} {params : Arguments} {body : List Stmt} {scope : Scope} (F : FunD K x qual params body scope [] [] fI fd) (S : FnScope ["self", f] ["self", f] scope)
    (walk : ∀ (cdv : Value) (A : Around) (outer : List Env) (s : Shared) (H : Hp) (E : XK), PSs (cxOf (L2.CX P w) P w K mg base ["self", f] qual scope fI cdv A outer s H E) body (tSeq (tDrop (tXi C (tCons (tVar 0) (tCons (tC (.str t)) tNil)))) (tXst C f (tVar 0) (tVar 1)))) :
    FnOk P w K mg base (L2.CX P w) 1 fI fd ["self", f] (spI C f) := by
  refine F.ok S (fun vs H Q E h => by obtain ⟨a, v, rfl, _⟩ := h; rfl) fun cdv A outer s H vs Q E hr h => ⟨_, walk cdv A outer s H E, ?_⟩
  obtain ⟨a, v, rfl, ea, q⟩ := h
  exact ⟨_, rfl, a, _, rfl, (by decide : 1 ≤ 1000), ea, _, rfl, _, rfl, a, rfl, ea, q⟩
end
/-- a call with keywords that gives all parameters -/
theorem kb_of {K : PySem.W.Frag} {x qual : Str} {params : Arguments} {body : List Stmt} {scope : Scope} {kws : List (Str × V)} {f : Addr} {fd : FuncData} {ps ks : List Str} {n : Nat} {pi : List Nat} (F : FunD K x qual params body scope [] kws f fd)
    (h : ∀ (kV doc pm : Value) (an : Option Addr) (cdv ct : Value) (us ws : List Value), us.length = n → ws.length = ks.length → bindArgs (PySem.W.fnOf x qual params body scope .none kV doc pm an cdv ct) ⟨us, ks.zip ws⟩ = pure (ps.zip (permL pi (us ++ ws)))) : KB fd ps n ks pi := by
  obtain ⟨oc, od, dV, kV, doc, pm, an, cdv, ct, osl, rfl, _, _, hD, _⟩ := F.ex
  rcases hD with ⟨_, rfl⟩ | ⟨e, _⟩
  · exact fun s us ws h1 h2 => BindsTo.of_looks fun M => .of_pure (h kV doc pm an cdv ct us ws h1 h2)
  · exact absurd rfl e
theorem tab_nil {Pr : Str → FM → Prop} : ∀ y F, ([] : List (Str × FM)).lookup y = some F → Pr y F := fun _ _ h => by cases h
theorem tab_cons {Pr : Str → FM → Prop} {a : Str} {Fa : FM} {tab : List (Str × FM)} (h : Pr a Fa) (t : ∀ y F, tab.lookup y = some F → Pr y F) : ∀ y F, ((a, Fa) :: tab).lookup y = some F → Pr y F := fun y F e => by
  rw [List.lookup] at e
  split at e
  · rename_i z
    cases e
    rw [beq_iff_eq.mp z]
    exact h
  · exact t y F e
end M
namespace M
theorem permLen {pi : List Nat} {n m : Nat} (h1 : pi.length = m) (h2 : pi.all (fun i => decide (i < n)) = true) : ∀ l : List D, l.length = n → (permL pi l).length = m := by
  intro l hl
  subst hl
  rw [← h1]
  clear h1
  unfold permL
  induction pi with
  | nil => rfl
  | cons i pi ih =>
    rw [List.all_cons, Bool.and_eq_true, decide_eq_true_eq] at h2
    rw [List.filterMap_cons, List.getElem?_eq_getElem h2.1]
    simp [ih h2.2]
end M

/-! evaluation of the further mirrors by simp -/
namespace M
open PySem PySem.Spec PyProof.Rows L2
@[simp] theorem sRaise_eq (n : Nat) (f : Str) (m : EM) (E : Ev) : sRaise n f m E = (m E).ot fun r E1 => match fzn E1 r with
  | some (d, E2) => .ex ⟨n, [(f, d)]⟩ E2
  | none => .bad := rfl
def Out.tr (o : Out) (hs : List Hd) (t : Tg hs := .mk) : Out := match o with
  | .ex x E1 => tryHs hs x E1
  | o => o
@[simp] theorem sTry_eq (b : SM) (hs : List Hd) (E : Ev) : sTry b hs E = (b E).tr hs := rfl
@[simp] theorem tr_nx (E : Ev) (hs : List Hd) : (Out.nx E).tr hs = .nx E := rfl
@[simp] theorem tr_rt (r : RV) (E : Ev) (hs : List Hd) : (Out.rt r E).tr hs = .rt r E := rfl
@[simp] theorem tr_bk (E : Ev) (hs : List Hd) : (Out.bk E).tr hs = .bk E := rfl
@[simp] theorem tr_ct (E : Ev) (hs : List Hd) : (Out.ct E).tr hs = .ct E := rfl
@[simp] theorem tr_bad (hs : List Hd) : Out.bad.tr hs = .bad := rfl
@[simp] theorem tr_ex (x : Exn) (E : Ev) (hs : List Hd) : (Out.ex x E).tr hs = tryHs hs x E := rfl
@[simp] theorem tryHs_nil (x : Exn) (E : Ev) : tryHs [] x E = .ex x E := rfl
@[simp] theorem tryHs_cons (h : Hd) (r : List Hd) (x : Exn) (E : Ev) : tryHs (h :: r) x E = match h.cat x.cls with
    | some true => if notBo E h.slot && noXv E && decide (h.slot < E.length) then unO h.slot (h.su x (E.set h.slot .xv)) else .bad
    | some false => tryHs r x E
    | none => .bad := rfl
@[simp] theorem unO_nx (i : Nat) (E : Ev) : unO i (.nx E) = if notBo E i && noXv (E.set i .un) then .nx (E.set i .un) else .bad := rfl
@[simp] theorem unO_bk (i : Nat) (E : Ev) : unO i (.bk E) = if notBo E i && noXv (E.set i .un) then .bk (E.set i .un) else .bad := rfl
@[simp] theorem unO_ct (i : Nat) (E : Ev) : unO i (.ct E) = if notBo E i && noXv (E.set i .un) then .ct (E.set i .un) else .bad := rfl
@[simp] theorem unO_rt (i : Nat) (r : RV) (E : Ev) : unO i (.rt r E) = if notSl r && (notBo E i && noXv (E.set i .un)) then .rt r (E.set i .un) else .bad := rfl
@[simp] theorem notSl_fz (d : D) : notSl (.fz d) = true := rfl
@[simp] theorem notSl_ow (d : MO) : notSl (.ow d) = true := rfl
@[simp] theorem noXv_nil : noXv [] = true := rfl
@[simp] theorem noXv_un (E : Ev) : noXv (.un :: E) = noXv E := rfl
@[simp] theorem noXv_fz (d : D) (E : Ev) : noXv (.fz d :: E) = noXv E := rfl
@[simp] theorem noXv_ow (d : MO) (E : Ev) : noXv (.ow d :: E) = noXv E := rfl
@[simp] theorem noXv_bo (d : MO) (E : Ev) : noXv (.bo d :: E) = noXv E := rfl
@[simp] theorem noXv_xv (E : Ev) : noXv (.xv :: E) = false := rfl
@[simp] theorem mXF_eq (x : Exn) (i : Nat) (f : Str) (E : Ev) : mXF x i f E = match E[i]? with
  | some .xv => match x.fs.lookup f with
    | some d => .ok (.fz d) E
    | none => .bad
  | _ => .bad := rfl
@[simp] theorem mFnK_eq (F : FM) (pi : List Nat) (ma mk : AM) (E : Ev) : mFnK F pi ma mk E = (ma E).bd fun rs E1 => (mk E1).bd fun ks E2 => match fzs E2 (rs ++ ks) with
  | some (ds, E3) => match (F ((permL pi ds).map .fz)).rx with
    | .ok (.fz d) => .ok (.fz d) E3
    | .ok (.ow m) => .ok (.ow m) E3
    | .ex x => .ex x E3
    | _ => .bad
  | none => .bad := rfl
@[simp] theorem mFnV_eq (tab : List (Str × FM)) (mf : EM) (ma : AM) (E : Ev) : mFnV tab mf ma E = (mf E).bd fun r E1 => match pk E1 r.settle with
  | some (.gl x) => match tab.lookup x with
    | some F => mFn F ma E1
    | none => .bad
  | _ => .bad := rfl
@[simp] theorem mFn_eq (F : FM) (ma : AM) (E : Ev) : mFn F ma E = (ma E).bd fun rs E1 => match fzs E1 rs with
  | some (ds, E2) => match (F (ds.map .fz)).rx with
    | .ok (.fz d) => .ok (.fz d) E2
    | .ok (.ow m) => .ok (.ow m) E2
    | .ex x => .ex x E2
    | _ => .bad
  | none => .bad := rfl
@[simp] theorem aStar_eq (m : EM) (mr : AM) (E : Ev) : aStar m mr E = (m E).bd fun r E1 => match fzn E1 r with
  | some (.tup ds, E2) => (mr E2).bd fun rs E3 => .ok (ds.map .fz ++ rs) E3
  | some (.lst ds, E2) => (mr E2).bd fun rs E3 => .ok (ds.map .fz ++ rs) E3
  | some (.frl ds, E2) => (mr E2).bd fun rs E3 => .ok (ds.map .fz ++ rs) E3
  | _ => .bad := rfl
@[simp] theorem permL_nil {α : Type} (l : List α) : permL [] l = [] := rfl
@[simp] theorem permL_cons {α : Type} (i : Nat) (pi : List Nat) (l : List α) : permL (i :: pi) l = match l[i]? with
    | some a => a :: permL pi l
    | none => permL pi l := by
  unfold permL
  rw [List.filterMap_cons]
  cases l[i]? <;> rfl
@[simp] theorem mFnB_eq (F : FM) (j : Nat) (ma : AM) (E : Ev) : mFnB F j ma E = match own E j with
  | some _ => (ma E).bd fun rs E1 => match fzs E1 rs with
    | some (ds, E2) => match own E2 j with
      | some m => match (F (.bo m :: ds.map .fz)).rxb with
        | .ok (.fz d) m' => .ok (.fz d) (setOwn E2 j m')
        | .ok (.ow r) m' => .ok (.ow r) (setOwn E2 j m')
        | .ex x m' => .ex x (setOwn E2 j m')
        | _ => .bad
      | none => .bad
    | none => .bad
  | none => .bad := rfl
end M

/-! mirrors, a statement at a time -/
namespace M
open PySem PySem.Spec PyProof.Rows L2
/-- not lent -/
def Nb (s : M.Slot) : Prop := ∀ m, s ≠ .bo m
theorem Nb.fz (d : D) : Nb (.fz d) := fun m z => by cases z
theorem Nb.ow (d : MO) : Nb (.ow d) := fun m z => by cases z
theorem Nb.un : Nb .un := fun m z => by cases z
theorem nbo {E : Ev} {i : Nat} {s : M.Slot} (h : E[i]? = some s) (hs : Nb s) : notBo E i = true := by
  rw [notBo_eq, h]
  cases s <;> first | rfl | exact absurd rfl (hs _)
section
variable {i : Nat} {m : EM} {b a : SM} {E E1 E2 : Ev} {d : D} {mo : MO} {s : M.Slot} {t : BM} {mi : IM} {tg : TgM} {body : SM} {ds : List D} {r : RV}
theorem set_fz (h : m E = .ok (.fz d) E1) (hi : E1[i]? = some s) (hs : Nb s) : sSeq (sSet i m) b E = b (E1.set i (.fz d)) := by
  rw [sSeq_eq, sSet_eq, h, out_ok, asg_eq, nbo hi hs]
  rfl
theorem set_ow (h : m E = .ok (.ow mo) E1) (hi : E1[i]? = some s) (hs : Nb s) : sSeq (sSet i m) b E = b (E1.set i (.ow mo)) := by
  rw [sSeq_eq, sSet_eq, h, out_ok, asg_eq, nbo hi hs]
  rfl
theorem set_sl {j : Nat} (h : m E = .ok (.sl j) E1) (hj : E1[j]? = some (.fz d)) (hi : E1[i]? = some s) (hs : Nb s) : sSeq (sSet i m) b E = b (E1.set i (.fz d)) := by
  rw [sSeq_eq, sSet_eq, h, out_ok, asg_eq, nbo hi hs]
  simp only [fzn_sl, hj]
  rfl
theorem drop_ok (h : m E = .ok r E1) : sSeq (sDrop m) b E = b E1 := by
  rw [sSeq_eq, sDrop_eq, h]
  rfl
theorem if_no (h : t E = .ok false E1) : sSeq (sIf t a sNil) b E = b E1 := by
  rw [sSeq_eq, sIf_eq, h]
  rfl
theorem if_else {a2 : SM} (h : t E = .ok false E1) : sSeq (sIf t a a2) b E = (a2 E1).seq b := by
  rw [sSeq_eq, sIf_eq, h]
  rfl
theorem if_yes {a2 : SM} (h : t E = .ok true E1) : sSeq (sIf t a a2) b E = (a E1).seq b := by
  rw [sSeq_eq, sIf_eq, h]
  rfl
theorem for_nx (hi : mi E = .ok ds E1) (hl : forLoop tg body ds E1 = .nx E2) : sSeq (sFor mi tg body) b E = b E2 := by
  rw [sSeq_eq, sFor_eq, hi, out_ok, hl]
  rfl
theorem ret_fz (h : m E = .ok (.fz d) E1) : sSeq (sRet m) b E = .rt (.fz d) E1 := by
  rw [sSeq_eq, sRet_eq, h]
  rfl
theorem ret_ow (h : m E = .ok (.ow mo) E1) : sSeq (sRet m) b E = .rt (.ow mo) E1 := by
  rw [sSeq_eq, sRet_eq, h]
  rfl
/-- a call of a def: what it hands back -/
theorem fnD_fz {F : FM} {dds : List D} {ma : AM} {rs : List RV} (ha : ma E = .ok rs E1) (hz : fzs E1 rs = some (ds, E2)) (hF : (F (ds.map .fz ++ dds.map .fz)).rx = .ok (.fz d)) : mFnD F dds ma E = .ok (.fz d) E2 := by
  rw [mFnD_eq, ha, bind_ok, hz]
  simp only [hF]
theorem fnD_ow {F : FM} {dds : List D} {ma : AM} {rs : List RV} (ha : ma E = .ok rs E1) (hz : fzs E1 rs = some (ds, E2)) (hF : (F (ds.map .fz ++ dds.map .fz)).rx = .ok (.ow mo)) : mFnD F dds ma E = .ok (.ow mo) E2 := by
  rw [mFnD_eq, ha, bind_ok, hz]
  simp only [hF]
/-- a def's answer, from its body -/
theorem run_rt {n : Nat} {as : Ev} (h : body (as ++ List.replicate (n - as.length) .un) = .rt r E) : runF n body as = .ok r E := by rw [runF_eq, h]
theorem run_nx {n : Nat} {as : Ev} (h : body (as ++ List.replicate (n - as.length) .un) = .nx E) : runF n body as = .ok (.fz .non) E := by rw [runF_eq, h]
theorem run_ex {n : Nat} {as : Ev} {x : Exn} (h : body (as ++ List.replicate (n - as.length) .un) = .ex x E) : runF n body as = .ex x E := by rw [runF_eq, h]
/-- each turn of a loop keeps C -/
theorem forLoop_inv {C : Ev → Prop} {t : TgM} {b : SM} : ∀ {ds : List D} {E : Ev}, (∀ d ∈ ds, ∀ E, C E → ∃ E1 E2, t d E = some E1 ∧ (b E1 = .nx E2 ∨ b E1 = .ct E2) ∧ C E2) → C E → ∃ E', forLoop t b ds E = .nx E' ∧ C E'
  | [], E, _, h => ⟨E, rfl, h⟩
  | d :: ds, E, hs, h => by
    obtain ⟨E1, E2, h1, h2, h3⟩ := hs d List.mem_cons_self E h
    obtain ⟨E', h4, h5⟩ := forLoop_inv (fun d hd => hs d (List.mem_cons_of_mem _ hd)) h3
    refine ⟨E', ?_, h5⟩
    rw [forLoop_cons, h1]
    rcases h2 with h2 | h2 <;> simp only [h2, h4]
/-- .. with what has been walked -/
theorem forLoop_pre {C : List D → Ev → Prop} {t : TgM} {b : SM} : ∀ {ds pre : List D} {E : Ev}, (∀ (pre : List D) (d : D) (E : Ev), C pre E → ∃ E1 E2, t d E = some E1 ∧ (b E1 = .nx E2 ∨ b E1 = .ct E2) ∧ C (pre ++ [d]) E2) → C pre E → ∃ E', forLoop t b ds E = .nx E' ∧ C (pre ++ ds) E'
  | [], pre, E, _, h => ⟨E, rfl, by rwa [List.append_nil]⟩
  | d :: ds, pre, E, hs, h => by
    obtain ⟨E1, E2, h1, h2, h3⟩ := hs pre d E h
    obtain ⟨E', h4, h5⟩ := forLoop_pre (ds := ds) (pre := pre ++ [d]) hs h3
    refine ⟨E', ?_, by simpa using h5⟩
    rw [forLoop_cons, h1]
    rcases h2 with h2 | h2 <;> simp only [h2, h4]
end
end M
namespace M
open PySem PySem.Spec PyProof.Rows L2
/-- a comprehension with a test, whose turns leave the slots as they were -/
theorem lc_fm {α : Type} {t : TgM} {cond : BM} {elt : EM} {vs : List Nat} {E : Ev} {g f : α → D} {P : α → Bool} : ∀ {l : List α} {acc : List D},
    (∀ a ∈ l, ∃ E1 E2, t (g a) E = some E1 ∧ cond E1 = .ok (P a) E2 ∧ (P a = false → allNotBo E2 vs = true ∧ wipeE E2 vs = E) ∧ (P a = true → ∃ r E3 E4, elt E2 = .ok r E3 ∧ fzn E3 r = some (f a, E4) ∧ allNotBo E4 vs = true ∧ wipeE E4 vs = E)) →
    acc.length + l.length ≤ maxLen → lcLoop t cond elt vs (l.map g) acc E = .ok (.ow (.lst (acc ++ (l.filter P).map f))) E
  | [], acc, _, _ => by simp [lcLoop]
  | d :: ds, acc, h, hl => by
    obtain ⟨E1, E2, h1, h2, h3, h4⟩ := h d List.mem_cons_self
    have hl' : acc.length < maxLen := by simp only [List.length_cons] at hl; omega
    have next := fun a ha => h a (List.mem_cons_of_mem d ha)
    rw [List.map_cons]
    cases p : P d with
    | false =>
      obtain ⟨k1, k2⟩ := h3 p
      rw [p] at h2
      simp only [lcLoop, h1, h2, k1, k2, if_true]
      rw [lc_fm next (by simp only [List.length_cons] at hl; omega), List.filter_cons_of_neg (by rw [p]; decide)]
    | true =>
      obtain ⟨r, E3, E4, k1, k2, k3, k4⟩ := h4 p
      rw [p] at h2
      simp only [lcLoop, h1, h2, k1, k2, k3, k4, hl', and_self, if_true]
      rw [lc_fm next (by simp only [List.length_append, List.length_cons, List.length_nil] at hl ⊢; omega), List.filter_cons_of_pos p]
      simp
/-- .. without a test -/
theorem lc_m {α : Type} {t : TgM} {elt : EM} {vs : List Nat} {E : Ev} {g f : α → D} {l : List α} (h : ∀ a ∈ l, ∃ E1 r E3 E4, t (g a) E = some E1 ∧ elt E1 = .ok r E3 ∧ fzn E3 r = some (f a, E4) ∧ allNotBo E4 vs = true ∧ wipeE E4 vs = E) (hl : l.length ≤ maxLen) :
    lcLoop t tYesM elt vs (l.map g) [] E = .ok (.ow (.lst (l.map f))) E := by
  have := lc_fm (t := t) (cond := tYesM) (elt := elt) (vs := vs) (E := E) (g := g) (f := f) (P := fun _ => true) (l := l) (acc := []) (fun a ha => by
    obtain ⟨E1, r, E3, E4, h1, h2, h3, h4, h5⟩ := h a ha
    exact ⟨E1, E1, h1, rfl, fun z => Bool.noConfusion z, fun _ => ⟨r, E3, E4, h2, h3, h4, h5⟩⟩) (by simpa using hl)
  rw [List.nil_append, List.filter_eq_self.mpr (fun _ _ => rfl)] at this
  exact this
end M

/-! what operations give, by kinds -/
namespace M
open PySem PySem.Spec PyProof.Rows L2
theorem ixT_of {l : List D} {j : Nat} {d : D} (h : l[j]? = some d) : ixD (.tup l) (.int (j : Nat)) = some (.fz d) := by
  show (atI l (j : Int)).map RV.fz = _
  rw [atI_nat h]
  rfl
theorem ixL_of {l : List D} {j : Nat} {d : D} (h : l[j]? = some d) : ixD (.lst l) (.int (j : Nat)) = some (.fz d) := by
  show (atI l (j : Int)).map RV.fz = _
  rw [atI_nat h]
  rfl
theorem ixF_of {l : List D} {j : Nat} {d : D} (h : l[j]? = some d) : ixD (.frl l) (.int (j : Nat)) = some (.fz d) := by
  show (atI l (j : Int)).map RV.fz = _
  rw [atI_nat h]
  rfl
theorem lx0 (x : D) (l : List D) : ixD (.lst (x :: l)) (.int 0) = some (.fz x) := ixL_of (j := 0) rfl
theorem lx1 (x y : D) (l : List D) : ixD (.lst (x :: y :: l)) (.int 1) = some (.fz y) := ixL_of (j := 1) rfl
theorem fx0 (x : D) (l : List D) : ixD (.frl (x :: l)) (.int 0) = some (.fz x) := ixF_of (j := 0) rfl
theorem gt_ii (i j : Int) : gtI (.int i) (.int j) = some (.fz (.bl (decide (j < i)))) := rfl
theorem lt_ii (i j : Int) : ltI (.int i) (.int j) = some (.fz (.bl (decide (i < j)))) := rfl
theorem ge_ii (i j : Int) : geI (.int i) (.int j) = some (.fz (.bl (decide (j ≤ i)))) := rfl
theorem le_ii (i j : Int) : leI (.int i) (.int j) = some (.fz (.bl (decide (i ≤ j)))) := rfl
theorem add_ii (i j : Int) : addD (.int i) (.int j) = some (.fz (.int (i + j))) := rfl
theorem sub_ii (i j : Int) : subI (.int i) (.int j) = some (.fz (.int (i - j))) := rfl
theorem mul_ii {i j : Int} (h : mulOk i j = true) : mulD (.int i) (.int j) = some (.fz (.int (i * j))) := by
  simp [mulD, orO2, mulI, oI, h]
theorem mulOk_l {i j : Int} (h : i.natAbs < 2 ^ 64) : mulOk i j = true := by simp [mulOk, h]
theorem mulOk_r {i j : Int} (h : j.natAbs < 2 ^ 64) : mulOk i j = true := by simp [mulOk, h]
theorem mod_ii {i j : Int} (h : 0 < j) : modI (.int i) (.int j) = some (.fz (.int (i % j))) := by simp [modI, oI, h]
theorem div_ii {i j : Int} (h : 0 < j) (h2 : j.natAbs < 2 ^ 8000) : divI (.int i) (.int j) = some (.fz (.int (i / j))) := by
  have hl : j.natAbs.log2 < 9000 := by
    have := (Nat.log2_lt (show j.natAbs ≠ 0 by omega)).mpr h2
    omega
  simp [divI, oI, divOk, h, hl]
theorem int_bl (k : Bool) : M.intD [.bl k] = some (.fz (.int (if k = true then 1 else 0))) := rfl
set_option exponentiation.threshold 9000 in
theorem big_of {n k : Nat} (h : n < 2 ^ k) (hk : k ≤ 8000) : n < 2 ^ 8000 := Nat.lt_of_lt_of_le h (Nat.pow_le_pow_right (by decide) hk)
theorem mul_if (x : Int) (c : Prop) [Decidable c] : mulD (.int x) (.int (if c then 1 else 0)) = some (.fz (.int (x * (if c then 1 else 0)))) := mul_ii (mulOk_r (by split <;> decide))
theorem eq_ii (a b : Int) : eqD (.int a) (.int b) = some (.fz (.bl (decide (a = b)))) := by
  simp [eqD, plainD, SeqAt.shaped, py, PyData.canLay0, PyData.depth, PyData.eqv]
  rw [Bool.eq_iff_iff]; simp
theorem ne_ii (a b : Int) : neD (.int a) (.int b) = some (.fz (.bl (!decide (a = b)))) := by
  simp [neD, plainD, SeqAt.shaped, py, PyData.canLay0, PyData.depth, PyData.eqv]
  rw [Bool.eq_iff_iff]; simp
theorem eqv_same {d : D} (h : plainD d = true) : PyData.eqv (py d) (py d) = true := SeqAt.eqv_refl (py d) (SeqAt.canLay_of_shaped h)
theorem ne_same {d : D} (h : plainD d = true) : neD d d = some (.fz (.bl false)) := by
  unfold neD
  rw [h, eqv_same h]
  rfl
theorem eq_same {d : D} (h : plainD d = true) : eqD d d = some (.fz (.bl true)) := by
  unfold eqD
  rw [h, eqv_same h]
  rfl
theorem cut_hi (l : List D) (a : Nat) : M.cutD l none (some (a : Nat)) = l.take a := by
  unfold M.cutD
  rw [HT.sIx_none, HT.sIx_nat, List.drop_zero, Nat.sub_zero]
  rcases Nat.le_total a l.length with h | h
  · rw [Nat.min_eq_left h]
  · rw [Nat.min_eq_right h, List.take_of_length_le (Nat.le_refl _), List.take_of_length_le h]
theorem cut_lo (l : List D) (a : Nat) : M.cutD l (some (a : Nat)) none = l.drop a := by
  unfold M.cutD
  rw [HT.sIx_none, HT.sIx_nat]
  rcases Nat.le_total a l.length with h | h
  · rw [Nat.min_eq_left h, List.take_of_length_le (by rw [List.length_drop]; omega)]
  · rw [Nat.min_eq_right h, List.drop_of_length_le (Nat.le_refl _), List.drop_of_length_le h, List.take_nil]
theorem intsD_of (l : List Int) : intsD (l.map D.int) = some l := by
  induction l with
  | nil => rfl
  | cons i l ih => simp [intsD, ih]
theorem maxLen1 : 1 ≤ maxLen := by decide
theorem maxLen2 : 2 ≤ maxLen := by decide
theorem maxLen3 : 3 ≤ maxLen := by decide
theorem maxLen4 : 4 ≤ maxLen := by decide
theorem maxLen5 : 5 ≤ maxLen := by decide
theorem maxLen6 : 6 ≤ maxLen := by decide
end M
namespace M
open PySem PySem.Spec PyProof.Rows L2
theorem text_plain (s : String) : plainD (.str (Str.ofString s)) = true := by
  have h : (Str.ofString s).cps.all (fun c => decide (c < 0x110000)) = true := by
    rw [← Array.all_toList, PyProof.Rows.signs_ofString, List.all_map, List.all_eq_true]
    intro c _
    simp only [Function.comp, decide_eq_true_eq]
    have := c.valid
    simp only [Char.toNat, UInt32.isValidChar, Nat.isValidChar] at this ⊢
    omega
  simp only [plainD, SeqAt.shaped, py, PyData.canLay0, PyData.depth, Bool.and_eq_true, decide_eq_true_eq]
  exact ⟨h, by decide⟩
theorem shown_int_plain (i : Int) : plainD (.str (py (.int i)).shown) = true := by
  rw [py, PyData.shown_int]
  exact text_plain _
theorem repr_int {i : Int} (h : i.natAbs < 2 ^ 1900) : reprOk (py (.int i)) = true := by
  have hl : i.natAbs.log2 < 1920 := by
    by_cases z : i.natAbs = 0
    · rw [z]; decide
    · have := (Nat.log2_lt z).mpr h
      omega
  simp [reprOk, py, PyData.canLay0, PyData.showable, hl, PyData.depth, PyData.bulk, PyData.hasDict]
end M
namespace M
open PySem PySem.Spec PyProof.Rows L2
theorem range1_int {m : EM} {E E1 : Ev} {r : RV} {j : Int} (h : m E = .ok r E1) (hp : pk E1 r = some (.int j)) (h0 : 0 ≤ j) (h1 : j ≤ 1000000000) : iRange1 m E = .ok ((List.range j.toNat).map fun i => .int (i : Nat)) E1 := by
  have b : (decide (-(2 ^ 62) ≤ j) && decide (j < 2 ^ 62)) = true := by
    rw [Bool.and_eq_true, decide_eq_true_eq, decide_eq_true_eq]
    omega
  rw [iRange1_eq, h, bind_ok]
  simp only [hp, b, if_true]
theorem range1_nat {m : EM} {E E1 : Ev} {r : RV} {n : Nat} (h : m E = .ok r E1) (hp : pk E1 r = some (.int (n : Nat))) (h1 : n ≤ 1000000000) : iRange1 m E = .ok ((List.range n).map fun i => .int (i : Nat)) E1 :=
  range1_int h hp (by omega) (by omega)
end M

namespace Law
open PySem PySem.Spec PyProof.Rows L2 M
def top (i : Nat) : Stmt := PySem.Challenge.pw_heapeffects_k08_parts_of_programs.main.body.getD i (.Pass ⟨0, 0, 0, 0⟩)
abbrev s_is_number : Stmt := top 7
abbrev s_is_count : Stmt := top 8
abbrev s_check_count : Stmt := top 9
abbrev s__has_form : Stmt := top 18
abbrev s__is_insertion : Stmt := top 15
abbrev s__is_removal : Stmt := top 16
abbrev s__is_repeat : Stmt := top 17
abbrev s__first_invalid : Stmt := top 13
abbrev s__invalid_in : Stmt := top 14
abbrev s_check_program : Stmt := top 12
abbrev s__totals : Stmt := top 21
abbrev s__totals_of_step : Stmt := top 22
abbrev s__length : Stmt := top 23
abbrev s_step_count : Stmt := top 19
abbrev s_insertion_count : Stmt := top 20
abbrev s__step_length : Stmt := top 24
abbrev s__expanded : Stmt := top 26
abbrev s__expanded_step : Stmt := top 27
abbrev s_expand : Stmt := top 25
abbrev s__find : Stmt := top 30
abbrev s__elementary : Stmt := top 29
abbrev s_step_at : Stmt := top 28
abbrev s__check_cut : Stmt := top 33
abbrev s__turns : Stmt := top 36
abbrev s__split : Stmt := top 34
abbrev s__split_step : Stmt := top 35
abbrev s_prefix : Stmt := top 31
abbrev s_suffix : Stmt := top 32
abbrev s__law_pool : Stmt := top 38
abbrev s__law_draw : Stmt := top 39
abbrev s__law_random_program : Stmt := top 40
abbrev s__law_great_program : Stmt := top 41
abbrev s__law_expanded : Stmt := top 42
abbrev s__law_out : Stmt := top 43
abbrev s__law_cut_holds : Stmt := top 44
abbrev s_law : Stmt := top 45
def mth (s : Stmt) (j : Nat) : Stmt := match s with
  | .ClassDef _ _ _ b _ _ _ _ _ _ _ => b.getD j (.Pass ⟨0, 0, 0, 0⟩)
  | _ => .Pass ⟨0, 0, 0, 0⟩
abbrev s_InvalidCount : Stmt := mth (top 2) 0
abbrev s_InvalidProgram : Stmt := mth (top 3) 0
abbrev s_OutOfRange : Stmt := mth (top 4) 0
abbrev s_LimitExceeded : Stmt := mth (top 5) 0
def d_is_number : He.DefD := ⟨("is_number", none), "is_number", "is_number", defArgs s_is_number, defBody s_is_number, defScope s_is_number, [], []⟩
def d_is_count : He.DefD := ⟨("is_count", none), "is_count", "is_count", defArgs s_is_count, defBody s_is_count, defScope s_is_count, [], []⟩
def d_check_count : He.DefD := ⟨("check_count", none), "check_count", "check_count", defArgs s_check_count, defBody s_check_count, defScope s_check_count, [], []⟩
def d__has_form : He.DefD := ⟨("has_form", none), "has_form", "has_form", defArgs s__has_form, defBody s__has_form, defScope s__has_form, [], []⟩
def d__is_insertion : He.DefD := ⟨("_is_insertion", none), "_is_insertion", "_is_insertion", defArgs s__is_insertion, defBody s__is_insertion, defScope s__is_insertion, [], []⟩
def d__is_removal : He.DefD := ⟨("_is_removal", none), "_is_removal", "_is_removal", defArgs s__is_removal, defBody s__is_removal, defScope s__is_removal, [], []⟩
def d__is_repeat : He.DefD := ⟨("_is_repeat", none), "_is_repeat", "_is_repeat", defArgs s__is_repeat, defBody s__is_repeat, defScope s__is_repeat, [], []⟩
def d__first_invalid : He.DefD := ⟨("_first_invalid", none), "_first_invalid", "_first_invalid", defArgs s__first_invalid, defBody s__first_invalid, defScope s__first_invalid, [], []⟩
def d__invalid_in : He.DefD := ⟨("_invalid_in", none), "_invalid_in", "_invalid_in", defArgs s__invalid_in, defBody s__invalid_in, defScope s__invalid_in, [], []⟩
def d_check_program : He.DefD := ⟨("check_program", none), "check_program", "check_program", defArgs s_check_program, defBody s_check_program, defScope s_check_program, [], []⟩
def d__totals : He.DefD := ⟨("totals", none), "totals", "totals", defArgs s__totals, defBody s__totals, defScope s__totals, [], []⟩
def d__totals_of_step : He.DefD := ⟨("totals_of_step", none), "totals_of_step", "totals_of_step", defArgs s__totals_of_step, defBody s__totals_of_step, defScope s__totals_of_step, [], []⟩
def d__length : He.DefD := ⟨("_length", none), "_length", "_length", defArgs s__length, defBody s__length, defScope s__length, [], []⟩
def d_step_count : He.DefD := ⟨("step_count", none), "step_count", "step_count", defArgs s_step_count, defBody s_step_count, defScope s_step_count, [], []⟩
def d_insertion_count : He.DefD := ⟨("insertion_count", none), "insertion_count", "insertion_count", defArgs s_insertion_count, defBody s_insertion_count, defScope s_insertion_count, [], []⟩
def d__step_length : He.DefD := ⟨("_step_length", none), "_step_length", "_step_length", defArgs s__step_length, defBody s__step_length, defScope s__step_length, [], []⟩
def d__expanded : He.DefD := ⟨("_expanded", none), "_expanded", "_expanded", defArgs s__expanded, defBody s__expanded, defScope s__expanded, [], []⟩
def d__expanded_step : He.DefD := ⟨("_expanded_step", none), "_expanded_step", "_expanded_step", defArgs s__expanded_step, defBody s__expanded_step, defScope s__expanded_step, [], []⟩
def d_expand : He.DefD := ⟨("expand", none), "expand", "expand", defArgs s_expand, defBody s_expand, defScope s_expand, [], [("limit", .int 1000)]⟩
def d__find : He.DefD := ⟨("_find", none), "_find", "_find", defArgs s__find, defBody s__find, defScope s__find, [], []⟩
def d__elementary : He.DefD := ⟨("_elementary", none), "_elementary", "_elementary", defArgs s__elementary, defBody s__elementary, defScope s__elementary, [], []⟩
def d_step_at : He.DefD := ⟨("step_at", none), "step_at", "step_at", defArgs s_step_at, defBody s_step_at, defScope s_step_at, [], []⟩
def d__check_cut : He.DefD := ⟨("_check_cut", none), "_check_cut", "_check_cut", defArgs s__check_cut, defBody s__check_cut, defScope s__check_cut, [], []⟩
def d__turns : He.DefD := ⟨("_turns", none), "_turns", "_turns", defArgs s__turns, defBody s__turns, defScope s__turns, [], []⟩
def d__split : He.DefD := ⟨("_split", none), "_split", "_split", defArgs s__split, defBody s__split, defScope s__split, [], []⟩
def d__split_step : He.DefD := ⟨("_split_step", none), "_split_step", "_split_step", defArgs s__split_step, defBody s__split_step, defScope s__split_step, [], []⟩
def d_prefix : He.DefD := ⟨("prefix", none), "prefix", "prefix", defArgs s_prefix, defBody s_prefix, defScope s_prefix, [], []⟩
def d_suffix : He.DefD := ⟨("suffix", none), "suffix", "suffix", defArgs s_suffix, defBody s_suffix, defScope s_suffix, [], []⟩
def d__law_pool : He.DefD := ⟨("_law_pool", none), "_law_pool", "_law_pool", defArgs s__law_pool, defBody s__law_pool, defScope s__law_pool, [], []⟩
def d__law_draw : He.DefD := ⟨("_law_draw", none), "_law_draw", "_law_draw", defArgs s__law_draw, defBody s__law_draw, defScope s__law_draw, [], []⟩
def d__law_random_program : He.DefD := ⟨("_law_random_program", none), "_law_random_program", "_law_random_program", defArgs s__law_random_program, defBody s__law_random_program, defScope s__law_random_program, [], []⟩
def d__law_great_program : He.DefD := ⟨("_law_great_program", none), "_law_great_program", "_law_great_program", defArgs s__law_great_program, defBody s__law_great_program, defScope s__law_great_program, [], []⟩
def d__law_expanded : He.DefD := ⟨("_law_expanded", none), "_law_expanded", "_law_expanded", defArgs s__law_expanded, defBody s__law_expanded, defScope s__law_expanded, [], []⟩
def d__law_out : He.DefD := ⟨("_law_out", none), "_law_out", "_law_out", defArgs s__law_out, defBody s__law_out, defScope s__law_out, [], []⟩
def d__law_cut_holds : He.DefD := ⟨("_law_cut_holds", none), "_law_cut_holds", "_law_cut_holds", defArgs s__law_cut_holds, defBody s__law_cut_holds, defScope s__law_cut_holds, [], []⟩
def d_law : He.DefD := ⟨("law", none), "law", "law", defArgs s_law, defBody s_law, defScope s_law, [], []⟩
def d_InvalidCount : He.DefD := ⟨("InvalidCount", some "__init__"), "__init__", "InvalidCount.__init__", defArgs s_InvalidCount, defBody s_InvalidCount, defScope s_InvalidCount, [], []⟩
def d_InvalidProgram : He.DefD := ⟨("InvalidProgram", some "__init__"), "__init__", "InvalidProgram.__init__", defArgs s_InvalidProgram, defBody s_InvalidProgram, defScope s_InvalidProgram, [], []⟩
def d_OutOfRange : He.DefD := ⟨("OutOfRange", some "__init__"), "__init__", "OutOfRange.__init__", defArgs s_OutOfRange, defBody s_OutOfRange, defScope s_OutOfRange, [], []⟩
def d_LimitExceeded : He.DefD := ⟨("LimitExceeded", some "__init__"), "__init__", "LimitExceeded.__init__", defArgs s_LimitExceeded, defBody s_LimitExceeded, defScope s_LimitExceeded, [], []⟩
def fn : List He.DefD := [d_is_number, d_is_count, d_check_count, d__has_form, d__is_insertion, d__is_removal, d__is_repeat, d__first_invalid, d__invalid_in, d_check_program, d__totals, d__totals_of_step, d__length, d_step_count, d_insertion_count, d__step_length, d__expanded, d__expanded_step, d_expand, d__find, d__elementary, d_step_at, d__check_cut, d__turns, d__split, d__split_step, d_prefix, d_suffix, d__law_pool, d__law_draw, d__law_random_program, d__law_great_program, d__law_expanded, d__law_out, d__law_cut_holds, d_law, d_InvalidCount, d_InvalidProgram, d_OutOfRange, d_LimitExceeded]
def fa : List He.Fa := [.glo "is_number", .glo "is_count", .glo "check_count", .glo "has_form", .glo "_is_insertion", .glo "_is_removal", .glo "_is_repeat", .glo "_first_invalid", .glo "_invalid_in", .glo "check_program", .glo "totals", .glo "totals_of_step", .glo "_length", .glo "step_count", .glo "insertion_count", .glo "_step_length", .glo "_expanded", .glo "_expanded_step", .glo "expand", .glo "_find", .glo "_elementary", .glo "step_at", .glo "_check_cut", .glo "_turns", .glo "_split", .glo "_split_step", .glo "prefix", .glo "suffix", .glo "_law_pool", .glo "_law_draw", .glo "_law_random_program", .glo "_law_great_program", .glo "_law_expanded", .glo "_law_out", .glo "_law_cut_holds", .glo "law", .glo "InvalidCount", .glo "InvalidProgram", .glo "OutOfRange", .glo "LimitExceeded", .glo "HeapError", .free "IndexError", .free "OverflowError", .free "abs", .free "bool", .free "divmod", .free "enumerate", .free "int", .free "isinstance", .free "len", .free "max", .free "min", .free "range", .free "repr", .free "str", .free "sum", .free "tuple", .int "DEEPEST" 8]
def exs : List (PySem.W.Frag → Bool) := [fun K => xcB K (He.ga K "InvalidCount") [.type "ValueError", .type "Exception", .type "BaseException", .type "object"] "ValueError.__new__", fun K => xiB K (He.ga K "InvalidCount") (He.fAd K ("InvalidCount", some "__init__")) "value", fun K => xfB K (He.ga K "InvalidCount"), fun K => xcB K (He.ga K "InvalidProgram") [.type "ValueError", .type "Exception", .type "BaseException", .type "object"] "ValueError.__new__", fun K => xiB K (He.ga K "InvalidProgram") (He.fAd K ("InvalidProgram", some "__init__")) "path", fun K => xfB K (He.ga K "InvalidProgram"), fun K => xcB K (He.ga K "OutOfRange") [.type "IndexError", .type "LookupError", .type "Exception", .type "BaseException", .type "object"] "IndexError.__new__", fun K => xiB K (He.ga K "OutOfRange") (He.fAd K ("OutOfRange", some "__init__")) "value", fun K => xfB K (He.ga K "OutOfRange"), fun K => xcB K (He.ga K "LimitExceeded") [.type "OverflowError", .type "ArithmeticError", .type "Exception", .type "BaseException", .type "object"] "OverflowError.__new__", fun K => xiB K (He.ga K "LimitExceeded") (He.fAd K ("LimitExceeded", some "__init__")) "count", fun K => xfB K (He.ga K "LimitExceeded"), fun K => rdB K (He.ga K "HeapError"), fun K => fcB K (.ref (He.ga K "HeapError")) "ValueError.__init__", fun K => fcB K (.type "IndexError") "IndexError.__init__", fun K => fcB K (.type "OverflowError") "OverflowError.__init__", fun K => exB K (He.ga K "InvalidCount") (He.ga K "OutOfRange") false, fun K => exB K (He.ga K "InvalidProgram") (He.ga K "OutOfRange") false, fun K => exB K (He.ga K "OutOfRange") (He.ga K "OutOfRange") true, fun K => exB K (He.ga K "LimitExceeded") (He.ga K "OutOfRange") false]
structure Facts (K : PySem.W.Frag) (mg : Str → Option Value) : Prop where
  ex : ∃ h : Heap, K.In h ∧ h.Ns mainGlobals mg
  c : He.SaysD fa fn K
  t : exs.all (fun t => t K) = true
section
variable {K : PySem.W.Frag} {mg : Str → Option Value}
theorem Facts.glo (A : Facts K mg) {x : Str} (c : (He.Fa.glo x).ok K = true) : mg x = some (.ref (He.ga K x)) := by
  obtain ⟨h, X, G⟩ := A.ex
  exact He.glo_ok X G c
theorem Facts.free (A : Facts K mg) {x : Str} (c : (He.Fa.free x).ok K = true) : mg x = none := by
  obtain ⟨h, X, G⟩ := A.ex
  exact He.free_ok X G c
theorem Facts.int (A : Facts K mg) {x : Str} {i : Int} (c : (He.Fa.int x i).ok K = true) : ∃ t, mg x = some (.int i t) := by
  obtain ⟨h, X, G⟩ := A.ex
  exact He.int_ok X G c
theorem m_IndexError (A : Facts K mg) : mg "IndexError" = none := A.free (A.c.fact 41 (f := .free "IndexError") rfl)
theorem m_OverflowError (A : Facts K mg) : mg "OverflowError" = none := A.free (A.c.fact 42 (f := .free "OverflowError") rfl)
theorem m_abs (A : Facts K mg) : mg "abs" = none := A.free (A.c.fact 43 (f := .free "abs") rfl)
theorem m_bool (A : Facts K mg) : mg "bool" = none := A.free (A.c.fact 44 (f := .free "bool") rfl)
theorem m_divmod (A : Facts K mg) : mg "divmod" = none := A.free (A.c.fact 45 (f := .free "divmod") rfl)
theorem m_enumerate (A : Facts K mg) : mg "enumerate" = none := A.free (A.c.fact 46 (f := .free "enumerate") rfl)
theorem m_int (A : Facts K mg) : mg "int" = none := A.free (A.c.fact 47 (f := .free "int") rfl)
theorem m_isinstance (A : Facts K mg) : mg "isinstance" = none := A.free (A.c.fact 48 (f := .free "isinstance") rfl)
theorem m_len (A : Facts K mg) : mg "len" = none := A.free (A.c.fact 49 (f := .free "len") rfl)
theorem m_max (A : Facts K mg) : mg "max" = none := A.free (A.c.fact 50 (f := .free "max") rfl)
theorem m_min (A : Facts K mg) : mg "min" = none := A.free (A.c.fact 51 (f := .free "min") rfl)
theorem m_range (A : Facts K mg) : mg "range" = none := A.free (A.c.fact 52 (f := .free "range") rfl)
theorem m_repr (A : Facts K mg) : mg "repr" = none := A.free (A.c.fact 53 (f := .free "repr") rfl)
theorem m_str (A : Facts K mg) : mg "str" = none := A.free (A.c.fact 54 (f := .free "str") rfl)
theorem m_sum (A : Facts K mg) : mg "sum" = none := A.free (A.c.fact 55 (f := .free "sum") rfl)
theorem m_tuple (A : Facts K mg) : mg "tuple" = none := A.free (A.c.fact 56 (f := .free "tuple") rfl)
theorem g_DEEPEST (A : Facts K mg) : ∃ t, mg "DEEPEST" = some (.int 8 t) := A.int (A.c.fact 57 (f := .int "DEEPEST" 8) rfl)
theorem mgx_InvalidCount (A : Facts K mg) : mg "InvalidCount" = some (.ref (He.ga K "InvalidCount")) := A.glo (A.c.fact 36 (f := .glo "InvalidCount") rfl)
theorem mgx_InvalidProgram (A : Facts K mg) : mg "InvalidProgram" = some (.ref (He.ga K "InvalidProgram")) := A.glo (A.c.fact 37 (f := .glo "InvalidProgram") rfl)
theorem mgx_OutOfRange (A : Facts K mg) : mg "OutOfRange" = some (.ref (He.ga K "OutOfRange")) := A.glo (A.c.fact 38 (f := .glo "OutOfRange") rfl)
theorem mgx_LimitExceeded (A : Facts K mg) : mg "LimitExceeded" = some (.ref (He.ga K "LimitExceeded")) := A.glo (A.c.fact 39 (f := .glo "LimitExceeded") rfl)
theorem mgx_HeapError (A : Facts K mg) : mg "HeapError" = some (.ref (He.ga K "HeapError")) := A.glo (A.c.fact 40 (f := .glo "HeapError") rfl)
end
abbrev cf (K : PySem.W.Frag) : Cfg := { K := K, ct := fun _ => 0, xt := fun n => match n with | 0 => .ref (He.ga K "InvalidCount") | 1 => .ref (He.ga K "InvalidProgram") | 2 => .ref (He.ga K "OutOfRange") | 3 => .ref (He.ga K "LimitExceeded") | _ => .none, ga := He.ga K }
section
variable {K : PySem.W.Frag} {mg : Str → Option Value}
theorem xc_InvalidCount (A : Facts K mg) : XC K "ValueError" "ValueError.__new__" "ValueError.__init__" [.type "ValueError", .type "Exception", .type "BaseException", .type "object"] (He.ga K "InvalidCount") := xcB_ok PySem.F.excBase_ValueError PySem.F.store_ValueError (ex_at A.t 0)
theorem no_InvalidCount (A : Facts K mg) : PySem.W.findIn K (.ref (He.ga K "InvalidCount")) "value" = some none := (xiB_ok (ex_at A.t 1)).1
theorem xf_InvalidCount (A : Facts K mg) : XfC K (He.ga K "InvalidCount") := xfB_ok (ex_at A.t 2)
theorem xc_InvalidProgram (A : Facts K mg) : XC K "ValueError" "ValueError.__new__" "ValueError.__init__" [.type "ValueError", .type "Exception", .type "BaseException", .type "object"] (He.ga K "InvalidProgram") := xcB_ok PySem.F.excBase_ValueError PySem.F.store_ValueError (ex_at A.t 3)
theorem no_InvalidProgram (A : Facts K mg) : PySem.W.findIn K (.ref (He.ga K "InvalidProgram")) "path" = some none := (xiB_ok (ex_at A.t 4)).1
theorem xf_InvalidProgram (A : Facts K mg) : XfC K (He.ga K "InvalidProgram") := xfB_ok (ex_at A.t 5)
theorem xc_OutOfRange (A : Facts K mg) : XC K "IndexError" "IndexError.__new__" "IndexError.__init__" [.type "IndexError", .type "LookupError", .type "Exception", .type "BaseException", .type "object"] (He.ga K "OutOfRange") := xcB_ok PySem.F.excBase_IndexError PySem.F.store_IndexError (ex_at A.t 6)
theorem no_OutOfRange (A : Facts K mg) : PySem.W.findIn K (.ref (He.ga K "OutOfRange")) "value" = some none := (xiB_ok (ex_at A.t 7)).1
theorem xf_OutOfRange (A : Facts K mg) : XfC K (He.ga K "OutOfRange") := xfB_ok (ex_at A.t 8)
theorem xc_LimitExceeded (A : Facts K mg) : XC K "OverflowError" "OverflowError.__new__" "OverflowError.__init__" [.type "OverflowError", .type "ArithmeticError", .type "Exception", .type "BaseException", .type "object"] (He.ga K "LimitExceeded") := xcB_ok PySem.F.excBase_OverflowError PySem.F.store_OverflowError (ex_at A.t 9)
theorem no_LimitExceeded (A : Facts K mg) : PySem.W.findIn K (.ref (He.ga K "LimitExceeded")) "count" = some none := (xiB_ok (ex_at A.t 10)).1
theorem xf_LimitExceeded (A : Facts K mg) : XfC K (He.ga K "LimitExceeded") := xfB_ok (ex_at A.t 11)
def cat_OutOfRange : Nat → Option Bool
  | 0 => some false
  | 1 => some false
  | 2 => some true
  | 3 => some false
  | _ => none
theorem cat_OutOfRange_ok (A : Facts K mg) : ∀ m b, cat_OutOfRange m = some b → PySem.W.exmOne K ((cf K).xt m) (.ref (He.ga K "OutOfRange")) = some b := by
  intro m b h
  unfold cat_OutOfRange at h
  split at h
  · cases h; exact exB_ok (ex_at A.t 16)
  · cases h; exact exB_ok (ex_at A.t 17)
  · cases h; exact exB_ok (ex_at A.t 18)
  · cases h; exact exB_ok (ex_at A.t 19)
  · cases h
theorem xt_OutOfRange {m : Nat} (h : cat_OutOfRange m = some true) : (cf K).xt m = .ref (He.ga K "OutOfRange") := by
  unfold cat_OutOfRange at h
  split at h
  · cases h
  · cases h
  · rfl
  · cases h
  · cases h
end
section
variable {X : Cx}
theorem sc_InvalidCount : FnScope ["self", "value"] ["self", "value"] (defScope s_InvalidCount) := ⟨rfl, rfl, rfl, by decide +kernel, rfl, by decide +kernel, by decide +kernel⟩
theorem mkx_InvalidCount (A0 : Facts X.K X.mg) {k : Nat} {e : Expr} {ta : TA} {p pos : Pos} (hr : Room k X.A) (hk : 2 ≤ k) (hg : Gl X "InvalidCount") (ha : PA X [e] ta)
    (he : starEach [e] X.env = (false, eval e X.env) :: starEach [] X.env := by rfl) (hpl : (backTo pos (starEach [] X.env)).any (·.1) = false := by rfl) : PMk X (.Call (.Name "InvalidCount" p) [e] [] pos) (tMk (He.ga X.K "InvalidCount") "value" ta) := by
  obtain ⟨fd, F⟩ := A0.c.def_ 36 (d := d_InvalidCount) rfl
  obtain ⟨_, iC, tI⟩ := xiB_ok (ex_at A0.t 1)
  have bd : Binds X.K fd ["self", "value"] [] := F.bindsN fun _ _ _ _ _ _ us hl => match us, hl with | [_, _], _ => rfl
  have I := init_fn (P := X.prog) (w := X.w) (mg := X.mg) (base := X.base) F sc_InvalidCount fun cdv A outer s H E => pss_cons (ps_expr (pe_xi (xc_InvalidCount A0) (initAt_own (by rfl) (mgx_HeapError A0) (by decide) (rdB_ok (ex_at A0.t 12)).1 (rdB_ok (ex_at A0.t 12)).2 (fcB_ok (ex_at A0.t 13)) (by decide +kernel)) (pa_cons (pv 0) (pa_cons pe_str pa_nil)))) (pss_one (x_ost (xc_InvalidCount A0) (no_InvalidCount A0) (pv 0) (pv 1)))
  exact x_make (xc_InvalidCount A0) iC tI I (hr.mono hk) bd passL hg (mgx_InvalidCount A0) ha (he := he) (hpl := hpl)
theorem sc_InvalidProgram : FnScope ["self", "path"] ["self", "path"] (defScope s_InvalidProgram) := ⟨rfl, rfl, rfl, by decide +kernel, rfl, by decide +kernel, by decide +kernel⟩
theorem mkx_InvalidProgram (A0 : Facts X.K X.mg) {k : Nat} {e : Expr} {ta : TA} {p pos : Pos} (hr : Room k X.A) (hk : 2 ≤ k) (hg : Gl X "InvalidProgram") (ha : PA X [e] ta)
    (he : starEach [e] X.env = (false, eval e X.env) :: starEach [] X.env := by rfl) (hpl : (backTo pos (starEach [] X.env)).any (·.1) = false := by rfl) : PMk X (.Call (.Name "InvalidProgram" p) [e] [] pos) (tMk (He.ga X.K "InvalidProgram") "path" ta) := by
  obtain ⟨fd, F⟩ := A0.c.def_ 37 (d := d_InvalidProgram) rfl
  obtain ⟨_, iC, tI⟩ := xiB_ok (ex_at A0.t 4)
  have bd : Binds X.K fd ["self", "path"] [] := F.bindsN fun _ _ _ _ _ _ us hl => match us, hl with | [_, _], _ => rfl
  have I := init_fn (P := X.prog) (w := X.w) (mg := X.mg) (base := X.base) F sc_InvalidProgram fun cdv A outer s H E => pss_cons (ps_expr (pe_xi (xc_InvalidProgram A0) (initAt_own (by rfl) (mgx_HeapError A0) (by decide) (rdB_ok (ex_at A0.t 12)).1 (rdB_ok (ex_at A0.t 12)).2 (fcB_ok (ex_at A0.t 13)) (by decide +kernel)) (pa_cons (pv 0) (pa_cons pe_str pa_nil)))) (pss_one (x_ost (xc_InvalidProgram A0) (no_InvalidProgram A0) (pv 0) (pv 1)))
  exact x_make (xc_InvalidProgram A0) iC tI I (hr.mono hk) bd passL hg (mgx_InvalidProgram A0) ha (he := he) (hpl := hpl)
theorem sc_OutOfRange : FnScope ["self", "value"] ["self", "value"] (defScope s_OutOfRange) := ⟨rfl, rfl, rfl, by decide +kernel, rfl, by decide +kernel, by decide +kernel⟩
theorem mkx_OutOfRange (A0 : Facts X.K X.mg) {k : Nat} {e : Expr} {ta : TA} {p pos : Pos} (hr : Room k X.A) (hk : 2 ≤ k) (hg : Gl X "OutOfRange") (ha : PA X [e] ta)
    (he : starEach [e] X.env = (false, eval e X.env) :: starEach [] X.env := by rfl) (hpl : (backTo pos (starEach [] X.env)).any (·.1) = false := by rfl) : PMk X (.Call (.Name "OutOfRange" p) [e] [] pos) (tMk (He.ga X.K "OutOfRange") "value" ta) := by
  obtain ⟨fd, F⟩ := A0.c.def_ 38 (d := d_OutOfRange) rfl
  obtain ⟨_, iC, tI⟩ := xiB_ok (ex_at A0.t 7)
  have bd : Binds X.K fd ["self", "value"] [] := F.bindsN fun _ _ _ _ _ _ us hl => match us, hl with | [_, _], _ => rfl
  have I := init_fn (P := X.prog) (w := X.w) (mg := X.mg) (base := X.base) F sc_OutOfRange fun cdv A outer s H E => pss_cons (ps_expr (pe_xi (xc_OutOfRange A0) (initAt_bltn (T := "IndexError") (by rfl) (m_IndexError A0) (by decide +kernel) (by decide) (by decide) (by kernel_rfl) (by decide +kernel) (fcB_ok (ex_at A0.t 14)) (by decide +kernel)) (pa_cons (pv 0) (pa_cons pe_str pa_nil)))) (pss_one (x_ost (xc_OutOfRange A0) (no_OutOfRange A0) (pv 0) (pv 1)))
  exact x_make (xc_OutOfRange A0) iC tI I (hr.mono hk) bd passL hg (mgx_OutOfRange A0) ha (he := he) (hpl := hpl)
theorem sc_LimitExceeded : FnScope ["self", "count"] ["self", "count"] (defScope s_LimitExceeded) := ⟨rfl, rfl, rfl, by decide +kernel, rfl, by decide +kernel, by decide +kernel⟩
theorem mkx_LimitExceeded (A0 : Facts X.K X.mg) {k : Nat} {e : Expr} {ta : TA} {p pos : Pos} (hr : Room k X.A) (hk : 2 ≤ k) (hg : Gl X "LimitExceeded") (ha : PA X [e] ta)
    (he : starEach [e] X.env = (false, eval e X.env) :: starEach [] X.env := by rfl) (hpl : (backTo pos (starEach [] X.env)).any (·.1) = false := by rfl) : PMk X (.Call (.Name "LimitExceeded" p) [e] [] pos) (tMk (He.ga X.K "LimitExceeded") "count" ta) := by
  obtain ⟨fd, F⟩ := A0.c.def_ 39 (d := d_LimitExceeded) rfl
  obtain ⟨_, iC, tI⟩ := xiB_ok (ex_at A0.t 10)
  have bd : Binds X.K fd ["self", "count"] [] := F.bindsN fun _ _ _ _ _ _ us hl => match us, hl with | [_, _], _ => rfl
  have I := init_fn (P := X.prog) (w := X.w) (mg := X.mg) (base := X.base) F sc_LimitExceeded fun cdv A outer s H E => pss_cons (ps_expr (pe_xi (xc_LimitExceeded A0) (initAt_bltn (T := "OverflowError") (by rfl) (m_OverflowError A0) (by decide +kernel) (by decide) (by decide) (by kernel_rfl) (by decide +kernel) (fcB_ok (ex_at A0.t 15)) (by decide +kernel)) (pa_cons (pv 0) (pa_cons pe_str pa_nil)))) (pss_one (x_ost (xc_LimitExceeded A0) (no_LimitExceeded A0) (pv 0) (pv 1)))
  exact x_make (xc_LimitExceeded A0) iC tI I (hr.mono hk) bd passL hg (mgx_LimitExceeded A0) ha (he := he) (hpl := hpl)
end
section
variable {P : Program} {w : World} {K : PySem.W.Frag} {mg : Str → Option Value} {base : Heap}
abbrev N_is_number : List Str := ["value"]
theorem sc_is_number : FnScope N_is_number ["value"] (defScope s_is_number) := ⟨rfl, rfl, rfl, by decide +kernel, rfl, by decide +kernel, by decide +kernel⟩
def b_is_number : SM := sSeq (sRet (mAndV (mCall isiD (aCons (mVar 0) (aCons (mC (.ty "int")) (aNil)))) (mNotV (mCall isiD (aCons (mVar 0) (aCons (mC (.ty "bool")) (aNil))))))) (sNil)
def F_is_number : FM := runF 1 b_is_number
theorem fn_is_number (A0 : Facts K mg) {fd : FuncData} (F : FunD K d_is_number.name d_is_number.qual d_is_number.params d_is_number.body d_is_number.scope (d_is_number.dvs K) (d_is_number.kws K) (He.fAd K d_is_number.at_) fd) : FnOk P w K mg base (L2.CX P w) 1 (He.fAd K d_is_number.at_) fd ["value"] (spM (cf K) 1 F_is_number) := by
  refine mk_fnD (k := 0) F sc_is_number rfl rfl fun cdv A outer s H E hr => ?_
  have tk := tk_of (P := P) (w := w) (K := K) (mg := mg) (base := base) (N := N_is_number) (qual := "is_number") (scope := defScope s_is_number) (f := He.ga K "is_number") (cdv := cdv) (A := A) (outer := outer) (s := s) (H := H) (E := E)
  exact (dss_cons (ds_ret (de_and (de_callB (d_isi rfl) (by rfl) (m_isinstance A0) bt_isinstance (da_cons (de_var (pv 0)) (da_cons (de_ty (by rfl) (m_int A0) bt_int) da_nil))) (pe_one (de_not (de_callB (d_isi rfl) (by rfl) (m_isinstance A0) bt_isinstance (da_cons (de_var (pv 0)) (da_cons (de_ty (by rfl) (m_bool A0) bt_bool) da_nil))))))) dss_nil)
theorem cal_is_number (A0 : Facts K mg) : Cal P w K mg base (cf K) "is_number" 1 ["value"] 1 F_is_number [] := by
  obtain ⟨fd, F⟩ := A0.c.def_ 0 (d := d_is_number) rfl
  have hm : mg "is_number" = some (.ref (He.ga K "is_number")) := A0.glo (A0.c.fact 0 (f := .glo "is_number") rfl)
  have bd : Binds K fd ["value"] [] := F.bindsN fun _ _ _ _ _ _ us hl => match us, hl with | [_], _ => rfl
  refine ⟨_, fd, [], [], hm, F.kp, ?_, bd, .nil, fun _ => .nil⟩
  exact fn_is_number A0 F
abbrev N_is_count : List Str := ["value"]
theorem sc_is_count : FnScope N_is_count ["value"] (defScope s_is_count) := ⟨rfl, rfl, rfl, by decide +kernel, rfl, by decide +kernel, by decide +kernel⟩
def b_is_count : SM := sSeq (sRet (mAndV (mFnD F_is_number [] (aCons (mVar 0) (aNil))) (mBin geI (mVar 0) (mC (.int 0))))) (sNil)
def F_is_count : FM := runF 1 b_is_count
theorem fn_is_count (A0 : Facts K mg) {fd : FuncData} (F : FunD K d_is_count.name d_is_count.qual d_is_count.params d_is_count.body d_is_count.scope (d_is_count.dvs K) (d_is_count.kws K) (He.fAd K d_is_count.at_) fd) : FnOk P w K mg base (L2.CX P w) 2 (He.fAd K d_is_count.at_) fd ["value"] (spM (cf K) 1 F_is_count) := by
  refine mk_fnD (k := 1) F sc_is_count rfl rfl fun cdv A outer s H E hr => ?_
  have tk := tk_of (P := P) (w := w) (K := K) (mg := mg) (base := base) (N := N_is_count) (qual := "is_count") (scope := defScope s_is_count) (f := He.ga K "is_count") (cdv := cdv) (A := A) (outer := outer) (s := s) (H := H) (E := E)
  exact (dss_cons (ds_ret (de_and (de_callA (Cal.at (cal_is_number (base := base) A0) hr (by decide)) (by rfl) tk (da_cons (de_var (pv 0)) da_nil) (fun h => by rw [alen1 h]; rfl)) (pe_one (de_cmp d_geI (de_var (pv 0)) de_int (nomark _))))) dss_nil)
theorem cal_is_count (A0 : Facts K mg) : Cal P w K mg base (cf K) "is_count" 2 ["value"] 1 F_is_count [] := by
  obtain ⟨fd, F⟩ := A0.c.def_ 1 (d := d_is_count) rfl
  have hm : mg "is_count" = some (.ref (He.ga K "is_count")) := A0.glo (A0.c.fact 1 (f := .glo "is_count") rfl)
  have bd : Binds K fd ["value"] [] := F.bindsN fun _ _ _ _ _ _ us hl => match us, hl with | [_], _ => rfl
  refine ⟨_, fd, [], [], hm, F.kp, ?_, bd, .nil, fun _ => .nil⟩
  exact fn_is_count A0 F
abbrev N_check_count : List Str := ["count"]
theorem sc_check_count : FnScope N_check_count ["count"] (defScope s_check_count) := ⟨rfl, rfl, rfl, by decide +kernel, rfl, by decide +kernel, by decide +kernel⟩
def b_check_count : SM := sSeq (sIf (tNotM (tTru (mFnD F_is_count [] (aCons (mVar 0) (aNil))))) (sSeq (sRaise 0 "value" (mVar 0)) (sNil)) (sNil)) (sNil)
def F_check_count : FM := runF 1 b_check_count
theorem fn_check_count (A0 : Facts K mg) {fd : FuncData} (F : FunD K d_check_count.name d_check_count.qual d_check_count.params d_check_count.body d_check_count.scope (d_check_count.dvs K) (d_check_count.kws K) (He.fAd K d_check_count.at_) fd) : FnOk P w K mg base (L2.CX P w) 3 (He.fAd K d_check_count.at_) fd ["count"] (spM (cf K) 1 F_check_count) := by
  refine mk_fnD (k := 2) F sc_check_count rfl rfl fun cdv A outer s H E hr => ?_
  have tk := tk_of (P := P) (w := w) (K := K) (mg := mg) (base := base) (N := N_check_count) (qual := "check_count") (scope := defScope s_check_count) (f := He.ga K "check_count") (cdv := cdv) (A := A) (outer := outer) (s := s) (H := H) (E := E)
  exact (dss_cons (ds_if (dt_not (dt_tru rfl (de_callA (Cal.at (cal_is_count (base := base) A0) hr (by decide)) (by rfl) tk (da_cons (de_var (pv 0)) da_nil) (fun h => by rw [alen1 h]; rfl)) (fun _ => rfl))) (dss_cons (ds_raise rfl tk (fun h => mkx_InvalidCount A0 hr (by decide) (by rfl) h) rfl (de_var (pv 0))) dss_nil) dss_nil) dss_nil)
theorem cal_check_count (A0 : Facts K mg) : Cal P w K mg base (cf K) "check_count" 3 ["count"] 1 F_check_count [] := by
  obtain ⟨fd, F⟩ := A0.c.def_ 2 (d := d_check_count) rfl
  have hm : mg "check_count" = some (.ref (He.ga K "check_count")) := A0.glo (A0.c.fact 2 (f := .glo "check_count") rfl)
  have bd : Binds K fd ["count"] [] := F.bindsN fun _ _ _ _ _ _ us hl => match us, hl with | [_], _ => rfl
  refine ⟨_, fd, [], [], hm, F.kp, ?_, bd, .nil, fun _ => .nil⟩
  exact fn_check_count A0 F
abbrev N__has_form : List Str := ["step", "word", "size"]
theorem sc__has_form : FnScope N__has_form ["step", "word", "size"] (defScope s__has_form) := ⟨rfl, rfl, rfl, by decide +kernel, rfl, by decide +kernel, by decide +kernel⟩
def b__has_form : SM := sSeq (sIf (tOrM (tNotM (tTru (mCall isiD (aCons (mVar 0) (aCons (mC (.ty "tuple")) (aNil)))))) (tCmpM neD (mCall lenD (aCons (mVar 0) (aNil))) (mVar 2))) (sSeq (sRet (mC (.bl false))) (sNil)) (sNil)) (sSeq (sRet (mAndV (mCall isiD (aCons (mBin ixD (mVar 0) (mC (.int 0))) (aCons (mC (.ty "str")) (aNil)))) (mBin eqD (mBin ixD (mVar 0) (mC (.int 0))) (mVar 1)))) (sNil))
def F__has_form : FM := runF 3 b__has_form
theorem fn__has_form (A0 : Facts K mg) {fd : FuncData} (F : FunD K d__has_form.name d__has_form.qual d__has_form.params d__has_form.body d__has_form.scope (d__has_form.dvs K) (d__has_form.kws K) (He.fAd K d__has_form.at_) fd) : FnOk P w K mg base (L2.CX P w) 1 (He.fAd K d__has_form.at_) fd ["step", "word", "size"] (spM (cf K) 3 F__has_form) := by
  refine mk_fnD (k := 0) F sc__has_form rfl rfl fun cdv A outer s H E hr => ?_
  have tk := tk_of (P := P) (w := w) (K := K) (mg := mg) (base := base) (N := N__has_form) (qual := "has_form") (scope := defScope s__has_form) (f := He.ga K "has_form") (cdv := cdv) (A := A) (outer := outer) (s := s) (H := H) (E := E)
  exact (dss_cons (ds_if (PW.pt (dw_or (dt_not (dt_tru rfl (de_callB (d_isi rfl) (by rfl) (m_isinstance A0) bt_isinstance (da_cons (de_var (pv 0)) (da_cons (de_ty (by rfl) (m_tuple A0) bt_tuple) da_nil))) (fun _ => rfl))) (dw_or1 (dt_cmp (d_neD rfl (hu64 hr)) (de_callB (d_len rfl) (by rfl) (m_len A0) bt_len (da_cons (de_var (pv 0)) da_nil)) (de_var (pv 2)) (nomark _))))) (dss_cons (ds_ret de_bl) dss_nil) dss_nil) (dss_cons (ds_ret (de_and (de_callB (d_isi rfl) (by rfl) (m_isinstance A0) bt_isinstance (da_cons (de_ix (d_ix rfl) (de_var (pv 0)) de_int (fun _ _ => rfl)) (da_cons (de_ty (by rfl) (m_str A0) bt_str) da_nil))) (pe_one (de_cmp (d_eqD rfl (hu64 hr)) (de_ix (d_ix rfl) (de_var (pv 0)) de_int (fun _ _ => rfl)) (de_var (pv 1)) (nomark _))))) dss_nil))
theorem cal__has_form (A0 : Facts K mg) : Cal P w K mg base (cf K) "has_form" 1 ["step", "word", "size"] 3 F__has_form [] := by
  obtain ⟨fd, F⟩ := A0.c.def_ 3 (d := d__has_form) rfl
  have hm : mg "has_form" = some (.ref (He.ga K "has_form")) := A0.glo (A0.c.fact 3 (f := .glo "has_form") rfl)
  have bd : Binds K fd ["step", "word", "size"] [] := F.bindsN fun _ _ _ _ _ _ us hl => match us, hl with | [_, _, _], _ => rfl
  refine ⟨_, fd, [], [], hm, F.kp, ?_, bd, .nil, fun _ => .nil⟩
  exact fn__has_form A0 F
abbrev N__is_insertion : List Str := ["step"]
theorem sc__is_insertion : FnScope N__is_insertion ["step"] (defScope s__is_insertion) := ⟨rfl, rfl, rfl, by decide +kernel, rfl, by decide +kernel, by decide +kernel⟩
def b__is_insertion : SM := sSeq (sRet (mAndV (mFnD F__has_form [] (aCons (mVar 0) (aCons (mC (.str "insert")) (aCons (mC (.int 3)) (aNil))))) (mAndV (mFnD F_is_number [] (aCons (mBin ixD (mVar 0) (mC (.int 1))) (aNil))) (mFnD F_is_count [] (aCons (mBin ixD (mVar 0) (mC (.int 2))) (aNil)))))) (sNil)
def F__is_insertion : FM := runF 1 b__is_insertion
theorem fn__is_insertion (A0 : Facts K mg) {fd : FuncData} (F : FunD K d__is_insertion.name d__is_insertion.qual d__is_insertion.params d__is_insertion.body d__is_insertion.scope (d__is_insertion.dvs K) (d__is_insertion.kws K) (He.fAd K d__is_insertion.at_) fd) : FnOk P w K mg base (L2.CX P w) 3 (He.fAd K d__is_insertion.at_) fd ["step"] (spM (cf K) 1 F__is_insertion) := by
  refine mk_fnD (k := 2) F sc__is_insertion rfl rfl fun cdv A outer s H E hr => ?_
  have tk := tk_of (P := P) (w := w) (K := K) (mg := mg) (base := base) (N := N__is_insertion) (qual := "_is_insertion") (scope := defScope s__is_insertion) (f := He.ga K "_is_insertion") (cdv := cdv) (A := A) (outer := outer) (s := s) (H := H) (E := E)
  exact (dss_cons (ds_ret (de_and (de_callA (Cal.at (cal__has_form (base := base) A0) hr (by decide)) (by rfl) tk (da_cons (de_var (pv 0)) (da_cons de_str (da_cons de_int da_nil))) (fun h => by rw [alen3 h]; rfl)) (de_and (de_callA (Cal.at (cal_is_number (base := base) A0) hr (by decide)) (by rfl) tk (da_cons (de_ix (d_ix rfl) (de_var (pv 0)) de_int (fun _ _ => rfl)) da_nil) (fun h => by rw [alen1 h]; rfl)) (pe_one (de_callA (Cal.at (cal_is_count (base := base) A0) hr (by decide)) (by rfl) tk (da_cons (de_ix (d_ix rfl) (de_var (pv 0)) de_int (fun _ _ => rfl)) da_nil) (fun h => by rw [alen1 h]; rfl)))))) dss_nil)
theorem cal__is_insertion (A0 : Facts K mg) : Cal P w K mg base (cf K) "_is_insertion" 3 ["step"] 1 F__is_insertion [] := by
  obtain ⟨fd, F⟩ := A0.c.def_ 4 (d := d__is_insertion) rfl
  have hm : mg "_is_insertion" = some (.ref (He.ga K "_is_insertion")) := A0.glo (A0.c.fact 4 (f := .glo "_is_insertion") rfl)
  have bd : Binds K fd ["step"] [] := F.bindsN fun _ _ _ _ _ _ us hl => match us, hl with | [_], _ => rfl
  refine ⟨_, fd, [], [], hm, F.kp, ?_, bd, .nil, fun _ => .nil⟩
  exact fn__is_insertion A0 F
abbrev N__is_removal : List Str := ["step"]
theorem sc__is_removal : FnScope N__is_removal ["step"] (defScope s__is_removal) := ⟨rfl, rfl, rfl, by decide +kernel, rfl, by decide +kernel, by decide +kernel⟩
def b__is_removal : SM := sSeq (sRet (mAndV (mFnD F__has_form [] (aCons (mVar 0) (aCons (mC (.str "remove")) (aCons (mC (.int 2)) (aNil))))) (mFnD F_is_count [] (aCons (mBin ixD (mVar 0) (mC (.int 1))) (aNil))))) (sNil)
def F__is_removal : FM := runF 1 b__is_removal
theorem fn__is_removal (A0 : Facts K mg) {fd : FuncData} (F : FunD K d__is_removal.name d__is_removal.qual d__is_removal.params d__is_removal.body d__is_removal.scope (d__is_removal.dvs K) (d__is_removal.kws K) (He.fAd K d__is_removal.at_) fd) : FnOk P w K mg base (L2.CX P w) 3 (He.fAd K d__is_removal.at_) fd ["step"] (spM (cf K) 1 F__is_removal) := by
  refine mk_fnD (k := 2) F sc__is_removal rfl rfl fun cdv A outer s H E hr => ?_
  have tk := tk_of (P := P) (w := w) (K := K) (mg := mg) (base := base) (N := N__is_removal) (qual := "_is_removal") (scope := defScope s__is_removal) (f := He.ga K "_is_removal") (cdv := cdv) (A := A) (outer := outer) (s := s) (H := H) (E := E)
  exact (dss_cons (ds_ret (de_and (de_callA (Cal.at (cal__has_form (base := base) A0) hr (by decide)) (by rfl) tk (da_cons (de_var (pv 0)) (da_cons de_str (da_cons de_int da_nil))) (fun h => by rw [alen3 h]; rfl)) (pe_one (de_callA (Cal.at (cal_is_count (base := base) A0) hr (by decide)) (by rfl) tk (da_cons (de_ix (d_ix rfl) (de_var (pv 0)) de_int (fun _ _ => rfl)) da_nil) (fun h => by rw [alen1 h]; rfl))))) dss_nil)
theorem cal__is_removal (A0 : Facts K mg) : Cal P w K mg base (cf K) "_is_removal" 3 ["step"] 1 F__is_removal [] := by
  obtain ⟨fd, F⟩ := A0.c.def_ 5 (d := d__is_removal) rfl
  have hm : mg "_is_removal" = some (.ref (He.ga K "_is_removal")) := A0.glo (A0.c.fact 5 (f := .glo "_is_removal") rfl)
  have bd : Binds K fd ["step"] [] := F.bindsN fun _ _ _ _ _ _ us hl => match us, hl with | [_], _ => rfl
  refine ⟨_, fd, [], [], hm, F.kp, ?_, bd, .nil, fun _ => .nil⟩
  exact fn__is_removal A0 F
abbrev N__is_repeat : List Str := ["step"]
theorem sc__is_repeat : FnScope N__is_repeat ["step"] (defScope s__is_repeat) := ⟨rfl, rfl, rfl, by decide +kernel, rfl, by decide +kernel, by decide +kernel⟩
def b__is_repeat : SM := sSeq (sRet (mAndV (mFnD F__has_form [] (aCons (mVar 0) (aCons (mC (.str "repeat")) (aCons (mC (.int 3)) (aNil))))) (mAndV (mFnD F_is_count [] (aCons (mBin ixD (mVar 0) (mC (.int 1))) (aNil))) (mCall isiD (aCons (mBin ixD (mVar 0) (mC (.int 2))) (aCons (mC (.ty "tuple")) (aNil))))))) (sNil)
def F__is_repeat : FM := runF 1 b__is_repeat
theorem fn__is_repeat (A0 : Facts K mg) {fd : FuncData} (F : FunD K d__is_repeat.name d__is_repeat.qual d__is_repeat.params d__is_repeat.body d__is_repeat.scope (d__is_repeat.dvs K) (d__is_repeat.kws K) (He.fAd K d__is_repeat.at_) fd) : FnOk P w K mg base (L2.CX P w) 3 (He.fAd K d__is_repeat.at_) fd ["step"] (spM (cf K) 1 F__is_repeat) := by
  refine mk_fnD (k := 2) F sc__is_repeat rfl rfl fun cdv A outer s H E hr => ?_
  have tk := tk_of (P := P) (w := w) (K := K) (mg := mg) (base := base) (N := N__is_repeat) (qual := "_is_repeat") (scope := defScope s__is_repeat) (f := He.ga K "_is_repeat") (cdv := cdv) (A := A) (outer := outer) (s := s) (H := H) (E := E)
  exact (dss_cons (ds_ret (de_and (de_callA (Cal.at (cal__has_form (base := base) A0) hr (by decide)) (by rfl) tk (da_cons (de_var (pv 0)) (da_cons de_str (da_cons de_int da_nil))) (fun h => by rw [alen3 h]; rfl)) (de_and (de_callA (Cal.at (cal_is_count (base := base) A0) hr (by decide)) (by rfl) tk (da_cons (de_ix (d_ix rfl) (de_var (pv 0)) de_int (fun _ _ => rfl)) da_nil) (fun h => by rw [alen1 h]; rfl)) (pe_one (de_callB (d_isi rfl) (by rfl) (m_isinstance A0) bt_isinstance (da_cons (de_ix (d_ix rfl) (de_var (pv 0)) de_int (fun _ _ => rfl)) (da_cons (de_ty (by rfl) (m_tuple A0) bt_tuple) da_nil))))))) dss_nil)
theorem cal__is_repeat (A0 : Facts K mg) : Cal P w K mg base (cf K) "_is_repeat" 3 ["step"] 1 F__is_repeat [] := by
  obtain ⟨fd, F⟩ := A0.c.def_ 6 (d := d__is_repeat) rfl
  have hm : mg "_is_repeat" = some (.ref (He.ga K "_is_repeat")) := A0.glo (A0.c.fact 6 (f := .glo "_is_repeat") rfl)
  have bd : Binds K fd ["step"] [] := F.bindsN fun _ _ _ _ _ _ us hl => match us, hl with | [_], _ => rfl
  refine ⟨_, fd, [], [], hm, F.kp, ?_, bd, .nil, fun _ => .nil⟩
  exact fn__is_repeat A0 F
abbrev N__first_invalid : List Str := ["program", "depth", "index", "step", "path"]
theorem sc__first_invalid : FnScope N__first_invalid ["program", "depth"] (defScope s__first_invalid) := ⟨rfl, rfl, rfl, by decide +kernel, rfl, by decide +kernel, by decide +kernel⟩
abbrev N__invalid_in : List Str := ["step", "depth"]
theorem sc__invalid_in : FnScope N__invalid_in ["step", "depth"] (defScope s__invalid_in) := ⟨rfl, rfl, rfl, by decide +kernel, rfl, by decide +kernel, by decide +kernel⟩
def b__first_invalid (R0 : FM) (R1 : FM) : SM := sSeq (sFor (iEnumM (mVar 0)) (tgTup [tgName 2, tgName 3]) (sSeq (sSet 4 (mFnD R1 [] (aCons (mVar 3) (aCons (mVar 1) (aNil))))) (sSeq (sIf (tCmpM isNotN (mVar 4) (mC .non)) (sSeq (sRet (mTup (aCons (mVar 2) (aStar (mVar 4) (aNil))))) (sNil)) (sNil)) (sNil)))) (sSeq (sRet (mC .non)) (sNil))
def b__invalid_in (R0 : FM) (R1 : FM) : SM := sSeq (sIf (tOrM (tTru (mFnD F__is_insertion [] (aCons (mVar 0) (aNil)))) (tTru (mFnD F__is_removal [] (aCons (mVar 0) (aNil))))) (sSeq (sRet (mC .non)) (sNil)) (sNil)) (sSeq (sIf (tOrM (tCmpM eqD (mVar 1) (mC (.int 8))) (tNotM (tTru (mFnD F__is_repeat [] (aCons (mVar 0) (aNil)))))) (sSeq (sRet (mTup (aNil))) (sNil)) (sNil)) (sSeq (sRet (mFnD R0 [] (aCons (mBin ixD (mVar 0) (mC (.int 2))) (aCons (mBin addD (mVar 1) (mC (.int 1))) (aNil))))) (sNil)))
def G__first_invalid : Nat → Nat → FM
  | 0, _ => badF
  | n + 1, 0 => runF 5 (b__first_invalid (G__first_invalid n 0) (G__first_invalid n 1))
  | n + 1, _ => runF 2 (b__invalid_in (G__first_invalid n 0) (G__first_invalid n 1))
theorem calG__first_invalid (A0 : Facts K mg) : ∀ n : Nat, (Cal P w K mg base (cf K) "_first_invalid" (4 + n) ["program", "depth"] 2 (G__first_invalid n 0) []) ∧ (Cal P w K mg base (cf K) "_invalid_in" (4 + n) ["step", "depth"] 2 (G__first_invalid n 1) []) := by
  intro n
  induction n with
  | zero =>
    refine ⟨?_, ?_⟩
    · obtain ⟨fd, F⟩ := A0.c.def_ 7 (d := d__first_invalid) rfl
      have hm : mg "_first_invalid" = some (.ref (He.ga K "_first_invalid")) := A0.glo (A0.c.fact 7 (f := .glo "_first_invalid") rfl)
      have bd : Binds K fd ["program", "depth"] [] := F.bindsN fun _ _ _ _ _ _ us hl => match us, hl with | [_, _], _ => rfl
      refine ⟨_, fd, [], [], hm, F.kp, ?_, bd, .nil, fun _ => .nil⟩
      exact fn_bad rfl
    · obtain ⟨fd, F⟩ := A0.c.def_ 8 (d := d__invalid_in) rfl
      have hm : mg "_invalid_in" = some (.ref (He.ga K "_invalid_in")) := A0.glo (A0.c.fact 8 (f := .glo "_invalid_in") rfl)
      have bd : Binds K fd ["step", "depth"] [] := F.bindsN fun _ _ _ _ _ _ us hl => match us, hl with | [_, _], _ => rfl
      refine ⟨_, fd, [], [], hm, F.kp, ?_, bd, .nil, fun _ => .nil⟩
      exact fn_bad rfl
  | succ n ih =>
    obtain ⟨ih0, ih1⟩ := ih
    refine ⟨?_, ?_⟩
    · obtain ⟨fd, F⟩ := A0.c.def_ 7 (d := d__first_invalid) rfl
      have hm : mg "_first_invalid" = some (.ref (He.ga K "_first_invalid")) := A0.glo (A0.c.fact 7 (f := .glo "_first_invalid") rfl)
      have bd : Binds K fd ["program", "depth"] [] := F.bindsN fun _ _ _ _ _ _ us hl => match us, hl with | [_, _], _ => rfl
      refine ⟨_, fd, [], [], hm, F.kp, ?_, bd, .nil, fun _ => .nil⟩
      refine mk_fnD (k := 4 + n) F sc__first_invalid rfl rfl fun cdv A outer s H E hr => ?_
      have tk := tk_of (P := P) (w := w) (K := K) (mg := mg) (base := base) (N := N__first_invalid) (qual := "_first_invalid") (scope := defScope s__first_invalid) (f := He.ga K "_first_invalid") (cdv := cdv) (A := A) (outer := outer) (s := s) (H := H) (E := E)
      exact (dss_cons (ds_for (passes_of rfl) rfl (di_enum rfl (fun h => pi_enumT (by rfl) (m_enumerate A0) h) (de_var (pv 0))) (dg_tup rfl rfl (dgs_cons (dg_name (pg_name (i := 2) sc__first_invalid.nd rfl (by first | exact Or.inl rfl | exact Or.inr rfl))) (dgs_cons (dg_name (pg_name (i := 3) sc__first_invalid.nd rfl (by first | exact Or.inl rfl | exact Or.inr rfl))) dgs_nil)) rfl) (dss_cons (ds_set (i := 4) sc__first_invalid.nd rfl (by first | exact Or.inl rfl | exact Or.inr rfl) (de_callA (Cal.at ih1 hr (by omega)) (by rfl) tk (da_cons (de_var (pv 3)) (da_cons (de_var (pv 1)) da_nil)) (fun h => by rw [alen2 h]; rfl))) (dss_cons (ds_if (dt_cmp d_isNotN (de_var (pv 4)) de_non (nomark _)) (dss_cons (ds_ret (de_tup (da_cons (de_var (pv 2)) (da_star rfl (de_var (pv 4)) da_nil)))) dss_nil) dss_nil) dss_nil))) (dss_cons (ds_ret de_non) dss_nil))
    · obtain ⟨fd, F⟩ := A0.c.def_ 8 (d := d__invalid_in) rfl
      have hm : mg "_invalid_in" = some (.ref (He.ga K "_invalid_in")) := A0.glo (A0.c.fact 8 (f := .glo "_invalid_in") rfl)
      have bd : Binds K fd ["step", "depth"] [] := F.bindsN fun _ _ _ _ _ _ us hl => match us, hl with | [_, _], _ => rfl
      refine ⟨_, fd, [], [], hm, F.kp, ?_, bd, .nil, fun _ => .nil⟩
      refine mk_fnD (k := 4 + n) F sc__invalid_in rfl rfl fun cdv A outer s H E hr => ?_
      have tk := tk_of (P := P) (w := w) (K := K) (mg := mg) (base := base) (N := N__invalid_in) (qual := "_invalid_in") (scope := defScope s__invalid_in) (f := He.ga K "_invalid_in") (cdv := cdv) (A := A) (outer := outer) (s := s) (H := H) (E := E)
      exact (dss_cons (ds_if (PW.pt (dw_or (dt_tru rfl (de_callA (Cal.at (cal__is_insertion (base := base) A0) hr (by omega)) (by rfl) tk (da_cons (de_var (pv 0)) da_nil) (fun h => by rw [alen1 h]; rfl)) (fun _ => rfl)) (dw_or1 (dt_tru rfl (de_callA (Cal.at (cal__is_removal (base := base) A0) hr (by omega)) (by rfl) tk (da_cons (de_var (pv 0)) da_nil) (fun h => by rw [alen1 h]; rfl)) (fun _ => rfl))))) (dss_cons (ds_ret de_non) dss_nil) dss_nil) (dss_cons (ds_if (PW.pt (dw_or (dt_cmp (d_eqD rfl (hu64 hr)) (de_var (pv 1)) (de_gint (g_DEEPEST A0) (by rfl)) (nomark _)) (dw_or1 (dt_not (dt_tru rfl (de_callA (Cal.at (cal__is_repeat (base := base) A0) hr (by omega)) (by rfl) tk (da_cons (de_var (pv 0)) da_nil) (fun h => by rw [alen1 h]; rfl)) (fun _ => rfl)))))) (dss_cons (ds_ret (de_tup da_nil)) dss_nil) dss_nil) (dss_cons (ds_ret (de_callA (Cal.at ih0 hr (by omega)) (by rfl) tk (da_cons (de_ix (d_ix rfl) (de_var (pv 0)) de_int (fun _ _ => rfl)) (da_cons (de_op (d_add rfl) (de_var (pv 1)) de_int) da_nil)) (fun h => by rw [alen2 h]; rfl))) dss_nil)))
def F__first_invalid : FM := G__first_invalid 24 0
theorem cal__first_invalid (A0 : Facts K mg) : Cal P w K mg base (cf K) "_first_invalid" 28 ["program", "depth"] 2 F__first_invalid [] := (calG__first_invalid A0 24).1
def F__invalid_in : FM := G__first_invalid 24 1
theorem cal__invalid_in (A0 : Facts K mg) : Cal P w K mg base (cf K) "_invalid_in" 28 ["step", "depth"] 2 F__invalid_in [] := (calG__first_invalid A0 24).2
abbrev N_check_program : List Str := ["program", "path"]
theorem sc_check_program : FnScope N_check_program ["program"] (defScope s_check_program) := ⟨rfl, rfl, rfl, by decide +kernel, rfl, by decide +kernel, by decide +kernel⟩
def b_check_program : SM := sSeq (sIf (tNotM (tTru (mCall isiD (aCons (mVar 0) (aCons (mC (.ty "tuple")) (aNil)))))) (sSeq (sRaise 1 "path" (mTup (aNil))) (sNil)) (sNil)) (sSeq (sSet 1 (mFnD F__first_invalid [] (aCons (mVar 0) (aCons (mC (.int 1)) (aNil))))) (sSeq (sIf (tCmpM isNotN (mVar 1) (mC .non)) (sSeq (sRaise 1 "path" (mVar 1)) (sNil)) (sNil)) (sNil)))
def F_check_program : FM := runF 2 b_check_program
theorem fn_check_program (A0 : Facts K mg) {fd : FuncData} (F : FunD K d_check_program.name d_check_program.qual d_check_program.params d_check_program.body d_check_program.scope (d_check_program.dvs K) (d_check_program.kws K) (He.fAd K d_check_program.at_) fd) : FnOk P w K mg base (L2.CX P w) 29 (He.fAd K d_check_program.at_) fd ["program"] (spM (cf K) 1 F_check_program) := by
  refine mk_fnD (k := 28) F sc_check_program rfl rfl fun cdv A outer s H E hr => ?_
  have tk := tk_of (P := P) (w := w) (K := K) (mg := mg) (base := base) (N := N_check_program) (qual := "check_program") (scope := defScope s_check_program) (f := He.ga K "check_program") (cdv := cdv) (A := A) (outer := outer) (s := s) (H := H) (E := E)
  exact (dss_cons (ds_if (dt_not (dt_tru rfl (de_callB (d_isi rfl) (by rfl) (m_isinstance A0) bt_isinstance (da_cons (de_var (pv 0)) (da_cons (de_ty (by rfl) (m_tuple A0) bt_tuple) da_nil))) (fun _ => rfl))) (dss_cons (ds_raise rfl tk (fun h => mkx_InvalidProgram A0 hr (by decide) (by rfl) h) rfl (de_tup da_nil)) dss_nil) dss_nil) (dss_cons (ds_set (i := 1) sc_check_program.nd rfl (by first | exact Or.inl rfl | exact Or.inr rfl) (de_callA (Cal.at (cal__first_invalid (base := base) A0) hr (by decide)) (by rfl) tk (da_cons (de_var (pv 0)) (da_cons de_int da_nil)) (fun h => by rw [alen2 h]; rfl))) (dss_cons (ds_if (dt_cmp d_isNotN (de_var (pv 1)) de_non (nomark _)) (dss_cons (ds_raise rfl tk (fun h => mkx_InvalidProgram A0 hr (by decide) (by rfl) h) rfl (de_var (pv 1))) dss_nil) dss_nil) dss_nil)))
theorem cal_check_program (A0 : Facts K mg) : Cal P w K mg base (cf K) "check_program" 29 ["program"] 1 F_check_program [] := by
  obtain ⟨fd, F⟩ := A0.c.def_ 9 (d := d_check_program) rfl
  have hm : mg "check_program" = some (.ref (He.ga K "check_program")) := A0.glo (A0.c.fact 9 (f := .glo "check_program") rfl)
  have bd : Binds K fd ["program"] [] := F.bindsN fun _ _ _ _ _ _ us hl => match us, hl with | [_], _ => rfl
  refine ⟨_, fd, [], [], hm, F.kp, ?_, bd, .nil, fun _ => .nil⟩
  exact fn_check_program A0 F
abbrev N__totals : List Str := ["program", "parts", "step", "part"]
theorem sc__totals : FnScope N__totals ["program"] (defScope s__totals) := ⟨rfl, rfl, rfl, by decide +kernel, rfl, by decide +kernel, by decide +kernel⟩
abbrev N__totals_of_step : List Str := ["step", "insertions", "removals"]
theorem sc__totals_of_step : FnScope N__totals_of_step ["step"] (defScope s__totals_of_step) := ⟨rfl, rfl, rfl, by decide +kernel, rfl, by decide +kernel, by decide +kernel⟩
def b__totals (R0 : FM) (R1 : FM) : SM := sSeq (sSet 1 (mLc (iSeq (mVar 0)) (tgName 2) (tYesM) (mFnD R1 [] (aCons (mVar 2) (aNil))) [2])) (sSeq (sRet (mTup (aCons (mCall sumD (aCons (mLc (iSeq (mVar 1)) (tgName 3) (tYesM) (mBin ixD (mVar 3) (mC (.int 0))) [3]) (aNil))) (aCons (mCall sumD (aCons (mLc (iSeq (mVar 1)) (tgName 3) (tYesM) (mBin ixD (mVar 3) (mC (.int 1))) [3]) (aNil))) (aNil))))) (sNil))
def b__totals_of_step (R0 : FM) (R1 : FM) : SM := sSeq (sIf (tCmpM eqD (mBin ixD (mVar 0) (mC (.int 0))) (mC (.str "insert"))) (sSeq (sRet (mTup (aCons (mBin ixD (mVar 0) (mC (.int 2))) (aCons (mC (.int 0)) (aNil))))) (sNil)) (sNil)) (sSeq (sIf (tCmpM eqD (mBin ixD (mVar 0) (mC (.int 0))) (mC (.str "remove"))) (sSeq (sRet (mTup (aCons (mC (.int 0)) (aCons (mBin ixD (mVar 0) (mC (.int 1))) (aNil))))) (sNil)) (sNil)) (sSeq (sAsg (tgTup [tgName 1, tgName 2]) (mFnD R0 [] (aCons (mBin ixD (mVar 0) (mC (.int 2))) (aNil)))) (sSeq (sRet (mTup (aCons (mBin mulD (mBin ixD (mVar 0) (mC (.int 1))) (mVar 1)) (aCons (mBin mulD (mBin ixD (mVar 0) (mC (.int 1))) (mVar 2)) (aNil))))) (sNil))))
def G__totals : Nat → Nat → FM
  | 0, _ => badF
  | n + 1, 0 => runF 4 (b__totals (G__totals n 0) (G__totals n 1))
  | n + 1, _ => runF 3 (b__totals_of_step (G__totals n 0) (G__totals n 1))
theorem calG__totals (A0 : Facts K mg) : ∀ n : Nat, (Cal P w K mg base (cf K) "totals" (1 + n) ["program"] 1 (G__totals n 0) []) ∧ (Cal P w K mg base (cf K) "totals_of_step" (1 + n) ["step"] 1 (G__totals n 1) []) := by
  intro n
  induction n with
  | zero =>
    refine ⟨?_, ?_⟩
    · obtain ⟨fd, F⟩ := A0.c.def_ 10 (d := d__totals) rfl
      have hm : mg "totals" = some (.ref (He.ga K "totals")) := A0.glo (A0.c.fact 10 (f := .glo "totals") rfl)
      have bd : Binds K fd ["program"] [] := F.bindsN fun _ _ _ _ _ _ us hl => match us, hl with | [_], _ => rfl
      refine ⟨_, fd, [], [], hm, F.kp, ?_, bd, .nil, fun _ => .nil⟩
      exact fn_bad rfl
    · obtain ⟨fd, F⟩ := A0.c.def_ 11 (d := d__totals_of_step) rfl
      have hm : mg "totals_of_step" = some (.ref (He.ga K "totals_of_step")) := A0.glo (A0.c.fact 11 (f := .glo "totals_of_step") rfl)
      have bd : Binds K fd ["step"] [] := F.bindsN fun _ _ _ _ _ _ us hl => match us, hl with | [_], _ => rfl
      refine ⟨_, fd, [], [], hm, F.kp, ?_, bd, .nil, fun _ => .nil⟩
      exact fn_bad rfl
  | succ n ih =>
    obtain ⟨ih0, ih1⟩ := ih
    refine ⟨?_, ?_⟩
    · obtain ⟨fd, F⟩ := A0.c.def_ 10 (d := d__totals) rfl
      have hm : mg "totals" = some (.ref (He.ga K "totals")) := A0.glo (A0.c.fact 10 (f := .glo "totals") rfl)
      have bd : Binds K fd ["program"] [] := F.bindsN fun _ _ _ _ _ _ us hl => match us, hl with | [_], _ => rfl
      refine ⟨_, fd, [], [], hm, F.kp, ?_, bd, .nil, fun _ => .nil⟩
      refine mk_fnD (k := 1 + n) F sc__totals rfl rfl fun cdv A outer s H E hr => ?_
      have tk := tk_of (P := P) (w := w) (K := K) (mg := mg) (base := base) (N := N__totals) (qual := "totals") (scope := defScope s__totals) (f := He.ga K "totals") (cdv := cdv) (A := A) (outer := outer) (s := s) (H := H) (E := E)
      exact (dss_cons (ds_setLc (ps_setLc (i := 1) (own := [("step", 2)]) rfl sc__totals.nd rfl rfl (sw_true rfl rfl rfl (by decide +kernel)) (di_seq rfl (de_var (pv 0))) (blkOk_by (own := [("step", 2)]) (N := N__totals) (sc := defScope s__totals) (by decide +kernel)) (fun _ _ _ _ _ => (dg_name (pg_name (i := 2) sc__totals.nd rfl (by first | exact Or.inl rfl | exact Or.inr rfl)))) (fun _ _ _ _ _ => dts_nil) (fun _ _ _ _ _ => (de_callA (Cal.at ih1 hr (by omega)) (by rfl) takes0 (da_cons (de_var (pv 2)) da_nil) (fun h => by rw [alen1 h]; rfl))))) (dss_cons (ds_ret (de_tup (da_cons (de_callB (d_sum rfl rfl) (by rfl) (m_sum A0) bt_sum (da_cons (de_lc (pe_lc (own := [("part", 3)]) rfl sc__totals.nd (di_seq rfl (de_var (pv 1))) (blkOk_by (own := [("part", 3)]) (N := N__totals) (sc := defScope s__totals) (by decide +kernel)) (fun _ _ _ _ _ => (dg_name (pg_name (i := 3) sc__totals.nd rfl (by first | exact Or.inl rfl | exact Or.inr rfl)))) (fun _ _ _ _ _ => dts_nil) (fun _ _ _ _ _ => (de_ix (d_ix rfl) (de_var (pv 3)) de_int (fun _ _ => rfl))))) da_nil)) (da_cons (de_callB (d_sum rfl rfl) (by rfl) (m_sum A0) bt_sum (da_cons (de_lc (pe_lc (own := [("part", 3)]) rfl sc__totals.nd (di_seq rfl (de_var (pv 1))) (blkOk_by (own := [("part", 3)]) (N := N__totals) (sc := defScope s__totals) (by decide +kernel)) (fun _ _ _ _ _ => (dg_name (pg_name (i := 3) sc__totals.nd rfl (by first | exact Or.inl rfl | exact Or.inr rfl)))) (fun _ _ _ _ _ => dts_nil) (fun _ _ _ _ _ => (de_ix (d_ix rfl) (de_var (pv 3)) de_int (fun _ _ => rfl))))) da_nil)) da_nil)))) dss_nil))
    · obtain ⟨fd, F⟩ := A0.c.def_ 11 (d := d__totals_of_step) rfl
      have hm : mg "totals_of_step" = some (.ref (He.ga K "totals_of_step")) := A0.glo (A0.c.fact 11 (f := .glo "totals_of_step") rfl)
      have bd : Binds K fd ["step"] [] := F.bindsN fun _ _ _ _ _ _ us hl => match us, hl with | [_], _ => rfl
      refine ⟨_, fd, [], [], hm, F.kp, ?_, bd, .nil, fun _ => .nil⟩
      refine mk_fnD (k := 1 + n) F sc__totals_of_step rfl rfl fun cdv A outer s H E hr => ?_
      have tk := tk_of (P := P) (w := w) (K := K) (mg := mg) (base := base) (N := N__totals_of_step) (qual := "totals_of_step") (scope := defScope s__totals_of_step) (f := He.ga K "totals_of_step") (cdv := cdv) (A := A) (outer := outer) (s := s) (H := H) (E := E)
      exact (dss_cons (ds_if (dt_cmp (d_eqD rfl (hu64 hr)) (de_ix (d_ix rfl) (de_var (pv 0)) de_int (fun _ _ => rfl)) de_str (nomark _)) (dss_cons (ds_ret (de_tup (da_cons (de_ix (d_ix rfl) (de_var (pv 0)) de_int (fun _ _ => rfl)) (da_cons de_int da_nil)))) dss_nil) dss_nil) (dss_cons (ds_if (dt_cmp (d_eqD rfl (hu64 hr)) (de_ix (d_ix rfl) (de_var (pv 0)) de_int (fun _ _ => rfl)) de_str (nomark _)) (dss_cons (ds_ret (de_tup (da_cons de_int (da_cons (de_ix (d_ix rfl) (de_var (pv 0)) de_int (fun _ _ => rfl)) da_nil)))) dss_nil) dss_nil) (dss_cons (ds_asg (de_callA (Cal.at ih0 hr (by omega)) (by rfl) tk (da_cons (de_ix (d_ix rfl) (de_var (pv 0)) de_int (fun _ _ => rfl)) da_nil) (fun h => by rw [alen1 h]; rfl)) (dg_tup rfl rfl (dgs_cons (dg_name (pg_name (i := 1) sc__totals_of_step.nd rfl (by first | exact Or.inl rfl | exact Or.inr rfl))) (dgs_cons (dg_name (pg_name (i := 2) sc__totals_of_step.nd rfl (by first | exact Or.inl rfl | exact Or.inr rfl))) dgs_nil)) rfl)) (dss_cons (ds_ret (de_tup (da_cons (de_op d_mul (de_ix (d_ix rfl) (de_var (pv 0)) de_int (fun _ _ => rfl)) (de_var (pv 1))) (da_cons (de_op d_mul (de_ix (d_ix rfl) (de_var (pv 0)) de_int (fun _ _ => rfl)) (de_var (pv 2))) da_nil)))) dss_nil))))
def F__totals : FM := G__totals 24 0
theorem cal__totals (A0 : Facts K mg) : Cal P w K mg base (cf K) "totals" 25 ["program"] 1 F__totals [] := (calG__totals A0 24).1
def F__totals_of_step : FM := G__totals 24 1
theorem cal__totals_of_step (A0 : Facts K mg) : Cal P w K mg base (cf K) "totals_of_step" 25 ["step"] 1 F__totals_of_step [] := (calG__totals A0 24).2
abbrev N__length : List Str := ["program"]
theorem sc__length : FnScope N__length ["program"] (defScope s__length) := ⟨rfl, rfl, rfl, by decide +kernel, rfl, by decide +kernel, by decide +kernel⟩
def b__length : SM := sSeq (sRet (mCall sumD (aCons (mFnD F__totals [] (aCons (mVar 0) (aNil))) (aNil)))) (sNil)
def F__length : FM := runF 1 b__length
theorem fn__length (A0 : Facts K mg) {fd : FuncData} (F : FunD K d__length.name d__length.qual d__length.params d__length.body d__length.scope (d__length.dvs K) (d__length.kws K) (He.fAd K d__length.at_) fd) : FnOk P w K mg base (L2.CX P w) 26 (He.fAd K d__length.at_) fd ["program"] (spM (cf K) 1 F__length) := by
  refine mk_fnD (k := 25) F sc__length rfl rfl fun cdv A outer s H E hr => ?_
  have tk := tk_of (P := P) (w := w) (K := K) (mg := mg) (base := base) (N := N__length) (qual := "_length") (scope := defScope s__length) (f := He.ga K "_length") (cdv := cdv) (A := A) (outer := outer) (s := s) (H := H) (E := E)
  exact (dss_cons (ds_ret (de_callB (d_sum rfl rfl) (by rfl) (m_sum A0) bt_sum (da_cons (de_callA (Cal.at (cal__totals (base := base) A0) hr (by decide)) (by rfl) tk (da_cons (de_var (pv 0)) da_nil) (fun h => by rw [alen1 h]; rfl)) da_nil))) dss_nil)
theorem cal__length (A0 : Facts K mg) : Cal P w K mg base (cf K) "_length" 26 ["program"] 1 F__length [] := by
  obtain ⟨fd, F⟩ := A0.c.def_ 12 (d := d__length) rfl
  have hm : mg "_length" = some (.ref (He.ga K "_length")) := A0.glo (A0.c.fact 12 (f := .glo "_length") rfl)
  have bd : Binds K fd ["program"] [] := F.bindsN fun _ _ _ _ _ _ us hl => match us, hl with | [_], _ => rfl
  refine ⟨_, fd, [], [], hm, F.kp, ?_, bd, .nil, fun _ => .nil⟩
  exact fn__length A0 F
abbrev N_step_count : List Str := ["program"]
theorem sc_step_count : FnScope N_step_count ["program"] (defScope s_step_count) := ⟨rfl, rfl, rfl, by decide +kernel, rfl, by decide +kernel, by decide +kernel⟩
def b_step_count : SM := sSeq (sDrop (mFnD F_check_program [] (aCons (mVar 0) (aNil)))) (sSeq (sRet (mFnD F__length [] (aCons (mVar 0) (aNil)))) (sNil))
def F_step_count : FM := runF 1 b_step_count
theorem fn_step_count (A0 : Facts K mg) {fd : FuncData} (F : FunD K d_step_count.name d_step_count.qual d_step_count.params d_step_count.body d_step_count.scope (d_step_count.dvs K) (d_step_count.kws K) (He.fAd K d_step_count.at_) fd) : FnOk P w K mg base (L2.CX P w) 30 (He.fAd K d_step_count.at_) fd ["program"] (spM (cf K) 1 F_step_count) := by
  refine mk_fnD (k := 29) F sc_step_count rfl rfl fun cdv A outer s H E hr => ?_
  have tk := tk_of (P := P) (w := w) (K := K) (mg := mg) (base := base) (N := N_step_count) (qual := "step_count") (scope := defScope s_step_count) (f := He.ga K "step_count") (cdv := cdv) (A := A) (outer := outer) (s := s) (H := H) (E := E)
  exact (dss_cons (ds_drop (de_callA (Cal.at (cal_check_program (base := base) A0) hr (by decide)) (by rfl) tk (da_cons (de_var (pv 0)) da_nil) (fun h => by rw [alen1 h]; rfl))) (dss_cons (ds_ret (de_callA (Cal.at (cal__length (base := base) A0) hr (by decide)) (by rfl) tk (da_cons (de_var (pv 0)) da_nil) (fun h => by rw [alen1 h]; rfl))) dss_nil))
theorem cal_step_count (A0 : Facts K mg) : Cal P w K mg base (cf K) "step_count" 30 ["program"] 1 F_step_count [] := by
  obtain ⟨fd, F⟩ := A0.c.def_ 13 (d := d_step_count) rfl
  have hm : mg "step_count" = some (.ref (He.ga K "step_count")) := A0.glo (A0.c.fact 13 (f := .glo "step_count") rfl)
  have bd : Binds K fd ["program"] [] := F.bindsN fun _ _ _ _ _ _ us hl => match us, hl with | [_], _ => rfl
  refine ⟨_, fd, [], [], hm, F.kp, ?_, bd, .nil, fun _ => .nil⟩
  exact fn_step_count A0 F
abbrev N_insertion_count : List Str := ["program"]
theorem sc_insertion_count : FnScope N_insertion_count ["program"] (defScope s_insertion_count) := ⟨rfl, rfl, rfl, by decide +kernel, rfl, by decide +kernel, by decide +kernel⟩
def b_insertion_count : SM := sSeq (sDrop (mFnD F_check_program [] (aCons (mVar 0) (aNil)))) (sSeq (sRet (mBin ixD (mFnD F__totals [] (aCons (mVar 0) (aNil))) (mC (.int 0)))) (sNil))
def F_insertion_count : FM := runF 1 b_insertion_count
theorem fn_insertion_count (A0 : Facts K mg) {fd : FuncData} (F : FunD K d_insertion_count.name d_insertion_count.qual d_insertion_count.params d_insertion_count.body d_insertion_count.scope (d_insertion_count.dvs K) (d_insertion_count.kws K) (He.fAd K d_insertion_count.at_) fd) : FnOk P w K mg base (L2.CX P w) 30 (He.fAd K d_insertion_count.at_) fd ["program"] (spM (cf K) 1 F_insertion_count) := by
  refine mk_fnD (k := 29) F sc_insertion_count rfl rfl fun cdv A outer s H E hr => ?_
  have tk := tk_of (P := P) (w := w) (K := K) (mg := mg) (base := base) (N := N_insertion_count) (qual := "insertion_count") (scope := defScope s_insertion_count) (f := He.ga K "insertion_count") (cdv := cdv) (A := A) (outer := outer) (s := s) (H := H) (E := E)
  exact (dss_cons (ds_drop (de_callA (Cal.at (cal_check_program (base := base) A0) hr (by decide)) (by rfl) tk (da_cons (de_var (pv 0)) da_nil) (fun h => by rw [alen1 h]; rfl))) (dss_cons (ds_ret (de_ix (d_ix rfl) (de_callA (Cal.at (cal__totals (base := base) A0) hr (by decide)) (by rfl) tk (da_cons (de_var (pv 0)) da_nil) (fun h => by rw [alen1 h]; rfl)) de_int (fun _ _ => rfl))) dss_nil))
theorem cal_insertion_count (A0 : Facts K mg) : Cal P w K mg base (cf K) "insertion_count" 30 ["program"] 1 F_insertion_count [] := by
  obtain ⟨fd, F⟩ := A0.c.def_ 14 (d := d_insertion_count) rfl
  have hm : mg "insertion_count" = some (.ref (He.ga K "insertion_count")) := A0.glo (A0.c.fact 14 (f := .glo "insertion_count") rfl)
  have bd : Binds K fd ["program"] [] := F.bindsN fun _ _ _ _ _ _ us hl => match us, hl with | [_], _ => rfl
  refine ⟨_, fd, [], [], hm, F.kp, ?_, bd, .nil, fun _ => .nil⟩
  exact fn_insertion_count A0 F
abbrev N__step_length : List Str := ["step"]
theorem sc__step_length : FnScope N__step_length ["step"] (defScope s__step_length) := ⟨rfl, rfl, rfl, by decide +kernel, rfl, by decide +kernel, by decide +kernel⟩
def b__step_length : SM := sSeq (sRet (mCall sumD (aCons (mFnD F__totals_of_step [] (aCons (mVar 0) (aNil))) (aNil)))) (sNil)
def F__step_length : FM := runF 1 b__step_length
theorem fn__step_length (A0 : Facts K mg) {fd : FuncData} (F : FunD K d__step_length.name d__step_length.qual d__step_length.params d__step_length.body d__step_length.scope (d__step_length.dvs K) (d__step_length.kws K) (He.fAd K d__step_length.at_) fd) : FnOk P w K mg base (L2.CX P w) 26 (He.fAd K d__step_length.at_) fd ["step"] (spM (cf K) 1 F__step_length) := by
  refine mk_fnD (k := 25) F sc__step_length rfl rfl fun cdv A outer s H E hr => ?_
  have tk := tk_of (P := P) (w := w) (K := K) (mg := mg) (base := base) (N := N__step_length) (qual := "_step_length") (scope := defScope s__step_length) (f := He.ga K "_step_length") (cdv := cdv) (A := A) (outer := outer) (s := s) (H := H) (E := E)
  exact (dss_cons (ds_ret (de_callB (d_sum rfl rfl) (by rfl) (m_sum A0) bt_sum (da_cons (de_callA (Cal.at (cal__totals_of_step (base := base) A0) hr (by decide)) (by rfl) tk (da_cons (de_var (pv 0)) da_nil) (fun h => by rw [alen1 h]; rfl)) da_nil))) dss_nil)
theorem cal__step_length (A0 : Facts K mg) : Cal P w K mg base (cf K) "_step_length" 26 ["step"] 1 F__step_length [] := by
  obtain ⟨fd, F⟩ := A0.c.def_ 15 (d := d__step_length) rfl
  have hm : mg "_step_length" = some (.ref (He.ga K "_step_length")) := A0.glo (A0.c.fact 15 (f := .glo "_step_length") rfl)
  have bd : Binds K fd ["step"] [] := F.bindsN fun _ _ _ _ _ _ us hl => match us, hl with | [_], _ => rfl
  refine ⟨_, fd, [], [], hm, F.kp, ?_, bd, .nil, fun _ => .nil⟩
  exact fn__step_length A0 F
abbrev N__expanded : List Str := ["program", "steps", "step"]
theorem sc__expanded : FnScope N__expanded ["program"] (defScope s__expanded) := ⟨rfl, rfl, rfl, by decide +kernel, rfl, by decide +kernel, by decide +kernel⟩
abbrev N__expanded_step : List Str := ["step"]
theorem sc__expanded_step : FnScope N__expanded_step ["step"] (defScope s__expanded_step) := ⟨rfl, rfl, rfl, by decide +kernel, rfl, by decide +kernel, by decide +kernel⟩
def b__expanded (R0 : FM) (R1 : FM) : SM := sSeq (sSet 1 (mLst (aNil))) (sSeq (sFor (iSeq (mVar 0)) (tgName 2) (sSeq (sDrop (mExtend 1 (mFnD R1 [] (aCons (mVar 2) (aNil))))) (sNil))) (sSeq (sRet (mVar 1)) (sNil)))
def b__expanded_step (R0 : FM) (R1 : FM) : SM := sSeq (sIf (tCmpM eqD (mBin ixD (mVar 0) (mC (.int 0))) (mC (.str "insert"))) (sSeq (sRet (mBin mulD (mLst (aCons (mTup (aCons (mC (.str "insert")) (aCons (mBin ixD (mVar 0) (mC (.int 1))) (aCons (mC (.int 1)) (aNil))))) (aNil))) (mBin ixD (mVar 0) (mC (.int 2))))) (sNil)) (sNil)) (sSeq (sIf (tCmpM eqD (mBin ixD (mVar 0) (mC (.int 0))) (mC (.str "remove"))) (sSeq (sRet (mBin mulD (mLst (aCons (mTup (aCons (mC (.str "remove")) (aCons (mC (.int 1)) (aNil)))) (aNil))) (mBin ixD (mVar 0) (mC (.int 1))))) (sNil)) (sNil)) (sSeq (sIf (tCmpM eqD (mFnD F__step_length [] (aCons (mVar 0) (aNil))) (mC (.int 0))) (sSeq (sRet (mLst (aNil))) (sNil)) (sNil)) (sSeq (sRet (mBin mulD (mFnD R0 [] (aCons (mBin ixD (mVar 0) (mC (.int 2))) (aNil))) (mBin ixD (mVar 0) (mC (.int 1))))) (sNil))))
def G__expanded : Nat → Nat → FM
  | 0, _ => badF
  | n + 1, 0 => runF 3 (b__expanded (G__expanded n 0) (G__expanded n 1))
  | n + 1, _ => runF 1 (b__expanded_step (G__expanded n 0) (G__expanded n 1))
theorem calG__expanded (A0 : Facts K mg) : ∀ n : Nat, (Cal P w K mg base (cf K) "_expanded" (27 + n) ["program"] 1 (G__expanded n 0) []) ∧ (Cal P w K mg base (cf K) "_expanded_step" (27 + n) ["step"] 1 (G__expanded n 1) []) := by
  intro n
  induction n with
  | zero =>
    refine ⟨?_, ?_⟩
    · obtain ⟨fd, F⟩ := A0.c.def_ 16 (d := d__expanded) rfl
      have hm : mg "_expanded" = some (.ref (He.ga K "_expanded")) := A0.glo (A0.c.fact 16 (f := .glo "_expanded") rfl)
      have bd : Binds K fd ["program"] [] := F.bindsN fun _ _ _ _ _ _ us hl => match us, hl with | [_], _ => rfl
      refine ⟨_, fd, [], [], hm, F.kp, ?_, bd, .nil, fun _ => .nil⟩
      exact fn_bad rfl
    · obtain ⟨fd, F⟩ := A0.c.def_ 17 (d := d__expanded_step) rfl
      have hm : mg "_expanded_step" = some (.ref (He.ga K "_expanded_step")) := A0.glo (A0.c.fact 17 (f := .glo "_expanded_step") rfl)
      have bd : Binds K fd ["step"] [] := F.bindsN fun _ _ _ _ _ _ us hl => match us, hl with | [_], _ => rfl
      refine ⟨_, fd, [], [], hm, F.kp, ?_, bd, .nil, fun _ => .nil⟩
      exact fn_bad rfl
  | succ n ih =>
    obtain ⟨ih0, ih1⟩ := ih
    refine ⟨?_, ?_⟩
    · obtain ⟨fd, F⟩ := A0.c.def_ 16 (d := d__expanded) rfl
      have hm : mg "_expanded" = some (.ref (He.ga K "_expanded")) := A0.glo (A0.c.fact 16 (f := .glo "_expanded") rfl)
      have bd : Binds K fd ["program"] [] := F.bindsN fun _ _ _ _ _ _ us hl => match us, hl with | [_], _ => rfl
      refine ⟨_, fd, [], [], hm, F.kp, ?_, bd, .nil, fun _ => .nil⟩
      refine mk_fnD (k := 27 + n) F sc__expanded rfl rfl fun cdv A outer s H E hr => ?_
      have tk := tk_of (P := P) (w := w) (K := K) (mg := mg) (base := base) (N := N__expanded) (qual := "_expanded") (scope := defScope s__expanded) (f := He.ga K "_expanded") (cdv := cdv) (A := A) (outer := outer) (s := s) (H := H) (E := E)
      exact (dss_cons (ds_set (i := 1) sc__expanded.nd rfl (by first | exact Or.inl rfl | exact Or.inr rfl) (de_lst da_nil)) (dss_cons (ds_for (passes_of rfl) rfl (di_seq rfl (de_var (pv 0))) (dg_name (pg_name (i := 2) sc__expanded.nd rfl (by first | exact Or.inl rfl | exact Or.inr rfl))) (dss_cons (ds_drop (de_extend (pv 1) (de_callA (Cal.at ih1 hr (by omega)) (by rfl) tk (da_cons (de_var (pv 2)) da_nil) (fun h => by rw [alen1 h]; rfl)) (fun ho ha => pe_bm PySem.F.plainAttrs_list PySem.F.slot_list_extend PySem.F.type_list_extend mt_extend ho ha))) dss_nil)) (dss_cons (ds_ret (de_var (pv 1))) dss_nil)))
    · obtain ⟨fd, F⟩ := A0.c.def_ 17 (d := d__expanded_step) rfl
      have hm : mg "_expanded_step" = some (.ref (He.ga K "_expanded_step")) := A0.glo (A0.c.fact 17 (f := .glo "_expanded_step") rfl)
      have bd : Binds K fd ["step"] [] := F.bindsN fun _ _ _ _ _ _ us hl => match us, hl with | [_], _ => rfl
      refine ⟨_, fd, [], [], hm, F.kp, ?_, bd, .nil, fun _ => .nil⟩
      refine mk_fnD (k := 27 + n) F sc__expanded_step rfl rfl fun cdv A outer s H E hr => ?_
      have tk := tk_of (P := P) (w := w) (K := K) (mg := mg) (base := base) (N := N__expanded_step) (qual := "_expanded_step") (scope := defScope s__expanded_step) (f := He.ga K "_expanded_step") (cdv := cdv) (A := A) (outer := outer) (s := s) (H := H) (E := E)
      exact (dss_cons (ds_if (dt_cmp (d_eqD rfl (hu64 hr)) (de_ix (d_ix rfl) (de_var (pv 0)) de_int (fun _ _ => rfl)) de_str (nomark _)) (dss_cons (ds_ret (de_op d_mul (de_lst (da_cons (de_tup (da_cons de_str (da_cons (de_ix (d_ix rfl) (de_var (pv 0)) de_int (fun _ _ => rfl)) (da_cons de_int da_nil)))) da_nil)) (de_ix (d_ix rfl) (de_var (pv 0)) de_int (fun _ _ => rfl)))) dss_nil) dss_nil) (dss_cons (ds_if (dt_cmp (d_eqD rfl (hu64 hr)) (de_ix (d_ix rfl) (de_var (pv 0)) de_int (fun _ _ => rfl)) de_str (nomark _)) (dss_cons (ds_ret (de_op d_mul (de_lst (da_cons (de_tup (da_cons de_str (da_cons de_int da_nil))) da_nil)) (de_ix (d_ix rfl) (de_var (pv 0)) de_int (fun _ _ => rfl)))) dss_nil) dss_nil) (dss_cons (ds_if (dt_cmp (d_eqD rfl (hu64 hr)) (de_callA (Cal.at (cal__step_length (base := base) A0) hr (by omega)) (by rfl) tk (da_cons (de_var (pv 0)) da_nil) (fun h => by rw [alen1 h]; rfl)) de_int (nomark _)) (dss_cons (ds_ret (de_lst da_nil)) dss_nil) dss_nil) (dss_cons (ds_ret (de_op d_mul (de_callA (Cal.at ih0 hr (by omega)) (by rfl) tk (da_cons (de_ix (d_ix rfl) (de_var (pv 0)) de_int (fun _ _ => rfl)) da_nil) (fun h => by rw [alen1 h]; rfl)) (de_ix (d_ix rfl) (de_var (pv 0)) de_int (fun _ _ => rfl)))) dss_nil))))
def F__expanded : FM := G__expanded 24 0
theorem cal__expanded (A0 : Facts K mg) : Cal P w K mg base (cf K) "_expanded" 51 ["program"] 1 F__expanded [] := (calG__expanded A0 24).1
def F__expanded_step : FM := G__expanded 24 1
theorem cal__expanded_step (A0 : Facts K mg) : Cal P w K mg base (cf K) "_expanded_step" 51 ["step"] 1 F__expanded_step [] := (calG__expanded A0 24).2
abbrev N_expand : List Str := ["program", "limit", "length"]
theorem sc_expand : FnScope N_expand ["program", "limit"] (defScope s_expand) := ⟨rfl, rfl, rfl, by decide +kernel, rfl, by decide +kernel, by decide +kernel⟩
def b_expand : SM := sSeq (sDrop (mFnD F_check_program [] (aCons (mVar 0) (aNil)))) (sSeq (sDrop (mFnD F_check_count [] (aCons (mVar 1) (aNil)))) (sSeq (sSet 2 (mFnD F__length [] (aCons (mVar 0) (aNil)))) (sSeq (sIf (tCmpM gtI (mVar 2) (mVar 1)) (sSeq (sRaise 3 "count" (mVar 2)) (sNil)) (sNil)) (sSeq (sRet (mFnD F__expanded [] (aCons (mVar 0) (aNil)))) (sNil)))))
def F_expand : FM := runF 3 b_expand
theorem fn_expand (A0 : Facts K mg) {fd : FuncData} (F : FunD K d_expand.name d_expand.qual d_expand.params d_expand.body d_expand.scope (d_expand.dvs K) (d_expand.kws K) (He.fAd K d_expand.at_) fd) : FnOk P w K mg base (L2.CX P w) 52 (He.fAd K d_expand.at_) fd ["program", "limit"] (spM (cf K) 2 F_expand) := by
  refine mk_fnD (k := 51) F sc_expand rfl rfl fun cdv A outer s H E hr => ?_
  have tk := tk_of (P := P) (w := w) (K := K) (mg := mg) (base := base) (N := N_expand) (qual := "expand") (scope := defScope s_expand) (f := He.ga K "expand") (cdv := cdv) (A := A) (outer := outer) (s := s) (H := H) (E := E)
  exact (dss_cons (ds_drop (de_callA (Cal.at (cal_check_program (base := base) A0) hr (by decide)) (by rfl) tk (da_cons (de_var (pv 0)) da_nil) (fun h => by rw [alen1 h]; rfl))) (dss_cons (ds_drop (de_callA (Cal.at (cal_check_count (base := base) A0) hr (by decide)) (by rfl) tk (da_cons (de_var (pv 1)) da_nil) (fun h => by rw [alen1 h]; rfl))) (dss_cons (ds_set (i := 2) sc_expand.nd rfl (by first | exact Or.inl rfl | exact Or.inr rfl) (de_callA (Cal.at (cal__length (base := base) A0) hr (by decide)) (by rfl) tk (da_cons (de_var (pv 0)) da_nil) (fun h => by rw [alen1 h]; rfl))) (dss_cons (ds_if (dt_cmp d_gtI (de_var (pv 2)) (de_var (pv 1)) (nomark _)) (dss_cons (ds_raise rfl tk (fun h => mkx_LimitExceeded A0 hr (by decide) (by rfl) h) rfl (de_var (pv 2))) dss_nil) dss_nil) (dss_cons (ds_ret (de_callA (Cal.at (cal__expanded (base := base) A0) hr (by decide)) (by rfl) tk (da_cons (de_var (pv 0)) da_nil) (fun h => by rw [alen1 h]; rfl))) dss_nil)))))
theorem cal_expand (A0 : Facts K mg) : Cal P w K mg base (cf K) "expand" 52 ["program", "limit"] 2 F_expand [.int 1000] := by
  obtain ⟨fd, F⟩ := A0.c.def_ 18 (d := d_expand) rfl
  have hm : mg "expand" = some (.ref (He.ga K "expand")) := A0.glo (A0.c.fact 18 (f := .glo "expand") rfl)
  obtain ⟨ds, rds, bd⟩ := F.binds0 (ps := ["program", "limit"]) 1 (List.cons_ne_nil _ _) rfl fun D _ _ _ _ _ us ks h1 h2 => match us, ks, h1, h2 with | [_], [_], _, _ => ⟨_, _, _, _, _, _, rfl, rfl, rfl⟩
  refine ⟨_, fd, ds, _, hm, F.kp, ?_, bd, rds, fun _ => .cons (.int _) (.nil)⟩
  exact fn_expand A0 F
abbrev N__find : List Str := ["program", "index", "rest", "at", "step", "length"]
theorem sc__find : FnScope N__find ["program", "index"] (defScope s__find) := ⟨rfl, rfl, rfl, by decide +kernel, rfl, by decide +kernel, by decide +kernel⟩
def b__find : SM := sSeq (sSet 2 (mVar 1)) (sSeq (sFor (iEnumM (mVar 0)) (tgTup [tgName 3, tgName 4]) (sSeq (sSet 5 (mFnD F__step_length [] (aCons (mVar 4) (aNil)))) (sSeq (sIf (tCmpM ltI (mVar 2) (mVar 5)) (sSeq (sRet (mTup (aCons (mVar 3) (aCons (mVar 2) (aNil))))) (sNil)) (sNil)) (sSeq (sSet 2 (mBin subI (mVar 2) (mVar 5))) (sNil))))) (sSeq (sRet (mTup (aCons (mCall lenD (aCons (mVar 0) (aNil))) (aCons (mC (.int 0)) (aNil))))) (sNil)))
def F__find : FM := runF 6 b__find
theorem fn__find (A0 : Facts K mg) {fd : FuncData} (F : FunD K d__find.name d__find.qual d__find.params d__find.body d__find.scope (d__find.dvs K) (d__find.kws K) (He.fAd K d__find.at_) fd) : FnOk P w K mg base (L2.CX P w) 27 (He.fAd K d__find.at_) fd ["program", "index"] (spM (cf K) 2 F__find) := by
  refine mk_fnD (k := 26) F sc__find rfl rfl fun cdv A outer s H E hr => ?_
  have tk := tk_of (P := P) (w := w) (K := K) (mg := mg) (base := base) (N := N__find) (qual := "_find") (scope := defScope s__find) (f := He.ga K "_find") (cdv := cdv) (A := A) (outer := outer) (s := s) (H := H) (E := E)
  exact (dss_cons (ds_set (i := 2) sc__find.nd rfl (by first | exact Or.inl rfl | exact Or.inr rfl) (de_var (pv 1))) (dss_cons (ds_for (passes_of rfl) rfl (di_enum rfl (fun h => pi_enumT (by rfl) (m_enumerate A0) h) (de_var (pv 0))) (dg_tup rfl rfl (dgs_cons (dg_name (pg_name (i := 3) sc__find.nd rfl (by first | exact Or.inl rfl | exact Or.inr rfl))) (dgs_cons (dg_name (pg_name (i := 4) sc__find.nd rfl (by first | exact Or.inl rfl | exact Or.inr rfl))) dgs_nil)) rfl) (dss_cons (ds_set (i := 5) sc__find.nd rfl (by first | exact Or.inl rfl | exact Or.inr rfl) (de_callA (Cal.at (cal__step_length (base := base) A0) hr (by decide)) (by rfl) tk (da_cons (de_var (pv 4)) da_nil) (fun h => by rw [alen1 h]; rfl))) (dss_cons (ds_if (dt_cmp d_ltI (de_var (pv 2)) (de_var (pv 5)) (nomark _)) (dss_cons (ds_ret (de_tup (da_cons (de_var (pv 3)) (da_cons (de_var (pv 2)) da_nil)))) dss_nil) dss_nil) (dss_cons (ds_set (i := 2) sc__find.nd rfl (by first | exact Or.inl rfl | exact Or.inr rfl) (de_op d_subI (de_var (pv 2)) (de_var (pv 5)))) dss_nil)))) (dss_cons (ds_ret (de_tup (da_cons (de_callB (d_len rfl) (by rfl) (m_len A0) bt_len (da_cons (de_var (pv 0)) da_nil)) (da_cons de_int da_nil)))) dss_nil)))
theorem cal__find (A0 : Facts K mg) : Cal P w K mg base (cf K) "_find" 27 ["program", "index"] 2 F__find [] := by
  obtain ⟨fd, F⟩ := A0.c.def_ 19 (d := d__find) rfl
  have hm : mg "_find" = some (.ref (He.ga K "_find")) := A0.glo (A0.c.fact 19 (f := .glo "_find") rfl)
  have bd : Binds K fd ["program", "index"] [] := F.bindsN fun _ _ _ _ _ _ us hl => match us, hl with | [_, _], _ => rfl
  refine ⟨_, fd, [], [], hm, F.kp, ?_, bd, .nil, fun _ => .nil⟩
  exact fn__find A0 F
abbrev N__elementary : List Str := ["program", "index", "at", "rest", "step"]
theorem sc__elementary : FnScope N__elementary ["program", "index"] (defScope s__elementary) := ⟨rfl, rfl, rfl, by decide +kernel, rfl, by decide +kernel, by decide +kernel⟩
def b__elementary (R0 : FM) : SM := sSeq (sAsg (tgTup [tgName 2, tgName 3]) (mFnD F__find [] (aCons (mVar 0) (aCons (mVar 1) (aNil))))) (sSeq (sSet 4 (mBin ixD (mVar 0) (mVar 2))) (sSeq (sIf (tCmpM eqD (mBin ixD (mVar 4) (mC (.int 0))) (mC (.str "insert"))) (sSeq (sRet (mTup (aCons (mC (.str "insert")) (aCons (mBin ixD (mVar 4) (mC (.int 1))) (aCons (mC (.int 1)) (aNil)))))) (sNil)) (sNil)) (sSeq (sIf (tCmpM eqD (mBin ixD (mVar 4) (mC (.int 0))) (mC (.str "remove"))) (sSeq (sRet (mTup (aCons (mC (.str "remove")) (aCons (mC (.int 1)) (aNil))))) (sNil)) (sNil)) (sSeq (sRet (mFnD R0 [] (aCons (mBin ixD (mVar 4) (mC (.int 2))) (aCons (mBin modI (mVar 3) (mFnD F__length [] (aCons (mBin ixD (mVar 4) (mC (.int 2))) (aNil)))) (aNil))))) (sNil)))))
def G__elementary : Nat → Nat → FM
  | 0, _ => badF
  | n + 1, _ => runF 5 (b__elementary (G__elementary n 0))
theorem calG__elementary (A0 : Facts K mg) : ∀ n : Nat, (Cal P w K mg base (cf K) "_elementary" (28 + n) ["program", "index"] 2 (G__elementary n 0) []) := by
  intro n
  induction n with
  | zero =>
    skip
    · obtain ⟨fd, F⟩ := A0.c.def_ 20 (d := d__elementary) rfl
      have hm : mg "_elementary" = some (.ref (He.ga K "_elementary")) := A0.glo (A0.c.fact 20 (f := .glo "_elementary") rfl)
      have bd : Binds K fd ["program", "index"] [] := F.bindsN fun _ _ _ _ _ _ us hl => match us, hl with | [_, _], _ => rfl
      refine ⟨_, fd, [], [], hm, F.kp, ?_, bd, .nil, fun _ => .nil⟩
      exact fn_bad rfl
  | succ n ih =>
    have ih0 := ih
    skip
    · obtain ⟨fd, F⟩ := A0.c.def_ 20 (d := d__elementary) rfl
      have hm : mg "_elementary" = some (.ref (He.ga K "_elementary")) := A0.glo (A0.c.fact 20 (f := .glo "_elementary") rfl)
      have bd : Binds K fd ["program", "index"] [] := F.bindsN fun _ _ _ _ _ _ us hl => match us, hl with | [_, _], _ => rfl
      refine ⟨_, fd, [], [], hm, F.kp, ?_, bd, .nil, fun _ => .nil⟩
      refine mk_fnD (k := 28 + n) F sc__elementary rfl rfl fun cdv A outer s H E hr => ?_
      have tk := tk_of (P := P) (w := w) (K := K) (mg := mg) (base := base) (N := N__elementary) (qual := "_elementary") (scope := defScope s__elementary) (f := He.ga K "_elementary") (cdv := cdv) (A := A) (outer := outer) (s := s) (H := H) (E := E)
      exact (dss_cons (ds_asg (de_callA (Cal.at (cal__find (base := base) A0) hr (by omega)) (by rfl) tk (da_cons (de_var (pv 0)) (da_cons (de_var (pv 1)) da_nil)) (fun h => by rw [alen2 h]; rfl)) (dg_tup rfl rfl (dgs_cons (dg_name (pg_name (i := 2) sc__elementary.nd rfl (by first | exact Or.inl rfl | exact Or.inr rfl))) (dgs_cons (dg_name (pg_name (i := 3) sc__elementary.nd rfl (by first | exact Or.inl rfl | exact Or.inr rfl))) dgs_nil)) rfl)) (dss_cons (ds_set (i := 4) sc__elementary.nd rfl (by first | exact Or.inl rfl | exact Or.inr rfl) (de_ix (d_ix rfl) (de_var (pv 0)) (de_var (pv 2)) (fun _ _ => rfl))) (dss_cons (ds_if (dt_cmp (d_eqD rfl (hu64 hr)) (de_ix (d_ix rfl) (de_var (pv 4)) de_int (fun _ _ => rfl)) de_str (nomark _)) (dss_cons (ds_ret (de_tup (da_cons de_str (da_cons (de_ix (d_ix rfl) (de_var (pv 4)) de_int (fun _ _ => rfl)) (da_cons de_int da_nil))))) dss_nil) dss_nil) (dss_cons (ds_if (dt_cmp (d_eqD rfl (hu64 hr)) (de_ix (d_ix rfl) (de_var (pv 4)) de_int (fun _ _ => rfl)) de_str (nomark _)) (dss_cons (ds_ret (de_tup (da_cons de_str (da_cons de_int da_nil)))) dss_nil) dss_nil) (dss_cons (ds_ret (de_callA (Cal.at ih0 hr (by omega)) (by rfl) tk (da_cons (de_ix (d_ix rfl) (de_var (pv 4)) de_int (fun _ _ => rfl)) (da_cons (de_op d_modI (de_var (pv 3)) (de_callA (Cal.at (cal__length (base := base) A0) hr (by omega)) (by rfl) tk (da_cons (de_ix (d_ix rfl) (de_var (pv 4)) de_int (fun _ _ => rfl)) da_nil) (fun h => by rw [alen1 h]; rfl))) da_nil)) (fun h => by rw [alen2 h]; rfl))) dss_nil)))))
def F__elementary : FM := G__elementary 24 0
theorem cal__elementary (A0 : Facts K mg) : Cal P w K mg base (cf K) "_elementary" 52 ["program", "index"] 2 F__elementary [] := (calG__elementary A0 24)
abbrev N_step_at : List Str := ["program", "index"]
theorem sc_step_at : FnScope N_step_at ["program", "index"] (defScope s_step_at) := ⟨rfl, rfl, rfl, by decide +kernel, rfl, by decide +kernel, by decide +kernel⟩
def b_step_at : SM := sSeq (sDrop (mFnD F_check_program [] (aCons (mVar 0) (aNil)))) (sSeq (sIf (tOrM (tNotM (tTru (mFnD F_is_count [] (aCons (mVar 1) (aNil))))) (tCmpM geI (mVar 1) (mFnD F__length [] (aCons (mVar 0) (aNil))))) (sSeq (sRaise 2 "value" (mVar 1)) (sNil)) (sNil)) (sSeq (sRet (mFnD F__elementary [] (aCons (mVar 0) (aCons (mVar 1) (aNil))))) (sNil)))
def F_step_at : FM := runF 2 b_step_at
theorem fn_step_at (A0 : Facts K mg) {fd : FuncData} (F : FunD K d_step_at.name d_step_at.qual d_step_at.params d_step_at.body d_step_at.scope (d_step_at.dvs K) (d_step_at.kws K) (He.fAd K d_step_at.at_) fd) : FnOk P w K mg base (L2.CX P w) 53 (He.fAd K d_step_at.at_) fd ["program", "index"] (spM (cf K) 2 F_step_at) := by
  refine mk_fnD (k := 52) F sc_step_at rfl rfl fun cdv A outer s H E hr => ?_
  have tk := tk_of (P := P) (w := w) (K := K) (mg := mg) (base := base) (N := N_step_at) (qual := "step_at") (scope := defScope s_step_at) (f := He.ga K "step_at") (cdv := cdv) (A := A) (outer := outer) (s := s) (H := H) (E := E)
  exact (dss_cons (ds_drop (de_callA (Cal.at (cal_check_program (base := base) A0) hr (by decide)) (by rfl) tk (da_cons (de_var (pv 0)) da_nil) (fun h => by rw [alen1 h]; rfl))) (dss_cons (ds_if (PW.pt (dw_or (dt_not (dt_tru rfl (de_callA (Cal.at (cal_is_count (base := base) A0) hr (by decide)) (by rfl) tk (da_cons (de_var (pv 1)) da_nil) (fun h => by rw [alen1 h]; rfl)) (fun _ => rfl))) (dw_or1 (dt_cmp d_geI (de_var (pv 1)) (de_callA (Cal.at (cal__length (base := base) A0) hr (by decide)) (by rfl) tk (da_cons (de_var (pv 0)) da_nil) (fun h => by rw [alen1 h]; rfl)) (nomark _))))) (dss_cons (ds_raise rfl tk (fun h => mkx_OutOfRange A0 hr (by decide) (by rfl) h) rfl (de_var (pv 1))) dss_nil) dss_nil) (dss_cons (ds_ret (de_callA (Cal.at (cal__elementary (base := base) A0) hr (by decide)) (by rfl) tk (da_cons (de_var (pv 0)) (da_cons (de_var (pv 1)) da_nil)) (fun h => by rw [alen2 h]; rfl))) dss_nil)))
theorem cal_step_at (A0 : Facts K mg) : Cal P w K mg base (cf K) "step_at" 53 ["program", "index"] 2 F_step_at [] := by
  obtain ⟨fd, F⟩ := A0.c.def_ 21 (d := d_step_at) rfl
  have hm : mg "step_at" = some (.ref (He.ga K "step_at")) := A0.glo (A0.c.fact 21 (f := .glo "step_at") rfl)
  have bd : Binds K fd ["program", "index"] [] := F.bindsN fun _ _ _ _ _ _ us hl => match us, hl with | [_, _], _ => rfl
  refine ⟨_, fd, [], [], hm, F.kp, ?_, bd, .nil, fun _ => .nil⟩
  exact fn_step_at A0 F
abbrev N__check_cut : List Str := ["program", "index"]
theorem sc__check_cut : FnScope N__check_cut ["program", "index"] (defScope s__check_cut) := ⟨rfl, rfl, rfl, by decide +kernel, rfl, by decide +kernel, by decide +kernel⟩
def b__check_cut : SM := sSeq (sDrop (mFnD F_check_program [] (aCons (mVar 0) (aNil)))) (sSeq (sIf (tOrM (tNotM (tTru (mFnD F_is_count [] (aCons (mVar 1) (aNil))))) (tCmpM gtI (mVar 1) (mFnD F__length [] (aCons (mVar 0) (aNil))))) (sSeq (sRaise 2 "value" (mVar 1)) (sNil)) (sNil)) (sNil))
def F__check_cut : FM := runF 2 b__check_cut
theorem fn__check_cut (A0 : Facts K mg) {fd : FuncData} (F : FunD K d__check_cut.name d__check_cut.qual d__check_cut.params d__check_cut.body d__check_cut.scope (d__check_cut.dvs K) (d__check_cut.kws K) (He.fAd K d__check_cut.at_) fd) : FnOk P w K mg base (L2.CX P w) 30 (He.fAd K d__check_cut.at_) fd ["program", "index"] (spM (cf K) 2 F__check_cut) := by
  refine mk_fnD (k := 29) F sc__check_cut rfl rfl fun cdv A outer s H E hr => ?_
  have tk := tk_of (P := P) (w := w) (K := K) (mg := mg) (base := base) (N := N__check_cut) (qual := "_check_cut") (scope := defScope s__check_cut) (f := He.ga K "_check_cut") (cdv := cdv) (A := A) (outer := outer) (s := s) (H := H) (E := E)
  exact (dss_cons (ds_drop (de_callA (Cal.at (cal_check_program (base := base) A0) hr (by decide)) (by rfl) tk (da_cons (de_var (pv 0)) da_nil) (fun h => by rw [alen1 h]; rfl))) (dss_cons (ds_if (PW.pt (dw_or (dt_not (dt_tru rfl (de_callA (Cal.at (cal_is_count (base := base) A0) hr (by decide)) (by rfl) tk (da_cons (de_var (pv 1)) da_nil) (fun h => by rw [alen1 h]; rfl)) (fun _ => rfl))) (dw_or1 (dt_cmp d_gtI (de_var (pv 1)) (de_callA (Cal.at (cal__length (base := base) A0) hr (by decide)) (by rfl) tk (da_cons (de_var (pv 0)) da_nil) (fun h => by rw [alen1 h]; rfl)) (nomark _))))) (dss_cons (ds_raise rfl tk (fun h => mkx_OutOfRange A0 hr (by decide) (by rfl) h) rfl (de_var (pv 1))) dss_nil) dss_nil) dss_nil))
theorem cal__check_cut (A0 : Facts K mg) : Cal P w K mg base (cf K) "_check_cut" 30 ["program", "index"] 2 F__check_cut [] := by
  obtain ⟨fd, F⟩ := A0.c.def_ 22 (d := d__check_cut) rfl
  have hm : mg "_check_cut" = some (.ref (He.ga K "_check_cut")) := A0.glo (A0.c.fact 22 (f := .glo "_check_cut") rfl)
  have bd : Binds K fd ["program", "index"] [] := F.bindsN fun _ _ _ _ _ _ us hl => match us, hl with | [_, _], _ => rfl
  refine ⟨_, fd, [], [], hm, F.kp, ?_, bd, .nil, fun _ => .nil⟩
  exact fn__check_cut A0 F
abbrev N__turns : List Str := ["count", "program"]
theorem sc__turns : FnScope N__turns ["count", "program"] (defScope s__turns) := ⟨rfl, rfl, rfl, by decide +kernel, rfl, by decide +kernel, by decide +kernel⟩
def b__turns : SM := sSeq (sIf (tCmpM eqD (mVar 0) (mC (.int 0))) (sSeq (sRet (mTup (aNil))) (sNil)) (sNil)) (sSeq (sRet (mTup (aCons (mTup (aCons (mC (.str "repeat")) (aCons (mVar 0) (aCons (mVar 1) (aNil))))) (aNil)))) (sNil))
def F__turns : FM := runF 2 b__turns
theorem fn__turns (A0 : Facts K mg) {fd : FuncData} (F : FunD K d__turns.name d__turns.qual d__turns.params d__turns.body d__turns.scope (d__turns.dvs K) (d__turns.kws K) (He.fAd K d__turns.at_) fd) : FnOk P w K mg base (L2.CX P w) 1 (He.fAd K d__turns.at_) fd ["count", "program"] (spM (cf K) 2 F__turns) := by
  refine mk_fnD (k := 0) F sc__turns rfl rfl fun cdv A outer s H E hr => ?_
  have tk := tk_of (P := P) (w := w) (K := K) (mg := mg) (base := base) (N := N__turns) (qual := "_turns") (scope := defScope s__turns) (f := He.ga K "_turns") (cdv := cdv) (A := A) (outer := outer) (s := s) (H := H) (E := E)
  exact (dss_cons (ds_if (dt_cmp (d_eqD rfl (hu64 hr)) (de_var (pv 0)) de_int (nomark _)) (dss_cons (ds_ret (de_tup da_nil)) dss_nil) dss_nil) (dss_cons (ds_ret (de_tup (da_cons (de_tup (da_cons de_str (da_cons (de_var (pv 0)) (da_cons (de_var (pv 1)) da_nil)))) da_nil))) dss_nil))
theorem cal__turns (A0 : Facts K mg) : Cal P w K mg base (cf K) "_turns" 1 ["count", "program"] 2 F__turns [] := by
  obtain ⟨fd, F⟩ := A0.c.def_ 23 (d := d__turns) rfl
  have hm : mg "_turns" = some (.ref (He.ga K "_turns")) := A0.glo (A0.c.fact 23 (f := .glo "_turns") rfl)
  have bd : Binds K fd ["count", "program"] [] := F.bindsN fun _ _ _ _ _ _ us hl => match us, hl with | [_, _], _ => rfl
  refine ⟨_, fd, [], [], hm, F.kp, ?_, bd, .nil, fun _ => .nil⟩
  exact fn__turns A0 F
abbrev N__split : List Str := ["program", "index", "at", "rest", "head", "tail"]
theorem sc__split : FnScope N__split ["program", "index"] (defScope s__split) := ⟨rfl, rfl, rfl, by decide +kernel, rfl, by decide +kernel, by decide +kernel⟩
abbrev N__split_step : List Str := ["step", "index", "turns", "rest", "head", "tail"]
theorem sc__split_step : FnScope N__split_step ["step", "index"] (defScope s__split_step) := ⟨rfl, rfl, rfl, by decide +kernel, rfl, by decide +kernel, by decide +kernel⟩
def b__split (R0 : FM) (R1 : FM) : SM := sSeq (sAsg (tgTup [tgName 2, tgName 3]) (mFnD F__find [] (aCons (mVar 0) (aCons (mVar 1) (aNil))))) (sSeq (sIf (tCmpM eqD (mVar 3) (mC (.int 0))) (sSeq (sRet (mTup (aCons (mSl (mVar 0) (oNone) (oSome (mVar 2))) (aCons (mSl (mVar 0) (oSome (mVar 2)) (oNone)) (aNil))))) (sNil)) (sNil)) (sSeq (sAsg (tgTup [tgName 4, tgName 5]) (mFnD R1 [] (aCons (mBin ixD (mVar 0) (mVar 2)) (aCons (mVar 3) (aNil))))) (sSeq (sRet (mTup (aCons (mBin addD (mSl (mVar 0) (oNone) (oSome (mVar 2))) (mVar 4)) (aCons (mBin addD (mVar 5) (mSl (mVar 0) (oSome (mBin addD (mVar 2) (mC (.int 1)))) (oNone))) (aNil))))) (sNil))))
def b__split_step (R0 : FM) (R1 : FM) : SM := sSeq (sIf (tCmpM eqD (mBin ixD (mVar 0) (mC (.int 0))) (mC (.str "insert"))) (sSeq (sRet (mTup (aCons (mTup (aCons (mTup (aCons (mC (.str "insert")) (aCons (mBin ixD (mVar 0) (mC (.int 1))) (aCons (mVar 1) (aNil))))) (aNil))) (aCons (mTup (aCons (mTup (aCons (mC (.str "insert")) (aCons (mBin ixD (mVar 0) (mC (.int 1))) (aCons (mBin subI (mBin ixD (mVar 0) (mC (.int 2))) (mVar 1)) (aNil))))) (aNil))) (aNil))))) (sNil)) (sNil)) (sSeq (sIf (tCmpM eqD (mBin ixD (mVar 0) (mC (.int 0))) (mC (.str "remove"))) (sSeq (sRet (mTup (aCons (mTup (aCons (mTup (aCons (mC (.str "remove")) (aCons (mVar 1) (aNil)))) (aNil))) (aCons (mTup (aCons (mTup (aCons (mC (.str "remove")) (aCons (mBin subI (mBin ixD (mVar 0) (mC (.int 1))) (mVar 1)) (aNil)))) (aNil))) (aNil))))) (sNil)) (sNil)) (sSeq (sAsg (tgTup [tgName 2, tgName 3]) (mCall divmodD (aCons (mVar 1) (aCons (mFnD F__length [] (aCons (mBin ixD (mVar 0) (mC (.int 2))) (aNil))) (aNil))))) (sSeq (sIf (tCmpM eqD (mVar 3) (mC (.int 0))) (sSeq (sRet (mTup (aCons (mFnD F__turns [] (aCons (mVar 2) (aCons (mBin ixD (mVar 0) (mC (.int 2))) (aNil)))) (aCons (mFnD F__turns [] (aCons (mBin subI (mBin ixD (mVar 0) (mC (.int 1))) (mVar 2)) (aCons (mBin ixD (mVar 0) (mC (.int 2))) (aNil)))) (aNil))))) (sNil)) (sNil)) (sSeq (sAsg (tgTup [tgName 4, tgName 5]) (mFnD R0 [] (aCons (mBin ixD (mVar 0) (mC (.int 2))) (aCons (mVar 3) (aNil))))) (sSeq (sRet (mTup (aCons (mBin addD (mFnD F__turns [] (aCons (mVar 2) (aCons (mBin ixD (mVar 0) (mC (.int 2))) (aNil)))) (mVar 4)) (aCons (mBin addD (mVar 5) (mFnD F__turns [] (aCons (mBin subI (mBin subI (mBin ixD (mVar 0) (mC (.int 1))) (mVar 2)) (mC (.int 1))) (aCons (mBin ixD (mVar 0) (mC (.int 2))) (aNil))))) (aNil))))) (sNil))))))
def G__split : Nat → Nat → FM
  | 0, _ => badF
  | n + 1, 0 => runF 6 (b__split (G__split n 0) (G__split n 1))
  | n + 1, _ => runF 6 (b__split_step (G__split n 0) (G__split n 1))
theorem calG__split (A0 : Facts K mg) : ∀ n : Nat, (Cal P w K mg base (cf K) "_split" (28 + n) ["program", "index"] 2 (G__split n 0) []) ∧ (Cal P w K mg base (cf K) "_split_step" (28 + n) ["step", "index"] 2 (G__split n 1) []) := by
  intro n
  induction n with
  | zero =>
    refine ⟨?_, ?_⟩
    · obtain ⟨fd, F⟩ := A0.c.def_ 24 (d := d__split) rfl
      have hm : mg "_split" = some (.ref (He.ga K "_split")) := A0.glo (A0.c.fact 24 (f := .glo "_split") rfl)
      have bd : Binds K fd ["program", "index"] [] := F.bindsN fun _ _ _ _ _ _ us hl => match us, hl with | [_, _], _ => rfl
      refine ⟨_, fd, [], [], hm, F.kp, ?_, bd, .nil, fun _ => .nil⟩
      exact fn_bad rfl
    · obtain ⟨fd, F⟩ := A0.c.def_ 25 (d := d__split_step) rfl
      have hm : mg "_split_step" = some (.ref (He.ga K "_split_step")) := A0.glo (A0.c.fact 25 (f := .glo "_split_step") rfl)
      have bd : Binds K fd ["step", "index"] [] := F.bindsN fun _ _ _ _ _ _ us hl => match us, hl with | [_, _], _ => rfl
      refine ⟨_, fd, [], [], hm, F.kp, ?_, bd, .nil, fun _ => .nil⟩
      exact fn_bad rfl
  | succ n ih =>
    obtain ⟨ih0, ih1⟩ := ih
    refine ⟨?_, ?_⟩
    · obtain ⟨fd, F⟩ := A0.c.def_ 24 (d := d__split) rfl
      have hm : mg "_split" = some (.ref (He.ga K "_split")) := A0.glo (A0.c.fact 24 (f := .glo "_split") rfl)
      have bd : Binds K fd ["program", "index"] [] := F.bindsN fun _ _ _ _ _ _ us hl => match us, hl with | [_, _], _ => rfl
      refine ⟨_, fd, [], [], hm, F.kp, ?_, bd, .nil, fun _ => .nil⟩
      refine mk_fnD (k := 28 + n) F sc__split rfl rfl fun cdv A outer s H E hr => ?_
      have tk := tk_of (P := P) (w := w) (K := K) (mg := mg) (base := base) (N := N__split) (qual := "_split") (scope := defScope s__split) (f := He.ga K "_split") (cdv := cdv) (A := A) (outer := outer) (s := s) (H := H) (E := E)
      exact (dss_cons (ds_asg (de_callA (Cal.at (cal__find (base := base) A0) hr (by omega)) (by rfl) tk (da_cons (de_var (pv 0)) (da_cons (de_var (pv 1)) da_nil)) (fun h => by rw [alen2 h]; rfl)) (dg_tup rfl rfl (dgs_cons (dg_name (pg_name (i := 2) sc__split.nd rfl (by first | exact Or.inl rfl | exact Or.inr rfl))) (dgs_cons (dg_name (pg_name (i := 3) sc__split.nd rfl (by first | exact Or.inl rfl | exact Or.inr rfl))) dgs_nil)) rfl)) (dss_cons (ds_if (dt_cmp (d_eqD rfl (hu64 hr)) (de_var (pv 3)) de_int (nomark _)) (dss_cons (ds_ret (de_tup (da_cons (de_sl rfl (de_var (pv 0)) do_none (do_some (de_var (pv 2)))) (da_cons (de_sl rfl (de_var (pv 0)) (do_some (de_var (pv 2))) do_none) da_nil)))) dss_nil) dss_nil) (dss_cons (ds_asg (de_callA (Cal.at ih1 hr (by omega)) (by rfl) tk (da_cons (de_ix (d_ix rfl) (de_var (pv 0)) (de_var (pv 2)) (fun _ _ => rfl)) (da_cons (de_var (pv 3)) da_nil)) (fun h => by rw [alen2 h]; rfl)) (dg_tup rfl rfl (dgs_cons (dg_name (pg_name (i := 4) sc__split.nd rfl (by first | exact Or.inl rfl | exact Or.inr rfl))) (dgs_cons (dg_name (pg_name (i := 5) sc__split.nd rfl (by first | exact Or.inl rfl | exact Or.inr rfl))) dgs_nil)) rfl)) (dss_cons (ds_ret (de_tup (da_cons (de_op (d_add rfl) (de_sl rfl (de_var (pv 0)) do_none (do_some (de_var (pv 2)))) (de_var (pv 4))) (da_cons (de_op (d_add rfl) (de_var (pv 5)) (de_sl rfl (de_var (pv 0)) (do_some (de_op (d_add rfl) (de_var (pv 2)) de_int)) do_none)) da_nil)))) dss_nil))))
    · obtain ⟨fd, F⟩ := A0.c.def_ 25 (d := d__split_step) rfl
      have hm : mg "_split_step" = some (.ref (He.ga K "_split_step")) := A0.glo (A0.c.fact 25 (f := .glo "_split_step") rfl)
      have bd : Binds K fd ["step", "index"] [] := F.bindsN fun _ _ _ _ _ _ us hl => match us, hl with | [_, _], _ => rfl
      refine ⟨_, fd, [], [], hm, F.kp, ?_, bd, .nil, fun _ => .nil⟩
      refine mk_fnD (k := 28 + n) F sc__split_step rfl rfl fun cdv A outer s H E hr => ?_
      have tk := tk_of (P := P) (w := w) (K := K) (mg := mg) (base := base) (N := N__split_step) (qual := "_split_step") (scope := defScope s__split_step) (f := He.ga K "_split_step") (cdv := cdv) (A := A) (outer := outer) (s := s) (H := H) (E := E)
      exact (dss_cons (ds_if (dt_cmp (d_eqD rfl (hu64 hr)) (de_ix (d_ix rfl) (de_var (pv 0)) de_int (fun _ _ => rfl)) de_str (nomark _)) (dss_cons (ds_ret (de_tup (da_cons (de_tup (da_cons (de_tup (da_cons de_str (da_cons (de_ix (d_ix rfl) (de_var (pv 0)) de_int (fun _ _ => rfl)) (da_cons (de_var (pv 1)) da_nil)))) da_nil)) (da_cons (de_tup (da_cons (de_tup (da_cons de_str (da_cons (de_ix (d_ix rfl) (de_var (pv 0)) de_int (fun _ _ => rfl)) (da_cons (de_op d_subI (de_ix (d_ix rfl) (de_var (pv 0)) de_int (fun _ _ => rfl)) (de_var (pv 1))) da_nil)))) da_nil)) da_nil)))) dss_nil) dss_nil) (dss_cons (ds_if (dt_cmp (d_eqD rfl (hu64 hr)) (de_ix (d_ix rfl) (de_var (pv 0)) de_int (fun _ _ => rfl)) de_str (nomark _)) (dss_cons (ds_ret (de_tup (da_cons (de_tup (da_cons (de_tup (da_cons de_str (da_cons (de_var (pv 1)) da_nil))) da_nil)) (da_cons (de_tup (da_cons (de_tup (da_cons de_str (da_cons (de_op d_subI (de_ix (d_ix rfl) (de_var (pv 0)) de_int (fun _ _ => rfl)) (de_var (pv 1))) da_nil))) da_nil)) da_nil)))) dss_nil) dss_nil) (dss_cons (ds_asg (de_callB d_divmod (by rfl) (m_divmod A0) bt_divmod (da_cons (de_var (pv 1)) (da_cons (de_callA (Cal.at (cal__length (base := base) A0) hr (by omega)) (by rfl) tk (da_cons (de_ix (d_ix rfl) (de_var (pv 0)) de_int (fun _ _ => rfl)) da_nil) (fun h => by rw [alen1 h]; rfl)) da_nil))) (dg_tup rfl rfl (dgs_cons (dg_name (pg_name (i := 2) sc__split_step.nd rfl (by first | exact Or.inl rfl | exact Or.inr rfl))) (dgs_cons (dg_name (pg_name (i := 3) sc__split_step.nd rfl (by first | exact Or.inl rfl | exact Or.inr rfl))) dgs_nil)) rfl)) (dss_cons (ds_if (dt_cmp (d_eqD rfl (hu64 hr)) (de_var (pv 3)) de_int (nomark _)) (dss_cons (ds_ret (de_tup (da_cons (de_callA (Cal.at (cal__turns (base := base) A0) hr (by omega)) (by rfl) tk (da_cons (de_var (pv 2)) (da_cons (de_ix (d_ix rfl) (de_var (pv 0)) de_int (fun _ _ => rfl)) da_nil)) (fun h => by rw [alen2 h]; rfl)) (da_cons (de_callA (Cal.at (cal__turns (base := base) A0) hr (by omega)) (by rfl) tk (da_cons (de_op d_subI (de_ix (d_ix rfl) (de_var (pv 0)) de_int (fun _ _ => rfl)) (de_var (pv 2))) (da_cons (de_ix (d_ix rfl) (de_var (pv 0)) de_int (fun _ _ => rfl)) da_nil)) (fun h => by rw [alen2 h]; rfl)) da_nil)))) dss_nil) dss_nil) (dss_cons (ds_asg (de_callA (Cal.at ih0 hr (by omega)) (by rfl) tk (da_cons (de_ix (d_ix rfl) (de_var (pv 0)) de_int (fun _ _ => rfl)) (da_cons (de_var (pv 3)) da_nil)) (fun h => by rw [alen2 h]; rfl)) (dg_tup rfl rfl (dgs_cons (dg_name (pg_name (i := 4) sc__split_step.nd rfl (by first | exact Or.inl rfl | exact Or.inr rfl))) (dgs_cons (dg_name (pg_name (i := 5) sc__split_step.nd rfl (by first | exact Or.inl rfl | exact Or.inr rfl))) dgs_nil)) rfl)) (dss_cons (ds_ret (de_tup (da_cons (de_op (d_add rfl) (de_callA (Cal.at (cal__turns (base := base) A0) hr (by omega)) (by rfl) tk (da_cons (de_var (pv 2)) (da_cons (de_ix (d_ix rfl) (de_var (pv 0)) de_int (fun _ _ => rfl)) da_nil)) (fun h => by rw [alen2 h]; rfl)) (de_var (pv 4))) (da_cons (de_op (d_add rfl) (de_var (pv 5)) (de_callA (Cal.at (cal__turns (base := base) A0) hr (by omega)) (by rfl) tk (da_cons (de_op d_subI (de_op d_subI (de_ix (d_ix rfl) (de_var (pv 0)) de_int (fun _ _ => rfl)) (de_var (pv 2))) de_int) (da_cons (de_ix (d_ix rfl) (de_var (pv 0)) de_int (fun _ _ => rfl)) da_nil)) (fun h => by rw [alen2 h]; rfl))) da_nil)))) dss_nil))))))
def F__split : FM := G__split 24 0
theorem cal__split (A0 : Facts K mg) : Cal P w K mg base (cf K) "_split" 52 ["program", "index"] 2 F__split [] := (calG__split A0 24).1
def F__split_step : FM := G__split 24 1
theorem cal__split_step (A0 : Facts K mg) : Cal P w K mg base (cf K) "_split_step" 52 ["step", "index"] 2 F__split_step [] := (calG__split A0 24).2
abbrev N_prefix : List Str := ["program", "index"]
theorem sc_prefix : FnScope N_prefix ["program", "index"] (defScope s_prefix) := ⟨rfl, rfl, rfl, by decide +kernel, rfl, by decide +kernel, by decide +kernel⟩
def b_prefix : SM := sSeq (sDrop (mFnD F__check_cut [] (aCons (mVar 0) (aCons (mVar 1) (aNil))))) (sSeq (sRet (mBin ixD (mFnD F__split [] (aCons (mVar 0) (aCons (mVar 1) (aNil)))) (mC (.int 0)))) (sNil))
def F_prefix : FM := runF 2 b_prefix
theorem fn_prefix (A0 : Facts K mg) {fd : FuncData} (F : FunD K d_prefix.name d_prefix.qual d_prefix.params d_prefix.body d_prefix.scope (d_prefix.dvs K) (d_prefix.kws K) (He.fAd K d_prefix.at_) fd) : FnOk P w K mg base (L2.CX P w) 53 (He.fAd K d_prefix.at_) fd ["program", "index"] (spM (cf K) 2 F_prefix) := by
  refine mk_fnD (k := 52) F sc_prefix rfl rfl fun cdv A outer s H E hr => ?_
  have tk := tk_of (P := P) (w := w) (K := K) (mg := mg) (base := base) (N := N_prefix) (qual := "prefix") (scope := defScope s_prefix) (f := He.ga K "prefix") (cdv := cdv) (A := A) (outer := outer) (s := s) (H := H) (E := E)
  exact (dss_cons (ds_drop (de_callA (Cal.at (cal__check_cut (base := base) A0) hr (by decide)) (by rfl) tk (da_cons (de_var (pv 0)) (da_cons (de_var (pv 1)) da_nil)) (fun h => by rw [alen2 h]; rfl))) (dss_cons (ds_ret (de_ix (d_ix rfl) (de_callA (Cal.at (cal__split (base := base) A0) hr (by decide)) (by rfl) tk (da_cons (de_var (pv 0)) (da_cons (de_var (pv 1)) da_nil)) (fun h => by rw [alen2 h]; rfl)) de_int (fun _ _ => rfl))) dss_nil))
theorem cal_prefix (A0 : Facts K mg) : Cal P w K mg base (cf K) "prefix" 53 ["program", "index"] 2 F_prefix [] := by
  obtain ⟨fd, F⟩ := A0.c.def_ 26 (d := d_prefix) rfl
  have hm : mg "prefix" = some (.ref (He.ga K "prefix")) := A0.glo (A0.c.fact 26 (f := .glo "prefix") rfl)
  have bd : Binds K fd ["program", "index"] [] := F.bindsN fun _ _ _ _ _ _ us hl => match us, hl with | [_, _], _ => rfl
  refine ⟨_, fd, [], [], hm, F.kp, ?_, bd, .nil, fun _ => .nil⟩
  exact fn_prefix A0 F
abbrev N_suffix : List Str := ["program", "index"]
theorem sc_suffix : FnScope N_suffix ["program", "index"] (defScope s_suffix) := ⟨rfl, rfl, rfl, by decide +kernel, rfl, by decide +kernel, by decide +kernel⟩
def b_suffix : SM := sSeq (sDrop (mFnD F__check_cut [] (aCons (mVar 0) (aCons (mVar 1) (aNil))))) (sSeq (sRet (mBin ixD (mFnD F__split [] (aCons (mVar 0) (aCons (mVar 1) (aNil)))) (mC (.int 1)))) (sNil))
def F_suffix : FM := runF 2 b_suffix
theorem fn_suffix (A0 : Facts K mg) {fd : FuncData} (F : FunD K d_suffix.name d_suffix.qual d_suffix.params d_suffix.body d_suffix.scope (d_suffix.dvs K) (d_suffix.kws K) (He.fAd K d_suffix.at_) fd) : FnOk P w K mg base (L2.CX P w) 53 (He.fAd K d_suffix.at_) fd ["program", "index"] (spM (cf K) 2 F_suffix) := by
  refine mk_fnD (k := 52) F sc_suffix rfl rfl fun cdv A outer s H E hr => ?_
  have tk := tk_of (P := P) (w := w) (K := K) (mg := mg) (base := base) (N := N_suffix) (qual := "suffix") (scope := defScope s_suffix) (f := He.ga K "suffix") (cdv := cdv) (A := A) (outer := outer) (s := s) (H := H) (E := E)
  exact (dss_cons (ds_drop (de_callA (Cal.at (cal__check_cut (base := base) A0) hr (by decide)) (by rfl) tk (da_cons (de_var (pv 0)) (da_cons (de_var (pv 1)) da_nil)) (fun h => by rw [alen2 h]; rfl))) (dss_cons (ds_ret (de_ix (d_ix rfl) (de_callA (Cal.at (cal__split (base := base) A0) hr (by decide)) (by rfl) tk (da_cons (de_var (pv 0)) (da_cons (de_var (pv 1)) da_nil)) (fun h => by rw [alen2 h]; rfl)) de_int (fun _ _ => rfl))) dss_nil))
theorem cal_suffix (A0 : Facts K mg) : Cal P w K mg base (cf K) "suffix" 53 ["program", "index"] 2 F_suffix [] := by
  obtain ⟨fd, F⟩ := A0.c.def_ 27 (d := d_suffix) rfl
  have hm : mg "suffix" = some (.ref (He.ga K "suffix")) := A0.glo (A0.c.fact 27 (f := .glo "suffix") rfl)
  have bd : Binds K fd ["program", "index"] [] := F.bindsN fun _ _ _ _ _ _ us hl => match us, hl with | [_, _], _ => rfl
  refine ⟨_, fd, [], [], hm, F.kp, ?_, bd, .nil, fun _ => .nil⟩
  exact fn_suffix A0 F
abbrev N__law_pool : List Str := ["_law_script", "_law_k", "_law_cell", "_law_great", "_law_mixed"]
theorem sc__law_pool : FnScope N__law_pool ["_law_script", "_law_k"] (defScope s__law_pool) := ⟨rfl, rfl, rfl, by decide +kernel, rfl, by decide +kernel, by decide +kernel⟩
def b__law_pool : SM := sSeq (sSet 2 (mBin addD (mBin mulD (mC (.int 11)) (mCall sumD (aCons (mSl (mVar 0) (oNone) (oSome (mC (.int 63)))) (aNil)))) (mVar 1))) (sSeq (sIf (tCmpM ltI (mVar 1) (mCall lenD (aCons (mVar 0) (aNil)))) (sSeq (sSet 2 (mBin ixD (mVar 0) (mVar 1))) (sNil)) (sNil)) (sSeq (sSet 3 (mCall absD (aCons (mVar 2) (aNil)))) (sSeq (sSet 4 (mBin modI (mBin mulD (mBin addD (mBin addD (mBin addD (mBin modI (mVar 3) (mC (.int 2147483629))) (mBin mulD (mBin mulD (mC (.int 7919)) (mVar 1)) (mVar 1))) (mBin mulD (mC (.int 31)) (mVar 1))) (mC (.int 17))) (mC (.int 48271))) (mC (.int 2147483647)))) (sSeq (sRet (mLst (aCons (mBin mulD (mVar 3) (mCall intD (aCons (mBin geI (mVar 3) (mBin powI (mC (.int 10)) (mC (.int 18)))) (aNil)))) (aCons (mBin modI (mBin mulD (mVar 4) (mVar 4)) (mC (.int 2147483629))) (aNil))))) (sNil)))))
def F__law_pool : FM := runF 5 b__law_pool
theorem fn__law_pool (A0 : Facts K mg) {fd : FuncData} (F : FunD K d__law_pool.name d__law_pool.qual d__law_pool.params d__law_pool.body d__law_pool.scope (d__law_pool.dvs K) (d__law_pool.kws K) (He.fAd K d__law_pool.at_) fd) : FnOk P w K mg base (L2.CX P w) 1 (He.fAd K d__law_pool.at_) fd ["_law_script", "_law_k"] (spM (cf K) 2 F__law_pool) := by
  refine mk_fnD (k := 0) F sc__law_pool rfl rfl fun cdv A outer s H E hr => ?_
  have tk := tk_of (P := P) (w := w) (K := K) (mg := mg) (base := base) (N := N__law_pool) (qual := "_law_pool") (scope := defScope s__law_pool) (f := He.ga K "_law_pool") (cdv := cdv) (A := A) (outer := outer) (s := s) (H := H) (E := E)
  exact (dss_cons (ds_set (i := 2) sc__law_pool.nd rfl (by first | exact Or.inl rfl | exact Or.inr rfl) (de_op (d_add rfl) (de_op d_mul de_int (de_callB (d_sum rfl rfl) (by rfl) (m_sum A0) bt_sum (da_cons (de_sl rfl (de_var (pv 0)) do_none (do_some de_int)) da_nil))) (de_var (pv 1)))) (dss_cons (ds_if (dt_cmp d_ltI (de_var (pv 1)) (de_callB (d_len rfl) (by rfl) (m_len A0) bt_len (da_cons (de_var (pv 0)) da_nil)) (nomark _)) (dss_cons (ds_set (i := 2) sc__law_pool.nd rfl (by first | exact Or.inl rfl | exact Or.inr rfl) (de_ix (d_ix rfl) (de_var (pv 0)) (de_var (pv 1)) (fun _ _ => rfl))) dss_nil) dss_nil) (dss_cons (ds_set (i := 3) sc__law_pool.nd rfl (by first | exact Or.inl rfl | exact Or.inr rfl) (de_callB d_abs (by rfl) (m_abs A0) bt_abs (da_cons (de_var (pv 2)) da_nil))) (dss_cons (ds_set (i := 4) sc__law_pool.nd rfl (by first | exact Or.inl rfl | exact Or.inr rfl) (de_op d_modI (de_op d_mul (de_op (d_add rfl) (de_op (d_add rfl) (de_op (d_add rfl) (de_op d_modI (de_var (pv 3)) de_int) (de_op d_mul (de_op d_mul de_int (de_var (pv 1))) (de_var (pv 1)))) (de_op d_mul de_int (de_var (pv 1)))) de_int) de_int) de_int)) (dss_cons (ds_ret (de_lst (da_cons (de_op d_mul (de_var (pv 3)) (de_callT d_int (by rfl) (m_int A0) bt_int (da_cons (de_cmp d_geI (de_var (pv 3)) (de_op d_powI de_int de_int) (nomark _)) da_nil))) (da_cons (de_op d_modI (de_op d_mul (de_var (pv 4)) (de_var (pv 4))) de_int) da_nil)))) dss_nil)))))
theorem cal__law_pool (A0 : Facts K mg) : Cal P w K mg base (cf K) "_law_pool" 1 ["_law_script", "_law_k"] 2 F__law_pool [] := by
  obtain ⟨fd, F⟩ := A0.c.def_ 28 (d := d__law_pool) rfl
  have hm : mg "_law_pool" = some (.ref (He.ga K "_law_pool")) := A0.glo (A0.c.fact 28 (f := .glo "_law_pool") rfl)
  have bd : Binds K fd ["_law_script", "_law_k"] [] := F.bindsN fun _ _ _ _ _ _ us hl => match us, hl with | [_, _], _ => rfl
  refine ⟨_, fd, [], [], hm, F.kp, ?_, bd, .nil, fun _ => .nil⟩
  exact fn__law_pool A0 F
abbrev N__law_draw : List Str := ["_law_pool_here", "_law_many", "_law_found"]
theorem sc__law_draw : FnScope N__law_draw ["_law_pool_here", "_law_many"] (defScope s__law_draw) := ⟨rfl, rfl, rfl, by decide +kernel, rfl, by decide +kernel, by decide +kernel⟩
def b__law_draw : SM := sSeq (sIf (tCmpM gtI (mBin ixD (mVar 0) (mC (.int 0))) (mC (.int 0))) (sSeq (sSet 2 (mBin modI (mBin ixD (mVar 0) (mC (.int 0))) (mVar 1))) (sSeq (sSetIx 0 (mC (.int 0)) (mBin divI (mBin ixD (mVar 0) (mC (.int 0))) (mVar 1))) (sSeq (sRet (mVar 2)) (sNil)))) (sNil)) (sSeq (sSetIx 0 (mC (.int 1)) (mBin modI (mBin addD (mBin mulD (mBin ixD (mVar 0) (mC (.int 1))) (mC (.int 48271))) (mC (.int 11))) (mC (.int 2147483647)))) (sSeq (sRet (mBin modI (mBin divI (mBin modI (mBin mulD (mBin ixD (mVar 0) (mC (.int 1))) (mBin ixD (mVar 0) (mC (.int 1)))) (mC (.int 2147483629))) (mC (.int 16))) (mVar 1))) (sNil)))
def F__law_draw : FM := runF 3 b__law_draw
theorem fn__law_draw (A0 : Facts K mg) {fd : FuncData} (F : FunD K d__law_draw.name d__law_draw.qual d__law_draw.params d__law_draw.body d__law_draw.scope (d__law_draw.dvs K) (d__law_draw.kws K) (He.fAd K d__law_draw.at_) fd) : FnOk P w K mg base (L2.CX P w) 1 (He.fAd K d__law_draw.at_) fd ["_law_pool_here", "_law_many"] (spM (cf K) 2 F__law_draw) := by
  refine mk_fnD (k := 0) F sc__law_draw rfl rfl fun cdv A outer s H E hr => ?_
  have tk := tk_of (P := P) (w := w) (K := K) (mg := mg) (base := base) (N := N__law_draw) (qual := "_law_draw") (scope := defScope s__law_draw) (f := He.ga K "_law_draw") (cdv := cdv) (A := A) (outer := outer) (s := s) (H := H) (E := E)
  exact (dss_cons (ds_if (dt_cmp d_gtI (de_ix (d_ix rfl) (de_var (pv 0)) de_int (fun _ _ => rfl)) de_int (nomark _)) (dss_cons (ds_set (i := 2) sc__law_draw.nd rfl (by first | exact Or.inl rfl | exact Or.inr rfl) (de_op d_modI (de_ix (d_ix rfl) (de_var (pv 0)) de_int (fun _ _ => rfl)) (de_var (pv 1)))) (dss_cons (ds_setIx (pv 0) de_int (de_op d_divI (de_ix (d_ix rfl) (de_var (pv 0)) de_int (fun _ _ => rfl)) (de_var (pv 1))) (fun he ho hi => ps_asg he (pg_sub ho hi set_list))) (dss_cons (ds_ret (de_var (pv 2))) dss_nil))) dss_nil) (dss_cons (ds_setIx (pv 0) de_int (de_op d_modI (de_op (d_add rfl) (de_op d_mul (de_ix (d_ix rfl) (de_var (pv 0)) de_int (fun _ _ => rfl)) de_int) de_int) de_int) (fun he ho hi => ps_asg he (pg_sub ho hi set_list))) (dss_cons (ds_ret (de_op d_modI (de_op d_divI (de_op d_modI (de_op d_mul (de_ix (d_ix rfl) (de_var (pv 0)) de_int (fun _ _ => rfl)) (de_ix (d_ix rfl) (de_var (pv 0)) de_int (fun _ _ => rfl))) de_int) de_int) (de_var (pv 1)))) dss_nil)))
theorem cal__law_draw (A0 : Facts K mg) : Cal P w K mg base (cf K) "_law_draw" 1 ["_law_pool_here", "_law_many"] 2 F__law_draw [] := by
  obtain ⟨fd, F⟩ := A0.c.def_ 29 (d := d__law_draw) rfl
  have hm : mg "_law_draw" = some (.ref (He.ga K "_law_draw")) := A0.glo (A0.c.fact 29 (f := .glo "_law_draw") rfl)
  have bd : Binds K fd ["_law_pool_here", "_law_many"] [] := F.bindsN fun _ _ _ _ _ _ us hl => match us, hl with | [_, _], _ => rfl
  refine ⟨_, fd, [], [], hm, F.kp, ?_, bd, .nil, fun _ => .nil⟩
  exact fn__law_draw A0 F
abbrev N__law_random_program : List Str := ["_law_pool_here", "_law_depth", "_law_found", "_law_turn", "_law_choice"]
theorem sc__law_random_program : FnScope N__law_random_program ["_law_pool_here", "_law_depth"] (defScope s__law_random_program) := ⟨rfl, rfl, rfl, by decide +kernel, rfl, by decide +kernel, by decide +kernel⟩
def b__law_random_program (R0 : FM) : SM := sSeq (sSet 2 (mLst (aNil))) (sSeq (sFor (iRange1 (mFnB F__law_draw 0 (aCons (mC (.int 4)) (aNil)))) (tgName 3) (sSeq (sSet 4 (mFnB F__law_draw 0 (aCons (mC (.int 5)) (aNil)))) (sSeq (sIf (tCmpM ltI (mVar 4) (mC (.int 2))) (sSeq (sDrop (mAppend 2 (mTup (aCons (mC (.str "insert")) (aCons (mBin subI (mFnB F__law_draw 0 (aCons (mC (.int 6)) (aNil))) (mC (.int 2))) (aCons (mFnB F__law_draw 0 (aCons (mC (.int 3)) (aNil))) (aNil))))))) (sNil)) (sSeq (sIf (tOrM (tCmpM ltI (mVar 4) (mC (.int 4))) (tCmpM eqD (mVar 1) (mC (.int 0)))) (sSeq (sDrop (mAppend 2 (mTup (aCons (mC (.str "remove")) (aCons (mFnB F__law_draw 0 (aCons (mC (.int 3)) (aNil))) (aNil)))))) (sNil)) (sSeq (sDrop (mAppend 2 (mTup (aCons (mC (.str "repeat")) (aCons (mFnB F__law_draw 0 (aCons (mC (.int 4)) (aNil))) (aCons (mFnB R0 0 (aCons (mBin subI (mVar 1) (mC (.int 1))) (aNil))) (aNil))))))) (sNil))) (sNil))) (sNil)))) (sSeq (sRet (mCall tupleD (aCons (mVar 2) (aNil)))) (sNil)))
def G__law_random_program : Nat → Nat → FM
  | 0, _ => badF
  | n + 1, _ => runF 5 (b__law_random_program (G__law_random_program n 0))
theorem calG__law_random_program (A0 : Facts K mg) : ∀ n : Nat, (Cal P w K mg base (cf K) "_law_random_program" (2 + n) ["_law_pool_here", "_law_depth"] 2 (G__law_random_program n 0) []) := by
  intro n
  induction n with
  | zero =>
    skip
    · obtain ⟨fd, F⟩ := A0.c.def_ 30 (d := d__law_random_program) rfl
      have hm : mg "_law_random_program" = some (.ref (He.ga K "_law_random_program")) := A0.glo (A0.c.fact 30 (f := .glo "_law_random_program") rfl)
      have bd : Binds K fd ["_law_pool_here", "_law_depth"] [] := F.bindsN fun _ _ _ _ _ _ us hl => match us, hl with | [_, _], _ => rfl
      refine ⟨_, fd, [], [], hm, F.kp, ?_, bd, .nil, fun _ => .nil⟩
      exact fn_bad rfl
  | succ n ih =>
    have ih0 := ih
    skip
    · obtain ⟨fd, F⟩ := A0.c.def_ 30 (d := d__law_random_program) rfl
      have hm : mg "_law_random_program" = some (.ref (He.ga K "_law_random_program")) := A0.glo (A0.c.fact 30 (f := .glo "_law_random_program") rfl)
      have bd : Binds K fd ["_law_pool_here", "_law_depth"] [] := F.bindsN fun _ _ _ _ _ _ us hl => match us, hl with | [_, _], _ => rfl
      refine ⟨_, fd, [], [], hm, F.kp, ?_, bd, .nil, fun _ => .nil⟩
      refine mk_fnD (k := 2 + n) F sc__law_random_program rfl rfl fun cdv A outer s H E hr => ?_
      have tk := tk_of (P := P) (w := w) (K := K) (mg := mg) (base := base) (N := N__law_random_program) (qual := "_law_random_program") (scope := defScope s__law_random_program) (f := He.ga K "_law_random_program") (cdv := cdv) (A := A) (outer := outer) (s := s) (H := H) (E := E)
      exact (dss_cons (ds_set (i := 2) sc__law_random_program.nd rfl (by first | exact Or.inl rfl | exact Or.inr rfl) (de_lst da_nil)) (dss_cons (ds_for (passes_of rfl) rfl (di_range1 (fun h => pi_range1 (by rfl) (m_range A0) h) (de_callAB (Cal.at (cal__law_draw (base := base) A0) hr (by omega)) (by rfl) tk (pv 0) rfl (da_cons de_int da_nil) alen1)) (dg_name (pg_name (i := 3) sc__law_random_program.nd rfl (by first | exact Or.inl rfl | exact Or.inr rfl))) (dss_cons (ds_set (i := 4) sc__law_random_program.nd rfl (by first | exact Or.inl rfl | exact Or.inr rfl) (de_callAB (Cal.at (cal__law_draw (base := base) A0) hr (by omega)) (by rfl) tk (pv 0) rfl (da_cons de_int da_nil) alen1)) (dss_cons (ds_if (dt_cmp d_ltI (de_var (pv 4)) de_int (nomark _)) (dss_cons (ds_drop (de_append (pv 2) (de_tup (da_cons de_str (da_cons (de_op d_subI (de_callAB (Cal.at (cal__law_draw (base := base) A0) hr (by omega)) (by rfl) tk (pv 0) rfl (da_cons de_int da_nil) alen1) de_int) (da_cons (de_callAB (Cal.at (cal__law_draw (base := base) A0) hr (by omega)) (by rfl) tk (pv 0) rfl (da_cons de_int da_nil) alen1) da_nil)))) (fun ho ha => pe_bm PySem.F.plainAttrs_list PySem.F.slot_list_append PySem.F.type_list_append mt_append ho ha))) dss_nil) (dss_cons (ds_if (PW.pt (dw_or (dt_cmp d_ltI (de_var (pv 4)) de_int (nomark _)) (dw_or1 (dt_cmp (d_eqD rfl (hu64 hr)) (de_var (pv 1)) de_int (nomark _))))) (dss_cons (ds_drop (de_append (pv 2) (de_tup (da_cons de_str (da_cons (de_callAB (Cal.at (cal__law_draw (base := base) A0) hr (by omega)) (by rfl) tk (pv 0) rfl (da_cons de_int da_nil) alen1) da_nil))) (fun ho ha => pe_bm PySem.F.plainAttrs_list PySem.F.slot_list_append PySem.F.type_list_append mt_append ho ha))) dss_nil) (dss_cons (ds_drop (de_append (pv 2) (de_tup (da_cons de_str (da_cons (de_callAB (Cal.at (cal__law_draw (base := base) A0) hr (by omega)) (by rfl) tk (pv 0) rfl (da_cons de_int da_nil) alen1) (da_cons (de_callAB (Cal.at ih0 hr (by omega)) (by rfl) tk (pv 0) rfl (da_cons (de_op d_subI (de_var (pv 1)) de_int) da_nil) alen1) da_nil)))) (fun ho ha => pe_bm PySem.F.plainAttrs_list PySem.F.slot_list_append PySem.F.type_list_append mt_append ho ha))) dss_nil)) dss_nil)) dss_nil))) (dss_cons (ds_ret (de_callT (d_tuple rfl) (by rfl) (m_tuple A0) bt_tuple (da_cons (de_var (pv 2)) da_nil))) dss_nil)))
def F__law_random_program : FM := G__law_random_program 24 0
theorem cal__law_random_program (A0 : Facts K mg) : Cal P w K mg base (cf K) "_law_random_program" 26 ["_law_pool_here", "_law_depth"] 2 F__law_random_program [] := (calG__law_random_program A0 24)
abbrev N__law_great_program : List Str := ["_law_pool_here", "_law_depth", "_law_found", "_law_turn", "_law_choice", "_law_count"]
theorem sc__law_great_program : FnScope N__law_great_program ["_law_pool_here", "_law_depth"] (defScope s__law_great_program) := ⟨rfl, rfl, rfl, by decide +kernel, rfl, by decide +kernel, by decide +kernel⟩
def b__law_great_program (R0 : FM) : SM := sSeq (sSet 2 (mLst (aNil))) (sSeq (sFor (iRange1 (mBin addD (mC (.int 1)) (mFnB F__law_draw 0 (aCons (mC (.int 3)) (aNil))))) (tgName 3) (sSeq (sSet 4 (mFnB F__law_draw 0 (aCons (mC (.int 5)) (aNil)))) (sSeq (sSet 5 (mBin ixD (mLst (aCons (mFnB F__law_draw 0 (aCons (mC (.int 4)) (aNil))) (aCons (mFnB F__law_draw 0 (aCons (mBin powI (mC (.int 10)) (mC (.int 24))) (aNil))) (aNil)))) (mFnB F__law_draw 0 (aCons (mC (.int 2)) (aNil))))) (sSeq (sIf (tCmpM ltI (mVar 4) (mC (.int 2))) (sSeq (sDrop (mAppend 2 (mTup (aCons (mC (.str "insert")) (aCons (mBin subI (mFnB F__law_draw 0 (aCons (mC (.int 9)) (aNil))) (mC (.int 4))) (aCons (mVar 5) (aNil))))))) (sNil)) (sSeq (sIf (tOrM (tCmpM ltI (mVar 4) (mC (.int 3))) (tCmpM eqD (mVar 1) (mC (.int 0)))) (sSeq (sDrop (mAppend 2 (mTup (aCons (mC (.str "remove")) (aCons (mVar 5) (aNil)))))) (sNil)) (sSeq (sDrop (mAppend 2 (mTup (aCons (mC (.str "repeat")) (aCons (mVar 5) (aCons (mFnB R0 0 (aCons (mBin subI (mVar 1) (mC (.int 1))) (aNil))) (aNil))))))) (sNil))) (sNil))) (sNil))))) (sSeq (sRet (mCall tupleD (aCons (mVar 2) (aNil)))) (sNil)))
def G__law_great_program : Nat → Nat → FM
  | 0, _ => badF
  | n + 1, _ => runF 6 (b__law_great_program (G__law_great_program n 0))
theorem calG__law_great_program (A0 : Facts K mg) : ∀ n : Nat, (Cal P w K mg base (cf K) "_law_great_program" (2 + n) ["_law_pool_here", "_law_depth"] 2 (G__law_great_program n 0) []) := by
  intro n
  induction n with
  | zero =>
    skip
    · obtain ⟨fd, F⟩ := A0.c.def_ 31 (d := d__law_great_program) rfl
      have hm : mg "_law_great_program" = some (.ref (He.ga K "_law_great_program")) := A0.glo (A0.c.fact 31 (f := .glo "_law_great_program") rfl)
      have bd : Binds K fd ["_law_pool_here", "_law_depth"] [] := F.bindsN fun _ _ _ _ _ _ us hl => match us, hl with | [_, _], _ => rfl
      refine ⟨_, fd, [], [], hm, F.kp, ?_, bd, .nil, fun _ => .nil⟩
      exact fn_bad rfl
  | succ n ih =>
    have ih0 := ih
    skip
    · obtain ⟨fd, F⟩ := A0.c.def_ 31 (d := d__law_great_program) rfl
      have hm : mg "_law_great_program" = some (.ref (He.ga K "_law_great_program")) := A0.glo (A0.c.fact 31 (f := .glo "_law_great_program") rfl)
      have bd : Binds K fd ["_law_pool_here", "_law_depth"] [] := F.bindsN fun _ _ _ _ _ _ us hl => match us, hl with | [_, _], _ => rfl
      refine ⟨_, fd, [], [], hm, F.kp, ?_, bd, .nil, fun _ => .nil⟩
      refine mk_fnD (k := 2 + n) F sc__law_great_program rfl rfl fun cdv A outer s H E hr => ?_
      have tk := tk_of (P := P) (w := w) (K := K) (mg := mg) (base := base) (N := N__law_great_program) (qual := "_law_great_program") (scope := defScope s__law_great_program) (f := He.ga K "_law_great_program") (cdv := cdv) (A := A) (outer := outer) (s := s) (H := H) (E := E)
      exact (dss_cons (ds_set (i := 2) sc__law_great_program.nd rfl (by first | exact Or.inl rfl | exact Or.inr rfl) (de_lst da_nil)) (dss_cons (ds_for (passes_of rfl) rfl (di_range1 (fun h => pi_range1 (by rfl) (m_range A0) h) (de_op (d_add rfl) de_int (de_callAB (Cal.at (cal__law_draw (base := base) A0) hr (by omega)) (by rfl) tk (pv 0) rfl (da_cons de_int da_nil) alen1))) (dg_name (pg_name (i := 3) sc__law_great_program.nd rfl (by first | exact Or.inl rfl | exact Or.inr rfl))) (dss_cons (ds_set (i := 4) sc__law_great_program.nd rfl (by first | exact Or.inl rfl | exact Or.inr rfl) (de_callAB (Cal.at (cal__law_draw (base := base) A0) hr (by omega)) (by rfl) tk (pv 0) rfl (da_cons de_int da_nil) alen1)) (dss_cons (ds_set (i := 5) sc__law_great_program.nd rfl (by first | exact Or.inl rfl | exact Or.inr rfl) (de_ix (d_ix rfl) (de_lst (da_cons (de_callAB (Cal.at (cal__law_draw (base := base) A0) hr (by omega)) (by rfl) tk (pv 0) rfl (da_cons de_int da_nil) alen1) (da_cons (de_callAB (Cal.at (cal__law_draw (base := base) A0) hr (by omega)) (by rfl) tk (pv 0) rfl (da_cons (de_op d_powI de_int de_int) da_nil) alen1) da_nil))) (de_callAB (Cal.at (cal__law_draw (base := base) A0) hr (by omega)) (by rfl) tk (pv 0) rfl (da_cons de_int da_nil) alen1) (fun _ _ => rfl))) (dss_cons (ds_if (dt_cmp d_ltI (de_var (pv 4)) de_int (nomark _)) (dss_cons (ds_drop (de_append (pv 2) (de_tup (da_cons de_str (da_cons (de_op d_subI (de_callAB (Cal.at (cal__law_draw (base := base) A0) hr (by omega)) (by rfl) tk (pv 0) rfl (da_cons de_int da_nil) alen1) de_int) (da_cons (de_var (pv 5)) da_nil)))) (fun ho ha => pe_bm PySem.F.plainAttrs_list PySem.F.slot_list_append PySem.F.type_list_append mt_append ho ha))) dss_nil) (dss_cons (ds_if (PW.pt (dw_or (dt_cmp d_ltI (de_var (pv 4)) de_int (nomark _)) (dw_or1 (dt_cmp (d_eqD rfl (hu64 hr)) (de_var (pv 1)) de_int (nomark _))))) (dss_cons (ds_drop (de_append (pv 2) (de_tup (da_cons de_str (da_cons (de_var (pv 5)) da_nil))) (fun ho ha => pe_bm PySem.F.plainAttrs_list PySem.F.slot_list_append PySem.F.type_list_append mt_append ho ha))) dss_nil) (dss_cons (ds_drop (de_append (pv 2) (de_tup (da_cons de_str (da_cons (de_var (pv 5)) (da_cons (de_callAB (Cal.at ih0 hr (by omega)) (by rfl) tk (pv 0) rfl (da_cons (de_op d_subI (de_var (pv 1)) de_int) da_nil) alen1) da_nil)))) (fun ho ha => pe_bm PySem.F.plainAttrs_list PySem.F.slot_list_append PySem.F.type_list_append mt_append ho ha))) dss_nil)) dss_nil)) dss_nil)))) (dss_cons (ds_ret (de_callT (d_tuple rfl) (by rfl) (m_tuple A0) bt_tuple (da_cons (de_var (pv 2)) da_nil))) dss_nil)))
def F__law_great_program : FM := G__law_great_program 24 0
theorem cal__law_great_program (A0 : Facts K mg) : Cal P w K mg base (cf K) "_law_great_program" 26 ["_law_pool_here", "_law_depth"] 2 F__law_great_program [] := (calG__law_great_program A0 24)
abbrev N__law_expanded : List Str := ["_law_program", "_law_found", "_law_step"]
theorem sc__law_expanded : FnScope N__law_expanded ["_law_program"] (defScope s__law_expanded) := ⟨rfl, rfl, rfl, by decide +kernel, rfl, by decide +kernel, by decide +kernel⟩
def b__law_expanded (R0 : FM) : SM := sSeq (sSet 1 (mLst (aNil))) (sSeq (sFor (iSeq (mVar 0)) (tgName 2) (sSeq (sIf (tCmpM eqD (mBin ixD (mVar 2) (mC (.int 0))) (mC (.str "repeat"))) (sSeq (sSet 1 (mBin addD (mVar 1) (mBin mulD (mFnD R0 [] (aCons (mBin ixD (mVar 2) (mC (.int 2))) (aNil))) (mBin ixD (mVar 2) (mC (.int 1)))))) (sNil)) (sSeq (sSet 1 (mBin addD (mVar 1) (mBin mulD (mLst (aCons (mBin addD (mSl (mVar 2) (oNone) (oSome (mUn negI (mC (.int 1))))) (mTup (aCons (mC (.int 1)) (aNil)))) (aNil))) (mBin ixD (mVar 2) (mUn negI (mC (.int 1))))))) (sNil))) (sNil))) (sSeq (sRet (mVar 1)) (sNil)))
def G__law_expanded : Nat → Nat → FM
  | 0, _ => badF
  | n + 1, _ => runF 3 (b__law_expanded (G__law_expanded n 0))
theorem calG__law_expanded (A0 : Facts K mg) : ∀ n : Nat, (Cal P w K mg base (cf K) "_law_expanded" (1 + n) ["_law_program"] 1 (G__law_expanded n 0) []) := by
  intro n
  induction n with
  | zero =>
    skip
    · obtain ⟨fd, F⟩ := A0.c.def_ 32 (d := d__law_expanded) rfl
      have hm : mg "_law_expanded" = some (.ref (He.ga K "_law_expanded")) := A0.glo (A0.c.fact 32 (f := .glo "_law_expanded") rfl)
      have bd : Binds K fd ["_law_program"] [] := F.bindsN fun _ _ _ _ _ _ us hl => match us, hl with | [_], _ => rfl
      refine ⟨_, fd, [], [], hm, F.kp, ?_, bd, .nil, fun _ => .nil⟩
      exact fn_bad rfl
  | succ n ih =>
    have ih0 := ih
    skip
    · obtain ⟨fd, F⟩ := A0.c.def_ 32 (d := d__law_expanded) rfl
      have hm : mg "_law_expanded" = some (.ref (He.ga K "_law_expanded")) := A0.glo (A0.c.fact 32 (f := .glo "_law_expanded") rfl)
      have bd : Binds K fd ["_law_program"] [] := F.bindsN fun _ _ _ _ _ _ us hl => match us, hl with | [_], _ => rfl
      refine ⟨_, fd, [], [], hm, F.kp, ?_, bd, .nil, fun _ => .nil⟩
      refine mk_fnD (k := 1 + n) F sc__law_expanded rfl rfl fun cdv A outer s H E hr => ?_
      have tk := tk_of (P := P) (w := w) (K := K) (mg := mg) (base := base) (N := N__law_expanded) (qual := "_law_expanded") (scope := defScope s__law_expanded) (f := He.ga K "_law_expanded") (cdv := cdv) (A := A) (outer := outer) (s := s) (H := H) (E := E)
      exact (dss_cons (ds_set (i := 1) sc__law_expanded.nd rfl (by first | exact Or.inl rfl | exact Or.inr rfl) (de_lst da_nil)) (dss_cons (ds_for (passes_of rfl) rfl (di_seq rfl (de_var (pv 0))) (dg_name (pg_name (i := 2) sc__law_expanded.nd rfl (by first | exact Or.inl rfl | exact Or.inr rfl))) (dss_cons (ds_if (dt_cmp (d_eqD rfl (hu64 hr)) (de_ix (d_ix rfl) (de_var (pv 2)) de_int (fun _ _ => rfl)) de_str (nomark _)) (dss_cons (ds_set (i := 1) sc__law_expanded.nd rfl (by first | exact Or.inl rfl | exact Or.inr rfl) (de_op (d_add rfl) (de_var (pv 1)) (de_op d_mul (de_callA (Cal.at ih0 hr (by omega)) (by rfl) tk (da_cons (de_ix (d_ix rfl) (de_var (pv 2)) de_int (fun _ _ => rfl)) da_nil) (fun h => by rw [alen1 h]; rfl)) (de_ix (d_ix rfl) (de_var (pv 2)) de_int (fun _ _ => rfl))))) dss_nil) (dss_cons (ds_set (i := 1) sc__law_expanded.nd rfl (by first | exact Or.inl rfl | exact Or.inr rfl) (de_op (d_add rfl) (de_var (pv 1)) (de_op d_mul (de_lst (da_cons (de_op (d_add rfl) (de_sl rfl (de_var (pv 2)) do_none (do_some (de_neg de_int))) (de_tup (da_cons de_int da_nil))) da_nil)) (de_ix (d_ix rfl) (de_var (pv 2)) (de_neg de_int) (fun _ _ => rfl))))) dss_nil)) dss_nil)) (dss_cons (ds_ret (de_var (pv 1))) dss_nil)))
def F__law_expanded : FM := G__law_expanded 24 0
theorem cal__law_expanded (A0 : Facts K mg) : Cal P w K mg base (cf K) "_law_expanded" 25 ["_law_program"] 1 F__law_expanded [] := (calG__law_expanded A0 24)
abbrev N__law_out : List Str := ["_law_door", "_law_program", "_law_wrong", "e"]
theorem sc__law_out : FnScope N__law_out ["_law_door", "_law_program", "_law_wrong"] (defScope s__law_out) := ⟨rfl, rfl, rfl, by decide +kernel, rfl, by decide +kernel, by decide +kernel⟩
def b__law_out : SM := sSeq (sTry (sSeq (sDrop (mFnV [("prefix", F_prefix), ("suffix", F_suffix)] (mBin ixD (mLst (aCons (mC (.gl "prefix")) (aCons (mC (.gl "suffix")) (aNil)))) (mVar 0)) (aCons (mVar 1) (aCons (mVar 2) (aNil))))) (sNil)) [⟨cat_OutOfRange, 3, fun x => sSeq (sRet (mBin eqD (mCall reprD (aCons (mXF x 3 "value") (aNil))) (mCall reprD (aCons (mVar 2) (aNil))))) (sNil)⟩]) (sSeq (sRet (mC (.bl false))) (sNil))
def F__law_out : FM := runF 4 b__law_out
theorem fn__law_out (A0 : Facts K mg) {fd : FuncData} (F : FunD K d__law_out.name d__law_out.qual d__law_out.params d__law_out.body d__law_out.scope (d__law_out.dvs K) (d__law_out.kws K) (He.fAd K d__law_out.at_) fd) : FnG P w K mg base (L2.CX P w) 54 (He.fAd K d__law_out.at_) fd ["_law_door", "_law_program", "_law_wrong"] (spM (cf K) 3 F__law_out) := by
  refine mk_fnG (k := 53) F sc__law_out rfl rfl fun cdv A outer s H E hr hgd => ?_
  have tk := tk_of (P := P) (w := w) (K := K) (mg := mg) (base := base) (N := N__law_out) (qual := "_law_out") (scope := defScope s__law_out) (f := He.ga K "_law_out") (cdv := cdv) (A := A) (outer := outer) (s := s) (H := H) (E := E)
  exact (dss_cons (ds_try rfl rfl sc__law_out.nd tk (fun _ => trivial) (fun W1 pn1 xe1 tk1 po1 => (dss_cons (ds_drop (de_callV (ps := fun y => (([("prefix", ["program", "index"]), ("suffix", ["program", "index"])] : List (Str × List Str)).lookup y).getD []) (tab_cons ⟨(Cal.at (cal_prefix (base := base) A0) hr (by decide)), A0.glo (A0.c.fact 26 (f := .glo "prefix") rfl)⟩ (tab_cons ⟨(Cal.at (cal_suffix (base := base) A0) hr (by decide)), A0.glo (A0.c.fact 27 (f := .glo "suffix") rfl)⟩ tab_nil)) tk1 (de_ix (d_ix rfl) (de_lst (da_cons (de_gl (by rfl) (A0.glo (A0.c.fact 26 (f := .glo "prefix") rfl))) (da_cons (de_gl (by rfl) (A0.glo (A0.c.fact 27 (f := .glo "suffix") rfl))) da_nil))) (de_var (pv 0)) (fun _ _ => rfl)) (da_cons (de_var (pv 1)) (da_cons (de_var (pv 2)) da_nil)) alen2)) dss_nil)) (.cons rfl rfl ⟨by rfl, by decide, .inl (mgx_OutOfRange A0)⟩ (cat_OutOfRange_ok A0) (fun a oe d pn x hy hz hf => (dss_cons (ds_ret (de_cmp (d_eqD rfl (by have := hu64 hr; exact this)) (de_callB (d_repr rfl hgd (by have := hu64 hr; exact this)) (by rfl) (m_repr A0) bt_repr (da_cons (de_xf (xf_OutOfRange A0) (no_OutOfRange A0) (xt_OutOfRange hy) hz hf (pv 3)) da_nil)) (de_callB (d_repr rfl hgd (by have := hu64 hr; exact this)) (by rfl) (m_repr A0) bt_repr (da_cons (de_var (pv 2)) da_nil)) (nomark _))) dss_nil)) .nil)) (dss_cons (ds_ret de_bl) dss_nil))
theorem cal__law_out (A0 : Facts K mg) : CalG P w K mg base (cf K) "_law_out" 54 ["_law_door", "_law_program", "_law_wrong"] 3 F__law_out [] := by
  obtain ⟨fd, F⟩ := A0.c.def_ 33 (d := d__law_out) rfl
  have hm : mg "_law_out" = some (.ref (He.ga K "_law_out")) := A0.glo (A0.c.fact 33 (f := .glo "_law_out") rfl)
  have bd : Binds K fd ["_law_door", "_law_program", "_law_wrong"] [] := F.bindsN fun _ _ _ _ _ _ us hl => match us, hl with | [_, _, _], _ => rfl
  refine ⟨_, fd, [], [], hm, F.kp, ?_, bd, .nil, fun _ => .nil⟩
  exact fn__law_out A0 F
abbrev N__law_cut_holds : List Str := ["_law_program", "_law_at", "_law_low", "_law_high", "_law_whole"]
theorem sc__law_cut_holds : FnScope N__law_cut_holds ["_law_program", "_law_at"] (defScope s__law_cut_holds) := ⟨rfl, rfl, rfl, by decide +kernel, rfl, by decide +kernel, by decide +kernel⟩
def b__law_cut_holds : SM := sSeq (sPar 2 3 (mFnD F_prefix [] (aCons (mVar 0) (aCons (mVar 1) (aNil)))) (mFnD F_suffix [] (aCons (mVar 0) (aCons (mVar 1) (aNil))))) (sSeq (sIf (tOrM (tCmpM isNotN (mFnD F_check_program [] (aCons (mVar 2) (aNil))) (mC .non)) (tCmpM isNotN (mFnD F_check_program [] (aCons (mVar 3) (aNil))) (mC .non))) (sSeq (sRet (mC (.bl false))) (sNil)) (sNil)) (sSeq (sSet 4 (mFnD F_step_count [] (aCons (mVar 0) (aNil)))) (sSeq (sIf (tCmpM neD (mLst (aCons (mFnD F_step_count [] (aCons (mVar 2) (aNil))) (aCons (mFnD F_step_count [] (aCons (mVar 3) (aNil))) (aNil)))) (mLst (aCons (mVar 1) (aCons (mBin subI (mVar 4) (mVar 1)) (aNil))))) (sSeq (sRet (mC (.bl false))) (sNil)) (sNil)) (sSeq (sIf (tCmpM neD (mBin addD (mFnD F_insertion_count [] (aCons (mVar 2) (aNil))) (mFnD F_insertion_count [] (aCons (mVar 3) (aNil)))) (mFnD F_insertion_count [] (aCons (mVar 0) (aNil)))) (sSeq (sRet (mC (.bl false))) (sNil)) (sNil)) (sSeq (sIf (tAndM (tCmpM gtI (mVar 1) (mC (.int 0))) (tCmpM neD (mFnD F_step_at [] (aCons (mVar 2) (aCons (mC (.int 0)) (aNil)))) (mFnD F_step_at [] (aCons (mVar 0) (aCons (mC (.int 0)) (aNil)))))) (sSeq (sRet (mC (.bl false))) (sNil)) (sNil)) (sSeq (sIf (tAndM (tCmpM gtI (mVar 1) (mC (.int 0))) (tCmpM neD (mFnD F_step_at [] (aCons (mVar 2) (aCons (mBin subI (mVar 1) (mC (.int 1))) (aNil)))) (mFnD F_step_at [] (aCons (mVar 0) (aCons (mBin subI (mVar 1) (mC (.int 1))) (aNil)))))) (sSeq (sRet (mC (.bl false))) (sNil)) (sNil)) (sSeq (sIf (tCmpM eqD (mVar 1) (mVar 4)) (sSeq (sRet (mC (.bl true))) (sNil)) (sNil)) (sSeq (sIf (tCmpM neD (mFnD F_step_at [] (aCons (mVar 3) (aCons (mC (.int 0)) (aNil)))) (mFnD F_step_at [] (aCons (mVar 0) (aCons (mVar 1) (aNil))))) (sSeq (sRet (mC (.bl false))) (sNil)) (sNil)) (sSeq (sRet (mBin eqD (mFnD F_step_at [] (aCons (mVar 3) (aCons (mBin subI (mBin subI (mVar 4) (mVar 1)) (mC (.int 1))) (aNil)))) (mFnD F_step_at [] (aCons (mVar 0) (aCons (mBin subI (mVar 4) (mC (.int 1))) (aNil)))))) (sNil))))))))))
def F__law_cut_holds : FM := runF 5 b__law_cut_holds
theorem fn__law_cut_holds (A0 : Facts K mg) {fd : FuncData} (F : FunD K d__law_cut_holds.name d__law_cut_holds.qual d__law_cut_holds.params d__law_cut_holds.body d__law_cut_holds.scope (d__law_cut_holds.dvs K) (d__law_cut_holds.kws K) (He.fAd K d__law_cut_holds.at_) fd) : FnOk P w K mg base (L2.CX P w) 54 (He.fAd K d__law_cut_holds.at_) fd ["_law_program", "_law_at"] (spM (cf K) 2 F__law_cut_holds) := by
  refine mk_fnD (k := 53) F sc__law_cut_holds rfl rfl fun cdv A outer s H E hr => ?_
  have tk := tk_of (P := P) (w := w) (K := K) (mg := mg) (base := base) (N := N__law_cut_holds) (qual := "_law_cut_holds") (scope := defScope s__law_cut_holds) (f := He.ga K "_law_cut_holds") (cdv := cdv) (A := A) (outer := outer) (s := s) (H := H) (E := E)
  exact (dss_cons (ds_par (ps_par rfl sc__law_cut_holds.nd rfl rfl (by decide) rfl rfl (pa_cons (de_callA (Cal.at (cal_prefix (base := base) A0) hr (by decide)) (by rfl) tk (da_cons (de_var (pv 0)) (da_cons (de_var (pv 1)) da_nil)) (fun h => by rw [alen2 h]; rfl)) (pa_cons (de_callA (Cal.at (cal_suffix (base := base) A0) hr (by decide)) (by rfl) tk (da_cons (de_var (pv 0)) (da_cons (de_var (pv 1)) da_nil)) (fun h => by rw [alen2 h]; rfl)) pa_nil)) (by rfl))) (dss_cons (ds_if (PW.pt (dw_or (dt_cmp d_isNotN (de_callA (Cal.at (cal_check_program (base := base) A0) hr (by decide)) (by rfl) tk (da_cons (de_var (pv 2)) da_nil) (fun h => by rw [alen1 h]; rfl)) de_non (nomark _)) (dw_or1 (dt_cmp d_isNotN (de_callA (Cal.at (cal_check_program (base := base) A0) hr (by decide)) (by rfl) tk (da_cons (de_var (pv 3)) da_nil) (fun h => by rw [alen1 h]; rfl)) de_non (nomark _))))) (dss_cons (ds_ret de_bl) dss_nil) dss_nil) (dss_cons (ds_set (i := 4) sc__law_cut_holds.nd rfl (by first | exact Or.inl rfl | exact Or.inr rfl) (de_callA (Cal.at (cal_step_count (base := base) A0) hr (by decide)) (by rfl) tk (da_cons (de_var (pv 0)) da_nil) (fun h => by rw [alen1 h]; rfl))) (dss_cons (ds_if (dt_cmp (d_neD rfl (hu64 hr)) (de_lst (da_cons (de_callA (Cal.at (cal_step_count (base := base) A0) hr (by decide)) (by rfl) tk (da_cons (de_var (pv 2)) da_nil) (fun h => by rw [alen1 h]; rfl)) (da_cons (de_callA (Cal.at (cal_step_count (base := base) A0) hr (by decide)) (by rfl) tk (da_cons (de_var (pv 3)) da_nil) (fun h => by rw [alen1 h]; rfl)) da_nil))) (de_lst (da_cons (de_var (pv 1)) (da_cons (de_op d_subI (de_var (pv 4)) (de_var (pv 1))) da_nil))) (nomark _)) (dss_cons (ds_ret de_bl) dss_nil) dss_nil) (dss_cons (ds_if (dt_cmp (d_neD rfl (hu64 hr)) (de_op (d_add rfl) (de_callA (Cal.at (cal_insertion_count (base := base) A0) hr (by decide)) (by rfl) tk (da_cons (de_var (pv 2)) da_nil) (fun h => by rw [alen1 h]; rfl)) (de_callA (Cal.at (cal_insertion_count (base := base) A0) hr (by decide)) (by rfl) tk (da_cons (de_var (pv 3)) da_nil) (fun h => by rw [alen1 h]; rfl))) (de_callA (Cal.at (cal_insertion_count (base := base) A0) hr (by decide)) (by rfl) tk (da_cons (de_var (pv 0)) da_nil) (fun h => by rw [alen1 h]; rfl)) (nomark _)) (dss_cons (ds_ret de_bl) dss_nil) dss_nil) (dss_cons (ds_if (PW.pt (dw_and (dt_cmp d_gtI (de_var (pv 1)) de_int (nomark _)) (dw_and1 (dt_cmp (d_neD rfl (hu64 hr)) (de_callA (Cal.at (cal_step_at (base := base) A0) hr (by decide)) (by rfl) tk (da_cons (de_var (pv 2)) (da_cons de_int da_nil)) (fun h => by rw [alen2 h]; rfl)) (de_callA (Cal.at (cal_step_at (base := base) A0) hr (by decide)) (by rfl) tk (da_cons (de_var (pv 0)) (da_cons de_int da_nil)) (fun h => by rw [alen2 h]; rfl)) (nomark _))))) (dss_cons (ds_ret de_bl) dss_nil) dss_nil) (dss_cons (ds_if (PW.pt (dw_and (dt_cmp d_gtI (de_var (pv 1)) de_int (nomark _)) (dw_and1 (dt_cmp (d_neD rfl (hu64 hr)) (de_callA (Cal.at (cal_step_at (base := base) A0) hr (by decide)) (by rfl) tk (da_cons (de_var (pv 2)) (da_cons (de_op d_subI (de_var (pv 1)) de_int) da_nil)) (fun h => by rw [alen2 h]; rfl)) (de_callA (Cal.at (cal_step_at (base := base) A0) hr (by decide)) (by rfl) tk (da_cons (de_var (pv 0)) (da_cons (de_op d_subI (de_var (pv 1)) de_int) da_nil)) (fun h => by rw [alen2 h]; rfl)) (nomark _))))) (dss_cons (ds_ret de_bl) dss_nil) dss_nil) (dss_cons (ds_if (dt_cmp (d_eqD rfl (hu64 hr)) (de_var (pv 1)) (de_var (pv 4)) (nomark _)) (dss_cons (ds_ret de_bl) dss_nil) dss_nil) (dss_cons (ds_if (dt_cmp (d_neD rfl (hu64 hr)) (de_callA (Cal.at (cal_step_at (base := base) A0) hr (by decide)) (by rfl) tk (da_cons (de_var (pv 3)) (da_cons de_int da_nil)) (fun h => by rw [alen2 h]; rfl)) (de_callA (Cal.at (cal_step_at (base := base) A0) hr (by decide)) (by rfl) tk (da_cons (de_var (pv 0)) (da_cons (de_var (pv 1)) da_nil)) (fun h => by rw [alen2 h]; rfl)) (nomark _)) (dss_cons (ds_ret de_bl) dss_nil) dss_nil) (dss_cons (ds_ret (de_cmp (d_eqD rfl (hu64 hr)) (de_callA (Cal.at (cal_step_at (base := base) A0) hr (by decide)) (by rfl) tk (da_cons (de_var (pv 3)) (da_cons (de_op d_subI (de_op d_subI (de_var (pv 4)) (de_var (pv 1))) de_int) da_nil)) (fun h => by rw [alen2 h]; rfl)) (de_callA (Cal.at (cal_step_at (base := base) A0) hr (by decide)) (by rfl) tk (da_cons (de_var (pv 0)) (da_cons (de_op d_subI (de_var (pv 4)) de_int) da_nil)) (fun h => by rw [alen2 h]; rfl)) (nomark _))) dss_nil))))))))))
theorem cal__law_cut_holds (A0 : Facts K mg) : Cal P w K mg base (cf K) "_law_cut_holds" 54 ["_law_program", "_law_at"] 2 F__law_cut_holds [] := by
  obtain ⟨fd, F⟩ := A0.c.def_ 34 (d := d__law_cut_holds) rfl
  have hm : mg "_law_cut_holds" = some (.ref (He.ga K "_law_cut_holds")) := A0.glo (A0.c.fact 34 (f := .glo "_law_cut_holds") rfl)
  have bd : Binds K fd ["_law_program", "_law_at"] [] := F.bindsN fun _ _ _ _ _ _ us hl => match us, hl with | [_, _], _ => rfl
  refine ⟨_, fd, [], [], hm, F.kp, ?_, bd, .nil, fun _ => .nil⟩
  exact fn__law_cut_holds A0 F
abbrev N_law : List Str := ["_law_script", "_law_k", "_law_pool_here", "_law_program", "_law_steps", "_law_at", "_law_wrong", "_law_whole"]
theorem sc_law : FnScope N_law ["_law_script"] (defScope s_law) := ⟨rfl, rfl, rfl, by decide +kernel, rfl, by decide +kernel, by decide +kernel⟩
def b_law : SM := sSeq (sFor (iRange1 (mCall max2D (aCons (mC (.int 1)) (aCons (mCall min2D (aCons (mCall lenD (aCons (mVar 0) (aNil))) (aCons (mC (.int 4)) (aNil)))) (aNil))))) (tgName 1) (sSeq (sSet 2 (mFnD F__law_pool [] (aCons (mVar 0) (aCons (mVar 1) (aNil))))) (sSeq (sSet 3 (mFnB F__law_random_program 2 (aCons (mC (.int 2)) (aNil)))) (sSeq (sSet 4 (mFnD F__law_expanded [] (aCons (mVar 3) (aNil)))) (sSeq (sFor (iRange1 (mBin addD (mCall min2D (aCons (mCall lenD (aCons (mVar 4) (aNil))) (aCons (mC (.int 40)) (aNil)))) (mC (.int 1)))) (tgName 5) (sSeq (sIf (tCmpM neD (mFnD F_expand [.int 1000] (aCons (mFnD F_prefix [] (aCons (mVar 3) (aCons (mVar 5) (aNil)))) (aNil))) (mSl (mVar 4) (oNone) (oSome (mVar 5)))) (sSeq (sRet (mC (.bl false))) (sNil)) (sNil)) (sSeq (sIf (tCmpM neD (mFnD F_expand [.int 1000] (aCons (mFnD F_suffix [] (aCons (mVar 3) (aCons (mVar 5) (aNil)))) (aNil))) (mSl (mVar 4) (oSome (mVar 5)) (oNone))) (sSeq (sRet (mC (.bl false))) (sNil)) (sNil)) (sNil)))) (sSeq (sFor (iSeq (mLst (aCons (mUn negI (mC (.int 1))) (aCons (mBin addD (mCall lenD (aCons (mVar 4) (aNil))) (mC (.int 1))) (aCons (mC .non) (aCons (mC (.bl true)) (aCons (mC (.str "1")) (aCons (mLst (aCons (mC (.int 1)) (aNil))) (aNil))))))))) (tgName 6) (sSeq (sIf (tOrM (tNotM (tTru (mFnD F__law_out [] (aCons (mC (.int 0)) (aCons (mVar 3) (aCons (mVar 6) (aNil))))))) (tNotM (tTru (mFnD F__law_out [] (aCons (mC (.int 1)) (aCons (mVar 3) (aCons (mVar 6) (aNil)))))))) (sSeq (sRet (mC (.bl false))) (sNil)) (sNil)) (sNil))) (sSeq (sSet 3 (mFnB F__law_great_program 2 (aCons (mC (.int 3)) (aNil)))) (sSeq (sSet 7 (mFnD F_step_count [] (aCons (mVar 3) (aNil)))) (sSeq (sFor (iSeq (mLst (aCons (mC (.int 0)) (aCons (mVar 7) (aCons (mBin divI (mVar 7) (mC (.int 2))) (aCons (mFnB F__law_draw 2 (aCons (mBin addD (mVar 7) (mC (.int 1))) (aNil))) (aCons (mCall max2D (aCons (mC (.int 0)) (aCons (mBin subI (mVar 7) (mC (.int 1))) (aNil)))) (aCons (mCall min2D (aCons (mVar 7) (aCons (mC (.int 1)) (aNil)))) (aNil))))))))) (tgName 5) (sSeq (sIf (tNotM (tTru (mFnD F__law_cut_holds [] (aCons (mVar 3) (aCons (mVar 5) (aNil)))))) (sSeq (sRet (mC (.bl false))) (sNil)) (sNil)) (sNil))) (sNil)))))))))) (sSeq (sRet (mC (.bl true))) (sNil))
def F_law : FM := runF 8 b_law
theorem fn_law (A0 : Facts K mg) {fd : FuncData} (F : FunD K d_law.name d_law.qual d_law.params d_law.body d_law.scope (d_law.dvs K) (d_law.kws K) (He.fAd K d_law.at_) fd) : FnG P w K mg base (L2.CX P w) 55 (He.fAd K d_law.at_) fd ["_law_script"] (spM (cf K) 1 F_law) := by
  refine mk_fnG (k := 54) F sc_law rfl rfl fun cdv A outer s H E hr hgd => ?_
  have tk := tk_of (P := P) (w := w) (K := K) (mg := mg) (base := base) (N := N_law) (qual := "law") (scope := defScope s_law) (f := He.ga K "law") (cdv := cdv) (A := A) (outer := outer) (s := s) (H := H) (E := E)
  exact (dss_cons (ds_for (passes_of rfl) rfl (di_range1 (fun h => pi_range1 (by rfl) (m_range A0) h) (de_callB (d_max2 rfl) (by rfl) (m_max A0) bt_max (da_cons de_int (da_cons (de_callB (d_min2 rfl) (by rfl) (m_min A0) bt_min (da_cons (de_callB (d_len rfl) (by rfl) (m_len A0) bt_len (da_cons (de_var (pv 0)) da_nil)) (da_cons de_int da_nil))) da_nil)))) (dg_name (pg_name (i := 1) sc_law.nd rfl (by first | exact Or.inl rfl | exact Or.inr rfl))) (dss_cons (ds_set (i := 2) sc_law.nd rfl (by first | exact Or.inl rfl | exact Or.inr rfl) (de_callA (Cal.at (cal__law_pool (base := base) A0) hr (by decide)) (by rfl) tk (da_cons (de_var (pv 0)) (da_cons (de_var (pv 1)) da_nil)) (fun h => by rw [alen2 h]; rfl))) (dss_cons (ds_set (i := 3) sc_law.nd rfl (by first | exact Or.inl rfl | exact Or.inr rfl) (de_callAB (Cal.at (cal__law_random_program (base := base) A0) hr (by decide)) (by rfl) tk (pv 2) rfl (da_cons de_int da_nil) alen1)) (dss_cons (ds_set (i := 4) sc_law.nd rfl (by first | exact Or.inl rfl | exact Or.inr rfl) (de_callA (Cal.at (cal__law_expanded (base := base) A0) hr (by decide)) (by rfl) tk (da_cons (de_var (pv 3)) da_nil) (fun h => by rw [alen1 h]; rfl))) (dss_cons (ds_for (passes_of rfl) rfl (di_range1 (fun h => pi_range1 (by rfl) (m_range A0) h) (de_op (d_add rfl) (de_callB (d_min2 rfl) (by rfl) (m_min A0) bt_min (da_cons (de_callB (d_len rfl) (by rfl) (m_len A0) bt_len (da_cons (de_var (pv 4)) da_nil)) (da_cons de_int da_nil))) de_int)) (dg_name (pg_name (i := 5) sc_law.nd rfl (by first | exact Or.inl rfl | exact Or.inr rfl))) (dss_cons (ds_if (dt_cmp (d_neD rfl (hu64 hr)) (de_callA (Cal.at (cal_expand (base := base) A0) hr (by decide)) (by rfl) tk (da_cons (de_callA (Cal.at (cal_prefix (base := base) A0) hr (by decide)) (by rfl) tk (da_cons (de_var (pv 3)) (da_cons (de_var (pv 5)) da_nil)) (fun h => by rw [alen2 h]; rfl)) da_nil) (fun h => by rw [alen1 h]; rfl)) (de_sl rfl (de_var (pv 4)) do_none (do_some (de_var (pv 5)))) (nomark _)) (dss_cons (ds_ret de_bl) dss_nil) dss_nil) (dss_cons (ds_if (dt_cmp (d_neD rfl (hu64 hr)) (de_callA (Cal.at (cal_expand (base := base) A0) hr (by decide)) (by rfl) tk (da_cons (de_callA (Cal.at (cal_suffix (base := base) A0) hr (by decide)) (by rfl) tk (da_cons (de_var (pv 3)) (da_cons (de_var (pv 5)) da_nil)) (fun h => by rw [alen2 h]; rfl)) da_nil) (fun h => by rw [alen1 h]; rfl)) (de_sl rfl (de_var (pv 4)) (do_some (de_var (pv 5))) do_none) (nomark _)) (dss_cons (ds_ret de_bl) dss_nil) dss_nil) dss_nil))) (dss_cons (ds_for (passes_of rfl) rfl (di_seq rfl (de_lst (da_cons (de_neg de_int) (da_cons (de_op (d_add rfl) (de_callB (d_len rfl) (by rfl) (m_len A0) bt_len (da_cons (de_var (pv 4)) da_nil)) de_int) (da_cons de_non (da_cons de_bl (da_cons de_str (da_cons (de_lst (da_cons de_int da_nil)) da_nil)))))))) (dg_name (pg_name (i := 6) sc_law.nd rfl (by first | exact Or.inl rfl | exact Or.inr rfl))) (dss_cons (ds_if (PW.pt (dw_or (dt_not (dt_tru rfl (de_callA (CalG.at (cal__law_out (base := base) A0) hr hgd (by decide)) (by rfl) tk (da_cons de_int (da_cons (de_var (pv 3)) (da_cons (de_var (pv 6)) da_nil))) (fun h => by rw [alen3 h]; rfl)) (fun _ => rfl))) (dw_or1 (dt_not (dt_tru rfl (de_callA (CalG.at (cal__law_out (base := base) A0) hr hgd (by decide)) (by rfl) tk (da_cons de_int (da_cons (de_var (pv 3)) (da_cons (de_var (pv 6)) da_nil))) (fun h => by rw [alen3 h]; rfl)) (fun _ => rfl)))))) (dss_cons (ds_ret de_bl) dss_nil) dss_nil) dss_nil)) (dss_cons (ds_set (i := 3) sc_law.nd rfl (by first | exact Or.inl rfl | exact Or.inr rfl) (de_callAB (Cal.at (cal__law_great_program (base := base) A0) hr (by decide)) (by rfl) tk (pv 2) rfl (da_cons de_int da_nil) alen1)) (dss_cons (ds_set (i := 7) sc_law.nd rfl (by first | exact Or.inl rfl | exact Or.inr rfl) (de_callA (Cal.at (cal_step_count (base := base) A0) hr (by decide)) (by rfl) tk (da_cons (de_var (pv 3)) da_nil) (fun h => by rw [alen1 h]; rfl))) (dss_cons (ds_for (passes_of rfl) rfl (di_seq rfl (de_lst (da_cons de_int (da_cons (de_var (pv 7)) (da_cons (de_op d_divI (de_var (pv 7)) de_int) (da_cons (de_callAB (Cal.at (cal__law_draw (base := base) A0) hr (by decide)) (by rfl) tk (pv 2) rfl (da_cons (de_op (d_add rfl) (de_var (pv 7)) de_int) da_nil) alen1) (da_cons (de_callB (d_max2 rfl) (by rfl) (m_max A0) bt_max (da_cons de_int (da_cons (de_op d_subI (de_var (pv 7)) de_int) da_nil))) (da_cons (de_callB (d_min2 rfl) (by rfl) (m_min A0) bt_min (da_cons (de_var (pv 7)) (da_cons de_int da_nil))) da_nil)))))))) (dg_name (pg_name (i := 5) sc_law.nd rfl (by first | exact Or.inl rfl | exact Or.inr rfl))) (dss_cons (ds_if (dt_not (dt_tru rfl (de_callA (Cal.at (cal__law_cut_holds (base := base) A0) hr (by decide)) (by rfl) tk (da_cons (de_var (pv 3)) (da_cons (de_var (pv 5)) da_nil)) (fun h => by rw [alen2 h]; rfl)) (fun _ => rfl))) (dss_cons (ds_ret de_bl) dss_nil) dss_nil) dss_nil)) dss_nil))))))))) (dss_cons (ds_ret de_bl) dss_nil))
end
abbrev R : PySem.W.OpenRow := PySem.W.OpenLaw.row PySem.Challenge.rw_heapeffects_k08_parts_of_programs
abbrev hk : PySem.W.Hook := hookM 6 fa fn exs
def ob (s : PySem.W.SharedT) : He.AlD × Bool := obM 6 fa fn exs (HandSHeadRun.getT s)
theorem ob_eq (s : PySem.W.SharedT) : ob s = hk.obs s.abs := obM_eq (HandSHeadRun.getT_eq s)
def loose : List Str := (["HeapError", "InvalidCount", "InvalidProgram", "OutOfRange", "LimitExceeded", "is_number", "is_count", "check_count", "check_program", "_first_invalid", "_invalid_in", "_is_insertion", "_is_removal", "_is_repeat", "has_form", "step_count", "insertion_count", "totals", "totals_of_step", "_length", "_step_length", "expand", "_expanded", "_expanded_step", "step_at", "_elementary", "_find", "prefix", "suffix", "_check_cut"] : List Str) ++ (["_split", "_split_step", "_turns", "_law_pool", "_law_draw", "_law_random_program", "_law_great_program", "_law_expanded", "_law_out", "_law_cut_holds", "DEEPEST"] : List Str)
end Law

namespace Law
open PySem PySem.Spec PyProof.Rows L2 M
/-! ### the law's draws -/
theorem draw_ok (a b m : Int) (hm : 0 < m) (hb : m.natAbs < 2 ^ 8000) : ∃ r a' b', 0 ≤ r ∧ r < m ∧ (F__law_draw [.bo (.lst [.int a, .int b]), .fz (.int m)]).rxb = .ok (.fz (.int r)) (.lst [.int a', .int b']) := by
  have i0 : ixN 2 0 = some 0 := by decide
  have i1 : ixN 2 1 = some 1 := by decide
  by_cases h : 0 < a
  · refine ⟨a % m, a / m, b, Int.emod_nonneg _ (by omega), Int.emod_lt_of_pos _ hm, ?_⟩
    simp [F__law_draw, b__law_draw, runF_eq, lx0, lx1, gt_ii, h, mod_ii hm, div_ii hm hb, i0, Res.rxb]
  · have m1 : mulD (.int b) (.int 48271) = some (.fz (.int (b * 48271))) := mul_ii (mulOk_r (by decide))
    have m2 : modI (.int (b * 48271 + 11)) (.int 2147483647) = some (.fz (.int ((b * 48271 + 11) % 2147483647))) := mod_ii (by decide)
    generalize hc : (b * 48271 + 11) % 2147483647 = c at m2
    have hc0 : 0 ≤ c := by rw [← hc]; exact Int.emod_nonneg _ (by decide)
    have hc1 : c < 2147483647 := by rw [← hc]; exact Int.emod_lt_of_pos _ (by decide)
    have m3 : mulD (.int c) (.int c) = some (.fz (.int (c * c))) := mul_ii (mulOk_r (by omega))
    have m4 : modI (.int (c * c)) (.int 2147483629) = some (.fz (.int (c * c % 2147483629))) := mod_ii (by decide)
    have m5 : divI (.int (c * c % 2147483629)) (.int 16) = some (.fz (.int (c * c % 2147483629 / 16))) := div_ii (by decide) (big_of (k := 5) (by decide) (by decide))
    have m6 : modI (.int (c * c % 2147483629 / 16)) (.int m) = some (.fz (.int (c * c % 2147483629 / 16 % m))) := mod_ii hm
    refine ⟨c * c % 2147483629 / 16 % m, a, c, Int.emod_nonneg _ (by omega), Int.emod_lt_of_pos _ hm, ?_⟩
    simp [F__law_draw, b__law_draw, runF_eq, lx0, lx1, gt_ii, h, add_ii, m1, m2, m3, m4, m5, m6, i0, i1, Res.rxb]
/-- a pool: two ints -/
def IsPool (m : MO) : Prop := ∃ a b, m = .lst [.int a, .int b]
theorem drawP {m : MO} (h : IsPool m) (k : Int) (hm : 0 < k) (hb : k.natAbs < 2 ^ 8000) : ∃ r m', IsPool m' ∧ 0 ≤ r ∧ r < k ∧ (F__law_draw [.bo m, .fz (.int k)]).rxb = .ok (.fz (.int r)) m' := by
  obtain ⟨a, b, rfl⟩ := h
  obtain ⟨r, a', b', h0, h1, h2⟩ := draw_ok a b k hm hb
  exact ⟨r, _, ⟨a', b', rfl⟩, h0, h1, h2⟩
theorem drawS {m : MO} (h : IsPool m) (k : Int) (hm : 0 < k) (hb : k < 2 ^ 60) : ∃ r m', IsPool m' ∧ 0 ≤ r ∧ r < k ∧ (F__law_draw [.bo m, .fz (.int k)]).rxb = .ok (.fz (.int r)) m' := drawP h k hm (big_of (k := 60) (by omega) (by decide))
theorem pool_ok (ns : List Int) (k : Int) (h0 : 0 ≤ k) (hk : k ≤ 63) : ∃ m, IsPool m ∧ (F__law_pool [.fz (.frl (ns.map D.int)), .fz (.int k)]).rx = .ok (.ow m) := by
  suffices z : ∃ a b : Int, (F__law_pool [.fz (.frl (ns.map D.int)), .fz (.int k)]).rx = .ok (.ow (.lst [.int a, .int b])) from let ⟨a, b, z⟩ := z; ⟨_, ⟨a, b, rfl⟩, z⟩
  have cut : M.cutD (ns.map D.int) none (some 63) = (ns.take 63).map D.int := by
    have := cut_hi (ns.map D.int) 63
    rw [List.map_take]
    exact this
  have m1 : ∀ s : Int, mulD (.int 11) (.int s) = some (.fz (.int (11 * s))) := fun s => mul_ii (mulOk_l (by decide))
  have m2 : mulD (.int 7919) (.int k) = some (.fz (.int (7919 * k))) := mul_ii (mulOk_l (by decide))
  have m3 : ∀ x, mulD (.int x) (.int k) = some (.fz (.int (x * k))) := fun x => mul_ii (mulOk_r (by omega))
  have m5 : ∀ x : Int, mulD (.int x) (.int 48271) = some (.fz (.int (x * 48271))) := fun s => mul_ii (mulOk_r (by decide))
  have p1 : powI (.int 10) (.int 18) = some (.fz (.int (10 ^ 18))) := rfl
  have md : ∀ x : Int, modI (.int x) (.int 2147483629) = some (.fz (.int (x % 2147483629))) := fun x => mod_ii (by decide)
  have me : ∀ x : Int, modI (.int x) (.int 2147483647) = some (.fz (.int (x % 2147483647))) := fun x => mod_ii (by decide)
  have mm : ∀ x : Int, mulD (.int (x % 2147483647)) (.int (x % 2147483647)) = some (.fz (.int ((x % 2147483647) * (x % 2147483647)))) := fun x => mul_ii (mulOk_r (by
    have := Int.emod_nonneg x (show (2147483647 : Int) ≠ 0 by decide)
    have := Int.emod_lt_of_pos x (show (0 : Int) < 2147483647 by decide)
    omega))
  have sm : sumD [.lst ((ns.map D.int).take 63)] = some (.fz (.int (ns.take 63).sum)) := by
    rw [← List.map_take]
    unfold sumD orO sumL
    simp only [intsD_of, Option.map_some]
  have sl : slD (.frl (ns.map D.int)) none (some 63) = some (.ow (.lst ((ns.map D.int).take 63))) := by
    show some (RV.ow (.lst (M.cutD (ns.map D.int) none (some 63)))) = _
    rw [cut, List.map_take]
  have ln : lenD [.frl (ns.map D.int)] = some (.fz (.int (ns.length : Nat))) := by simp [lenD]
  by_cases hlt : k < (ns.length : Int)
  · obtain ⟨j, rfl⟩ := Int.eq_ofNat_of_zero_le h0
    have hj : j < ns.length := by omega
    have ix : ixD (.frl (ns.map D.int)) (.int (j : Nat)) = some (.fz (.int ns[j])) := ixF_of (by rw [List.getElem?_map, List.getElem?_eq_getElem hj]; rfl)
    simp [F__law_pool, b__law_pool, runF_eq, sl, sm, ln, m1, m2, m3, m5, md, me, mm, p1, lt_ii, ge_ii, add_ii, absD, int_bl, mul_if, hlt, hj, ix, maxLen2]
  · simp [F__law_pool, b__law_pool, runF_eq, sl, sm, ln, m1, m2, m3, m5, md, me, mm, p1, lt_ii, ge_ii, add_ii, absD, int_bl, mul_if, hlt, maxLen2]
end Law

namespace Law
open PySem PySem.Spec PyProof.Rows L2 M
/-- a step, a program -/
inductive Stp where
  | ins (n k : Int) | rem (k : Int) | rep (k : Int) (p : List Stp)
mutual
def encS : Stp → D
  | .ins n k => .tup [.str "insert", .int n, .int k]
  | .rem k => .tup [.str "remove", .int k]
  | .rep k p => .tup [.str "repeat", .int k, .tup (encL p)]
def encL : List Stp → List D
  | [] => []
  | s :: p => encS s :: encL p
end
mutual
/-- how deep repeats are nested -/
def depS : Stp → Nat
  | .ins _ _ => 0
  | .rem _ => 0
  | .rep _ p => depL p + 1
def depL : List Stp → Nat
  | [] => 0
  | s :: p => max (depS s) (depL p)
end
mutual
/-- insertions and removals -/
def totS : Stp → Int × Int
  | .ins _ k => (k, 0)
  | .rem k => (0, k)
  | .rep k p => (k * (totL p).1, k * (totL p).2)
def totL : List Stp → Int × Int
  | [] => (0, 0)
  | s :: p => ((totS s).1 + (totL p).1, (totS s).2 + (totL p).2)
end
mutual
/-- counts are counts, products are small enough -/
def okS : Stp → Prop
  | .ins _ k => 0 ≤ k
  | .rem k => 0 ≤ k
  | .rep k p => 0 ≤ k ∧ mulOk k (totL p).1 = true ∧ mulOk k (totL p).2 = true ∧ p.length ≤ maxLen ∧ okL p
def okL : List Stp → Prop
  | [] => True
  | s :: p => okS s ∧ okL p
end
theorem encL_map : ∀ p, encL p = p.map encS
  | [] => rfl
  | s :: p => by rw [encL, List.map_cons, encL_map p]
theorem depL_mem : ∀ {p : List Stp} {s : Stp}, s ∈ p → depS s ≤ depL p
  | t :: p, s, h => by
    rw [depL]
    rcases List.mem_cons.mp h with rfl | h
    · exact Nat.le_max_left _ _
    · exact Nat.le_trans (depL_mem h) (Nat.le_max_right _ _)
theorem okL_mem : ∀ {p : List Stp} {s : Stp}, okL p → s ∈ p → okS s
  | t :: p, s, o, h => by
    rw [okL] at o
    rcases List.mem_cons.mp h with rfl | h
    · exact o.1
    · exact okL_mem o.2 h
mutual
theorem tot_nnS : ∀ {s : Stp}, okS s → 0 ≤ (totS s).1 ∧ 0 ≤ (totS s).2
  | .ins _ k, h => by rw [okS] at h; rw [totS]; exact ⟨h, Int.le_refl _⟩
  | .rem k, h => by rw [okS] at h; rw [totS]; exact ⟨Int.le_refl _, h⟩
  | .rep k p, h => by
    rw [okS] at h
    rw [totS]
    have := tot_nnL h.2.2.2.2
    exact ⟨Int.mul_nonneg h.1 this.1, Int.mul_nonneg h.1 this.2⟩
theorem tot_nnL : ∀ {p : List Stp}, okL p → 0 ≤ (totL p).1 ∧ 0 ≤ (totL p).2
  | [], _ => by rw [totL]; exact ⟨Int.le_refl _, Int.le_refl _⟩
  | s :: p, h => by
    rw [okL] at h
    rw [totL]
    have a := tot_nnS h.1
    have b := tot_nnL h.2
    exact ⟨Int.add_nonneg a.1 b.1, Int.add_nonneg a.2 b.2⟩
end
/-! ### kinds of steps -/
theorem int_isnum (i : Int) : (F_is_number [.fz (.int i)]).rx = .ok (.fz (.bl true)) := by kernel_rfl
theorem int_iscount (i : Int) : (F_is_count [.fz (.int i)]).rx = .ok (.fz (.bl (decide (0 ≤ i)))) := by
  simp [F_is_count, b_is_count, runF_eq, int_isnum, geI, oI]
theorem hf (n k : Int) (p : List D) :
    (F__has_form [.fz (.tup [.str "insert", .int n, .int k]), .fz (.str "insert"), .fz (.int 3)]).rx = .ok (.fz (.bl true)) ∧
    (F__has_form [.fz (.tup [.str "remove", .int k]), .fz (.str "insert"), .fz (.int 3)]).rx = .ok (.fz (.bl false)) ∧
    (F__has_form [.fz (.tup [.str "repeat", .int k, .tup p]), .fz (.str "insert"), .fz (.int 3)]).rx = .ok (.fz (.bl false)) ∧
    (F__has_form [.fz (.tup [.str "insert", .int n, .int k]), .fz (.str "remove"), .fz (.int 2)]).rx = .ok (.fz (.bl false)) ∧
    (F__has_form [.fz (.tup [.str "remove", .int k]), .fz (.str "remove"), .fz (.int 2)]).rx = .ok (.fz (.bl true)) ∧
    (F__has_form [.fz (.tup [.str "repeat", .int k, .tup p]), .fz (.str "remove"), .fz (.int 2)]).rx = .ok (.fz (.bl false)) ∧
    (F__has_form [.fz (.tup [.str "insert", .int n, .int k]), .fz (.str "repeat"), .fz (.int 3)]).rx = .ok (.fz (.bl false)) ∧
    (F__has_form [.fz (.tup [.str "remove", .int k]), .fz (.str "repeat"), .fz (.int 3)]).rx = .ok (.fz (.bl false)) ∧
    (F__has_form [.fz (.tup [.str "repeat", .int k, .tup p]), .fz (.str "repeat"), .fz (.int 3)]).rx = .ok (.fz (.bl true)) := by
  refine ⟨?_, ?_, ?_, ?_, ?_, ?_, ?_, ?_, ?_⟩ <;> kernel_rfl
theorem ixN_of {l : List D} {j : Nat} {d : D} (h : l[j]? = some d) : ixD (.tup l) (.int (j : Nat)) = some (.fz d) := by
  show (atI l (j : Int)).map RV.fz = _
  rw [atI_nat h]
  rfl
theorem ix0 (x : D) (l : List D) : ixD (.tup (x :: l)) (.int 0) = some (.fz x) := ixN_of (j := 0) rfl
theorem ix1 (x y : D) (l : List D) : ixD (.tup (x :: y :: l)) (.int 1) = some (.fz y) := ixN_of (j := 1) rfl
theorem ix2 (x y z : D) (l : List D) : ixD (.tup (x :: y :: z :: l)) (.int 2) = some (.fz z) := ixN_of (j := 2) rfl
theorem isins_ins {n k : Int} (h : 0 ≤ k) : (F__is_insertion [.fz (.tup [.str "insert", .int n, .int k])]).rx = .ok (.fz (.bl true)) := by
  simp [F__is_insertion, b__is_insertion, runF_eq, (hf n k []).1, ix1, ix2, int_isnum, int_iscount, h]
theorem isins_rem {k : Int} : (F__is_insertion [.fz (.tup [.str "remove", .int k])]).rx = .ok (.fz (.bl false)) := by
  simp [F__is_insertion, b__is_insertion, runF_eq, (hf 0 k []).2.1]
theorem isins_rep {k : Int} {p : List D} : (F__is_insertion [.fz (.tup [.str "repeat", .int k, .tup p])]).rx = .ok (.fz (.bl false)) := by
  simp [F__is_insertion, b__is_insertion, runF_eq, (hf 0 k p).2.2.1]
theorem isrem_rem {k : Int} (h : 0 ≤ k) : (F__is_removal [.fz (.tup [.str "remove", .int k])]).rx = .ok (.fz (.bl true)) := by
  simp [F__is_removal, b__is_removal, runF_eq, (hf 0 k []).2.2.2.2.1, ix1, int_iscount, h]
theorem isrem_rep {k : Int} {p : List D} : (F__is_removal [.fz (.tup [.str "repeat", .int k, .tup p])]).rx = .ok (.fz (.bl false)) := by
  simp [F__is_removal, b__is_removal, runF_eq, (hf 0 k p).2.2.2.2.2.1]
theorem isrep_rep {k : Int} {p : List D} (h : 0 ≤ k) : (F__is_repeat [.fz (.tup [.str "repeat", .int k, .tup p])]).rx = .ok (.fz (.bl true)) := by
  simp [F__is_repeat, b__is_repeat, runF_eq, (hf 0 k p).2.2.2.2.2.2.2.2, ix1, ix2, int_iscount, h, isiD, tyName, clsNames, isB]

/-! ### loops -/
theorem forLoop_all {C : Ev → Prop} {t : TgM} {b : SM} : ∀ {ds : List D} {E : Ev}, (∀ d ∈ ds, ∀ E, C E → ∃ E1 E2, t d E = some E1 ∧ b E1 = .nx E2 ∧ C E2) → C E → ∃ E', forLoop t b ds E = .nx E' ∧ C E'
  | [], E, _, h => ⟨E, rfl, h⟩
  | d :: ds, E, hs, h => by
    obtain ⟨E1, E2, h1, h2, h3⟩ := hs d List.mem_cons_self E h
    obtain ⟨E', h4, h5⟩ := forLoop_all (fun d hd => hs d (List.mem_cons_of_mem _ hd)) h3
    refine ⟨E', ?_, h5⟩
    rw [forLoop_cons, h1]
    simp only [h2, h4]
theorem lc_map {α : Type} {t : TgM} {elt : EM} {vs : List Nat} {E : Ev} {g f : α → D} : ∀ {l : List α} {acc : List D}, (∀ a ∈ l, ∃ E1 r E3 E4, t (g a) E = some E1 ∧ elt E1 = .ok r E3 ∧ fzn E3 r = some (f a, E4) ∧ allNotBo E4 vs = true ∧ wipeE E4 vs = E) → acc.length + l.length ≤ maxLen →
    lcLoop t tYesM elt vs (l.map g) acc E = .ok (.ow (.lst (acc ++ l.map f))) E
  | [], acc, _, _ => by simp [lcLoop]
  | d :: ds, acc, h, hl => by
    obtain ⟨E1, r, E3, E4, h1, h2, h3, h4, h5⟩ := h d List.mem_cons_self
    have hl' : acc.length < maxLen := by simp only [List.length_cons] at hl; omega
    rw [List.map_cons]
    simp only [lcLoop, h1, tYesM, h2, h3, h4, hl', h5]
    simp only [and_self, if_true]
    rw [lc_map (fun d hd => h d (List.mem_cons_of_mem _ hd)) (by simp only [List.length_append, List.length_cons, List.length_nil] at hl ⊢; omega)]
    simp
theorem enumD_mem {ds : List D} {x : D} (h : x ∈ enumD ds) : ∃ (i : Nat) (d : D), x = .tup [.int i, d] ∧ d ∈ ds ∧ ds[i]? = some d := by
  unfold enumD at h
  obtain ⟨i, hi, rfl⟩ := List.mem_map.mp h
  have hi := List.mem_range.mp hi
  exact ⟨i, ds[i], by rw [List.getElem?_eq_getElem hi]; rfl, List.getElem_mem hi, List.getElem?_eq_getElem hi⟩
/-! ### check_program -/
theorem fi_ok : ∀ n : Nat, (∀ (p : List Stp) (d : Int), okL p → 0 ≤ d → d + depL p ≤ 8 → 2 * depL p + 2 ≤ n → (G__first_invalid n 0 [.fz (.tup (encL p)), .fz (.int d)]).rx = .ok (.fz .non)) ∧
    (∀ (s : Stp) (d : Int), okS s → 0 ≤ d → d + depS s ≤ 8 → 2 * depS s + 1 ≤ n → (G__first_invalid n 1 [.fz (encS s), .fz (.int d)]).rx = .ok (.fz .non)) := by
  intro n
  induction n with
  | zero => exact ⟨fun p d _ _ _ h => by omega, fun s d _ _ _ h => by omega⟩
  | succ n ih =>
    obtain ⟨ihL, ihS⟩ := ih
    constructor
    · intro p d ok h0 h8 hn
      show (runF 5 (b__first_invalid (G__first_invalid n 0) (G__first_invalid n 1)) [.fz (.tup (encL p)), .fz (.int d)]).rx = _
      simp [runF_eq, b__first_invalid]
      have key := forLoop_all (C := fun E => ∃ a b c, E = [.fz (.tup (encL p)), .fz (.int d), a, b, c] ∧ (∀ m, a ≠ .bo m) ∧ (∀ m, b ≠ .bo m) ∧ (∀ m, c ≠ .bo m))
        (t := tgTup [tgName 2, tgName 3]) (b := sSeq (sSet 4 (mFnD (G__first_invalid n 1) [] (aCons (mVar 3) (aCons (mVar 1) aNil)))) (sSeq (sIf (tCmpM isNotN (mVar 4) (mC .non)) (sSeq (sRet (mTup (aCons (mVar 2) (aStar (mVar 4) (aNil))))) (sNil)) sNil) sNil))
        (ds := enumD (encL p)) (E := [.fz (.tup (encL p)), .fz (.int d), .un, .un, .un])
      have turn : ∀ x ∈ enumD (encL p), ∀ E : Ev, (∃ a b c, E = [.fz (.tup (encL p)), .fz (.int d), a, b, c] ∧ (∀ m, a ≠ .bo m) ∧ (∀ m, b ≠ .bo m) ∧ (∀ m, c ≠ .bo m)) → ∃ E1 E2, tgTup [tgName 2, tgName 3] x E = some E1 ∧
          sSeq (sSet 4 (mFnD (G__first_invalid n 1) [] (aCons (mVar 3) (aCons (mVar 1) aNil)))) (sSeq (sIf (tCmpM isNotN (mVar 4) (mC .non)) (sSeq (sRet (mTup (aCons (mVar 2) (aStar (mVar 4) (aNil))))) (sNil)) sNil) sNil) E1 = .nx E2 ∧ (∃ a b c, E2 = [.fz (.tup (encL p)), .fz (.int d), a, b, c] ∧ (∀ m, a ≠ .bo m) ∧ (∀ m, b ≠ .bo m) ∧ (∀ m, c ≠ .bo m)) := by
        rintro x hx E ⟨a, b, c, rfl, ha, hb, hc⟩
        obtain ⟨i, e, rfl, he, _⟩ := enumD_mem hx
        rw [encL_map] at he
        obtain ⟨s, hs, rfl⟩ := List.mem_map.mp he
        have r := ihS s d (okL_mem ok hs) h0 (by have := depL_mem hs; omega) (by have := depL_mem hs; omega)
        have na : notBo [.fz (.tup (encL p)), .fz (.int d), a, b, c] 2 = true := by cases a <;> first | rfl | exact absurd rfl (ha _)
        have nb : ∀ z, notBo [.fz (.tup (encL p)), .fz (.int d), z, b, c] 3 = true := by intro z; cases b <;> first | rfl | exact absurd rfl (hb _)
        have nc : ∀ z y, notBo [.fz (.tup (encL p)), .fz (.int d), z, y, c] 4 = true := by intro z y; cases c <;> first | rfl | exact absurd rfl (hc _)
        refine ⟨[.fz (.tup (encL p)), .fz (.int d), .fz (.int i), .fz (encS s), c], [.fz (.tup (encL p)), .fz (.int d), .fz (.int i), .fz (encS s), .fz .non], ?_, ?_, _, _, _, rfl, by simp, by simp, by simp⟩
        · simp only [tgTup_eq, tgs_cons, tgs_nil, tgName_eq, na, nb, if_true, List.set_cons_succ, List.set_cons_zero]
        · simp only [sSeq_eq, sSet_eq, mFnD_eq, aCons_eq, aNil_eq, mVar_eq, List.getElem?_cons_succ, List.getElem?_cons_zero, bind_ok, settle_sl, fzs_cons, fzs_nil, fzn_sl, List.map_cons, List.map_nil, List.append_nil, r, out_ok, asg_eq, nc, if_true, List.set_cons_succ, List.set_cons_zero, seq_nx]
          simp [isNotN, M.isNon]
      obtain ⟨E', h1, a, b, c, rfl, _⟩ := key turn ⟨_, _, _, rfl, by simp, by simp, by simp⟩
      rw [h1]
      simp
    · intro s d ok h0 h8 hn
      show (runF 2 (b__invalid_in (G__first_invalid n 0) (G__first_invalid n 1)) [.fz (encS s), .fz (.int d)]).rx = _
      cases s with
      | ins m k =>
        rw [okS] at ok
        simp [runF_eq, b__invalid_in, encS, isins_ins ok, truD]
      | rem k =>
        rw [okS] at ok
        simp [runF_eq, b__invalid_in, encS, isins_rem, isrem_rem ok, truD]
      | rep k p =>
        rw [okS] at ok
        rw [depS] at h8 hn
        have e8 : ¬ d = 8 := by omega
        have r := ihL p (d + 1) ok.2.2.2.2 (by omega) (by omega) (by omega)
        simp [runF_eq, b__invalid_in, encS, isins_rep, isrem_rep, isrep_rep ok.1, truD, eqD, plainD, SeqAt.shaped, py, PyData.canLay0, PyData.depth, PyData.eqv, e8, ix2, addD, orO2, addI, oI, r]
theorem check_ok {p : List Stp} (ok : okL p) (h8 : depL p ≤ 7) : (F_check_program [.fz (.tup (encL p))]).rx = .ok (.fz .non) := by
  have r := (fi_ok 24).1 p 1 ok (by omega) (by omega) (by omega)
  simp [F_check_program, b_check_program, runF_eq, isiD, tyName, clsNames, isB, truD, F__first_invalid, r, isNotN, M.isNon]
/-! ### counts -/
def eqS (x y : Str) : Option RV := eqD (.str x) (.str y)
theorem eq_ii : eqD (.str "insert") (.str "insert") = some (.fz (.bl true)) := by kernel_rfl
theorem eq_ri : eqD (.str "remove") (.str "insert") = some (.fz (.bl false)) := by kernel_rfl
theorem eq_rr : eqD (.str "remove") (.str "remove") = some (.fz (.bl true)) := by kernel_rfl
theorem eq_pi : eqD (.str "repeat") (.str "insert") = some (.fz (.bl false)) := by kernel_rfl
theorem eq_pr : eqD (.str "repeat") (.str "remove") = some (.fz (.bl false)) := by kernel_rfl
theorem intsD_of (l : List Int) : intsD (l.map D.int) = some l := by
  induction l with
  | nil => rfl
  | cons i l ih => simp [intsD, ih]
theorem maxLen2 : 2 ≤ maxLen := by decide
theorem maxLen3 : 3 ≤ maxLen := by decide
theorem maxLen1 : 1 ≤ maxLen := by decide
def pairD (x : Int × Int) : D := .tup [.int x.1, .int x.2]
theorem totL_sum : ∀ p : List Stp, ((p.map fun s => (totS s).1).sum, (p.map fun s => (totS s).2).sum) = totL p
  | [] => by rw [totL]; rfl
  | s :: p => by
    rw [totL, ← totL_sum p]
    simp
theorem tot_ok : ∀ n : Nat, (∀ p : List Stp, okL p → p.length ≤ maxLen → 2 * depL p + 2 ≤ n → (G__totals n 0 [.fz (.tup (encL p))]).rx = .ok (.fz (pairD (totL p)))) ∧
    (∀ s : Stp, okS s → 2 * depS s + 1 ≤ n → (G__totals n 1 [.fz (encS s)]).rx = .ok (.fz (pairD (totS s)))) := by
  intro n
  induction n with
  | zero => exact ⟨fun p _ _ h => by omega, fun s _ h => by omega⟩
  | succ n ih =>
    obtain ⟨ihL, ihS⟩ := ih
    constructor
    · intro p ok hl hn
      show (runF 4 (b__totals (G__totals n 0) (G__totals n 1)) [.fz (.tup (encL p))]).rx = _
      have l1 := lc_map (g := encS) (f := fun s => pairD (totS s)) (t := tgName 2) (elt := mFnD (G__totals n 1) [] (aCons (mVar 2) aNil)) (vs := [2]) (E := [.fz (.tup (encL p)), .un, .un, .un]) (l := p) (acc := [])
        (fun s hs => by
          have r := ihS s (okL_mem ok hs) (by have := depL_mem hs; omega)
          refine ⟨_, .fz (pairD (totS s)), [.fz (.tup (encL p)), .un, .fz (encS s), .un], [.fz (.tup (encL p)), .un, .fz (encS s), .un], by simp; rfl, ?_, rfl, rfl, rfl⟩
          simp [r]) (by simpa using hl)
      have l2 := lc_map (g := fun s => pairD (totS s)) (f := fun s => D.int (totS s).1) (t := tgName 3) (elt := mBin ixD (mVar 3) (mC (.int 0))) (vs := [3]) (E := [.fz (.tup (encL p)), .fz (.lst (p.map fun s => pairD (totS s))), .un, .un]) (l := p) (acc := [])
        (fun s hs => by
          refine ⟨_, .fz (.int (totS s).1), [.fz (.tup (encL p)), .fz (.lst (p.map fun s => pairD (totS s))), .un, .fz (pairD (totS s))], [.fz (.tup (encL p)), .fz (.lst (p.map fun s => pairD (totS s))), .un, .fz (pairD (totS s))], by simp; rfl, ?_, rfl, rfl, rfl⟩
          simp [pairD, ix0]) (by simpa using hl)
      have l3 := lc_map (g := fun s => pairD (totS s)) (f := fun s => D.int (totS s).2) (t := tgName 3) (elt := mBin ixD (mVar 3) (mC (.int 1))) (vs := [3]) (E := [.fz (.tup (encL p)), .fz (.lst (p.map fun s => pairD (totS s))), .un, .un]) (l := p) (acc := [])
        (fun s hs => by
          refine ⟨_, .fz (.int (totS s).2), [.fz (.tup (encL p)), .fz (.lst (p.map fun s => pairD (totS s))), .un, .fz (pairD (totS s))], [.fz (.tup (encL p)), .fz (.lst (p.map fun s => pairD (totS s))), .un, .fz (pairD (totS s))], by simp; rfl, ?_, rfl, rfl, rfl⟩
          simp [pairD, ix1]) (by simpa using hl)
      rw [List.nil_append] at l1 l2 l3
      have i1 : intsD (p.map fun s => D.int (totS s).1) = some (p.map fun s => (totS s).1) := by
        have := intsD_of (p.map fun s => (totS s).1)
        rwa [List.map_map] at this
      have i2 : intsD (p.map fun s => D.int (totS s).2) = some (p.map fun s => (totS s).2) := by
        have := intsD_of (p.map fun s => (totS s).2)
        rwa [List.map_map] at this
      rw [encL_map] at l1 l2 l3 ⊢
      simp [runF_eq, b__totals, l1, l2, l3, sumD, orO, sumL, i1, i2, maxLen2]
      rw [← totL_sum p]
      rfl
    · intro s ok hn
      show (runF 3 (b__totals_of_step (G__totals n 0) (G__totals n 1)) [.fz (encS s)]).rx = _
      cases s with
      | ins m k => simp [runF_eq, b__totals_of_step, encS, ix0, ix1, ix2, eq_ii, maxLen2, totS, pairD]
      | rem k => simp [runF_eq, b__totals_of_step, encS, ix0, ix1, ix2, eq_ri, eq_rr, maxLen2, totS, pairD]
      | rep k p =>
        rw [okS] at ok
        rw [depS] at hn
        have r := ihL p ok.2.2.2.2 ok.2.2.2.1 (by omega)
        simp [runF_eq, b__totals_of_step, encS, ix0, ix1, ix2, eq_pi, eq_pr, r, pairD, mulD, orO2, mulI, oI, ok.2.1, ok.2.2.1, maxLen2, totS]
def lenL (p : List Stp) : Int := (totL p).1 + (totL p).2
def lenS (s : Stp) : Int := (totS s).1 + (totS s).2
structure Good (p : List Stp) : Prop where
  ok : okL p
  dep : depL p ≤ 7
  len : p.length ≤ maxLen
theorem totals_ok {p : List Stp} (g : Good p) : (F__totals [.fz (.tup (encL p))]).rx = .ok (.fz (pairD (totL p))) := (tot_ok 24).1 p g.ok g.len (by have := g.dep; omega)
theorem totstep_ok {s : Stp} (ok : okS s) (h : depS s ≤ 7) : (F__totals_of_step [.fz (encS s)]).rx = .ok (.fz (pairD (totS s))) := (tot_ok 24).2 s ok (by omega)
theorem sum_pair (a b : Int) : sumD [.tup [.int a, .int b]] = some (.fz (.int (a + b))) := by
  simp [sumD, orO, sumL, sumT, intsD]
theorem length_ok {p : List Stp} (g : Good p) : (F__length [.fz (.tup (encL p))]).rx = .ok (.fz (.int (lenL p))) := by
  simp [F__length, b__length, runF_eq, totals_ok g, pairD, sum_pair, lenL]
theorem steplen_ok {s : Stp} (ok : okS s) (h : depS s ≤ 7) : (F__step_length [.fz (encS s)]).rx = .ok (.fz (.int (lenS s))) := by
  simp [F__step_length, b__step_length, runF_eq, totstep_ok ok h, pairD, sum_pair, lenS]
theorem step_count_ok {p : List Stp} (g : Good p) : (F_step_count [.fz (.tup (encL p))]).rx = .ok (.fz (.int (lenL p))) := by
  simp [F_step_count, b_step_count, runF_eq, check_ok g.ok g.dep, length_ok g]
theorem ins_count_ok {p : List Stp} (g : Good p) : (F_insertion_count [.fz (.tup (encL p))]).rx = .ok (.fz (.int (totL p).1)) := by
  simp [F_insertion_count, b_insertion_count, runF_eq, check_ok g.ok g.dep, totals_ok g, pairD, ix0]
theorem lenL_nil : lenL [] = 0 := by rw [lenL, totL]; rfl
theorem lenL_cons (s : Stp) (p : List Stp) : lenL (s :: p) = lenS s + lenL p := by
  rw [lenL, lenS, totL, lenL]
  dsimp only
  omega
theorem lenS_nn {s : Stp} (h : okS s) : 0 ≤ lenS s := by
  have := tot_nnS h
  rw [lenS]
  omega
theorem lenL_nn {p : List Stp} (h : okL p) : 0 ≤ lenL p := by
  have := tot_nnL h
  rw [lenL]
  omega
def findM : List Stp → Int → Nat × Int
  | [], _ => (0, 0)
  | s :: p, i => if i < lenS s then (0, i) else ((findM p (i - lenS s)).1 + 1, (findM p (i - lenS s)).2)
theorem findM_le : ∀ (p : List Stp) (i : Int), (findM p i).1 ≤ p.length
  | [], i => Nat.le_refl _
  | s :: p, i => by
    rw [findM]
    split
    · exact Nat.zero_le _
    · have := findM_le p (i - lenS s)
      simp only [List.length_cons]
      omega
theorem findM_end : ∀ {p : List Stp} {i : Int}, (findM p i).1 = p.length → (findM p i).2 = 0
  | [], i, _ => rfl
  | s :: p, i, h => by
    rw [findM] at h ⊢
    split at h
    · simp only [List.length_cons] at h
      omega
    · rename_i hc
      rw [if_neg hc]
      simp only [List.length_cons] at h
      exact findM_end (p := p) (by omega)
def enumE (k : Nat) : List D → List D
  | [] => []
  | d :: ds => .tup [.int (k : Nat), d] :: enumE (k + 1) ds
theorem enumE_get : ∀ (ds : List D) (k i : Nat), (enumE k ds)[i]? = (ds[i]?).map fun d => .tup [.int ((k + i : Nat) : Int), d]
  | [], k, i => by simp [enumE]
  | d :: ds, k, 0 => by simp [enumE]
  | d :: ds, k, i + 1 => by
    have e : k + (i + 1) = k + 1 + i := by omega
    rw [enumE, List.getElem?_cons_succ, List.getElem?_cons_succ, enumE_get ds (k + 1) i, e]
theorem enumD_E (ds : List D) : enumD ds = enumE 0 ds := by
  apply List.ext_getElem?
  intro i
  rw [enumE_get, enumD, List.getElem?_map]
  by_cases h : i < ds.length
  · rw [List.getElem?_range h]
    simp only [Option.map_some, List.getElem?_eq_getElem h, Option.getD_some, Nat.zero_add]
  · rw [List.getElem?_eq_none (by simpa using h), List.getElem?_eq_none (by simpa using h)]
    rfl
abbrev findB : SM := (sSeq (sSet 5 (mFnD F__step_length [] (aCons (mVar 4) (aNil)))) (sSeq (sIf (tCmpM ltI (mVar 2) (mVar 5)) (sSeq (sRet (mTup (aCons (mVar 3) (aCons (mVar 2) (aNil))))) (sNil)) (sNil)) (sSeq (sSet 2 (mBin subI (mVar 2) (mVar 5))) (sNil))))
theorem find_loop {P I : D} : ∀ {p : List Stp} {k : Nat} {r : Int} {a b c : M.Slot}, okL p → depL p ≤ 7 → Nb a → Nb b → Nb c →
    ((findM p r).1 < p.length → ∃ E', forLoop (tgTup [tgName 3, tgName 4]) findB (enumE k (encL p)) [.fz P, .fz I, .fz (.int r), a, b, c] = .rt (.fz (.tup [.int ((k + (findM p r).1 : Nat) : Int), .int (findM p r).2])) E') ∧
    ((findM p r).1 = p.length → ∃ x y z w, forLoop (tgTup [tgName 3, tgName 4]) findB (enumE k (encL p)) [.fz P, .fz I, .fz (.int r), a, b, c] = .nx [.fz P, .fz I, x, y, z, w])
  | [], k, r, a, b, c, _, _, _, _, _ => ⟨(fun h => absurd h (Nat.lt_irrefl _)), (fun _ => ⟨_, _, _, _, by rw [encL, enumE, forLoop_nil]⟩)⟩
  | s :: p, k, r, a, b, c, ok, hd, ha, hb, hc => by
    rw [okL] at ok
    rw [depL] at hd
    have r1 := steplen_ok ok.1 (by omega)
    have na : notBo [.fz P, .fz I, .fz (.int r), a, b, c] 3 = true := nbo rfl ha
    have nb : notBo [.fz P, .fz I, .fz (.int r), .fz (.int (k : Nat)), b, c] 4 = true := nbo rfl hb
    have nc : notBo [.fz P, .fz I, .fz (.int r), .fz (.int (k : Nat)), .fz (encS s), c] 5 = true := nbo rfl hc
    have t1 : tgTup [tgName 3, tgName 4] (.tup [.int (k : Nat), encS s]) [.fz P, .fz I, .fz (.int r), a, b, c] = some [.fz P, .fz I, .fz (.int r), .fz (.int (k : Nat)), .fz (encS s), c] := by
      simp only [tgTup_eq, tgs_cons, tgs_nil, tgName_eq, na, if_true, List.set_cons_succ, List.set_cons_zero, nb]
    have b1 : (sSet 5 (mFnD F__step_length [] (aCons (mVar 4) (aNil)))) [.fz P, .fz I, .fz (.int r), .fz (.int (k : Nat)), .fz (encS s), c] = .nx [.fz P, .fz I, .fz (.int r), .fz (.int (k : Nat)), .fz (encS s), .fz (.int (lenS s))] := by
      simp only [sSet_eq, mFnD_eq, aCons_eq, aNil_eq, mVar_eq, List.getElem?_cons_succ, List.getElem?_cons_zero, bind_ok, settle_sl, fzs_cons, fzs_nil, fzn_sl, List.map_cons, List.map_nil, List.append_nil, r1, out_ok, asg_eq, nc, if_true, List.set_cons_succ, List.set_cons_zero]
    rw [encL, enumE]
    by_cases hlt : r < lenS s
    · have e : findM (s :: p) r = (0, r) := by rw [findM, if_pos hlt]
      rw [e]
      refine ⟨fun _ => ⟨[.fz P, .fz I, .fz (.int r), .fz (.int (k : Nat)), .fz (encS s), .fz (.int (lenS s))], ?_⟩, fun h => by simp at h⟩
      rw [forLoop_cons, t1]
      simp only [sSeq_eq, b1, seq_nx]
      simp [ltI, oI, hlt, maxLen2]
    · have e : findM (s :: p) r = ((findM p (r - lenS s)).1 + 1, (findM p (r - lenS s)).2) := by rw [findM, if_neg hlt]
      have b2 : findB [.fz P, .fz I, .fz (.int r), .fz (.int (k : Nat)), .fz (encS s), c] = .nx [.fz P, .fz I, .fz (.int (r - lenS s)), .fz (.int (k : Nat)), .fz (encS s), .fz (.int (lenS s))] := by
        simp only [findB, sSeq_eq, b1, seq_nx]
        simp [ltI, oI, hlt, subI]
      obtain ⟨h1, h2⟩ := find_loop (P := P) (I := I) (p := p) (k := k + 1) (r := r - lenS s) (a := .fz (.int (k : Nat))) (b := .fz (encS s)) (c := .fz (.int (lenS s))) ok.2 (by omega) (.fz _) (.fz _) (.fz _)
      rw [e]
      refine ⟨fun h => ?_, fun h => ?_⟩
      · obtain ⟨E', h3⟩ := h1 (by simp only [List.length_cons] at h; omega)
        refine ⟨E', ?_⟩
        rw [forLoop_cons, t1]
        simp only [b2]
        rw [h3]
        have : k + 1 + (findM p (r - lenS s)).1 = k + ((findM p (r - lenS s)).1 + 1) := by omega
        rw [this]
      · obtain ⟨x, y, z, w, h3⟩ := h2 (by simp only [List.length_cons] at h; omega)
        refine ⟨x, y, z, w, ?_⟩
        rw [forLoop_cons, t1]
        simp only [b2]
        rw [h3]
theorem find_ok {p : List Stp} {i : Int} (ok : okL p) (hd : depL p ≤ 7) : (F__find [.fz (.tup (encL p)), .fz (.int i)]).rx = .ok (.fz (.tup [.int ((findM p i).1 : Nat), .int (findM p i).2])) := by
  obtain ⟨h1, h2⟩ := find_loop (P := .tup (encL p)) (I := .int i) (p := p) (k := 0) (r := i) (a := .un) (b := .un) (c := .un) ok hd .un .un .un
  have hl : (encL p).length = p.length := by rw [encL_map, List.length_map]
  by_cases hlt : (findM p i).1 < p.length
  · obtain ⟨E', h3⟩ := h1 hlt
    rw [← enumD_E] at h3
    have h4 := h3
    simp [F__find, b__find, runF_eq, h4]
  · have he : (findM p i).1 = p.length := by have := findM_le p i; omega
    obtain ⟨x, y, z, w, h3⟩ := h2 he
    rw [← enumD_E] at h3
    have h4 := h3
    simp [F__find, b__find, runF_eq, h4, lenD, maxLen2, he, findM_end he, hl]
/-! ### the step at an index, the parts at a cut -/
mutual
/-- every turn's length is small enough for a division -/
def smS : Stp → Prop
  | .ins _ _ => True
  | .rem _ => True
  | .rep _ q => (lenL q).natAbs < 2 ^ 8000 ∧ smL q
def smL : List Stp → Prop
  | [] => True
  | s :: p => smS s ∧ smL p
end
mutual
def szS : Stp → Nat
  | .ins _ _ => 1
  | .rem _ => 1
  | .rep _ q => szL q + 1
def szL : List Stp → Nat
  | [] => 0
  | s :: p => szS s + szL p
end
theorem szS_pos (s : Stp) : 1 ≤ szS s := by
  cases s <;> rw [szS] <;> omega
theorem szL_len : ∀ p : List Stp, p.length ≤ szL p
  | [] => Nat.zero_le _
  | s :: p => by
    have := szS_pos s
    have := szL_len p
    rw [szL, List.length_cons]
    omega
mutual
def elemS : Stp → Int → D
  | .ins n _, _ => .tup [.str "insert", .int n, .int 1]
  | .rem _, _ => .tup [.str "remove", .int 1]
  | .rep _ q, i => elemL q (i % lenL q)
def elemL : List Stp → Int → D
  | [], _ => .non
  | s :: p, i => if i < lenS s then elemS s i else elemL p (i - lenS s)
end
/-- some turns of a program -/
def tnM (t : Int) (q : List Stp) : List Stp := if t = 0 then [] else [.rep t q]
mutual
def splS : Stp → Int → List Stp × List Stp
  | .ins n k, i => ([.ins n i], [.ins n (k - i)])
  | .rem k, i => ([.rem i], [.rem (k - i)])
  | .rep k q, i => if i % lenL q = 0 then (tnM (i / lenL q) q, tnM (k - i / lenL q) q) else
      (tnM (i / lenL q) q ++ (splL q (i % lenL q)).1, (splL q (i % lenL q)).2 ++ tnM (k - i / lenL q - 1) q)
def splL : List Stp → Int → List Stp × List Stp
  | [], _ => ([], [])
  | s :: p, i => if i < lenS s then (if i = 0 then ([], s :: p) else ((splS s i).1, (splS s i).2 ++ p)) else (s :: (splL p (i - lenS s)).1, (splL p (i - lenS s)).2)
end
theorem lenS_rep (k : Int) (q : List Stp) : lenS (.rep k q) = k * lenL q := by
  rw [lenS, lenL, totS]
  grind
theorem lenS_ins (n k : Int) : lenS (.ins n k) = k := by
  rw [lenS, totS]
  simp
theorem lenS_rem (k : Int) : lenS (.rem k) = k := by
  rw [lenS, totS]
  simp
theorem totL_app : ∀ a b : List Stp, totL (a ++ b) = ((totL a).1 + (totL b).1, (totL a).2 + (totL b).2)
  | [], b => by simp [totL]
  | s :: a, b => by
    rw [List.cons_append, totL, totL_app a b, totL]
    grind
theorem lenL_app (a b : List Stp) : lenL (a ++ b) = lenL a + lenL b := by
  rw [lenL, totL_app, lenL, lenL]
  grind
theorem okL_app : ∀ {a b : List Stp}, okL a → okL b → okL (a ++ b)
  | [], b, _, h => h
  | s :: a, b, h, g => by
    rw [okL] at h
    rw [List.cons_append, okL]
    exact ⟨h.1, okL_app h.2 g⟩
theorem depL_app : ∀ {a b : List Stp} {d : Nat}, depL a ≤ d → depL b ≤ d → depL (a ++ b) ≤ d
  | [], b, d, _, h => h
  | s :: a, b, d, h, g => by
    rw [depL] at h
    rw [List.cons_append, depL]
    have := depL_app (a := a) (b := b) (d := d) (by omega) g
    omega
theorem log2_mono {a b : Nat} (h : a ≤ b) : a.log2 ≤ b.log2 := by
  rcases Nat.eq_zero_or_pos a with rfl | ha
  · simp
  · have hb : b ≠ 0 := by omega
    have h1 : b.log2 < b.log2 + 1 := Nat.lt_succ_self _
    have h2 := (Nat.log2_lt hb).mp h1
    have h3 := (Nat.log2_lt (show a ≠ 0 by omega)).mpr (Nat.lt_of_le_of_lt h h2)
    omega
theorem mulOk_mono {k t x : Int} (h : mulOk k x = true) (h0 : 0 ≤ t) (ht : t ≤ k) : mulOk t x = true := by
  unfold mulOk at h ⊢
  simp only [Bool.or_eq_true, decide_eq_true_eq] at h ⊢
  have e : t.natAbs ≤ k.natAbs := by omega
  have e2 := log2_mono e
  rcases h with (h | h) | h
  · exact .inl (.inl (Nat.lt_of_le_of_lt e h))
  · exact .inl (.inr h)
  · exact .inr (by omega)
theorem tnM_ok {k t : Int} {q : List Stp} (h : okS (.rep k q)) (h0 : 0 ≤ t) (ht : t ≤ k) : okL (tnM t q) := by
  unfold tnM
  split
  · trivial
  · rw [okS] at h
    rw [okL, okS]
    exact ⟨⟨h0, mulOk_mono h.2.1 h0 ht, mulOk_mono h.2.2.1 h0 ht, h.2.2.2⟩, trivial⟩
theorem tnM_dep {t : Int} {q : List Stp} : depL (tnM t q) ≤ depL q + 1 := by
  unfold tnM
  split
  · exact Nat.zero_le _
  · simp [depL, depS]
theorem tnM_tot (t : Int) (q : List Stp) : totL (tnM t q) = (t * (totL q).1, t * (totL q).2) := by
  unfold tnM
  split
  · rename_i h
    subst h
    simp [totL]
  · simp [totL, totS]
theorem tnM_len (t : Int) (q : List Stp) : lenL (tnM t q) = t * lenL q := by
  rw [lenL, tnM_tot, lenL]
  grind
theorem tnM_length (t : Int) (q : List Stp) : (tnM t q).length ≤ 1 := by
  unfold tnM
  split <;> simp
/-- what two parts keep -/
structure Sp (d z : Nat) (t : Int × Int) (i : Int) (x : List Stp × List Stp) : Prop where
  ok1 : okL x.1
  ok2 : okL x.2
  d1 : depL x.1 ≤ d
  d2 : depL x.2 ≤ d
  z1 : x.1.length ≤ z
  z2 : x.2.length ≤ z
  t1 : (totL x.1).1 + (totL x.2).1 = t.1
  t2 : (totL x.1).2 + (totL x.2).2 = t.2
  l1 : lenL x.1 = i
/-- where an index stands among the turns -/
theorem turn_facts {k L i : Int} (h0 : 0 ≤ i) (h : i < k * L) (hL : 0 ≤ L) (hk : 0 ≤ k) : 0 < L ∧ 0 ≤ i / L ∧ i / L < k ∧ 0 ≤ i % L ∧ i % L < L ∧ i / L * L + i % L = i := by
  have hp : 0 < L := by
    rcases Int.lt_or_eq_of_le hL with g | g
    · exact g
    · subst g
      rw [Int.mul_zero] at h
      omega
  exact ⟨hp, Int.ediv_nonneg h0 hL, Int.ediv_lt_of_lt_mul hp h, Int.emod_nonneg _ (by omega), Int.emod_lt_of_pos _ hp, Int.ediv_mul_add_emod i L⟩
mutual
theorem spS_ok : ∀ (s : Stp) (i : Int), okS s → 0 < i → i < lenS s → Sp (depS s) (szS s) (totS s) i (splS s i)
  | .ins n k, i, h, h0, hi => by
    rw [okS] at h
    rw [lenS_ins] at hi
    rw [splS]
    exact ⟨⟨by rw [okS]; omega, trivial⟩, ⟨by rw [okS]; omega, trivial⟩, by simp [depL, depS], by simp [depL, depS], by simp [szS], by simp [szS], by simp [totL, totS]; omega, by simp [totL, totS], by rw [lenL_cons, lenL_nil, lenS_ins]; omega⟩
  | .rem k, i, h, h0, hi => by
    rw [okS] at h
    rw [lenS_rem] at hi
    rw [splS]
    exact ⟨⟨by rw [okS]; omega, trivial⟩, ⟨by rw [okS]; omega, trivial⟩, by simp [depL, depS], by simp [depL, depS], by simp [szS], by simp [szS], by simp [totL, totS], by simp [totL, totS]; omega, by rw [lenL_cons, lenL_nil, lenS_rem]; omega⟩
  | .rep k q, i, h, h0, hi => by
    have h' := h
    rw [okS] at h'
    have okq := h'.2.2.2.2
    rw [lenS_rep] at hi
    obtain ⟨hL, ht0, htk, hr0, hrL, he⟩ := turn_facts (by omega) hi (lenL_nn okq) h'.1
    rw [splS]
    split
    · rename_i hz
      refine ⟨tnM_ok h ht0 (by omega), tnM_ok h (by omega) (by omega), ?_, ?_, ?_, ?_, ?_, ?_, ?_⟩
      · rw [depS]; exact tnM_dep
      · rw [depS]; exact tnM_dep
      · have := tnM_length (i / lenL q) q
        rw [szS]; dsimp only; omega
      · have := tnM_length (k - i / lenL q) q
        rw [szS]; dsimp only; omega
      · dsimp only
        rw [tnM_tot, tnM_tot, totS]
        grind
      · dsimp only
        rw [tnM_tot, tnM_tot, totS]
        grind
      · dsimp only
        rw [tnM_len]
        omega
    · rename_i hz
      have S := spL_ok q (i % lenL q) okq hr0 (by omega)
      refine ⟨okL_app (tnM_ok h ht0 (by omega)) S.ok1, okL_app S.ok2 (tnM_ok h (by omega) (by omega)), ?_, ?_, ?_, ?_, ?_, ?_, ?_⟩
      · rw [depS]; exact depL_app tnM_dep (by have := S.d1; omega)
      · rw [depS]; exact depL_app (by have := S.d2; omega) tnM_dep
      · have := tnM_length (i / lenL q) q
        have := S.z1
        rw [szS]; dsimp only; rw [List.length_append]; omega
      · have := tnM_length (k - i / lenL q - 1) q
        have := S.z2
        rw [szS]; dsimp only; rw [List.length_append]; omega
      · have := S.t1
        dsimp only
        rw [totL_app, totL_app, tnM_tot, tnM_tot, totS]
        grind
      · have := S.t2
        dsimp only
        rw [totL_app, totL_app, tnM_tot, tnM_tot, totS]
        grind
      · have := S.l1
        dsimp only
        rw [lenL_app, tnM_len]
        omega
theorem spL_ok : ∀ (p : List Stp) (i : Int), okL p → 0 ≤ i → i ≤ lenL p → Sp (depL p) (szL p) (totL p) i (splL p i)
  | [], i, h, h0, hi => by
    rw [lenL_nil] at hi
    rw [splL]
    exact ⟨trivial, trivial, Nat.le_refl _, Nat.le_refl _, Nat.zero_le _, Nat.zero_le _, by simp [totL], by simp [totL], by rw [lenL_nil]; omega⟩
  | s :: p, i, h, h0, hi => by
    rw [okL] at h
    rw [lenL_cons] at hi
    rw [splL]
    split
    · rename_i hl
      split
      · rename_i hz
        refine ⟨trivial, ⟨h.1, h.2⟩, Nat.zero_le _, Nat.le_refl _, Nat.zero_le _, szL_len _, by simp [totL], by simp [totL], by rw [lenL_nil]; omega⟩
      · have S := spS_ok s i h.1 (by omega) hl
        have d1 := S.d1
        have d2 := S.d2
        have z1 := S.z1
        have z2 := S.z2
        have t1 := S.t1
        have t2 := S.t2
        have := szL_len p
        rw [depL, szL, totL]
        refine ⟨S.ok1, okL_app S.ok2 h.2, by dsimp only; omega, depL_app (by omega) (by omega), by dsimp only; omega, by dsimp only; rw [List.length_append]; omega, ?_, ?_, S.l1⟩
        · dsimp only
          rw [totL_app]
          dsimp only
          omega
        · dsimp only
          rw [totL_app]
          dsimp only
          omega
    · have S := spL_ok p (i - lenS s) h.2 (by omega) (by omega)
      have d1 := S.d1
      have d2 := S.d2
      have z1 := S.z1
      have z2 := S.z2
      have t1 := S.t1
      have t2 := S.t2
      have l1 := S.l1
      have := szS_pos s
      rw [depL, szL, totL]
      refine ⟨⟨h.1, S.ok1⟩, S.ok2, by rw [depL]; omega, by dsimp only; omega, by dsimp only; rw [List.length_cons]; omega, by dsimp only; omega, ?_, ?_, ?_⟩
      · dsimp only
        rw [totL]
        dsimp only
        omega
      · dsimp only
        rw [totL]
        dsimp only
        omega
      · dsimp only
        rw [lenL_cons]
        omega
end
/-! ### the step that the second part begins with -/
theorem elemL_app : ∀ (a b : List Stp) (i : Int), okL a → 0 ≤ i → i < lenL a → elemL (a ++ b) i = elemL a i
  | [], b, i, h, h0, hi => by
    rw [lenL_nil] at hi
    omega
  | s :: a, b, i, h, h0, hi => by
    rw [okL] at h
    rw [lenL_cons] at hi
    rw [List.cons_append, elemL, elemL]
    split
    · rfl
    · exact elemL_app a b _ h.2 (by omega) (by omega)
theorem elem_one {s : Stp} (h : 0 < lenS s) : elemL [s] 0 = elemS s 0 := by
  rw [elemL, if_pos h]
theorem spL_len {p : List Stp} {i : Int} (h : okL p) (h0 : 0 ≤ i) (hi : i ≤ lenL p) : lenL (splL p i).2 = lenL p - i := by
  have S := spL_ok p i h h0 hi
  have := S.t1
  have := S.t2
  have := S.l1
  unfold lenL at *
  omega
theorem spS_len {s : Stp} {i : Int} (h : okS s) (h0 : 0 < i) (hi : i < lenS s) : lenL (splS s i).2 = lenS s - i := by
  have S := spS_ok s i h h0 hi
  have := S.t1
  have := S.t2
  have := S.l1
  unfold lenL lenS at *
  omega
mutual
theorem spS_el : ∀ (s : Stp) (i : Int), okS s → 0 < i → i < lenS s → elemL (splS s i).2 0 = elemS s i
  | .ins n k, i, h, h0, hi => by
    rw [lenS_ins] at hi
    rw [splS]
    dsimp only
    rw [elem_one (by rw [lenS_ins]; omega), elemS, elemS]
  | .rem k, i, h, h0, hi => by
    rw [lenS_rem] at hi
    rw [splS]
    dsimp only
    rw [elem_one (by rw [lenS_rem]; omega), elemS, elemS]
  | .rep k q, i, h, h0, hi => by
    have h' := h
    rw [okS] at h'
    have okq := h'.2.2.2.2
    rw [lenS_rep] at hi
    obtain ⟨hL, ht0, htk, hr0, hrL, he⟩ := turn_facts (by omega) hi (lenL_nn okq) h'.1
    rw [splS, elemS]
    split
    · rename_i hz
      dsimp only
      rw [hz]
      have e : tnM (k - i / lenL q) q = [.rep (k - i / lenL q) q] := by rw [tnM, if_neg (by omega)]
      rw [e, elem_one (by rw [lenS_rep]; exact Int.mul_pos (by omega) hL), elemS]
      simp
    · dsimp only
      have l := spL_len okq hr0 (Int.le_of_lt hrL)
      rw [elemL_app _ _ _ (spL_ok q _ okq hr0 (by omega)).ok2 (Int.le_refl _) (by omega)]
      exact spL_el q _ okq hr0 hrL
theorem spL_el : ∀ (p : List Stp) (i : Int), okL p → 0 ≤ i → i < lenL p → elemL (splL p i).2 0 = elemL p i
  | [], i, h, h0, hi => by
    rw [lenL_nil] at hi
    omega
  | s :: p, i, h, h0, hi => by
    rw [okL] at h
    rw [lenL_cons] at hi
    rw [splL, elemL]
    split
    · rename_i hl
      split
      · rename_i hz
        dsimp only
        rw [elemL, if_pos (by omega), hz]
      · dsimp only
        have l := spS_len h.1 (i := i) (by omega) hl
        rw [elemL_app _ _ _ (spS_ok s _ h.1 (by omega) hl).ok2 (Int.le_refl _) (by omega)]
        exact spS_el s i h.1 (by omega) hl
    · exact spL_el p _ h.2 (by omega) (by omega)
end
/-! ### where a step is found -/
theorem find_el : ∀ (p : List Stp) (i : Int), okL p → 0 ≤ i → i < lenL p → ∃ s, p[(findM p i).1]? = some s ∧ 0 ≤ (findM p i).2 ∧ (findM p i).2 < lenS s ∧ elemL p i = elemS s (findM p i).2
  | [], i, h, h0, hi => by
    rw [lenL_nil] at hi
    omega
  | s :: p, i, h, h0, hi => by
    rw [okL] at h
    rw [lenL_cons] at hi
    rw [findM, elemL]
    split
    · rename_i hl
      exact ⟨s, rfl, h0, hl, rfl⟩
    · obtain ⟨t, h1, h2, h3, h4⟩ := find_el p (i - lenS s) h.2 (by omega) (by omega)
      exact ⟨t, h1, h2, h3, h4⟩
theorem find_sp0 : ∀ (p : List Stp) (i : Int), okL p → 0 ≤ i → i ≤ lenL p → (findM p i).2 = 0 → splL p i = (p.take (findM p i).1, p.drop (findM p i).1)
  | [], i, h, h0, hi, hz => by simp [splL]
  | s :: p, i, h, h0, hi, hz => by
    rw [okL] at h
    rw [lenL_cons] at hi
    rw [findM] at hz ⊢
    rw [splL]
    split
    · rename_i hl
      rw [if_pos hl] at hz
      dsimp only at hz
      rw [if_pos hz]
      rfl
    · rename_i hl
      rw [if_neg hl] at hz
      rw [find_sp0 p (i - lenS s) h.2 (by omega) (by omega) hz]
      rfl
theorem find_sp1 : ∀ (p : List Stp) (i : Int), okL p → 0 ≤ i → i ≤ lenL p → (findM p i).2 ≠ 0 → ∃ s, p[(findM p i).1]? = some s ∧ 0 < (findM p i).2 ∧ (findM p i).2 < lenS s ∧ splL p i = (p.take (findM p i).1 ++ (splS s (findM p i).2).1, (splS s (findM p i).2).2 ++ p.drop ((findM p i).1 + 1))
  | [], i, h, h0, hi, hz => absurd rfl hz
  | s :: p, i, h, h0, hi, hz => by
    rw [okL] at h
    rw [lenL_cons] at hi
    rw [findM] at hz ⊢
    rw [splL]
    split
    · rename_i hl
      rw [if_pos hl] at hz
      dsimp only at hz
      rw [if_neg hz]
      exact ⟨s, rfl, by dsimp only; omega, hl, rfl⟩
    · rename_i hl
      rw [if_neg hl] at hz
      obtain ⟨t, h1, h2, h3, h4⟩ := find_sp1 p (i - lenS s) h.2 (by omega) (by omega) hz
      refine ⟨t, h1, h2, h3, ?_⟩
      rw [h4]
      rfl
theorem ix_step {p : List Stp} {a : Nat} {s : Stp} (h : p[a]? = some s) : ixD (.tup (encL p)) (.int (a : Nat)) = some (.fz (encS s)) := by
  apply ixN_of
  rw [encL_map, List.getElem?_map, h]
  rfl
theorem mem_of {p : List Stp} {a : Nat} {s : Stp} (h : p[a]? = some s) : s ∈ p := List.mem_of_getElem? h
theorem Good.sub {k : Int} {q p : List Stp} (g : Good p) (h : Stp.rep k q ∈ p) : Good q ∧ depL q + 1 ≤ depL p := by
  have o := okL_mem g.ok h
  have d := depL_mem h
  rw [okS] at o
  rw [depS] at d
  have := g.dep
  exact ⟨⟨o.2.2.2.2, by omega, o.2.2.2.1⟩, d⟩
theorem elem_ok : ∀ (n : Nat) (p : List Stp) (i : Int), Good p → 0 ≤ i → i < lenL p → depL p + 1 ≤ n → (G__elementary n 0 [.fz (.tup (encL p)), .fz (.int i)]).rx = .ok (.fz (elemL p i)) := by
  intro n
  induction n with
  | zero => intro p i _ _ _ h; omega
  | succ n ih =>
    intro p i g h0 hi hn
    show (runF 5 (b__elementary (G__elementary n 0)) [.fz (.tup (encL p)), .fz (.int i)]).rx = _
    have f := find_ok (p := p) (i := i) g.ok g.dep
    obtain ⟨s, h1, h2, h3, h4⟩ := find_el p i g.ok h0 hi
    have x := ix_step h1
    rw [h4]
    cases s with
    | ins m k => simp [runF_eq, b__elementary, f, x, encS, ix0, ix1, ix2, eq_ii, maxLen3, elemS]
    | rem k => simp [runF_eq, b__elementary, f, x, encS, ix0, ix1, ix2, eq_ri, eq_rr, maxLen2, elemS]
    | rep k q =>
      obtain ⟨gq, dq⟩ := g.sub (mem_of h1)
      have okr := okL_mem g.ok (mem_of h1)
      rw [okS] at okr
      rw [lenS_rep] at h3
      obtain ⟨hL, ht0, htk, hr0, hrL, he⟩ := turn_facts h2 h3 (lenL_nn gq.ok) okr.1
      have r := ih q ((findM p i).2 % lenL q) gq hr0 hrL (by omega)
      simp [runF_eq, b__elementary, f, x, encS, ix0, ix1, ix2, eq_pi, eq_pr, length_ok gq, modI, oI, hL, r, elemS]
theorem step_at_ok {p : List Stp} {i : Int} (g : Good p) (h0 : 0 ≤ i) (hi : i < lenL p) : (F_step_at [.fz (.tup (encL p)), .fz (.int i)]).rx = .ok (.fz (elemL p i)) := by
  have r := elem_ok 24 p i g h0 hi (by have := g.dep; omega)
  have hi' : ¬ (lenL p ≤ i) := by omega
  simp [F_step_at, b_step_at, runF_eq, check_ok g.ok g.dep, int_iscount, h0, truD, length_ok g, geI, oI, hi', F__elementary, r]
end Law

namespace Law
open PySem PySem.Spec PyProof.Rows L2 M
theorem turns_ok (t : Int) (q : List Stp) : (F__turns [.fz (.int t), .fz (.tup (encL q))]).rx = .ok (.fz (.tup (encL (tnM t q)))) := by
  by_cases h : t = 0
  · subst h
    simp [F__turns, b__turns, runF_eq, eqD, plainD, SeqAt.shaped, py, PyData.canLay0, PyData.depth, PyData.eqv, tnM, encL]
  · simp [F__turns, b__turns, runF_eq, eqD, plainD, SeqAt.shaped, py, PyData.canLay0, PyData.depth, PyData.eqv, tnM, encL, encS, h, maxLen3, maxLen1]
theorem eq_int (a b : Int) : eqD (.int a) (.int b) = some (.fz (.bl (decide (a = b)))) := by
  simp [eqD, plainD, SeqAt.shaped, py, PyData.canLay0, PyData.depth, PyData.eqv]
  rfl
theorem cut_hi (l : List D) (a : Nat) : M.cutD l none (some (a : Nat)) = l.take a := by
  unfold M.cutD
  rw [HT.sIx_none, HT.sIx_nat, List.drop_zero, Nat.sub_zero]
  rcases Nat.le_total a l.length with h | h
  · rw [Nat.min_eq_left h]
  · rw [Nat.min_eq_right h, List.take_of_length_le (Nat.le_refl _), List.take_of_length_le h]
theorem cut_lo (l : List D) (a : Nat) : M.cutD l (some (a : Nat)) none = l.drop a := by
  unfold M.cutD
  rw [HT.sIx_none, HT.sIx_nat]
  rcases Nat.le_total a l.length with h | h
  · rw [Nat.min_eq_left h, List.take_of_length_le (by rw [List.length_drop]; omega)]
  · rw [Nat.min_eq_right h, List.drop_of_length_le (Nat.le_refl _), List.drop_of_length_le h, List.take_nil]
theorem cut_lo' (l : List D) (a : Nat) : M.cutD l (some ((a : Int) + 1)) none = l.drop (a + 1) := by
  have := cut_lo l (a + 1)
  rwa [Int.natCast_add] at this
theorem encL_take (p : List Stp) (a : Nat) : (encL p).take a = encL (p.take a) := by rw [encL_map, encL_map, List.map_take]
theorem encL_drop (p : List Stp) (a : Nat) : (encL p).drop a = encL (p.drop a) := by rw [encL_map, encL_map, List.map_drop]
theorem encL_app (p q : List Stp) : encL p ++ encL q = encL (p ++ q) := by rw [encL_map, encL_map, encL_map, List.map_append]
theorem encL_len (p : List Stp) : (encL p).length = p.length := by rw [encL_map, List.length_map]
theorem add_tup {a b : List Stp} (h : (a ++ b).length ≤ maxLen) : addD (.tup (encL a)) (.tup (encL b)) = some (.fz (.tup (encL (a ++ b)))) := by
  rw [List.length_append] at h
  simp [addD, orO2, addI, oI, addL, addT, encL_len, h, encL_app]
theorem smL_mem : ∀ {p : List Stp} {s : Stp}, smL p → s ∈ p → smS s
  | t :: p, s, o, h => by
    rw [smL] at o
    rcases List.mem_cons.mp h with rfl | h
    · exact o.1
    · exact smL_mem o.2 h
theorem szL_mem : ∀ {p : List Stp} {s : Stp}, s ∈ p → szS s ≤ szL p
  | t :: p, s, h => by
    rw [szL]
    rcases List.mem_cons.mp h with rfl | h
    · exact Nat.le_add_right _ _
    · have := szL_mem h
      omega
theorem div_small {i L : Int} (hL : 0 < L) (h : L.natAbs < 2 ^ 8000) : divmodD [.int i, .int L] = some (.fz (.tup [.int (i / L), .int (i % L)])) := by
  have hb : L.natAbs.log2 < 9000 := by
    have := (Nat.log2_lt (show L.natAbs ≠ 0 by omega)).mpr h
    omega
  have := PyProof.noPylong_of_log2 (x := i) hb
  simp [divmodD, hL, this]
theorem addI_nat (a : Nat) : addD (.int (a : Nat)) (.int 1) = some (.fz (.int ((a : Int) + 1))) := rfl
theorem split_ok : ∀ n : Nat, (∀ (p : List Stp) (i : Int), Good p → smL p → szL p ≤ maxLen → 0 ≤ i → i ≤ lenL p → 2 * depL p + 2 ≤ n →
      (G__split n 0 [.fz (.tup (encL p)), .fz (.int i)]).rx = .ok (.fz (.tup [.tup (encL (splL p i).1), .tup (encL (splL p i).2)]))) ∧
    (∀ (s : Stp) (i : Int), okS s → depS s ≤ 7 → smS s → szS s ≤ maxLen → 0 < i → i < lenS s → 2 * depS s + 1 ≤ n →
      (G__split n 1 [.fz (encS s), .fz (.int i)]).rx = .ok (.fz (.tup [.tup (encL (splS s i).1), .tup (encL (splS s i).2)]))) := by
  intro n
  induction n with
  | zero => exact ⟨fun p i _ _ _ _ _ h => by omega, fun s i _ _ _ _ _ _ h => by omega⟩
  | succ n ih =>
    obtain ⟨ihL, ihS⟩ := ih
    constructor
    · intro p i g sm sz h0 hi hn
      show (runF 6 (b__split (G__split n 0) (G__split n 1)) [.fz (.tup (encL p)), .fz (.int i)]).rx = _
      have f := find_ok (p := p) (i := i) g.ok g.dep
      have S := spL_ok p i g.ok h0 hi
      by_cases hz : (findM p i).2 = 0
      · rw [find_sp0 p i g.ok h0 hi hz]
        simp [runF_eq, b__split, f, eq_int, hz, slD, cut_hi, cut_lo, encL_take, encL_drop, maxLen2]
      · obtain ⟨s, h1, h2, h3, h4⟩ := find_sp1 p i g.ok h0 hi hz
        have x := ix_step h1
        have ms := mem_of h1
        have dm := depL_mem ms
        have gd := g.dep
        have zm := szL_mem ms
        have r := ihS s _ (okL_mem g.ok ms) (by omega) (smL_mem sm ms) (by omega) h2 h3 (by omega)
        have z1 := S.z1
        have z2 := S.z2
        rw [h4] at z1 z2 ⊢
        have a1 := add_tup (a := p.take (findM p i).1) (b := (splS s (findM p i).2).1) (by dsimp only at z1; omega)
        have a2 := add_tup (a := (splS s (findM p i).2).2) (b := p.drop ((findM p i).1 + 1)) (by dsimp only at z2; omega)
        simp [runF_eq, b__split, f, eq_int, hz, slD, x, r, addI_nat, cut_hi, cut_lo, cut_lo', encL_take, encL_drop, a1, a2, maxLen2]
    · intro s i ok hd sm sz h0 hi hn
      show (runF 6 (b__split_step (G__split n 0) (G__split n 1)) [.fz (encS s), .fz (.int i)]).rx = _
      cases s with
      | ins m k => simp [runF_eq, b__split_step, encS, ix0, ix1, ix2, eq_ii, splS, encL, subI, oI, maxLen3, maxLen2, maxLen1]
      | rem k => simp [runF_eq, b__split_step, encS, ix0, ix1, ix2, eq_ri, eq_rr, splS, encL, subI, oI, maxLen3, maxLen2, maxLen1]
      | rep k q =>
        have ok' := ok
        rw [okS] at ok'
        rw [depS] at hd hn
        rw [smS] at sm
        have S := spS_ok _ i ok h0 hi
        have sz' := sz
        rw [szS] at sz'
        rw [lenS_rep] at hi
        have gq : Good q := ⟨ok'.2.2.2.2, by omega, ok'.2.2.2.1⟩
        obtain ⟨hL, ht0, htk, hr0, hrL, he⟩ := turn_facts (by omega) hi (lenL_nn gq.ok) ok'.1
        have dv := div_small (i := i) hL sm.1
        by_cases hz : i % lenL q = 0
        · rw [splS, if_pos hz]
          simp [runF_eq, b__split_step, encS, ix0, ix1, ix2, eq_pi, eq_pr, length_ok gq, dv, hz, eq_int, turns_ok, subI, oI, maxLen2]
        · have z1 := S.z1
          have z2 := S.z2
          rw [splS, if_neg hz] at z1 z2 ⊢
          have a1 := add_tup (a := tnM (i / lenL q) q) (b := (splL q (i % lenL q)).1) (by dsimp only at z1; omega)
          have a2 := add_tup (a := (splL q (i % lenL q)).2) (b := tnM (k - i / lenL q - 1) q) (by dsimp only at z2; omega)
          have r := ihL q (i % lenL q) gq sm.2 (by omega) hr0 (by omega) (by omega)
          simp [runF_eq, b__split_step, encS, ix0, ix1, ix2, eq_pi, eq_pr, length_ok gq, dv, hz, eq_int, turns_ok, subI, oI, r, a1, a2, maxLen2]
theorem check_cut_ok {p : List Stp} {i : Int} (g : Good p) (h0 : 0 ≤ i) (hi : i ≤ lenL p) : (F__check_cut [.fz (.tup (encL p)), .fz (.int i)]).rx = .ok (.fz .non) := by
  have hi' : ¬ (lenL p < i) := by omega
  simp [F__check_cut, b__check_cut, runF_eq, check_ok g.ok g.dep, int_iscount, h0, truD, length_ok g, gtI, oI, hi']
theorem prefix_ok {p : List Stp} {i : Int} (g : Good p) (sm : smL p) (sz : szL p ≤ maxLen) (h0 : 0 ≤ i) (hi : i ≤ lenL p) : (F_prefix [.fz (.tup (encL p)), .fz (.int i)]).rx = .ok (.fz (.tup (encL (splL p i).1))) := by
  have r := (split_ok 24).1 p i g sm sz h0 hi (by have := g.dep; omega)
  simp [F_prefix, b_prefix, runF_eq, check_cut_ok g h0 hi, F__split, r, ix0]
theorem suffix_ok {p : List Stp} {i : Int} (g : Good p) (sm : smL p) (sz : szL p ≤ maxLen) (h0 : 0 ≤ i) (hi : i ≤ lenL p) : (F_suffix [.fz (.tup (encL p)), .fz (.int i)]).rx = .ok (.fz (.tup (encL (splL p i).2))) := by
  have r := (split_ok 24).1 p i g sm sz h0 hi (by have := g.dep; omega)
  simp [F_suffix, b_suffix, runF_eq, check_cut_ok g h0 hi, F__split, r, ix1]
theorem Good.pre {p : List Stp} {i : Int} (g : Good p) (sz : szL p ≤ maxLen) (h0 : 0 ≤ i) (hi : i ≤ lenL p) : Good (splL p i).1 := by
  have S := spL_ok p i g.ok h0 hi
  exact ⟨S.ok1, Nat.le_trans S.d1 g.dep, Nat.le_trans S.z1 sz⟩
theorem Good.suf {p : List Stp} {i : Int} (g : Good p) (sz : szL p ≤ maxLen) (h0 : 0 ≤ i) (hi : i ≤ lenL p) : Good (splL p i).2 := by
  have S := spL_ok p i g.ok h0 hi
  exact ⟨S.ok2, Nat.le_trans S.d2 g.dep, Nat.le_trans S.z2 sz⟩
end Law

namespace Law
open PySem PySem.Spec PyProof.Rows L2 M
/-! ### the elementary steps, written out -/
def insE (n : Int) : D := .tup [.str "insert", .int n, .int 1]
def remE : D := .tup [.str "remove", .int 1]
mutual
def expS : Stp → List D
  | .ins n k => List.replicate k.toNat (insE n)
  | .rem k => List.replicate k.toNat remE
  | .rep k q => (List.replicate k.toNat (expL q)).flatten
def expL : List Stp → List D
  | [] => []
  | s :: p => expS s ++ expL p
end
theorem rep_len (k : Nat) (l : List D) : (List.replicate k l).flatten.length = k * l.length := by
  induction k with
  | zero => simp
  | succ k ih => rw [List.replicate_succ, List.flatten_cons, List.length_append, ih, Nat.succ_mul]; omega
mutual
theorem expS_len : ∀ {s : Stp}, okS s → ((expS s).length : Int) = lenS s
  | .ins n k, h => by rw [okS] at h; rw [expS, List.length_replicate, lenS_ins]; omega
  | .rem k, h => by rw [okS] at h; rw [expS, List.length_replicate, lenS_rem]; omega
  | .rep k q, h => by
    rw [okS] at h
    rw [expS, rep_len, lenS_rep, Int.natCast_mul, expL_len h.2.2.2.2, Int.toNat_of_nonneg h.1]
theorem expL_len : ∀ {p : List Stp}, okL p → ((expL p).length : Int) = lenL p
  | [], _ => by rw [expL, lenL_nil]; rfl
  | s :: p, h => by
    rw [okL] at h
    rw [expL, List.length_append, lenL_cons, Int.natCast_add, expS_len h.1, expL_len h.2]
end
theorem flat_get {l : List D} {k i : Nat} (hi : i < k * l.length) : (List.replicate k l).flatten[i]? = l[i % l.length]? := by
  induction k generalizing i with
  | zero => omega
  | succ k ih =>
    rw [List.replicate_succ, List.flatten_cons]
    by_cases h : i < l.length
    · rw [List.getElem?_append_left h, Nat.mod_eq_of_lt h]
    · have e : (k + 1) * l.length = k * l.length + l.length := Nat.succ_mul k _
      rw [List.getElem?_append_right (by omega), ih (by omega), ← Nat.mod_eq_sub_mod (by omega)]
mutual
theorem expS_get : ∀ {s : Stp} {i : Nat}, okS s → (i : Int) < lenS s → (expS s)[i]? = some (elemS s i)
  | .ins n k, i, h, hi => by
    rw [okS] at h
    rw [lenS_ins] at hi
    rw [expS, elemS, List.getElem?_replicate, if_pos (by omega)]
    rfl
  | .rem k, i, h, hi => by
    rw [okS] at h
    rw [lenS_rem] at hi
    rw [expS, elemS, List.getElem?_replicate, if_pos (by omega)]
    rfl
  | .rep k q, i, h, hi => by
    rw [okS] at h
    rw [lenS_rep] at hi
    have el := expL_len h.2.2.2.2
    have e2 : i < k.toNat * (expL q).length := by
      have : ((k.toNat * (expL q).length : Nat) : Int) = k * lenL q := by rw [Int.natCast_mul, el, Int.toNat_of_nonneg h.1]
      omega
    have pos : 0 < (expL q).length := by
      rcases Nat.eq_zero_or_pos (expL q).length with z | z
      · rw [z, Nat.mul_zero] at e2; omega
      · exact z
    rw [expS, flat_get e2, elemS, ← el]
    have lt : ((i % (expL q).length : Nat) : Int) < lenL q := by rw [← el]; exact Int.ofNat_lt.mpr (Nat.mod_lt _ pos)
    rw [expL_get h.2.2.2.2 lt, Int.natCast_emod]
theorem expL_get : ∀ {p : List Stp} {i : Nat}, okL p → (i : Int) < lenL p → (expL p)[i]? = some (elemL p i)
  | [], i, _, hi => by rw [lenL_nil] at hi; omega
  | s :: p, i, h, hi => by
    rw [okL] at h
    rw [lenL_cons] at hi
    have el := expS_len h.1
    rw [expL, elemL]
    by_cases z : (i : Int) < lenS s
    · rw [if_pos z, List.getElem?_append_left (by omega)]
      exact expS_get h.1 z
    · rw [if_neg z, List.getElem?_append_right (by omega), expL_get h.2 (by omega)]
      congr 2
      omega
end
/-- how many insertions -/
def isIns (d : D) : Bool := match d with
  | .tup (.str s :: _) => s == "insert"
  | _ => false
theorem isIns_ins (n : Int) : isIns (insE n) = true := by unfold isIns insE; simp
theorem isIns_rem : isIns remE = false := by decide
theorem flat_count (k : Nat) (l : List D) : ((List.replicate k l).flatten.filter isIns).length = k * (l.filter isIns).length := by
  induction k with
  | zero => simp
  | succ k ih => rw [List.replicate_succ, List.flatten_cons, List.filter_append, List.length_append, ih, Nat.succ_mul]; omega
mutual
theorem expS_ins : ∀ {s : Stp}, okS s → (((expS s).filter isIns).length : Int) = (totS s).1
  | .ins n k, h => by
    rw [okS] at h
    rw [expS, List.filter_replicate, if_pos (isIns_ins n), List.length_replicate, totS]
    show ((k.toNat : Nat) : Int) = k
    omega
  | .rem k, h => by
    rw [expS, List.filter_replicate, if_neg (by rw [isIns_rem]; decide), totS]
    rfl
  | .rep k q, h => by
    rw [okS] at h
    rw [expS, flat_count, Int.natCast_mul, expL_ins h.2.2.2.2, Int.toNat_of_nonneg h.1, totS]
theorem expL_ins : ∀ {p : List Stp}, okL p → (((expL p).filter isIns).length : Int) = (totL p).1
  | [], _ => by rw [expL, totL]; rfl
  | s :: p, h => by
    rw [okL] at h
    rw [expL, List.filter_append, List.length_append, Int.natCast_add, expS_ins h.1, expL_ins h.2, totL]
end
def El (d : D) : Prop := d = remE ∨ ∃ n, d = insE n
theorem flat_mem {k : Nat} {l : List D} {d : D} (h : d ∈ (List.replicate k l).flatten) : d ∈ l := by
  obtain ⟨m, hm, hd⟩ := List.mem_flatten.mp h
  rw [List.eq_of_mem_replicate hm] at hd
  exact hd
mutual
theorem expS_el : ∀ {s : Stp} {d : D}, d ∈ expS s → El d
  | .ins n k, d, h => by rw [expS] at h; exact .inr ⟨n, List.eq_of_mem_replicate h⟩
  | .rem k, d, h => by rw [expS] at h; exact .inl (List.eq_of_mem_replicate h)
  | .rep k q, d, h => by rw [expS] at h; exact expL_el (flat_mem h)
theorem expL_el : ∀ {p : List Stp} {d : D}, d ∈ expL p → El d
  | [], d, h => by rw [expL] at h; cases h
  | s :: p, d, h => by
    rw [expL] at h
    rcases List.mem_append.mp h with h | h
    · exact expS_el h
    · exact expL_el h
end
theorem expL_app (a b : List Stp) : expL (a ++ b) = expL a ++ expL b := by
  induction a with
  | nil => rw [List.nil_append, expL, List.nil_append]
  | cons s a ih => rw [List.cons_append, expL, expL, ih, List.append_assoc]
/-! ### .. by the program -/
theorem mul_lst {l : List D} {k : Int} (h0 : 0 ≤ k) (h : k < 2 ^ 63) (hl : l.length * k.toNat ≤ maxLen) : mulD (.lst l) (.int k) = some (.ow (.lst (List.replicate k.toNat l).flatten)) := by
  have e1 : decide (-(2 ^ 63) ≤ k) = true := by rw [decide_eq_true_eq]; omega
  have e2 : decide (k < 2 ^ 63) = true := by rw [decide_eq_true_eq]; exact h
  have e3 : decide (l.length * k.toNat ≤ maxLen) = true := by rw [decide_eq_true_eq]; exact hl
  simp only [mulD, orO2, mulI, oI, mulL, e1, e2, e3, Bool.and_self, if_true]
theorem rep_one (k : Nat) (d : D) : (List.replicate k [d]).flatten = List.replicate k d := by
  induction k with
  | zero => rfl
  | succ k ih => rw [List.replicate_succ, List.flatten_cons, ih, List.replicate_succ]; rfl
theorem max63 {x : Int} (h : x ≤ (maxLen : Int)) : x < 2 ^ 63 := by
  have : (maxLen : Int) = 16777216 := rfl
  omega
theorem exp_ok : ∀ n : Nat, (∀ p : List Stp, Good p → lenL p ≤ (maxLen : Int) → 2 * depL p + 2 ≤ n → (G__expanded n 0 [.fz (.tup (encL p))]).rx = .ok (.ow (.lst (expL p)))) ∧
    (∀ s : Stp, okS s → depS s ≤ 7 → lenS s ≤ (maxLen : Int) → 2 * depS s + 1 ≤ n → (G__expanded n 1 [.fz (encS s)]).rx = .ok (.ow (.lst (expS s)))) := by
  intro n
  induction n with
  | zero => exact ⟨fun p _ _ h => by omega, fun s _ _ _ h => by omega⟩
  | succ n ih =>
    obtain ⟨ihL, ihS⟩ := ih
    constructor
    · intro p g hl hn
      show (runF 3 (b__expanded (G__expanded n 0) (G__expanded n 1)) [.fz (.tup (encL p))]).rx = _
      have loop : ∀ (r : List Stp) (acc : List D) (x : M.Slot), okL r → depL r ≤ depL p → acc.length + lenL r ≤ (maxLen : Int) → Nb x →
          ∃ y, Nb y ∧ forLoop (tgName 2) (sSeq (sDrop (mExtend 1 (mFnD (G__expanded n 1) [] (aCons (mVar 2) aNil)))) sNil) (encL r) [.fz (.tup (encL p)), .ow (.lst acc), x] = .nx [.fz (.tup (encL p)), .ow (.lst (acc ++ expL r)), y] := by
        intro r
        induction r with
        | nil => intro acc x _ _ _ hx; exact ⟨x, hx, by rw [encL, forLoop_nil, expL, List.append_nil]⟩
        | cons s r ihr =>
          intro acc x ok hd hlen hx
          rw [okL] at ok
          rw [depL] at hd
          rw [lenL_cons] at hlen
          have ls := lenS_nn ok.1
          have lr := lenL_nn ok.2
          have e1 := ihS s ok.1 (by have := g.dep; omega) (by omega) (by omega)
          have el := expS_len ok.1
          obtain ⟨y, hy, h2⟩ := ihr (acc ++ expS s) (.fz (encS s)) ok.2 (by omega) (by rw [List.length_append]; omega) (.fz _)
          refine ⟨y, hy, ?_⟩
          rw [encL, forLoop_cons, tgName_eq, if_pos (nbo rfl hx)]
          have small : acc.length + (expS s).length ≤ maxLen := by omega
          simp [e1, small]
          rw [h2, expL, List.append_assoc]
      obtain ⟨y, _, h2⟩ := loop p [] .un g.ok (Nat.le_refl _) (by simpa using hl) .un
      rw [List.nil_append] at h2
      have h3 := h2
      simp [runF_eq, b__expanded, h3]
    · intro s ok hd hl hn
      show (runF 1 (b__expanded_step (G__expanded n 0) (G__expanded n 1)) [.fz (encS s)]).rx = _
      cases s with
      | ins m k =>
        rw [okS] at ok
        rw [lenS_ins] at hl
        have mk : mulD (.lst [.tup [.str "insert", .int m, .int 1]]) (.int k) = some (.ow (.lst (List.replicate k.toNat (insE m)))) := by
          rw [← rep_one]
          exact mul_lst (l := [insE m]) ok (max63 hl) (by simp; omega)
        simp [runF_eq, b__expanded_step, encS, ix0, ix1, ix2, eq_ii, maxLen1, maxLen3, expS, mk]
      | rem k =>
        rw [okS] at ok
        rw [lenS_rem] at hl
        have mk : mulD (.lst [.tup [.str "remove", .int 1]]) (.int k) = some (.ow (.lst (List.replicate k.toNat remE))) := by
          rw [← rep_one]
          exact mul_lst (l := [remE]) ok (max63 hl) (by simp; omega)
        simp [runF_eq, b__expanded_step, encS, ix0, ix1, ix2, eq_ri, eq_rr, maxLen1, maxLen2, expS, mk]
      | rep k q =>
        rw [okS] at ok
        rw [depS] at hd hn
        have sl := steplen_ok (s := .rep k q) (by rw [okS]; exact ok) (by rw [depS]; exact hd)
        rw [encS] at sl
        have el := expS_len (s := .rep k q) (by rw [okS]; exact ok)
        by_cases z : lenS (.rep k q) = 0
        · have e0 : expS (.rep k q) = [] := List.eq_nil_of_length_eq_zero (by omega)
          rw [e0]
          rw [z] at sl
          simp [runF_eq, b__expanded_step, encS, ix0, eq_pi, eq_pr, sl, M.eq_ii, maxLen]
        · have hz := z
          rw [lenS_rep] at z hl
          have lq := lenL_nn ok.2.2.2.2
          have k1 : 1 ≤ k := by
            rcases Int.lt_or_le 0 k with h | h
            · exact h
            · have : k = 0 := by omega
              rw [this, Int.zero_mul] at z
              exact absurd rfl z
          have q1 : lenL q ≤ k * lenL q := by
            have := Int.mul_le_mul_of_nonneg_right k1 lq
            rwa [Int.one_mul] at this
          have kl : k ≤ k * lenL q := by
            have h1 : 1 ≤ lenL q := by
              rcases Int.lt_or_le 0 (lenL q) with h | h
              · exact h
              · have : lenL q = 0 := by omega
                rw [this, Int.mul_zero] at z
                exact absurd rfl z
            have := Int.mul_le_mul_of_nonneg_left h1 ok.1
            rwa [Int.mul_one] at this
          have eq := expL_len ok.2.2.2.2
          have r := ihL q ⟨ok.2.2.2.2, by omega, ok.2.2.2.1⟩ (by omega) (by omega)
          have mk : mulD (.lst (expL q)) (.int k) = some (.ow (.lst (List.replicate k.toNat (expL q)).flatten)) := mul_lst ok.1 (max63 (by omega)) (by
            have e1 : (((expL q).length * k.toNat : Nat) : Int) = k * lenL q := by rw [Int.natCast_mul, eq, Int.toNat_of_nonneg ok.1, Int.mul_comm]
            omega)
          simp [runF_eq, b__expanded_step, encS, ix0, ix1, ix2, eq_pi, eq_pr, sl, M.eq_ii, hz, r, mk, expS]
theorem expanded_ok {p : List Stp} (g : Good p) (hl : lenL p ≤ (maxLen : Int)) : (F__expanded [.fz (.tup (encL p))]).rx = .ok (.ow (.lst (expL p))) := (exp_ok 24).1 p g hl (by have := g.dep; omega)
end Law

namespace Law
open PySem PySem.Spec PyProof.Rows L2 M
/-! ### the law's random programs -/
mutual
/-- counts up to u, turns up to v, at most three steps each -/
def RPS (u v : Int) : Nat → Stp → Prop
  | _, .ins _ k => 0 ≤ k ∧ k ≤ u
  | _, .rem k => 0 ≤ k ∧ k ≤ u
  | d, .rep k q => 0 ≤ k ∧ k ≤ v ∧ ∃ e, d = e + 1 ∧ q.length ≤ 3 ∧ RPL u v e q
def RPL (u v : Int) : Nat → List Stp → Prop
  | _, [] => True
  | d, s :: p => RPS u v d s ∧ RPL u v d p
end
theorem rpl_app {u v : Int} : ∀ {d : Nat} {a b : List Stp}, RPL u v d a → RPL u v d b → RPL u v d (a ++ b)
  | _, [], _, _, h => h
  | d, s :: a, b, h, h2 => by rw [RPL] at h; rw [List.cons_append, RPL]; exact ⟨h.1, rpl_app h.2 h2⟩
structure UV (u v : Int) : Prop where
  u0 : 1 ≤ u
  v0 : 1 ≤ v
  u1 : u ≤ 2 ^ 80
  v1 : v ≤ 2 ^ 80
def B (u v : Int) (d : Nat) : Int := u * (3 * v) ^ d
theorem B_pos {u v : Int} (h : UV u v) (d : Nat) : u ≤ B u v d := by
  unfold B
  have h3 : (1 : Int) ≤ (3 * v) ^ d := Int.pow_pos (by have := h.v0; omega)
  have := Int.mul_le_mul_of_nonneg_left h3 (show 0 ≤ u by have := h.u0; omega)
  rwa [Int.mul_one] at this
theorem B_succ (u v : Int) (d : Nat) : B u v (d + 1) = 3 * v * B u v d := by
  unfold B
  rw [Int.pow_succ]
  grind
section
variable {u v : Int}
mutual
theorem rps_tot (uv : UV u v) : ∀ {d : Nat} {s : Stp}, RPS u v d s → (totS s).1 ≤ B u v d ∧ (totS s).2 ≤ B u v d ∧ 0 ≤ (totS s).1 ∧ 0 ≤ (totS s).2 ∧ lenS s ≤ B u v d
  | d, .ins n k, h => by
    rw [RPS] at h
    have := B_pos uv d
    have := uv.u0
    rw [lenS_ins, totS]
    dsimp only
    omega
  | d, .rem k, h => by
    rw [RPS] at h
    have := B_pos uv d
    have := uv.u0
    rw [lenS_rem, totS]
    dsimp only
    omega
  | d, .rep k q, h => by
    rw [RPS] at h
    obtain ⟨h0, h3, e, rfl, hl, hq⟩ := h
    obtain ⟨a, b, c, f, g⟩ := rpl_tot uv hq
    have hB : B u v (e + 1) = v * (3 * B u v e) := by rw [B_succ]; grind
    have bp := B_pos uv e
    have u0 := uv.u0
    have v0 := uv.v0
    have hlen : (q.length : Int) * B u v e ≤ 3 * B u v e := Int.mul_le_mul_of_nonneg_right (by omega) (by omega)
    have nn : 0 ≤ lenL q := by rw [lenL]; omega
    have go : ∀ x, 0 ≤ x → x ≤ 3 * B u v e → k * x ≤ B u v (e + 1) := fun x x0 x1 => by
      rw [hB]
      exact Int.le_trans (Int.mul_le_mul_of_nonneg_right h3 x0) (Int.mul_le_mul_of_nonneg_left x1 (by omega))
    have n1 := Int.mul_nonneg h0 c
    have n2 := Int.mul_nonneg h0 f
    have k1 := go _ c (by omega)
    have k2 := go _ f (by omega)
    have k3 := go _ nn (by omega)
    rw [lenS_rep, totS]
    dsimp only
    omega
theorem rpl_tot (uv : UV u v) : ∀ {d : Nat} {p : List Stp}, RPL u v d p → (totL p).1 ≤ p.length * B u v d ∧ (totL p).2 ≤ p.length * B u v d ∧ 0 ≤ (totL p).1 ∧ 0 ≤ (totL p).2 ∧ lenL p ≤ p.length * B u v d
  | d, [], _ => by rw [lenL_nil, totL]; simp
  | d, s :: p, h => by
    rw [RPL] at h
    obtain ⟨a, b, c, f, g⟩ := rps_tot uv h.1
    obtain ⟨a2, b2, c2, f2, g2⟩ := rpl_tot uv h.2
    have e : ((s :: p).length : Int) * B u v d = p.length * B u v d + B u v d := by rw [List.length_cons, Int.natCast_add, Int.add_mul, Int.natCast_one, Int.one_mul]
    rw [lenL_cons, totL, e]
    dsimp only
    omega
end
theorem B_big (uv : UV u v) : ∀ d : Nat, d ≤ 7 → B u v d ≤ 2 ^ (80 + 82 * d)
  | 0, _ => by unfold B; rw [Int.pow_zero, Int.mul_one]; exact uv.u1
  | d + 1, h => by
    have ih := B_big uv d (by omega)
    have bp := B_pos uv d
    have u0 := uv.u0
    have v0 := uv.v0
    have v1 := uv.v1
    rw [B_succ]
    have e : (2 : Int) ^ (80 + 82 * (d + 1)) = 2 ^ 82 * 2 ^ (80 + 82 * d) := by rw [← Int.pow_add]; congr 1; omega
    rw [e]
    exact Int.mul_le_mul (by omega) ih (by omega) (by decide)
theorem nat_big {x : Int} {k : Nat} (h0 : 0 ≤ x) (h : x ≤ 2 ^ k) : x.natAbs < 2 ^ (k + 1) := by
  have : ((x.natAbs : Nat) : Int) = x := Int.natAbs_of_nonneg h0
  have e : ((2 ^ k : Nat) : Int) = (2 : Int) ^ k := Int.natCast_pow 2 k
  have : x.natAbs ≤ 2 ^ k := by omega
  exact Nat.lt_of_le_of_lt this (Nat.pow_lt_pow_right (by decide) (by omega))
theorem log_lt {n k : Nat} (h : n < 2 ^ (k + 1)) : n.log2 ≤ k := by
  by_cases z : n = 0
  · rw [z]; simp
  · have := (Nat.log2_lt z).mpr h
    omega
theorem mulOk_pow {x y : Int} {a b : Nat} (hx0 : 0 ≤ x) (hx : x ≤ 2 ^ a) (hy0 : 0 ≤ y) (hy : y ≤ 2 ^ b) (ha : a + b < 1000000) : mulOk x y = true := by
  have h1 := log_lt (nat_big hx0 hx)
  have h2 := log_lt (nat_big hy0 hy)
  unfold mulOk
  rw [Bool.or_eq_true, decide_eq_true_eq]
  right
  omega
theorem three_big (uv : UV u v) {d : Nat} (hd : d ≤ 7) {x : Int} {n : Nat} (hn : n ≤ 3) (h : x ≤ n * B u v d) : x ≤ 2 ^ (82 + 82 * d) := by
  have bb := B_big uv d hd
  have bp := B_pos uv d
  have u0 := uv.u0
  have e : (2 : Int) ^ (82 + 82 * d) = 4 * 2 ^ (80 + 82 * d) := by
    have : 82 + 82 * d = 2 + (80 + 82 * d) := by omega
    rw [this, Int.pow_add]
    rfl
  have : (n : Int) * B u v d ≤ 3 * B u v d := Int.mul_le_mul_of_nonneg_right (by omega) (by omega)
  omega
mutual
theorem rps_ok (uv : UV u v) : ∀ {d : Nat} {s : Stp}, d ≤ 7 → RPS u v d s → okS s ∧ depS s ≤ d
  | d, .ins n k, _, h => by rw [RPS] at h; rw [okS, depS]; exact ⟨h.1, Nat.zero_le _⟩
  | d, .rem k, _, h => by rw [RPS] at h; rw [okS, depS]; exact ⟨h.1, Nat.zero_le _⟩
  | d, .rep k q, hd, h => by
    rw [RPS] at h
    obtain ⟨h0, h3, e, rfl, hl, hq⟩ := h
    obtain ⟨o, dp⟩ := rpl_ok uv (by omega) hq
    obtain ⟨a, b, c, f, g⟩ := rpl_tot uv hq
    have kb : k ≤ 2 ^ 80 := Int.le_trans h3 uv.v1
    rw [okS, depS]
    exact ⟨⟨h0, mulOk_pow h0 kb c (three_big uv (by omega) hl a) (by omega), mulOk_pow h0 kb f (three_big uv (by omega) hl b) (by omega), Nat.le_trans hl maxLen3, o⟩, by omega⟩
theorem rpl_ok (uv : UV u v) : ∀ {d : Nat} {p : List Stp}, d ≤ 7 → RPL u v d p → okL p ∧ depL p ≤ d
  | d, [], _, _ => by rw [okL, depL]; exact ⟨trivial, Nat.zero_le _⟩
  | d, s :: p, hd, h => by
    rw [RPL] at h
    obtain ⟨a, b⟩ := rps_ok uv hd h.1
    obtain ⟨a2, b2⟩ := rpl_ok uv hd h.2
    rw [okL, depL]
    exact ⟨⟨a, a2⟩, Nat.max_le.mpr ⟨b, b2⟩⟩
end
end
structure RP (u v : Int) (d : Nat) (p : List Stp) : Prop where
  r : RPL u v d p
  l : p.length ≤ 3
theorem RP.good {u v : Int} (uv : UV u v) {d : Nat} {p : List Stp} (h : RP u v d p) (hd : d ≤ 7) : Good p := ⟨(rpl_ok uv hd h.r).1, by have := (rpl_ok uv hd h.r).2; omega, Nat.le_trans h.l maxLen3⟩
theorem RP.len {u v : Int} (uv : UV u v) {d : Nat} {p : List Stp} (h : RP u v d p) : lenL p ≤ 3 * B u v d := by
  have := (rpl_tot uv h.r).2.2.2.2
  have bp := B_pos uv d
  have u0 := uv.u0
  have : (p.length : Int) * B u v d ≤ 3 * B u v d := Int.mul_le_mul_of_nonneg_right (by have := h.l; omega) (by omega)
  omega
theorem uv23 : UV 2 3 := ⟨by decide, by decide, by decide, by decide⟩
theorem B_le {d : Nat} (h : d ≤ 4) : B 2 3 d ≤ 13122 := by
  have : d = 0 ∨ d = 1 ∨ d = 2 ∨ d = 3 ∨ d = 4 := by omega
  rcases this with rfl | rfl | rfl | rfl | rfl <;> decide
abbrev rpB (R0 : FM) : SM := (sSeq (sSet 4 (mFnB F__law_draw 0 (aCons (mC (.int 5)) (aNil)))) (sSeq (sIf (tCmpM ltI (mVar 4) (mC (.int 2))) (sSeq (sDrop (mAppend 2 (mTup (aCons (mC (.str "insert")) (aCons (mBin subI (mFnB F__law_draw 0 (aCons (mC (.int 6)) (aNil))) (mC (.int 2))) (aCons (mFnB F__law_draw 0 (aCons (mC (.int 3)) (aNil))) (aNil))))))) (sNil)) (sSeq (sIf (tOrM (tCmpM ltI (mVar 4) (mC (.int 4))) (tCmpM eqD (mVar 1) (mC (.int 0)))) (sSeq (sDrop (mAppend 2 (mTup (aCons (mC (.str "remove")) (aCons (mFnB F__law_draw 0 (aCons (mC (.int 3)) (aNil))) (aNil)))))) (sNil)) (sSeq (sDrop (mAppend 2 (mTup (aCons (mC (.str "repeat")) (aCons (mFnB F__law_draw 0 (aCons (mC (.int 4)) (aNil))) (aCons (mFnB R0 0 (aCons (mBin subI (mVar 1) (mC (.int 1))) (aNil))) (aNil))))))) (sNil))) (sNil))) (sNil)))
theorem rp_ok : ∀ n d : Nat, d + 1 ≤ n → ∀ m : MO, IsPool m → ∃ p m', IsPool m' ∧ RP 2 3 d p ∧ (G__law_random_program n 0 [.bo m, .fz (.int (d : Nat))]).rxb = .ok (.fz (.tup (encL p))) m'
  | 0, d, h, _, _ => by omega
  | n + 1, d, hn, m, hm => by
    show ∃ p m', IsPool m' ∧ RP 2 3 d p ∧ (runF 5 (b__law_random_program (G__law_random_program n 0)) [.bo m, .fz (.int (d : Nat))]).rxb = .ok (.fz (.tup (encL p))) m'
    have body : ∀ (x : D) (m : MO) (acc : List Stp) (z : M.Slot), IsPool m → acc.length + 1 ≤ 3 → Nb z → ∃ m' s z', IsPool m' ∧ RPS 2 3 d s ∧ Nb z' ∧
        rpB (G__law_random_program n 0) [.bo m, .fz (.int (d : Nat)), .ow (.lst (encL acc)), .fz x, z] = .nx [.bo m', .fz (.int (d : Nat)), .ow (.lst (encL (acc ++ [s]))), .fz x, z'] := by
      intro x m acc z hm hl hz
      obtain ⟨c, m1, p1, c0, c5, e1⟩ := drawS hm 5 (by decide) (by decide)
      have el : (encL acc).length < maxLen := by
        rw [encL_map, List.length_map]
        have : maxLen = 16777216 := rfl
        omega
      have snoc : ∀ s, encL (acc ++ [s]) = encL acc ++ [encS s] := fun s => by rw [encL_map, encL_map, List.map_append]; rfl
      have s1 : ∀ b, sSeq (sSet 4 (mFnB F__law_draw 0 (aCons (mC (.int 5)) (aNil)))) b [.bo m, .fz (.int (d : Nat)), .ow (.lst (encL acc)), .fz x, z] = b [.bo m1, .fz (.int (d : Nat)), .ow (.lst (encL acc)), .fz x, .fz (.int c)] := fun b =>
        set_fz (E1 := [.bo m1, .fz (.int (d : Nat)), .ow (.lst (encL acc)), .fz x, z]) (by simp [e1]) rfl hz
      unfold rpB
      rw [s1]
      by_cases c2 : c < 2
      · obtain ⟨v, m2, p2, v0, v6, e2⟩ := drawS p1 6 (by decide) (by decide)
        obtain ⟨w, m3, p3, w0, w3, e3⟩ := drawS p2 3 (by decide) (by decide)
        refine ⟨m3, .ins (v - 2) w, .fz (.int c), p3, by rw [RPS]; omega, .fz _, ?_⟩
        simp [lt_ii, c2, e2, e3, sub_ii, maxLen3, el, snoc, encS]
      · by_cases c4 : c < 4 ∨ d = 0
        · obtain ⟨w, m3, p3, w0, w3, e3⟩ := drawS p1 3 (by decide) (by decide)
          refine ⟨m3, .rem w, .fz (.int c), p3, by rw [RPS]; omega, .fz _, ?_⟩
          rcases c4 with c4 | rfl
          · simp [lt_ii, c2, c4, e3, maxLen2, el, snoc, encS]
          · by_cases c4 : c < 4
            · simp [lt_ii, c2, c4, e3, maxLen2, el, snoc, encS]
            · simp [lt_ii, c2, c4, e3, M.eq_ii, maxLen2, el, snoc, encS]
        · obtain ⟨e, rfl⟩ : ∃ e, d = e + 1 := ⟨d - 1, by omega⟩
          have c4' : ¬ c < 4 := fun h => c4 (.inl h)
          obtain ⟨w, m2, p2, w0, w4, e2⟩ := drawS p1 4 (by decide) (by decide)
          obtain ⟨q, m3, p3, hq, e3⟩ := rp_ok n e (by omega) m2 p2
          refine ⟨m3, .rep w q, .fz (.int c), p3, by rw [RPS]; exact ⟨w0, by omega, e, rfl, hq.l, hq.r⟩, .fz _, ?_⟩
          have z1 : (((e + 1 : Nat) : Int)) ≠ 0 := by omega
          have z2 : ((e : Int) + 1 = 0) = False := by simp; omega
          have z3 : (e : Int) + 1 - 1 = e := by omega
          simp [lt_ii, c2, c4', e2, M.eq_ii, z2, sub_ii, z3, e3, maxLen3, el, snoc, encS]
    have loop : ∀ (xs : List D) (m : MO) (acc : List Stp) (y z : M.Slot), IsPool m → RPL 2 3 d acc → acc.length + xs.length ≤ 3 → Nb y → Nb z → ∃ m' p y' z', IsPool m' ∧ RP 2 3 d p ∧
        forLoop (tgName 3) (rpB (G__law_random_program n 0)) xs [.bo m, .fz (.int (d : Nat)), .ow (.lst (encL acc)), y, z] = .nx [.bo m', .fz (.int (d : Nat)), .ow (.lst (encL p)), y', z'] := by
      intro xs
      induction xs with
      | nil => intro m acc y z hm ha hl _ _; exact ⟨m, acc, y, z, hm, ⟨ha, by simpa using hl⟩, rfl⟩
      | cons x xs ih =>
        intro m acc y z hm ha hl hy hz
        rw [List.length_cons] at hl
        obtain ⟨m1, s, z1, p1, hs, hz1, e1⟩ := body x m acc z hm (by omega) hz
        obtain ⟨m', p, y', z', k1, k2, k3⟩ := ih m1 (acc ++ [s]) (.fz x) z1 p1 (rpl_app ha (by rw [RPL]; exact ⟨hs, by rw [RPL]; trivial⟩)) (by rw [List.length_append, List.length_singleton]; omega) (.fz _) hz1
        refine ⟨m', p, y', z', k1, k2, ?_⟩
        rw [forLoop_cons, tgName_eq, if_pos (nbo rfl hy)]
        simp only [List.set_cons_succ, List.set_cons_zero, e1]
        exact k3
    obtain ⟨c, m1, p1, c0, c4, e1⟩ := drawS hm 4 (by decide) (by decide)
    obtain ⟨m', p, y', z', k1, k2, k3⟩ := loop ((List.range c.toNat).map fun i => .int (i : Nat)) m1 [] .un .un p1 (by rw [RPL]; trivial) (by simp; omega) .un .un
    refine ⟨p, m', k1, k2, ?_⟩
    rw [encL] at k3
    have b1 : (-4611686018427387904 : Int) ≤ c := by omega
    have b2 : c < (4611686018427387904 : Int) := by omega
    have k4 := k3
    have r : b__law_random_program (G__law_random_program n 0) [.bo m, .fz (.int (d : Nat)), .un, .un, .un] = .rt (.fz (.tup (encL p))) [.bo m', .fz (.int (d : Nat)), .ow (.lst (encL p)), y', z'] := by
      simp [b__law_random_program, e1, b1, b2, k4, tupleD]
    exact congrArg Res.rxb (run_rt (n := 5) (as := [.bo m, .fz (.int (d : Nat))]) r)
theorem random_ok {m : MO} (hm : IsPool m) : ∃ p m', IsPool m' ∧ RP 2 3 2 p ∧ (F__law_random_program [.bo m, .fz (.int 2)]).rxb = .ok (.fz (.tup (encL p))) m' := rp_ok 24 2 (by decide) m hm
mutual
theorem rps_sm {u v : Int} (uv : UV u v) : ∀ {d : Nat} {s : Stp}, d ≤ 7 → RPS u v d s → smS s
  | d, .ins n k, _, h => by rw [smS]; trivial
  | d, .rem k, _, h => by rw [smS]; trivial
  | d, .rep k q, hd, h => by
    rw [RPS] at h
    obtain ⟨h0, h3, e, rfl, hl, hq⟩ := h
    obtain ⟨a, b, c, f, g⟩ := rpl_tot uv hq
    rw [smS]
    refine ⟨?_, rpl_sm uv (by omega) hq⟩
    have nn : 0 ≤ lenL q := by rw [lenL]; omega
    exact big_of (nat_big nn (three_big uv (by omega) hl g)) (by omega)
theorem rpl_sm {u v : Int} (uv : UV u v) : ∀ {d : Nat} {p : List Stp}, d ≤ 7 → RPL u v d p → smL p
  | d, [], _, _ => by rw [smL]; trivial
  | d, s :: p, hd, h => by
    rw [RPL] at h
    rw [smL]
    exact ⟨rps_sm uv hd h.1, rpl_sm uv hd h.2⟩
end
def zB : Nat → Nat
  | 0 => 1
  | d + 1 => 3 * zB d + 1
theorem zB_pos : ∀ d, 1 ≤ zB d
  | 0 => Nat.le_refl _
  | d + 1 => by rw [zB]; omega
mutual
theorem rps_sz {u v : Int} : ∀ {d : Nat} {s : Stp}, RPS u v d s → szS s ≤ zB d
  | d, .ins n k, h => by rw [szS]; exact zB_pos d
  | d, .rem k, h => by rw [szS]; exact zB_pos d
  | d, .rep k q, h => by
    rw [RPS] at h
    obtain ⟨h0, h3, e, rfl, hl, hq⟩ := h
    have a := rpl_sz hq
    have b : q.length * zB e ≤ 3 * zB e := Nat.mul_le_mul_right _ hl
    rw [szS, zB]
    omega
theorem rpl_sz {u v : Int} : ∀ {d : Nat} {p : List Stp}, RPL u v d p → szL p ≤ p.length * zB d
  | d, [], _ => by rw [szL]; exact Nat.zero_le _
  | d, s :: p, h => by
    rw [RPL] at h
    have a := rps_sz h.1
    have b := rpl_sz h.2
    rw [szL, List.length_cons, Nat.succ_mul]
    omega
end
theorem RP.sm {u v : Int} (uv : UV u v) {d : Nat} {p : List Stp} (h : RP u v d p) (hd : d ≤ 7) : smL p := rpl_sm uv hd h.r
theorem RP.sz {u v : Int} {d : Nat} {p : List Stp} (h : RP u v d p) (hd : d ≤ 7) : szL p ≤ maxLen := by
  have a := rpl_sz h.r
  have b : p.length * zB d ≤ 3 * zB d := Nat.mul_le_mul_right _ h.l
  have c : zB d ≤ zB 7 := by
    have : d = 0 ∨ d = 1 ∨ d = 2 ∨ d = 3 ∨ d = 4 ∨ d = 5 ∨ d = 6 ∨ d = 7 := by omega
    rcases this with rfl | rfl | rfl | rfl | rfl | rfl | rfl | rfl <;> decide
  have e : zB 7 = 3280 := by decide
  have f : maxLen = 16777216 := rfl
  omega
theorem RP.big {u v : Int} (uv : UV u v) {d : Nat} {p : List Stp} (h : RP u v d p) (hd : d ≤ 7) : lenL p ≤ 2 ^ 700 := by
  have a := three_big uv hd h.l (rpl_tot uv h.r).2.2.2.2
  have b : (2 : Int) ^ (82 + 82 * d) ≤ 2 ^ 700 := by
    have : ((2 ^ (82 + 82 * d) : Nat) : Int) ≤ ((2 ^ 700 : Nat) : Int) := Int.ofNat_le.mpr (Nat.pow_le_pow_right (by decide) (by omega))
    rwa [Int.natCast_pow, Int.natCast_pow] at this
  exact Int.le_trans a b
end Law

namespace Law
open PySem PySem.Spec PyProof.Rows L2 M
theorem eq_ip : eqD (.str "insert") (.str "repeat") = some (.fz (.bl false)) := by kernel_rfl
theorem eq_rp : eqD (.str "remove") (.str "repeat") = some (.fz (.bl false)) := by kernel_rfl
theorem eq_pp : eqD (.str "repeat") (.str "repeat") = some (.fz (.bl true)) := by kernel_rfl
theorem lex_ok : ∀ n d : Nat, d ≤ 4 → d + 1 ≤ n → ∀ p : List Stp, RP 2 3 d p → (G__law_expanded n 0 [.fz (.tup (encL p))]).rx = .ok (.ow (.lst (expL p)))
  | 0, d, _, h, _, _ => by omega
  | n + 1, d, hd, hn, p, hp => by
    show (runF 3 (b__law_expanded (G__law_expanded n 0)) [.fz (.tup (encL p))]).rx = _
    have bd := B_le hd
    have loop : ∀ (r : List Stp) (acc : List D) (x : M.Slot), RPL 2 3 d r → (acc.length : Int) + r.length * B 2 3 d ≤ 100000 → Nb x → ∃ y, Nb y ∧
        forLoop (tgName 2) (sSeq (sIf (tCmpM eqD (mBin ixD (mVar 2) (mC (.int 0))) (mC (.str "repeat"))) (sSeq (sSet 1 (mBin addD (mVar 1) (mBin mulD (mFnD (G__law_expanded n 0) [] (aCons (mBin ixD (mVar 2) (mC (.int 2))) (aNil))) (mBin ixD (mVar 2) (mC (.int 1)))))) (sNil)) (sSeq (sSet 1 (mBin addD (mVar 1) (mBin mulD (mLst (aCons (mBin addD (mSl (mVar 2) (oNone) (oSome (mUn negI (mC (.int 1))))) (mTup (aCons (mC (.int 1)) (aNil)))) (aNil))) (mBin ixD (mVar 2) (mUn negI (mC (.int 1))))))) (sNil))) (sNil))
          (encL r) [.fz (.tup (encL p)), .ow (.lst acc), x] = .nx [.fz (.tup (encL p)), .ow (.lst (acc ++ expL r)), y] := by
      intro r
      induction r with
      | nil => intro acc x _ _ hx; exact ⟨x, hx, by rw [encL, forLoop_nil, expL, List.append_nil]⟩
      | cons s r ih =>
        intro acc x hr hl hx
        rw [RPL] at hr
        have ok := (rps_ok uv23 (by omega) hr.1).1
        have lb := (rps_tot uv23 hr.1).2.2.2.2
        have el := expS_len ok
        have e : ((s :: r).length : Int) * B 2 3 d = r.length * B 2 3 d + B 2 3 d := by rw [List.length_cons, Int.natCast_add, Int.add_mul, Int.natCast_one, Int.one_mul]
        have ml : (maxLen : Int) = 16777216 := rfl
        have nb := B_pos uv23 d
        have nn : 0 ≤ (r.length : Int) * B 2 3 d := Int.mul_nonneg (by omega) (by omega)
        obtain ⟨y, hy, h2⟩ := ih (acc ++ expS s) (.fz (encS s)) hr.2 (by rw [List.length_append]; omega) (.fz _)
        refine ⟨y, hy, ?_⟩
        rw [encL, forLoop_cons, tgName_eq, if_pos (nbo rfl hx)]
        have add : addD (.lst acc) (.lst (expS s)) = some (.ow (.lst (acc ++ expS s))) := by
          have : acc.length + (expS s).length ≤ maxLen := by omega
          simp [addD, orO2, addI, oI, addL, this]
        cases s with
        | ins m k =>
          rw [okS] at ok
          rw [lenS_ins] at lb
          have mk : mulD (.lst [.tup [.str "insert", .int m, .int 1]]) (.int k) = some (.ow (.lst (expS (.ins m k)))) := by
            rw [expS, ← rep_one]
            exact mul_lst (l := [insE m]) ok (by omega) (by simp; omega)
          have sl : slD (.tup [.str "insert", .int m, .int k]) none (some (-1)) = some (.fz (.tup [.str "insert", .int m])) := rfl
          have at1 : addD (.tup [.str "insert", .int m]) (.tup [.int 1]) = some (.fz (.tup [.str "insert", .int m, .int 1])) := rfl
          have ixm : ixD (.tup [.str "insert", .int m, .int k]) (.int (-1)) = some (.fz (.int k)) := rfl
          simp [encS, ix0, eq_ip, negI, sl, at1, ixm, mk, maxLen1, add]
          simp only [encS] at h2
          rw [h2, expL, List.append_assoc]
        | rem k =>
          rw [okS] at ok
          rw [lenS_rem] at lb
          have mk : mulD (.lst [.tup [.str "remove", .int 1]]) (.int k) = some (.ow (.lst (expS (.rem k)))) := by
            rw [expS, ← rep_one]
            exact mul_lst (l := [remE]) ok (by omega) (by simp; omega)
          have sl : slD (.tup [.str "remove", .int k]) none (some (-1)) = some (.fz (.tup [.str "remove"])) := rfl
          have at1 : addD (.tup [.str "remove"]) (.tup [.int 1]) = some (.fz (.tup [.str "remove", .int 1])) := rfl
          have ixm : ixD (.tup [.str "remove", .int k]) (.int (-1)) = some (.fz (.int k)) := rfl
          simp [encS, ix0, eq_rp, negI, sl, at1, ixm, mk, maxLen1, add]
          simp only [encS] at h2
          rw [h2, expL, List.append_assoc]
        | rep k q =>
          rw [RPS] at hr
          obtain ⟨⟨h0, h3, e1, rfl, hlq, hq⟩, _⟩ := hr
          have rq := lex_ok n e1 (by omega) (by omega) q ⟨hq, hlq⟩
          have bq := RP.len uv23 (p := q) ⟨hq, hlq⟩
          have be := B_le (d := e1) (by omega)
          rw [okS] at ok
          have eq := expL_len ok.2.2.2.2
          have mk : mulD (.lst (expL q)) (.int k) = some (.ow (.lst (expS (.rep k q)))) := by
            rw [expS]
            refine mul_lst h0 (by omega) ?_
            have : (expL q).length * k.toNat ≤ (expL q).length * 3 := Nat.mul_le_mul_left _ (by omega)
            have : maxLen = 16777216 := rfl
            omega
          simp [encS, ix0, ix1, ix2, eq_pp, rq, mk, add]
          simp only [encS] at h2
          rw [h2, expL, List.append_assoc]
    obtain ⟨y, _, h⟩ := loop p [] .un hp.r (by
      have : (p.length : Int) * B 2 3 d ≤ 3 * B 2 3 d := Int.mul_le_mul_of_nonneg_right (by have := hp.l; omega) (by have := B_pos uv23 d; omega)
      simp only [List.length_nil]
      omega) .un
    rw [List.nil_append] at h
    have h4 := h
    simp [runF_eq, b__law_expanded, h4]
theorem lexpanded_ok {p : List Stp} (h : RP 2 3 2 p) : (F__law_expanded [.fz (.tup (encL p))]).rx = .ok (.ow (.lst (expL p))) := lex_ok 24 2 (by decide) (by decide) p h
end Law

namespace Law
open PySem PySem.Spec PyProof.Rows L2 M
/-! ### the parts, written out -/
theorem tnM_exp (t : Int) (q : List Stp) : expL (tnM t q) = (List.replicate t.toNat (expL q)).flatten := by
  unfold tnM
  split
  · rename_i h
    rw [h, expL]
    rfl
  · rw [expL, expL, expS, List.append_nil]
theorem rep_add (l : List D) {a b k : Int} (h0 : 0 ≤ a) (h1 : 0 ≤ b) (h : a + b = k) : (List.replicate a.toNat l).flatten ++ (List.replicate b.toNat l).flatten = (List.replicate k.toNat l).flatten := by
  have e : k.toNat = a.toNat + b.toNat := by omega
  rw [e, ← List.replicate_append_replicate, List.flatten_append]
mutual
theorem spS_exp : ∀ (s : Stp) (i : Int), okS s → 0 < i → i < lenS s → expL (splS s i).1 ++ expL (splS s i).2 = expS s
  | .ins n k, i, h, h0, hi => by
    rw [lenS_ins] at hi
    have e : k.toNat = i.toNat + (k - i).toNat := by omega
    rw [splS, expS, e, ← List.replicate_append_replicate]
    simp [expL, expS]
  | .rem k, i, h, h0, hi => by
    rw [lenS_rem] at hi
    have e : k.toNat = i.toNat + (k - i).toNat := by omega
    rw [splS, expS, e, ← List.replicate_append_replicate]
    simp [expL, expS]
  | .rep k q, i, h, h0, hi => by
    have h' := h
    rw [okS] at h'
    have okq := h'.2.2.2.2
    rw [lenS_rep] at hi
    obtain ⟨hL, ht0, htk, hr0, hrL, he⟩ := turn_facts (by omega) hi (lenL_nn okq) h'.1
    rw [splS, expS]
    split
    · dsimp only
      rw [tnM_exp, tnM_exp]
      exact rep_add _ ht0 (by omega) (by omega)
    · dsimp only
      have S := spL_exp q (i % lenL q) okq hr0 (by omega)
      have r1 := rep_add (expL q) (a := 1) (b := k - i / lenL q - 1) (k := k - i / lenL q) (by decide) (by omega) (by omega)
      have r2 := rep_add (expL q) (a := i / lenL q) (b := k - i / lenL q) (k := k) ht0 (by omega) (by omega)
      have one : (List.replicate (1 : Int).toNat (expL q)).flatten = expL q := by simp
      rw [one] at r1
      rw [expL_app, expL_app, tnM_exp, tnM_exp, ← r2, ← r1, ← S]
      simp [List.append_assoc]
theorem spL_exp : ∀ (p : List Stp) (i : Int), okL p → 0 ≤ i → i ≤ lenL p → expL (splL p i).1 ++ expL (splL p i).2 = expL p
  | [], i, h, h0, hi => by rw [splL, expL]; rfl
  | s :: p, i, h, h0, hi => by
    rw [okL] at h
    rw [lenL_cons] at hi
    rw [splL]
    split
    · rename_i hl
      split
      · rw [expL]
        rfl
      · dsimp only
        rw [expL_app, ← List.append_assoc, spS_exp s i h.1 (by omega) hl, expL]
    · dsimp only
      rw [expL, expL, List.append_assoc, spL_exp p (i - lenS s) h.2 (by omega) (by omega)]
end
theorem sp_len1 {p : List Stp} {i : Int} (h : okL p) (h0 : 0 ≤ i) (hi : i ≤ lenL p) : ((expL (splL p i).1).length : Int) = i := by
  have S := spL_ok p i h h0 hi
  rw [expL_len S.ok1, S.l1]
theorem sp_take {p : List Stp} {i : Nat} (h : okL p) (hi : (i : Int) ≤ lenL p) : expL (splL p i).1 = (expL p).take i := by
  have e := spL_exp p i h (by omega) hi
  have l := sp_len1 h (i := i) (by omega) hi
  rw [← e, List.take_left' (by omega)]
theorem sp_drop {p : List Stp} {i : Nat} (h : okL p) (hi : (i : Int) ≤ lenL p) : expL (splL p i).2 = (expL p).drop i := by
  have e := spL_exp p i h (by omega) hi
  have l := sp_len1 h (i := i) (by omega) hi
  rw [← e, List.drop_left' (by omega)]
theorem el_pre {p : List Stp} {i j : Int} (h : okL p) (hi : i ≤ lenL p) (h0 : 0 ≤ j) (hj : j < i) : elemL (splL p i).1 j = elemL p j := by
  obtain ⟨i, rfl⟩ := Int.eq_ofNat_of_zero_le (show 0 ≤ i by omega)
  obtain ⟨j, rfl⟩ := Int.eq_ofNat_of_zero_le h0
  have S := spL_ok p i h (by omega) hi
  have a := expL_get (p := (splL p i).1) (i := j) S.ok1 (by rw [S.l1]; exact hj)
  have b := expL_get (p := p) (i := j) h (by omega)
  rw [sp_take h hi, List.getElem?_take, if_pos (by omega), b] at a
  exact (Option.some.inj a).symm
theorem el_suf {p : List Stp} {i j : Int} (h : okL p) (hi0 : 0 ≤ i) (hi : i ≤ lenL p) (h0 : 0 ≤ j) (hj : i + j < lenL p) : elemL (splL p i).2 j = elemL p (i + j) := by
  obtain ⟨i, rfl⟩ := Int.eq_ofNat_of_zero_le hi0
  obtain ⟨j, rfl⟩ := Int.eq_ofNat_of_zero_le h0
  have S := spL_ok p i h (by omega) hi
  have l := spL_len h (by omega) hi
  have a := expL_get (p := (splL p i).2) (i := j) S.ok2 (by rw [l]; omega)
  have b := expL_get (p := p) (i := i + j) h (by omega)
  rw [sp_drop h hi, List.getElem?_drop, b] at a
  have := (Option.some.inj a).symm
  rwa [Int.natCast_add] at this
end Law

namespace Law
open PySem PySem.Spec PyProof.Rows L2 M
/-! ### the law's great programs -/
abbrev big24 : Int := 1000000000000000000000000
theorem uvG : UV big24 big24 := ⟨by decide, by decide, by decide, by decide⟩
abbrev gpB (R0 : FM) : SM := (sSeq (sSet 4 (mFnB F__law_draw 0 (aCons (mC (.int 5)) (aNil)))) (sSeq (sSet 5 (mBin ixD (mLst (aCons (mFnB F__law_draw 0 (aCons (mC (.int 4)) (aNil))) (aCons (mFnB F__law_draw 0 (aCons (mBin powI (mC (.int 10)) (mC (.int 24))) (aNil))) (aNil)))) (mFnB F__law_draw 0 (aCons (mC (.int 2)) (aNil))))) (sSeq (sIf (tCmpM ltI (mVar 4) (mC (.int 2))) (sSeq (sDrop (mAppend 2 (mTup (aCons (mC (.str "insert")) (aCons (mBin subI (mFnB F__law_draw 0 (aCons (mC (.int 9)) (aNil))) (mC (.int 4))) (aCons (mVar 5) (aNil))))))) (sNil)) (sSeq (sIf (tOrM (tCmpM ltI (mVar 4) (mC (.int 3))) (tCmpM eqD (mVar 1) (mC (.int 0)))) (sSeq (sDrop (mAppend 2 (mTup (aCons (mC (.str "remove")) (aCons (mVar 5) (aNil)))))) (sNil)) (sSeq (sDrop (mAppend 2 (mTup (aCons (mC (.str "repeat")) (aCons (mVar 5) (aCons (mFnB R0 0 (aCons (mBin subI (mVar 1) (mC (.int 1))) (aNil))) (aNil))))))) (sNil))) (sNil))) (sNil))))
theorem p24 : powI (.int 10) (.int 24) = some (.fz (.int big24)) := by kernel_rfl
theorem gp_ok : ∀ n d : Nat, d + 1 ≤ n → ∀ m : MO, IsPool m → ∃ p m', IsPool m' ∧ RP big24 big24 d p ∧ (G__law_great_program n 0 [.bo m, .fz (.int (d : Nat))]).rxb = .ok (.fz (.tup (encL p))) m'
  | 0, d, h, _, _ => by omega
  | n + 1, d, hn, m, hm => by
    show ∃ p m', IsPool m' ∧ RP big24 big24 d p ∧ (runF 6 (b__law_great_program (G__law_great_program n 0)) [.bo m, .fz (.int (d : Nat))]).rxb = .ok (.fz (.tup (encL p))) m'
    have body : ∀ (x : D) (m : MO) (acc : List Stp) (z y : M.Slot), IsPool m → acc.length + 1 ≤ 3 → Nb z → Nb y → ∃ m' s z' y', IsPool m' ∧ RPS big24 big24 d s ∧ Nb z' ∧ Nb y' ∧
        gpB (G__law_great_program n 0) [.bo m, .fz (.int (d : Nat)), .ow (.lst (encL acc)), .fz x, z, y] = .nx [.bo m', .fz (.int (d : Nat)), .ow (.lst (encL (acc ++ [s]))), .fz x, z', y'] := by
      intro x m acc z y hm hl hz hy
      obtain ⟨c, m1, p1, c0, c5, e1⟩ := drawS hm 5 (by decide) (by decide)
      have el : (encL acc).length < maxLen := by
        rw [encL_map, List.length_map]
        have : maxLen = 16777216 := rfl
        omega
      have snoc : ∀ s, encL (acc ++ [s]) = encL acc ++ [encS s] := fun s => by rw [encL_map, encL_map, List.map_append]; rfl
      have s1 : ∀ b, sSeq (sSet 4 (mFnB F__law_draw 0 (aCons (mC (.int 5)) (aNil)))) b [.bo m, .fz (.int (d : Nat)), .ow (.lst (encL acc)), .fz x, z, y] = b [.bo m1, .fz (.int (d : Nat)), .ow (.lst (encL acc)), .fz x, .fz (.int c), y] := fun b =>
        set_fz (E1 := [.bo m1, .fz (.int (d : Nat)), .ow (.lst (encL acc)), .fz x, z, y]) (by simp [e1]) rfl hz
      obtain ⟨k1, m2, p2, k10, k14, e2⟩ := drawS p1 4 (by decide) (by decide)
      obtain ⟨k2, m3, p3, k20, k2b, e3⟩ := drawP p2 big24 (by decide) (big_of (k := 80) (by decide) (by decide))
      obtain ⟨j, m4, p4, j0, j2, e4⟩ := drawS p3 2 (by decide) (by decide)
      obtain ⟨k, hk0, hk, hix⟩ : ∃ k : Int, 0 ≤ k ∧ k ≤ big24 ∧ ixD (.lst [.int k1, .int k2]) (.int j) = some (.fz (.int k)) := by
        have : j = 0 ∨ j = 1 := by omega
        rcases this with rfl | rfl
        · exact ⟨k1, k10, by have hb : big24 = 1000000000000000000000000 := rfl; omega, lx0 _ _⟩
        · exact ⟨k2, k20, by omega, lx1 _ _ _⟩
      have s2 : ∀ b, sSeq (sSet 5 (mBin ixD (mLst (aCons (mFnB F__law_draw 0 (aCons (mC (.int 4)) (aNil))) (aCons (mFnB F__law_draw 0 (aCons (mBin powI (mC (.int 10)) (mC (.int 24))) (aNil))) (aNil)))) (mFnB F__law_draw 0 (aCons (mC (.int 2)) (aNil))))) b [.bo m1, .fz (.int (d : Nat)), .ow (.lst (encL acc)), .fz x, .fz (.int c), y] = b [.bo m4, .fz (.int (d : Nat)), .ow (.lst (encL acc)), .fz x, .fz (.int c), .fz (.int k)] := fun b =>
        set_fz (E1 := [.bo m4, .fz (.int (d : Nat)), .ow (.lst (encL acc)), .fz x, .fz (.int c), y]) (by simp [e2, e3, e4, p24, maxLen2, hix]) rfl hy
      unfold gpB
      rw [s1, s2]
      by_cases c2 : c < 2
      · obtain ⟨v, m5, p5, v0, v9, e5⟩ := drawS p4 9 (by decide) (by decide)
        refine ⟨m5, .ins (v - 4) k, .fz (.int c), .fz (.int k), p5, by rw [RPS]; exact ⟨hk0, hk⟩, .fz _, .fz _, ?_⟩
        simp [lt_ii, c2, e5, sub_ii, maxLen3, el, snoc, encS]
      · by_cases c4 : c < 3 ∨ d = 0
        · refine ⟨m4, .rem k, .fz (.int c), .fz (.int k), p4, by rw [RPS]; exact ⟨hk0, hk⟩, .fz _, .fz _, ?_⟩
          rcases c4 with c4 | rfl
          · simp [lt_ii, c2, c4, maxLen2, el, snoc, encS]
          · by_cases c4 : c < 3
            · simp [lt_ii, c2, c4, maxLen2, el, snoc, encS]
            · simp [lt_ii, c2, c4, M.eq_ii, maxLen2, el, snoc, encS]
        · obtain ⟨e, rfl⟩ : ∃ e, d = e + 1 := ⟨d - 1, by omega⟩
          have c4' : ¬ c < 3 := fun h => c4 (.inl h)
          obtain ⟨q, m5, p5, hq, e5⟩ := gp_ok n e (by omega) m4 p4
          refine ⟨m5, .rep k q, .fz (.int c), .fz (.int k), p5, by rw [RPS]; exact ⟨hk0, hk, e, rfl, hq.l, hq.r⟩, .fz _, .fz _, ?_⟩
          have z2 : ((e : Int) + 1 = 0) = False := by simp; omega
          have z3 : (e : Int) + 1 - 1 = e := by omega
          simp [lt_ii, c2, c4', M.eq_ii, z2, sub_ii, z3, e5, maxLen3, el, snoc, encS]
    have loop : ∀ (xs : List D) (m : MO) (acc : List Stp) (y z w : M.Slot), IsPool m → RPL big24 big24 d acc → acc.length + xs.length ≤ 3 → Nb y → Nb z → Nb w → ∃ m' p y' z' w', IsPool m' ∧ RP big24 big24 d p ∧
        forLoop (tgName 3) (gpB (G__law_great_program n 0)) xs [.bo m, .fz (.int (d : Nat)), .ow (.lst (encL acc)), y, z, w] = .nx [.bo m', .fz (.int (d : Nat)), .ow (.lst (encL p)), y', z', w'] := by
      intro xs
      induction xs with
      | nil => intro m acc y z w hm ha hl _ _ _; exact ⟨m, acc, y, z, w, hm, ⟨ha, by simpa using hl⟩, rfl⟩
      | cons x xs ih =>
        intro m acc y z w hm ha hl hy hz hw
        rw [List.length_cons] at hl
        obtain ⟨m1, s, z1, w1, p1, hs, hz1, hw1, e1⟩ := body x m acc z w hm (by omega) hz hw
        obtain ⟨m', p, y', z', w', k1, k2, k3⟩ := ih m1 (acc ++ [s]) (.fz x) z1 w1 p1 (rpl_app ha (by rw [RPL]; exact ⟨hs, by rw [RPL]; trivial⟩)) (by rw [List.length_append, List.length_singleton]; omega) (.fz _) hz1 hw1
        refine ⟨m', p, y', z', w', k1, k2, ?_⟩
        rw [forLoop_cons, tgName_eq, if_pos (nbo rfl hy)]
        simp only [List.set_cons_succ, List.set_cons_zero, e1]
        exact k3
    obtain ⟨c, m1, p1, c0, c4, e1⟩ := drawS hm 3 (by decide) (by decide)
    obtain ⟨m', p, y', z', w', k1, k2, k3⟩ := loop ((List.range (1 + c).toNat).map fun i => .int (i : Nat)) m1 [] .un .un .un p1 (by rw [RPL]; trivial) (by simp; omega) .un .un .un
    refine ⟨p, m', k1, k2, ?_⟩
    rw [encL] at k3
    have rg := range1_int (m := mBin addD (mC (.int 1)) (mFnB F__law_draw 0 (aCons (mC (.int 3)) (aNil)))) (E := [.bo m, .fz (.int (d : Nat)), .ow (.lst []), .un, .un, .un]) (E1 := [.bo m1, .fz (.int (d : Nat)), .ow (.lst []), .un, .un, .un]) (r := .fz (.int (1 + c))) (j := 1 + c) (by simp [e1, add_ii]) rfl (by omega) (by omega)
    have r : b__law_great_program (G__law_great_program n 0) [.bo m, .fz (.int (d : Nat)), .un, .un, .un, .un] = .rt (.fz (.tup (encL p))) [.bo m', .fz (.int (d : Nat)), .ow (.lst (encL p)), y', z', w'] := by
      unfold b__law_great_program
      unfold gpB at k3
      rw [set_ow (E1 := [.bo m, .fz (.int (d : Nat)), .un, .un, .un, .un]) (mo := .lst []) (by simp [maxLen]) rfl .un]
      simp only [List.set_cons_succ, List.set_cons_zero]
      rw [for_nx rg k3]
      simp [tupleD]
    exact congrArg Res.rxb (run_rt (n := 6) (as := [.bo m, .fz (.int (d : Nat))]) r)
theorem great_ok {m : MO} (hm : IsPool m) : ∃ p m', IsPool m' ∧ RP big24 big24 3 p ∧ (F__law_great_program [.bo m, .fz (.int 3)]).rxb = .ok (.fz (.tup (encL p))) m' := gp_ok 24 3 (by decide) m hm
end Law

namespace Law
open PySem PySem.Spec PyProof.Rows L2 M
theorem len_lst (l : List D) : lenD [.lst l] = some (.fz (.int (l.length : Nat))) := by simp [lenD]
/-- a list of elementary steps is plain -/
theorem el_plain {d : D} (h : El d) : plainD d = true ∧ (py d).canLay0 = true ∧ (py d).depth ≤ 5 := by
  rcases h with rfl | ⟨n, rfl⟩
  · exact ⟨by decide +kernel, by decide +kernel, by decide +kernel⟩
  · refine ⟨?_, ?_, ?_⟩ <;> simp [insE, plainD, SeqAt.shaped, py, pys, PyData.canLay0, PyData.canLayAll0, PyData.depth, PyData.depthAll] <;> decide +kernel
theorem lst_plain {l : List D} (h : ∀ d ∈ l, (py d).canLay0 = true ∧ (py d).depth ≤ 5) : plainD (.lst l) = true := by
  have a : ∀ {l : List D}, (∀ d ∈ l, (py d).canLay0 = true ∧ (py d).depth ≤ 5) → PyData.canLayAll0 (pys l) = true ∧ PyData.depthAll (pys l) ≤ 5 := by
    intro l
    induction l with
    | nil => intro _; exact ⟨by simp [pys, PyData.canLayAll0], by simp [pys, PyData.depthAll]⟩
    | cons d l ih =>
      intro h
      obtain ⟨h1, h2⟩ := h d List.mem_cons_self
      obtain ⟨h3, h4⟩ := ih fun e he => h e (List.mem_cons_of_mem _ he)
      rw [pys]
      exact ⟨by simp [PyData.canLayAll0, h1, h3], by simp only [PyData.depthAll]; omega⟩
  obtain ⟨h1, h2⟩ := a h
  simp [plainD, SeqAt.shaped, py, PyData.canLay0, PyData.depth, h1]
  omega
theorem exp_plain (p : List Stp) : plainD (.lst (expL p)) = true := lst_plain fun d hd => (el_plain (expL_el hd)).2
theorem isIns_eq {d : D} (h : El d) : eqD (match d with | .tup (x :: _) => x | _ => .non) (.str "insert") = some (.fz (.bl (isIns d))) ∧ ixD d (.int 0) = some (.fz (match d with | .tup (x :: _) => x | _ => .non)) := by
  rcases h with rfl | ⟨n, rfl⟩
  · exact ⟨by kernel_rfl, rfl⟩
  · refine ⟨?_, ix0 _ _⟩
    rw [isIns_ins]
    exact eq_ii
theorem range_exp {p : List Stp} (ok : okL p) : (List.range (expL p).length).map (fun i => elemL p (i : Nat)) = expL p := by
  have el := expL_len ok
  apply List.ext_getElem?
  intro i
  by_cases h : i < (expL p).length
  · rw [List.getElem?_map, List.getElem?_range h, expL_get ok (by omega)]
    rfl
  · rw [List.getElem?_eq_none (by simpa using h), List.getElem?_eq_none (by omega)]
theorem two_plain (a b : Int) : plainD (.lst [.int a, .int b]) = true := by
  simp [plainD, SeqAt.shaped, py, pys, PyData.canLay0, PyData.canLayAll0, PyData.depth, PyData.depthAll]
theorem elem_El {p : List Stp} {i : Int} (ok : okL p) (h0 : 0 ≤ i) (hi : i < lenL p) : El (elemL p i) := by
  obtain ⟨i, rfl⟩ := Int.eq_ofNat_of_zero_le h0
  exact expL_el (List.mem_of_getElem? (expL_get ok hi))
theorem elem_plain {p : List Stp} {i : Int} (ok : okL p) (h0 : 0 ≤ i) (hi : i < lenL p) : plainD (elemL p i) = true := (el_plain (elem_El ok h0 hi)).1
end Law

namespace Law
open PySem PySem.Spec PyProof.Rows L2 M
abbrev law_l0  : SM := sSeq (sSet 2 (mFnD F__law_pool [] (aCons (mVar 0) (aCons (mVar 1) (aNil))))) (sSeq (sSet 3 (mFnB F__law_random_program 2 (aCons (mC (.int 2)) (aNil)))) (sSeq (sSet 4 (mFnD F__law_expanded [] (aCons (mVar 3) (aNil)))) (sSeq (sFor (iRange1 (mBin addD (mCall min2D (aCons (mCall lenD (aCons (mVar 4) (aNil))) (aCons (mC (.int 40)) (aNil)))) (mC (.int 1)))) (tgName 5) (sSeq (sIf (tCmpM neD (mFnD F_expand [.int 1000] (aCons (mFnD F_prefix [] (aCons (mVar 3) (aCons (mVar 5) (aNil)))) (aNil))) (mSl (mVar 4) (oNone) (oSome (mVar 5)))) (sSeq (sRet (mC (.bl false))) (sNil)) (sNil)) (sSeq (sIf (tCmpM neD (mFnD F_expand [.int 1000] (aCons (mFnD F_suffix [] (aCons (mVar 3) (aCons (mVar 5) (aNil)))) (aNil))) (mSl (mVar 4) (oSome (mVar 5)) (oNone))) (sSeq (sRet (mC (.bl false))) (sNil)) (sNil)) (sNil)))) (sSeq (sFor (iSeq (mLst (aCons (mUn negI (mC (.int 1))) (aCons (mBin addD (mCall lenD (aCons (mVar 4) (aNil))) (mC (.int 1))) (aCons (mC .non) (aCons (mC (.bl true)) (aCons (mC (.str "1")) (aCons (mLst (aCons (mC (.int 1)) (aNil))) (aNil))))))))) (tgName 6) (sSeq (sIf (tOrM (tNotM (tTru (mFnD F__law_out [] (aCons (mC (.int 0)) (aCons (mVar 3) (aCons (mVar 6) (aNil))))))) (tNotM (tTru (mFnD F__law_out [] (aCons (mC (.int 1)) (aCons (mVar 3) (aCons (mVar 6) (aNil)))))))) (sSeq (sRet (mC (.bl false))) (sNil)) (sNil)) (sNil))) (sSeq (sSet 3 (mFnB F__law_great_program 2 (aCons (mC (.int 3)) (aNil)))) (sSeq (sSet 7 (mFnD F_step_count [] (aCons (mVar 3) (aNil)))) (sSeq (sFor (iSeq (mLst (aCons (mC (.int 0)) (aCons (mVar 7) (aCons (mBin divI (mVar 7) (mC (.int 2))) (aCons (mFnB F__law_draw 2 (aCons (mBin addD (mVar 7) (mC (.int 1))) (aNil))) (aCons (mCall max2D (aCons (mC (.int 0)) (aCons (mBin subI (mVar 7) (mC (.int 1))) (aNil)))) (aCons (mCall min2D (aCons (mVar 7) (aCons (mC (.int 1)) (aNil)))) (aNil))))))))) (tgName 5) (sSeq (sIf (tNotM (tTru (mFnD F__law_cut_holds [] (aCons (mVar 3) (aCons (mVar 5) (aNil)))))) (sSeq (sRet (mC (.bl false))) (sNil)) (sNil)) (sNil))) (sNil))))))))
abbrev law_l1  : SM := sSeq (sIf (tCmpM neD (mFnD F_expand [.int 1000] (aCons (mFnD F_prefix [] (aCons (mVar 3) (aCons (mVar 5) (aNil)))) (aNil))) (mSl (mVar 4) (oNone) (oSome (mVar 5)))) (sSeq (sRet (mC (.bl false))) (sNil)) (sNil)) (sSeq (sIf (tCmpM neD (mFnD F_expand [.int 1000] (aCons (mFnD F_suffix [] (aCons (mVar 3) (aCons (mVar 5) (aNil)))) (aNil))) (mSl (mVar 4) (oSome (mVar 5)) (oNone))) (sSeq (sRet (mC (.bl false))) (sNil)) (sNil)) (sNil))
abbrev law_l2  : SM := sSeq (sIf (tOrM (tNotM (tTru (mFnD F__law_out [] (aCons (mC (.int 0)) (aCons (mVar 3) (aCons (mVar 6) (aNil))))))) (tNotM (tTru (mFnD F__law_out [] (aCons (mC (.int 1)) (aCons (mVar 3) (aCons (mVar 6) (aNil)))))))) (sSeq (sRet (mC (.bl false))) (sNil)) (sNil)) (sNil)
abbrev law_l3  : SM := sSeq (sIf (tNotM (tTru (mFnD F__law_cut_holds [] (aCons (mVar 3) (aCons (mVar 5) (aNil)))))) (sSeq (sRet (mC (.bl false))) (sNil)) (sNil)) (sNil)
theorem check_count_ok {k : Int} (h : 0 ≤ k) : (F_check_count [.fz (.int k)]).rx = .ok (.fz .non) := by
  simp [F_check_count, b_check_count, runF_eq, int_iscount, h, truD]
theorem expand_ok {p : List Stp} {m : Int} (g : Good p) (hl : lenL p ≤ (maxLen : Int)) (h0 : 0 ≤ m) (hm : lenL p ≤ m) : (F_expand [.fz (.tup (encL p)), .fz (.int m)]).rx = .ok (.ow (.lst (expL p))) := by
  have h : ¬ m < lenL p := by omega
  simp [F_expand, b_expand, runF_eq, check_ok g.ok g.dep, check_count_ok h0, length_ok g, gt_ii, h, expanded_ok g hl]
/-- no place for a cut -/
def Wrong (n : Int) (d : D) : Prop := (∃ i, d = .int i ∧ (i < 0 ∨ n < i)) ∨ d = .non ∨ d = .bl true ∨ d = .str "1" ∨ d = .lst [.int 1]
theorem check_cut_ex {p : List Stp} {d : D} (g : Good p) (h : Wrong (lenL p) d) : (F__check_cut [.fz (.tup (encL p)), .fz d]).rx = .ex ⟨2, [("value", d)]⟩ := by
  rcases h with ⟨i, rfl, h⟩ | rfl | rfl | rfl | rfl
  · by_cases h0 : 0 ≤ i
    · have h2 : lenL p < i := by omega
      simp [F__check_cut, b__check_cut, runF_eq, check_ok g.ok g.dep, int_iscount, h0, truD, length_ok g, gt_ii, h2]
    · simp [F__check_cut, b__check_cut, runF_eq, check_ok g.ok g.dep, int_iscount, h0, truD]
  · have e : (F_is_count [.fz .non]).rx = .ok (.fz (.bl false)) := by kernel_rfl
    simp [F__check_cut, b__check_cut, runF_eq, check_ok g.ok g.dep, e, truD]
  · have e : (F_is_count [.fz (.bl true)]).rx = .ok (.fz (.bl false)) := by kernel_rfl
    simp [F__check_cut, b__check_cut, runF_eq, check_ok g.ok g.dep, e, truD]
  · have e : (F_is_count [.fz (.str "1")]).rx = .ok (.fz (.bl false)) := by kernel_rfl
    simp [F__check_cut, b__check_cut, runF_eq, check_ok g.ok g.dep, e, truD]
  · have e : (F_is_count [.fz (.lst [.int 1])]).rx = .ok (.fz (.bl false)) := by kernel_rfl
    simp [F__check_cut, b__check_cut, runF_eq, check_ok g.ok g.dep, e, truD]
theorem out_ok {p : List Stp} {d : D} (j : Int) (hj : j = 0 ∨ j = 1) (g : Good p) (h : Wrong (lenL p) d) (hr : reprOk (py d) = true) (hs : plainD (.str (py d).shown) = true) : (F__law_out [.fz (.int j), .fz (.tup (encL p)), .fz d]).rx = .ok (.fz (.bl true)) := by
  have e : reprD [d] = some (.fz (.str (py d).shown)) := by simp [reprD, hr]
  have e1 : (F_prefix [.fz (.tup (encL p)), .fz d]).rx = .ex ⟨2, [("value", d)]⟩ := by
    simp [F_prefix, b_prefix, runF_eq, check_cut_ex g h]
  have e2 : (F_suffix [.fz (.tup (encL p)), .fz d]).rx = .ex ⟨2, [("value", d)]⟩ := by
    simp [F_suffix, b_suffix, runF_eq, check_cut_ex g h]
  have l1 : ([("prefix", F_prefix), ("suffix", F_suffix)] : List (Str × FM)).lookup ("prefix" : Str) = some F_prefix := rfl
  have l2 : ([("prefix", F_prefix), ("suffix", F_suffix)] : List (Str × FM)).lookup ("suffix" : Str) = some F_suffix := rfl
  rcases hj with rfl | rfl
  · simp [F__law_out, b__law_out, runF_eq, maxLen2, lx0, l1, e1, cat_OutOfRange, e, eq_same hs]
  · simp [F__law_out, b__law_out, runF_eq, maxLen2, lx1, l2, e2, cat_OutOfRange, e, eq_same hs]
end Law

namespace Law
open PySem PySem.Spec PyProof.Rows L2 M
theorem cut_holds {p : List Stp} {a : Int} (g : Good p) (sm : smL p) (sz : szL p ≤ maxLen) (h0 : 0 ≤ a) (hi : a ≤ lenL p) : (F__law_cut_holds [.fz (.tup (encL p)), .fz (.int a)]).rx = .ok (.fz (.bl true)) := by
  have S := spL_ok p a g.ok h0 hi
  have pr := prefix_ok g sm sz h0 hi
  have su := suffix_ok g sm sz h0 hi
  have gl := Good.pre g sz h0 hi
  have gh := Good.suf g sz h0 hi
  have l1 := S.l1
  have l2 := spL_len g.ok h0 hi
  have e1 : ∀ j, 0 ≤ j → j < a → elemL (splL p a).1 j = elemL p j := fun j => el_pre g.ok hi
  have e2 : ∀ j, 0 ≤ j → a + j < lenL p → elemL (splL p a).2 j = elemL p (a + j) := fun j => el_suf g.ok h0 hi
  have t1 := S.t1
  clear S
  generalize (splL p a).1 = lo at *
  generalize (splL p a).2 = up at *
  have ne : ∀ j, 0 ≤ j → j < lenL p → neD (elemL p j) (elemL p j) = some (.fz (.bl false)) := fun j a b => ne_same (elem_plain g.ok a b)
  suffices r : ∃ E, b__law_cut_holds [.fz (.tup (encL p)), .fz (.int a), .un, .un, .un] = .rt (.fz (.bl true)) E from
    let ⟨E, r⟩ := r; congrArg Res.rx (run_rt (n := 5) (as := [.fz (.tup (encL p)), .fz (.int a)]) r)
  unfold b__law_cut_holds
  have s1 : ∀ b, sSeq (sPar 2 3 (mFnD F_prefix [] (aCons (mVar 0) (aCons (mVar 1) (aNil)))) (mFnD F_suffix [] (aCons (mVar 0) (aCons (mVar 1) (aNil))))) b [.fz (.tup (encL p)), .fz (.int a), .un, .un, .un] = b [.fz (.tup (encL p)), .fz (.int a), .fz (.tup (encL lo)), .fz (.tup (encL up)), .un] := fun b => by
    simp [pr, su]
  rw [s1]
  rw [if_no (E1 := [.fz (.tup (encL p)), .fz (.int a), .fz (.tup (encL lo)), .fz (.tup (encL up)), .un]) (by simp [check_ok gl.ok gl.dep, check_ok gh.ok gh.dep, isNotN, M.isNon])]
  rw [set_fz (E1 := [.fz (.tup (encL p)), .fz (.int a), .fz (.tup (encL lo)), .fz (.tup (encL up)), .un]) (d := .int (lenL p)) (by simp [step_count_ok g]) rfl .un]
  simp only [List.set_cons_succ, List.set_cons_zero]
  generalize hE : ([.fz (.tup (encL p)), .fz (.int a), .fz (.tup (encL lo)), .fz (.tup (encL up)), .fz (.int (lenL p))] : Ev) = E
  rw [if_no (E1 := E) (by subst hE; simp [step_count_ok gl, step_count_ok gh, l1, l2, sub_ii, maxLen2, ne_same (two_plain _ _)])]
  rw [if_no (E1 := E) (by subst hE; simp [ins_count_ok gl, ins_count_ok gh, ins_count_ok g, add_ii, M.ne_ii, t1])]
  rw [if_no (E1 := E) (by
    subst hE
    by_cases z : 0 < a
    · simp [gt_ii, z, step_at_ok gl (i := 0) (by decide) (by omega), step_at_ok g (i := 0) (by decide) (by omega), e1 0 (by decide) z, ne 0 (by decide) (by omega)]
    · simp [gt_ii, z])]
  rw [if_no (E1 := E) (by
    subst hE
    by_cases z : 0 < a
    · simp [gt_ii, z, sub_ii, step_at_ok gl (i := a - 1) (by omega) (by omega), step_at_ok g (i := a - 1) (by omega) (by omega), e1 (a - 1) (by omega) (by omega), ne (a - 1) (by omega) (by omega)]
    · simp [gt_ii, z])]
  by_cases w : a = lenL p
  · rw [if_yes (E1 := E) (by subst hE; simp [M.eq_ii, w])]
    exact ⟨E, by rw [ret_fz (E1 := E) (d := .bl true) (by simp)]; rfl⟩
  · rw [if_no (E1 := E) (by subst hE; simp [M.eq_ii, w])]
    have q1 := e2 0 (by decide) (by omega)
    rw [Int.add_zero] at q1
    have q2 := e2 (lenL p - a - 1) (by omega) (by omega)
    rw [show a + (lenL p - a - 1) = lenL p - 1 by omega] at q2
    rw [if_no (E1 := E) (by
      subst hE
      simp [step_at_ok gh (i := 0) (by decide) (by omega), step_at_ok g (i := a) (by omega) (by omega), q1, ne a (by omega) (by omega)])]
    refine ⟨E, ret_fz ?_⟩
    subst hE
    simp [sub_ii, step_at_ok gh (i := lenL p - a - 1) (by omega) (by omega), step_at_ok g (i := lenL p - 1) (by omega) (by omega), q2, eq_same (elem_plain g.ok (i := lenL p - 1) (by omega) (by omega))]
theorem take_plain (p : List Stp) (a : Nat) : plainD (.lst ((expL p).take a)) = true := lst_plain fun d hd => (el_plain (expL_el (List.mem_of_mem_take hd))).2
theorem drop_plain (p : List Stp) (a : Nat) : plainD (.lst ((expL p).drop a)) = true := lst_plain fun d hd => (el_plain (expL_el (List.mem_of_mem_drop hd))).2
abbrev En (S : D) (i : Int) (m : MO) (p : List Stp) (x4 a5 a6 a7 : M.Slot) : Ev := [.fz S, .fz (.int i), .ow m, .fz (.tup (encL p)), x4, a5, a6, a7]
theorem loop1 {S : D} {i : Int} {m : MO} {p : List Stp} {a6 a7 : M.Slot} (g : Good p) (sm : smL p) (sz : szL p ≤ maxLen) (hl : lenL p ≤ 1000) : ∀ (ds : List Nat) (a5 : M.Slot), (∀ d ∈ ds, (d : Int) ≤ lenL p) → Nb a5 → ∃ b5, Nb b5 ∧
    forLoop (tgName 5) law_l1 (ds.map fun i => .int (i : Nat)) (En S i m p (.ow (.lst (expL p))) a5 a6 a7) = .nx (En S i m p (.ow (.lst (expL p))) b5 a6 a7)
  | [], a5, _, h5 => ⟨a5, h5, rfl⟩
  | a :: ds, a5, hd, h5 => by
    have hi := hd a List.mem_cons_self
    obtain ⟨b5, k5, h⟩ := loop1 (a6 := a6) (a7 := a7) (i := i) (S := S) (m := m) g sm sz hl ds (.fz (.int a)) (fun e he => hd e (List.mem_cons_of_mem _ he)) (.fz _)
    refine ⟨b5, k5, ?_⟩
    have S := spL_ok p a g.ok (by omega) hi
    have ln := lenL_nn g.ok
    have ml : (maxLen : Int) = 16777216 := rfl
    have pr := prefix_ok g sm sz (i := (a : Nat)) (by omega) hi
    have su := suffix_ok g sm sz (i := (a : Nat)) (by omega) hi
    have gl := Good.pre g sz (i := (a : Nat)) (by omega) hi
    have gh := Good.suf g sz (i := (a : Nat)) (by omega) hi
    have l1 := S.l1
    have l2 := spL_len g.ok (i := (a : Nat)) (by omega) hi
    have x1 := expand_ok (m := 1000) gl (by omega) (by decide) (by omega)
    have x2 := expand_ok (m := 1000) gh (by omega) (by decide) (by omega)
    rw [sp_take g.ok hi] at x1
    rw [sp_drop g.ok hi] at x2
    have n1 := ne_same (take_plain p a)
    have n2 := ne_same (drop_plain p a)
    rw [List.map_cons, forLoop_cons, tgName_eq, if_pos (nbo rfl h5), ← h]
    simp [law_l1, pr, su, x1, x2, slD, M.cut_hi, M.cut_lo, n1, n2]
theorem loop2 {S : D} {i : Int} {m : MO} {p : List Stp} {x4 a5 a7 : M.Slot} (g : Good p) : ∀ (ds : List D) (a6 : M.Slot), (∀ d ∈ ds, Wrong (lenL p) d ∧ reprOk (py d) = true ∧ plainD (.str (py d).shown) = true) → Nb a6 → ∃ b6, Nb b6 ∧
    forLoop (tgName 6) law_l2 ds (En S i m p x4 a5 a6 a7) = .nx (En S i m p x4 a5 b6 a7)
  | [], a6, _, h6 => ⟨a6, h6, rfl⟩
  | d :: ds, a6, hd, h6 => by
    obtain ⟨w, r, s⟩ := hd d List.mem_cons_self
    obtain ⟨b6, k6, h⟩ := loop2 (x4 := x4) (a5 := a5) (a7 := a7) (i := i) (S := S) (m := m) g ds (.fz d) (fun e he => hd e (List.mem_cons_of_mem _ he)) (.fz _)
    refine ⟨b6, k6, ?_⟩
    rw [← h, forLoop_cons, tgName_eq, if_pos (nbo rfl h6)]
    simp [law_l2, out_ok 0 (.inl rfl) g w r s, out_ok 1 (.inr rfl) g w r s, truD]
theorem loop3 {S : D} {i : Int} {m : MO} {p : List Stp} {x4 a6 a7 : M.Slot} (g : Good p) (sm : smL p) (sz : szL p ≤ maxLen) : ∀ (ds : List D) (a5 : M.Slot), (∀ d ∈ ds, ∃ a : Int, d = .int a ∧ 0 ≤ a ∧ a ≤ lenL p) → Nb a5 → ∃ b5, Nb b5 ∧
    forLoop (tgName 5) law_l3 ds (En S i m p x4 a5 a6 a7) = .nx (En S i m p x4 b5 a6 a7)
  | [], a5, _, h5 => ⟨a5, h5, rfl⟩
  | d :: ds, a5, hd, h5 => by
    obtain ⟨a, rfl, a0, a1⟩ := hd d List.mem_cons_self
    obtain ⟨b5, k5, h⟩ := loop3 (x4 := x4) (a6 := a6) (a7 := a7) (i := i) (S := S) (m := m) g sm sz ds (.fz (.int a)) (fun e he => hd e (List.mem_cons_of_mem _ he)) (.fz _)
    refine ⟨b5, k5, ?_⟩
    rw [← h, forLoop_cons, tgName_eq, if_pos (nbo rfl h5)]
    simp [law_l3, cut_holds g sm sz a0 a1, truD]
end Law

set_option exponentiation.threshold 9000
namespace Law
open PySem PySem.Spec PyProof.Rows L2 M
def J (S : D) (E : Ev) : Prop := ∃ a1 a2 a3 a4 a5 a6 a7, E = [.fz S, a1, a2, a3, a4, a5, a6, a7] ∧ Nb a1 ∧ Nb a2 ∧ Nb a3 ∧ Nb a4 ∧ Nb a5 ∧ Nb a6 ∧ Nb a7
theorem len_nat {x : Int} (h0 : 0 ≤ x) (h : x ≤ 2 ^ 700) : (x + 1).natAbs < 2 ^ 702 := by
  have e : (2 : Int) ^ 700 = ((2 ^ 700 : Nat) : Int) := by rw [Int.natCast_pow]; rfl
  rw [e] at h
  have p : (2 : Nat) ^ 702 = 2 ^ 700 * 4 := Nat.pow_add 2 700 2
  have p1 : (1 : Nat) ≤ 2 ^ 700 := Nat.one_le_two_pow
  rw [p]
  generalize (2 : Nat) ^ 700 = z at *
  omega
theorem turn (ns : List Int) (i : Nat) (hi : i ≤ 63) (E : Ev) (h : J (.frl (ns.map D.int)) E) : ∃ E1 E2, tgName 1 (.int (i : Nat)) E = some E1 ∧ law_l0 E1 = .nx E2 ∧ J (.frl (ns.map D.int)) E2 := by
  obtain ⟨a1, a2, a3, a4, a5, a6, a7, rfl, h1, h2, h3, h4, h5, h6, h7⟩ := h
  obtain ⟨m, hm, e1⟩ := pool_ok ns i (by omega) (by omega)
  generalize D.frl (ns.map D.int) = S at e1 ⊢
  obtain ⟨p, m1, hm1, hp, e2⟩ := random_ok hm
  have g := hp.good uv23 (by decide)
  have sm := hp.sm uv23 (by decide)
  have sz := hp.sz (by decide)
  have e3 := lexpanded_ok hp
  have el := expL_len g.ok
  have b2 : B 2 3 2 = 162 := by decide
  have lb : lenL p ≤ 486 := by
    have := hp.len uv23
    omega
  have ln := lenL_nn g.ok
  have ml : (maxLen : Int) = 16777216 := rfl
  have t1 : tgName 1 (.int (i : Nat)) [.fz S, a1, a2, a3, a4, a5, a6, a7] = some [.fz S, .fz (.int i), a2, a3, a4, a5, a6, a7] := by
    rw [tgName_eq, if_pos (nbo rfl h1)]
    rfl
  refine ⟨[.fz S, .fz (.int i), a2, a3, a4, a5, a6, a7], ?_⟩
  suffices z : ∃ E2, law_l0 [.fz S, .fz (.int i), a2, a3, a4, a5, a6, a7] = .nx E2 ∧ J S E2 from let ⟨E2, z1, z2⟩ := z; ⟨E2, t1, z1, z2⟩
  unfold law_l0
  rw [set_ow (E1 := [.fz S, .fz (.int i), a2, a3, a4, a5, a6, a7]) (mo := m) (by simp [e1]) rfl h2]
  rw [set_fz (E1 := [.fz S, .fz (.int i), .ow m1, a3, a4, a5, a6, a7]) (d := .tup (encL p)) (by simp [e2]) rfl h3]
  rw [set_ow (E1 := [.fz S, .fz (.int i), .ow m1, .fz (.tup (encL p)), a4, a5, a6, a7]) (mo := .lst (expL p)) (by simp [e3]) rfl h4]
  simp only [List.set_cons_succ, List.set_cons_zero]
  obtain ⟨n, hn, n1, n2⟩ : ∃ n : Nat, min2D [.int (expL p).length, .int 40] = some (.fz (.int n)) ∧ n ≤ 40 ∧ (n : Int) ≤ lenL p := by
    refine ⟨min (expL p).length 40, ?_, by omega, by omega⟩
    simp only [min2D]
    congr 3
    split <;> omega
  obtain ⟨b5, k5, L1⟩ := loop1 (S := S) (i := i) (m := m1) (a6 := a6) (a7 := a7) g sm sz (by omega) (List.range (n + 1)) a5 (by
    intro d hd
    have := List.mem_range.mp hd
    omega) h5
  rw [for_nx (ds := (List.range (n + 1)).map fun i => .int (i : Nat)) (E1 := En S i m1 p (.ow (.lst (expL p))) a5 a6 a7) (range1_nat (n := n + 1) (r := .fz (.int ((n + 1 : Nat) : Int))) (by simp [len_lst, hn, add_ii]) rfl (by omega)) L1]
  have w0 : ∀ k : Int, k.natAbs < 2 ^ 20 → (k < 0 ∨ lenL p < k) → Wrong (lenL p) (.int k) ∧ reprOk (py (.int k)) = true ∧ plainD (.str (py (.int k)).shown) = true := fun k a b => ⟨.inl ⟨k, rfl, b⟩, repr_int (Nat.lt_of_lt_of_le a (Nat.pow_le_pow_right (by decide) (by decide))), shown_int_plain k⟩
  obtain ⟨b6, k6, L2⟩ := loop2 (S := S) (i := i) (m := m1) (x4 := .ow (.lst (expL p))) (a5 := b5) (a7 := a7) g [.int (-1), .int (lenL p + 1), .non, .bl true, .str "1", .lst [.int 1]] a6 (by
    intro d hd
    simp only [List.mem_cons, List.not_mem_nil, or_false] at hd
    rcases hd with rfl | rfl | rfl | rfl | rfl | rfl
    · exact w0 _ (by decide) (by omega)
    · exact w0 _ (by omega) (by omega)
    · exact ⟨.inr (.inl rfl), by decide +kernel, by decide +kernel⟩
    · exact ⟨.inr (.inr (.inl rfl)), by decide +kernel, by decide +kernel⟩
    · exact ⟨.inr (.inr (.inr (.inl rfl))), by decide +kernel, by decide +kernel⟩
    · exact ⟨.inr (.inr (.inr (.inr rfl))), by decide +kernel, by decide +kernel⟩) h6
  rw [for_nx (ds := [.int (-1), .int (lenL p + 1), .non, .bl true, .str "1", .lst [.int 1]]) (E1 := En S i m1 p (.ow (.lst (expL p))) b5 a6 a7) (by simp [len_lst, el, negI, add_ii, maxLen1, maxLen6]) L2]
  obtain ⟨q, m2, hm2, hq, e4⟩ := great_ok hm1
  have g := hq.good uvG (by decide)
  have sm := hq.sm uvG (by decide)
  have sz := hq.sz (by decide)
  have ln := lenL_nn g.ok
  have bg := len_nat ln (hq.big uvG (by decide))
  rw [set_fz (E1 := En S i m2 p (.ow (.lst (expL p))) b5 b6 a7) (d := .tup (encL q)) (by simp [e4]) rfl (.fz _)]
  rw [set_fz (E1 := En S i m2 q (.ow (.lst (expL p))) b5 b6 a7) (d := .int (lenL q)) (by simp [step_count_ok g]) rfl h7]
  obtain ⟨r, m3, hm3, r0, r1, e5⟩ := drawP hm2 (lenL q + 1) (by omega) (big_of bg (by decide))
  obtain ⟨b5', k5', L3⟩ := loop3 (S := S) (i := i) (m := m3) (x4 := .ow (.lst (expL p))) (a6 := b6) (a7 := .fz (.int (lenL q))) g sm sz [.int 0, .int (lenL q), .int (lenL q / 2), .int r, .int (if lenL q - 1 > 0 then lenL q - 1 else 0), .int (if 1 < lenL q then 1 else lenL q)] b5 (by
    intro d hd
    simp only [List.mem_cons, List.not_mem_nil, or_false] at hd
    rcases hd with rfl | rfl | rfl | rfl | rfl | rfl <;> refine ⟨_, rfl, ?_, ?_⟩ <;> (try split) <;> omega) k5
  rw [for_nx (ds := [.int 0, .int (lenL q), .int (lenL q / 2), .int r, .int (if lenL q - 1 > 0 then lenL q - 1 else 0), .int (if 1 < lenL q then 1 else lenL q)]) (E1 := En S i m3 q (.ow (.lst (expL p))) b5 b6 (.fz (.int (lenL q)))) (by simp [div_ii, add_ii, sub_ii, e5, max2D, min2D, maxLen6]) L3]
  exact ⟨_, rfl, _, _, _, _, _, _, _, rfl, .fz _, .ow _, .fz _, .ow _, k5', k6, .fz _⟩
theorem law_true (ns : List Int) (hl : ns.length ≤ 63) : ∃ E, F_law [.fz (.frl (ns.map D.int))] = .ok (.fz (.bl true)) E := by
  obtain ⟨E', h1, _⟩ := forLoop_inv (C := J (.frl (ns.map D.int))) (t := tgName 1) (b := law_l0) (ds := (List.range (max 1 (min ns.length 4))).map fun i => .int (i : Nat)) (E := [.fz (.frl (ns.map D.int)), .un, .un, .un, .un, .un, .un, .un]) (by
    intro d hd E hE
    obtain ⟨i, hi, rfl⟩ := List.mem_map.mp hd
    have hi := List.mem_range.mp hi
    obtain ⟨E1, E2, a, b, c⟩ := turn ns i (by omega) E hE
    exact ⟨E1, E2, a, .inl b, c⟩) ⟨.un, .un, .un, .un, .un, .un, .un, rfl, .un, .un, .un, .un, .un, .un, .un⟩
  refine ⟨E', run_rt (n := 8) ?_⟩
  have len : lenD [.frl (ns.map D.int)] = some (.fz (.int (ns.length : Nat))) := by simp [lenD]
  have mx : max2D [.int 1, .int (if 4 < (ns.length : Int) then 4 else ns.length)] = some (.fz (.int ((max 1 (min ns.length 4) : Nat) : Int))) := by
    simp only [max2D]
    congr 3
    split <;> split <;> omega
  unfold b_law
  rw [for_nx (ds := (List.range (max 1 (min ns.length 4))).map fun i => .int (i : Nat)) (E1 := [.fz (.frl (ns.map D.int)), .un, .un, .un, .un, .un, .un, .un]) (range1_nat (n := max 1 (min ns.length 4)) (r := .fz (.int ((max 1 (min ns.length 4) : Nat) : Int))) (by simp [len, min2D, mx]) rfl (by omega)) h1]
  rfl
end Law

namespace Law
open PySem PySem.Spec PyProof.Rows L2 M
theorem run (w : World) : HandSHeadRun.RunEq R (PySem.W.view R.prog [45]) hk ob 4000 loose w := by
  intro os
  kernel_rfl
end Law
open PySem PySem.W PySem.Calls PyProof.Rows
theorem PySem.Challenge.cw_heapeffects_k08_parts_of_programs_holds : PySem.Challenge.rw_heapeffects_k08_parts_of_programs.Holds := by
  w_on; o_law
  refine HandSHeadRun.head_any (r := OpenLaw.row PySem.Challenge.rw_heapeffects_k08_parts_of_programs) (q := view (OpenLaw.row PySem.Challenge.rw_heapeffects_k08_parts_of_programs).prog [45]) (H := Law.hk) (ob := Law.ob) (M := 4000) (loose := Law.loose) (d := HandSHeadRun.topDef (OpenLaw.row PySem.Challenge.rw_heapeffects_k08_parts_of_programs).prog 45) (kwd := []) Law.ob_eq
    (by kernel_rfl) (fun s => by kernel_rfl) Law.run (by kernel_rfl) (by kernel_rfl) (by kernel_rfl) (by rfl) (by first | assumption | decide +kernel) (by decide +kernel) ⟨rfl, rfl, rfl, rfl, rfl, by decide +kernel⟩ ?hw ?hc
  case hw => w_witness2
  case hc =>
    refine M.walkG (l := PySem.Challenge.rw_heapeffects_k08_parts_of_programs) (n := 63) (k := 55) (x := "_law_script") (CX := L2.CX0) rfl (by decide) (by kernel_rfl) ⟨rfl, by decide, by decide⟩ ?F (fun _ _ _ _ z => z)
    intro w mg fa h Y G hmg0
    obtain ⟨K, KX, c, ct⟩ := Y
    have hmg : mg ("law" : PySem.Str) = some (.ref fa) := by
      have e : (HandSHeadRun.topDef (OpenLaw.row PySem.Challenge.rw_heapeffects_k08_parts_of_programs).prog 45).name = ("law" : PySem.Str) := by kernel_rfl
      rw [← e]
      exact hmg0
    have A0 : Law.Facts K mg := ⟨⟨h, KX, G⟩, c, ct⟩
    obtain ⟨fd, F⟩ := A0.c.def_ 35 (d := Law.d_law) rfl
    have e := hmg.symm.trans (A0.glo (A0.c.fact 35 (f := .glo "law") rfl))
    cases e
    have b := L2.FunD.bindsA (ps := ["_law_script"]) F fun _ _ _ _ _ _ us hl => match us, hl with | [_], _ => rfl
    exact ⟨K, fd, (fun vs H Q _ => M.spM (Law.cf K) 1 Law.F_law vs H Q L2.E0), KX, fun s v => b s [v] rfl, fun H a ns hl _ hS => M.law_sp (K := K) (fun _ => trivial) rfl hS (Law.law_true ns hl), fun base _ _ => M.fnG_nox (Law.fn_law A0 F)⟩
