import PyProof.Rows.All
import Wide.All
import OpenK.AllK
import Wide.FinOn
import HandS.ForMost
import HandS.ForExc
import HandS.ExcInit
import HandS.IsInst
import HandS.Wide
import HandS.WideBits
import HandS.TupAny
import HandS.TupMul
import HandS.NoneIn
import HandS.SortInts
import KE.GoesEnum
import HandS.Zip
import HandS.CallSlots
import HandS.Defaults
import KE.KDictPairs
import HandS.More
import HandS.Exc
import HandS.ExcField
import KE.KExcInit
import HandS.TryMany
import PyProof.ReprReads
import PyProof.ReprRoads
import PyProof.ReprBulk
import HandS.Star
import HandS.HeadHook1
import HandS.HeadHook2
import PyProof.ExcBaseAll.IndexError
import PyProof.ExcBaseAll.OverflowError
import PyProof.ExcBaseAll.LookupError
import PyProof.ExcBaseAll.RuntimeError
import PyProof.Rows.ReprOcc
import HandS.SetFor
import HandS.Strs
import KE.KExcIs
import HandS.Style
import HandS.Property
import HandS.ClsMeth
import HandS.HeadNt
import HandS.Iter
import HandS.OwnEq
import KE.KStateDown
import HandS.Head0
import HandS.Head1
import HandS.Head2
import PyProof.InstNe
import HandS.RevRange
import PyProof.Rows.InDataRows
import HandS.HeadEnd
import PySem.Challenge.RW_heapeffects_k59_first_failures
set_option Elab.async false
set_option linter.all false
set_option maxRecDepth 100000
set_option maxHeartbeats 0
/-! A mirror of a def: what its body makes of plain data; lists that a def owns are told apart from those that others may hold. -/
namespace M
open PySem L2

/-- plain data -/
inductive D where
  | non | bl (b : Bool) | int (i : Int) | str (s : Str) | tup (l : List D) | tux (l : List D) | lst (l : List D) | frl (l : List D) | dct (l : List (Key × D)) | obj (c : Nat) (fs : List (Str × D)) | ins (c : Nat) (fs : List (Str × D)) | ty (n : String) | gl (x : Str)

/-- what the written part gives: classes by number -/
structure Cfg where
  K : PySem.W.Frag
  ct : Nat → Addr
  xt : Nat → Value
  ga : Str → Addr
  xa : Option V := none
  P : Hp → Prop := fun _ => True
  mono : ∀ {G G' : Hp}, Same G G' → P G → P G' := by exact fun _ _ => trivial

/-- an exact tuple: frozen, or the module's -/
def XqT (K : PySem.W.Frag) (G : Hp) (a : Addr) (vs : List V) : Prop := (∃ o : Obj, G a = some (.frz o (.tup vs)) ∧ o.dict = none) ∨
  ∃ (o : Obj) (its : Array Value) (n : Nat), K.lookup a = some o ∧ o.cls = .type "tuple" ∧ o.dict = none ∧ o.data = .seq its n ∧ its.size ≤ sizeLine ∧ Vals vs its.toList
theorem XqT.sqt {K : PySem.W.Frag} {G : Hp} {a : Addr} {vs : List V} (h : XqT K G a vs) : SqT K G a vs := by
  rcases h with ⟨o, h, _⟩ | ⟨o, its, n, h1, h2, _, h4, h5, h6⟩
  · exact .inl (.inr ⟨_, h⟩)
  · exact .inr ⟨o, its, n, h1, h2, h4, h5, h6⟩
theorem XqT.mono {K : PySem.W.Frag} {G G' : Hp} {a : Addr} {vs : List V} (e : Same G G') (h : XqT K G a vs) : XqT K G' a vs := by
  rcases h with ⟨o, h, k⟩ | h
  · exact .inl ⟨o, e _ _ h, k⟩
  · exact .inr h
mutual
/-- the value v stands for the data d in the heap G -/
inductive Rep (c : Cfg) (G : Hp) : V → D → Prop
  | non : Rep c G .non .non
  | bl (b : Bool) : Rep c G (.bl b) (.bl b)
  | int (i : Int) : Rep c G (.int i) (.int i)
  | str (s : Str) : Rep c G (.str s) (.str s)
  | ty (n : String) : Rep c G (.ty n) (.ty n)
  | gl (x : Str) : Rep c G (.ref (c.ga x)) (.gl x)
  | tup {a : Addr} {vs : List V} {ds : List D} : SqT c.K G a vs → Reps c G vs ds → Rep c G (.ref a) (.tup ds)
  | tux {a : Addr} {vs : List V} {ds : List D} : XqT c.K G a vs → Reps c G vs ds → Rep c G (.ref a) (.tux ds)
  | lst {a : Addr} {vs : List V} {ds : List D} : G a = some (.lst vs) → Reps c G vs ds → Rep c G (.ref a) (.lst ds)
  | frl {a : Addr} {vs : List V} {ds : List D} : SqL c.K G a vs → Reps c G vs ds → Rep c G (.ref a) (.frl ds)
  | dct {a : Addr} {kvs : List (Key × V)} {ds : List (Key × D)} : Rd G a (.dK kvs) → kvs.map (·.1) = ds.map (·.1) → Reps c G (kvs.map (·.2)) (ds.map (·.2)) → Rep c G (.ref a) (.dct ds)
  | obj {a : Addr} {dx : Option Addr} {n : Nat} {fs : List (Str × V)} {ds : List (Str × D)} : G a = some (exo a (c.ct n) dx) → (∀ d, dx = some d → G d = some (exd d fs)) → (dx = none → fs = []) → fs.map (·.1) = ds.map (·.1) → Reps c G (fs.map (·.2)) (ds.map (·.2)) → Rep c G (.ref a) (.obj n ds)
  | ins {a dx : Addr} {n : Nat} {fs : List (Str × V)} {ds : List (Str × D)} : G a = some (.ins (c.ct n) dx fs) → fs.map (·.1) = ds.map (·.1) → Reps c G (fs.map (·.2)) (ds.map (·.2)) → Rep c G (.ref a) (.ins n ds)
inductive Reps (c : Cfg) (G : Hp) : List V → List D → Prop
  | nil : Reps c G [] []
  | cons {v : V} {d : D} {vs : List V} {ds : List D} : Rep c G v d → Reps c G vs ds → Reps c G (v :: vs) (d :: ds)
end

theorem rd_mono {H H' : Hp} {a : Addr} {u : HO} (e : Same H H') (h : Rd H a u) : Rd H' a u := by
  rcases h with h | ⟨o, h⟩
  · exact Or.inl (e a _ h)
  · exact Or.inr ⟨o, e a _ h⟩
theorem sqt_mono {K : PySem.W.Frag} {H H' : Hp} {a : Addr} {xs : List V} (e : Same H H') (h : SqT K H a xs) : SqT K H' a xs := by
  rcases h with h | h
  · exact Or.inl (rd_mono e h)
  · exact Or.inr h
theorem sql_mono {K : PySem.W.Frag} {H H' : Hp} {a : Addr} {xs : List V} (e : Same H H') (h : SqL K H a xs) : SqL K H' a xs := by
  rcases h with h | h
  · exact Or.inl (rd_mono e h)
  · exact Or.inr h
mutual
theorem Rep.mono {c : Cfg} {G G' : Hp} (e : Same G G') : ∀ {v : V} {d : D}, Rep c G v d → Rep c G' v d
  | _, _, .non => .non
  | _, _, .bl b => .bl b
  | _, _, .int i => .int i
  | _, _, .str s => .str s
  | _, _, .ty s => .ty s
  | _, _, .gl s => .gl s
  | _, _, .tup h r => .tup (sqt_mono e h) (Reps.mono e r)
  | _, _, .tux h r => .tux (h.mono e) (Reps.mono e r)
  | _, _, .lst h r => .lst (e _ _ h) (Reps.mono e r)
  | _, _, .frl h r => .frl (sql_mono e h) (Reps.mono e r)
  | _, _, .dct h k r => .dct (rd_mono e h) k (Reps.mono e r)
  | _, _, .obj h b z k r => .obj (e _ _ h) (fun d q => e _ _ (b d q)) z k (Reps.mono e r)
  | _, _, .ins h k r => .ins (e _ _ h) k (Reps.mono e r)
theorem Reps.mono {c : Cfg} {G G' : Hp} (e : Same G G') : ∀ {vs : List V} {ds : List D}, Reps c G vs ds → Reps c G' vs ds
  | _, _, .nil => .nil
  | _, _, .cons h t => .cons (Rep.mono e h) (Reps.mono e t)
end
section
variable {c : Cfg} {G : Hp}
theorem Reps.length : ∀ {vs : List V} {ds : List D}, Reps c G vs ds → vs.length = ds.length
  | _, _, .nil => rfl
  | _, _, .cons _ t => by simp [Reps.length t]
theorem Reps.get : ∀ {vs : List V} {ds : List D} {i : Nat} {d : D}, Reps c G vs ds → ds[i]? = some d → ∃ v, vs[i]? = some v ∧ Rep c G v d
  | _, _, _, _, .nil, e => by simp at e
  | _, _, 0, _, .cons h _, e => by simp at e; subst e; exact ⟨_, rfl, h⟩
  | _, _, i + 1, d, .cons _ t, e => by
    obtain ⟨v, h1, h2⟩ := Reps.get (i := i) (d := d) t (by simpa using e)
    exact ⟨v, by simpa using h1, h2⟩
theorem Reps.getV : ∀ {vs : List V} {ds : List D} {i : Nat} {v : V}, Reps c G vs ds → vs[i]? = some v → ∃ d, ds[i]? = some d ∧ Rep c G v d
  | _, _, _, _, .nil, e => by simp at e
  | _, _, 0, _, .cons h _, e => by simp at e; subst e; exact ⟨_, rfl, h⟩
  | _, _, i + 1, v, .cons _ t, e => by
    obtain ⟨d, h1, h2⟩ := Reps.getV (i := i) (v := v) t (by simpa using e)
    exact ⟨d, by simpa using h1, h2⟩
theorem Reps.append : ∀ {vs ws : List V} {ds es : List D}, Reps c G vs ds → Reps c G ws es → Reps c G (vs ++ ws) (ds ++ es)
  | _, _, _, _, .nil, s => s
  | _, _, _, _, .cons r t, s => .cons r (Reps.append t s)
theorem Reps.take : ∀ {vs : List V} {ds : List D} (n : Nat), Reps c G vs ds → Reps c G (vs.take n) (ds.take n)
  | _, _, 0, _ => .nil
  | _, _, _ + 1, .nil => .nil
  | _, _, n + 1, .cons r t => .cons r (Reps.take n t)
theorem Reps.drop : ∀ {vs : List V} {ds : List D} (n : Nat), Reps c G vs ds → Reps c G (vs.drop n) (ds.drop n)
  | _, _, 0, r => r
  | _, _, _ + 1, .nil => .nil
  | _, _, n + 1, .cons _ t => Reps.drop n t
theorem Reps.set : ∀ {vs : List V} {ds : List D} {v : V} {d : D} (n : Nat), Rep c G v d → Reps c G vs ds → Reps c G (vs.set n v) (ds.set n d)
  | _, _, _, _, _, _, .nil => .nil
  | _, _, _, _, 0, r, .cons _ t => .cons r t
  | _, _, _, _, n + 1, r, .cons q t => .cons q (Reps.set n r t)
theorem Reps.repl {v : V} {d : D} (r : Rep c G v d) : ∀ n, Reps c G (List.replicate n v) (List.replicate n d)
  | 0 => .nil
  | n + 1 => .cons r (Reps.repl r n)
theorem Reps.rev {vs : List V} {ds : List D} (h : Reps c G vs ds) : Reps c G vs.reverse ds.reverse := by
  have : ∀ {vs : List V} {ds : List D}, Reps c G vs ds → Reps c G vs.reverse ds.reverse := by
    intro vs
    induction vs with
    | nil => intro ds h; cases h; exact .nil
    | cons v vs ih => intro ds h; cases h with | cons r t => simpa using (ih t).append (.cons r .nil)
  exact this h
theorem Reps.ints : ∀ (l : List Int), Reps c G (l.map V.int) (l.map D.int)
  | [] => .nil
  | i :: l => .cons (.int i) (Reps.ints l)
theorem Reps.of_ints : ∀ {vs : List V} {l : List Int}, Reps c G vs (l.map D.int) → vs = l.map V.int
  | [], [], _ => rfl
  | _ :: _, i :: l, .cons r t => by cases r; rw [Reps.of_ints t]; rfl
end

/-- what is owned: a list, a dict -/
inductive MO where
  | lst (l : List D) | dct (l : List (Key × D)) | ins (c : Nat) (fs : List (Str × D))
def MO.d : MO → D
  | .lst l => .lst l
  | .dct l => .dct l
  | .ins n l => .ins n l
/-- a slot of a def: not assigned; data that others may hold; data that this def owns; data that a caller lent -/
inductive Slot where
  | un | fz (d : D) | ow (m : MO) | bo (m : MO) | xv
abbrev Ev := List Slot
/-- what an expression gives: data; a new list; what stands in a slot -/
inductive RV where
  | fz (d : D) | ow (m : MO) | sl (j : Nat)
/-- an exception: its class by number, its fields -/
structure Exn where
  cls : Nat
  fs : List (Str × D)
inductive Res (α : Type) where
  | ok (a : α) (E : Ev) | ex (x : Exn) (E : Ev) | bad
inductive Out where
  | nx (E : Ev) | rt (r : RV) (E : Ev) | bk (E : Ev) | ct (E : Ev) | ex (x : Exn) (E : Ev) | bad

def OwnRel (c : Cfg) (G H : Hp) (p : Addr) : MO → Prop
  | .lst ds => ∃ vs, H p = some (.lst vs) ∧ Reps c G vs ds
  | .dct ds => ∃ kvs, H p = some (.dK kvs) ∧ kvs.map (·.1) = ds.map (·.1) ∧ Reps c G (kvs.map (·.2)) (ds.map (·.2))
  | .ins n ds => ∃ dx fs, H p = some (.ins (c.ct n) dx fs) ∧ fs.map (·.1) = ds.map (·.1) ∧ Reps c G (fs.map (·.2)) (ds.map (·.2))
theorem OwnRel.there {c : Cfg} {G H : Hp} {p : Addr} {m : MO} (h : OwnRel c G H p m) : ∃ o, H p = some o := by
  cases m with
  | lst ds => obtain ⟨_, h, _⟩ := h; exact ⟨_, h⟩
  | dct ds => obtain ⟨_, h, _⟩ := h; exact ⟨_, h⟩
  | ins n ds => obtain ⟨_, _, h, _⟩ := h; exact ⟨_, h⟩
theorem OwnRel.mono {c : Cfg} {G G' H H' : Hp} {p : Addr} {m : MO} (e : Same G G') (k : H' p = H p) (h : OwnRel c G H p m) : OwnRel c G' H' p m := by
  cases m with
  | lst ds => obtain ⟨vs, h, r⟩ := h; exact ⟨vs, by rw [k]; exact h, r.mono e⟩
  | dct ds => obtain ⟨vs, h, q, r⟩ := h; exact ⟨vs, by rw [k]; exact h, q, r.mono e⟩
  | ins n ds => obtain ⟨dx, vs, h, q, r⟩ := h; exact ⟨dx, vs, by rw [k]; exact h, q, r.mono e⟩
theorem OwnRel.same {c : Cfg} {G G' H H' : Hp} {p : Addr} {m : MO} (e : Same G G') (k : Same H H') (h : OwnRel c G H p m) : OwnRel c G' H' p m := by
  obtain ⟨o, ho⟩ := h.there
  exact h.mono e (by rw [ho, k _ _ ho])
/-- it is given up: from now on it is data -/
theorem OwnRel.froze {c : Cfg} {G H : Hp} {p : Addr} {m : MO} {o : HO} (h : OwnRel c G H p m) (hp : H p = some o) (e : Same G (upd G p o)) : Rep c (upd G p o) (.ref p) m.d := by
  cases m with
  | lst ds =>
    obtain ⟨vs, h, r⟩ := h
    rw [hp] at h
    cases h
    exact .lst upd_same (r.mono e)
  | dct ds =>
    obtain ⟨vs, h, q, r⟩ := h
    rw [hp] at h
    cases h
    exact .dct (.inl upd_same) q (r.mono e)
  | ins n ds =>
    obtain ⟨dx, vs, h, q, r⟩ := h
    rw [hp] at h
    cases h
    exact .ins upd_same q (r.mono e)

/-- a def's frame: the data and the heap at its start, the addresses that it was lent -/
structure Fr where
  G0 : Hp
  H0 : Hp
  bo : Nat → Option Addr
def Own (E : Ev) (σ : L2.St) (i : Nat) (p : Addr) : Prop := (∃ m, E[i]? = some (Slot.ow m) ∨ E[i]? = some (Slot.bo m)) ∧ σ[i]? = some (some (V.ref p))

structure RS (c : Cfg) (f : Fr) (G : Hp) (E : Ev) (σ : L2.St) (H : Hp) : Prop where
  gh : Same G H
  g0 : Same f.G0 G
  new : ∀ a o, G a = some o → f.G0 a ≠ none ∨ f.H0 a = none
  fr : ∀ a o, f.H0 a = some o → (∀ i, f.bo i ≠ some a) → H a = some o
  len : σ.length = E.length
  fz : ∀ (i : Nat) d, E[i]? = some (Slot.fz d) → ∃ v, σ[i]? = some (some v) ∧ Rep c G v d
  ow : ∀ (i : Nat) m, E[i]? = some (Slot.ow m) → ∃ p, σ[i]? = some (some (V.ref p)) ∧ OwnRel c G H p m ∧ G p = none ∧ f.H0 p = none
  bo : ∀ (i : Nat) m, E[i]? = some (Slot.bo m) → ∃ p, σ[i]? = some (some (V.ref p)) ∧ OwnRel c G H p m ∧ G p = none ∧ f.bo i = some p
  bos : ∀ (i : Nat) p, f.bo i = some p → ∃ m, E[i]? = some (Slot.bo m)
  dis : ∀ (i j : Nat) p, i ≠ j → Own E σ i p → Own E σ j p → False
  inv : c.P G
  xv : ∀ (i : Nat), E[i]? = some Slot.xv → ∃ v, c.xa = some v ∧ σ[i]? = some (some v)

def RelR (c : Cfg) (f : Fr) (G : Hp) (E : Ev) (σ : L2.St) (H : Hp) (v : V) : RV → Prop
  | .fz d => Rep c G v d
  | .ow m => ∃ p, v = .ref p ∧ OwnRel c G H p m ∧ G p = none ∧ f.H0 p = none ∧ ∀ i, ¬ Own E σ i p
  | .sl j => σ[j]? = some (some v)
def RelX (c : Cfg) (G H : Hp) (cls : Value) (d : Option Addr) (x : Exn) : Prop :=
  cls = c.xt x.cls ∧ (x.fs = [] ∨ ∃ dx fs, d = some dx ∧ G dx = some (.xd fs) ∧ fs.map (·.1) = x.fs.map (·.1) ∧ Reps c G (fs.map (·.2)) (x.fs.map (·.2)))

section
variable {c : Cfg} {f : Fr} {G G' : Hp} {E : Ev} {σ : L2.St} {H H' : Hp}
theorem RS.ownG (R : RS c f G E σ H) {i : Nat} {p : Addr} (h : Own E σ i p) : G p = none ∧ ∃ m, OwnRel c G H p m := by
  obtain ⟨⟨m, h | h⟩, hs⟩ := h
  · obtain ⟨q, h1, h2, h3, _⟩ := R.ow i m h
    rw [hs] at h1
    cases h1
    exact ⟨h3, m, h2⟩
  · obtain ⟨q, h1, h2, h3, _⟩ := R.bo i m h
    rw [hs] at h1
    cases h1
    exact ⟨h3, m, h2⟩
/-- a free place was free at the start -/
theorem RS.h0 (R : RS c f G E σ H) {a : Addr} (h : H a = none) : f.H0 a = none := by
  cases q : f.H0 a with
  | none => rfl
  | some o =>
    by_cases hb : ∃ i, f.bo i = some a
    · obtain ⟨i, hi⟩ := hb
      obtain ⟨m, hm⟩ := R.bos i a hi
      obtain ⟨p, _, h2, _, h4⟩ := R.bo i m hm
      rw [hi] at h4
      cases h4
      obtain ⟨o, ho⟩ := h2.there
      rw [h] at ho
      cases ho
    · rw [R.fr a o q (fun i e => hb ⟨i, e⟩)] at h
      cases h
/-- the heap grows, and so does the data -/
structure Gro (G H G' H' : Hp) : Prop where
  hh : Same H H'
  gg : Same G G'
  gh : Same G' H'
  new : ∀ a o, G' a = some o → G a = some o ∨ H a = none
theorem Gro.refl (e : Same G H) : Gro G H G H := ⟨.refl H, .refl G, e, fun a o h => .inl h⟩
theorem RS.gro (R : RS c f G E σ H) (S : Gro G H G' H') : RS c f G' E σ H' where
  gh := S.gh
  g0 := R.g0.trans S.gg
  new := fun a o h => by
    rcases S.new a o h with h | h
    · exact R.new a o h
    · exact .inr (R.h0 h)
  fr := fun a o h hb => S.hh a o (R.fr a o h hb)
  len := R.len
  fz := fun i d h => by
    obtain ⟨v, h1, h2⟩ := R.fz i d h
    exact ⟨v, h1, h2.mono S.gg⟩
  ow := fun i m h => by
    obtain ⟨p, h1, h2, h3, h4⟩ := R.ow i m h
    refine ⟨p, h1, h2.same S.gg S.hh, ?_, h4⟩
    cases q : G' p with
    | none => rfl
    | some o =>
      obtain ⟨u, hu⟩ := h2.there
      rcases S.new p o q with z | z
      · rw [h3] at z; cases z
      · rw [hu] at z; cases z
  bo := fun i m h => by
    obtain ⟨p, h1, h2, h3, h4⟩ := R.bo i m h
    refine ⟨p, h1, h2.same S.gg S.hh, ?_, h4⟩
    cases q : G' p with
    | none => rfl
    | some o =>
      obtain ⟨u, hu⟩ := h2.there
      rcases S.new p o q with z | z
      · rw [h3] at z; cases z
      · rw [hu] at z; cases z
  bos := R.bos
  dis := R.dis
  inv := c.mono S.gg R.inv
  xv := R.xv
/-- a new list is given up -/
theorem RS.freeze (R : RS c f G E σ H) {v : V} {m : MO} (h : RelR c f G E σ H v (.ow m)) : ∃ G', Same G G' ∧ RS c f G' E σ H ∧ Rep c G' v m.d := by
  obtain ⟨p, rfl, ho, hg, h0, hn⟩ := h
  obtain ⟨o, hp⟩ := ho.there
  have e : Same G (upd G p o) := fun b u hb => by rw [upd_ne (ne_of_none hb hg)]; exact hb
  refine ⟨upd G p o, e, ?_, ho.froze hp e⟩
  exact {
    gh := fun b u hb => by
      by_cases z : b = p
      · subst z; rw [upd_same] at hb; cases hb; exact hp
      · rw [upd_ne z] at hb; exact R.gh b u hb
    g0 := R.g0.trans e
    new := fun b u hb => by
      by_cases z : b = p
      · subst z; exact .inr h0
      · rw [upd_ne z] at hb; exact R.new b u hb
    fr := R.fr
    len := R.len
    fz := fun i d h => by
      obtain ⟨v, h1, h2⟩ := R.fz i d h
      exact ⟨v, h1, h2.mono e⟩
    ow := fun i m' h => by
      obtain ⟨q, h1, h2, h3, h4⟩ := R.ow i m' h
      have z : q ≠ p := fun z => hn i ⟨⟨m', .inl h⟩, by rw [← z]; exact h1⟩
      exact ⟨q, h1, h2.mono e rfl, by rw [upd_ne z]; exact h3, h4⟩
    bo := fun i m' h => by
      obtain ⟨q, h1, h2, h3, h4⟩ := R.bo i m' h
      have z : q ≠ p := fun z => hn i ⟨⟨m', .inr h⟩, by rw [← z]; exact h1⟩
      exact ⟨q, h1, h2.mono e rfl, by rw [upd_ne z]; exact h3, h4⟩
    bos := R.bos
    dis := R.dis
    inv := c.mono e R.inv
    xv := R.xv }
theorem get_set {α : Type} {l : List α} {i j : Nat} {a b : α} (h : (l.set i a)[j]? = some b) : (i = j ∧ b = a) ∨ (i ≠ j ∧ l[j]? = some b) := by
  by_cases e : i = j
  · subst e
    by_cases q : i < l.length
    · rw [List.getElem?_set_self q] at h
      exact .inl ⟨rfl, (Option.some.inj h).symm⟩
    · rw [List.getElem?_eq_none (by rw [List.length_set]; omega)] at h
      cases h
  · rw [List.getElem?_set_ne e] at h
    exact .inr ⟨e, h⟩
theorem own_set_fz {i j : Nat} {p : Addr} {d : D} (h : Own (E.set i (Slot.fz d)) σ j p) : i ≠ j ∧ Own E σ j p := by
  obtain ⟨⟨m, h⟩, hs⟩ := h
  rcases h with h | h
  · rcases get_set h with ⟨_, z⟩ | ⟨n, z⟩
    · cases z
    · exact ⟨n, ⟨m, .inl z⟩, hs⟩
  · rcases get_set h with ⟨_, z⟩ | ⟨n, z⟩
    · cases z
    · exact ⟨n, ⟨m, .inr z⟩, hs⟩
/-- what a slot owns is given up -/
theorem RS.freezeSlot (R : RS c f G E σ H) {i : Nat} {m : MO} {v : V} (h : E[i]? = some (Slot.ow m)) (hv : σ[i]? = some (some v)) :
    ∃ G', Same G G' ∧ RS c f G' (E.set i (Slot.fz m.d)) σ H ∧ Rep c G' v m.d := by
  obtain ⟨p, h1, ho, hg, h0⟩ := R.ow i m h
  rw [hv] at h1
  cases h1
  obtain ⟨o, hp⟩ := ho.there
  have e : Same G (upd G p o) := fun b u hb => by rw [upd_ne (ne_of_none hb hg)]; exact hb
  refine ⟨upd G p o, e, ?_, ho.froze hp e⟩
  have oi : Own E σ i p := ⟨⟨m, .inl h⟩, hv⟩
  exact {
    gh := fun b u hb => by
      by_cases z : b = p
      · subst z; rw [upd_same] at hb; cases hb; exact hp
      · rw [upd_ne z] at hb; exact R.gh b u hb
    g0 := R.g0.trans e
    new := fun b u hb => by
      by_cases z : b = p
      · subst z; exact .inr h0
      · rw [upd_ne z] at hb; exact R.new b u hb
    fr := R.fr
    len := by rw [List.length_set]; exact R.len
    fz := fun j d h => by
      rcases get_set h with ⟨rfl, z⟩ | ⟨n, z⟩
      · cases z; exact ⟨_, hv, ho.froze hp e⟩
      · obtain ⟨v, h1, h2⟩ := R.fz j d z
        exact ⟨v, h1, h2.mono e⟩
    ow := fun j m' h => by
      rcases get_set h with ⟨_, z⟩ | ⟨n, hz⟩
      · cases z
      obtain ⟨q, h1, h2, h3, h4⟩ := R.ow j m' hz
      have z : q ≠ p := fun z => R.dis i j p n oi ⟨⟨m', .inl hz⟩, by rw [← z]; exact h1⟩
      exact ⟨q, h1, h2.mono e rfl, by rw [upd_ne z]; exact h3, h4⟩
    bo := fun j m' h => by
      rcases get_set h with ⟨_, z⟩ | ⟨n, hz⟩
      · cases z
      obtain ⟨q, h1, h2, h3, h4⟩ := R.bo j m' hz
      have z : q ≠ p := fun z => R.dis i j p n oi ⟨⟨m', .inr hz⟩, by rw [← z]; exact h1⟩
      exact ⟨q, h1, h2.mono e rfl, by rw [upd_ne z]; exact h3, h4⟩
    bos := fun j q hq => by
      obtain ⟨m', hm⟩ := R.bos j q hq
      have n : i ≠ j := fun z => by subst z; rw [h] at hm; cases hm
      exact ⟨m', by rw [List.getElem?_set_ne n]; exact hm⟩
    dis := fun j k q n a b => R.dis j k q n (own_set_fz a).2 (own_set_fz b).2
    inv := c.mono e R.inv
    xv := fun j h => by
      rcases get_set h with ⟨_, z⟩ | ⟨n, z⟩
      · cases z
      · exact R.xv j z }
end
end M

namespace M
open PySem L2

/-! ### what stands where, looked at -/
def RV.settle : RV → RV
  | .ow m => .fz m.d
  | r => r
/-- read: an exact tuple is a tuple -/
def bare : D → D
  | .tux l => .tup l
  | d => d
def pk (E : Ev) : RV → Option D
  | .fz d => some (bare d)
  | .ow m => some m.d
  | .sl j => match E[j]? with
    | some (.fz d) => some (bare d)
    | some (.ow m) => some m.d
    | some (.bo m) => some m.d
    | _ => none
def fzn (E : Ev) : RV → Option (D × Ev)
  | .fz d => some (d, E)
  | .ow m => some (m.d, E)
  | .sl j => match E[j]? with
    | some (.fz d) => some (d, E)
    | some (.ow m) => some (m.d, E.set j (.fz m.d))
    | _ => none
def Pk (c : Cfg) (G H : Hp) (v : V) : D → Prop
  | .lst ds => ∃ a vs, v = .ref a ∧ H a = some (.lst vs) ∧ Reps c G vs ds
  | .frl ds => ∃ a vs, v = .ref a ∧ SqL c.K H a vs ∧ Reps c G vs ds
  | .dct ds => ∃ a kvs, v = .ref a ∧ Rd H a (.dK kvs) ∧ kvs.map (·.1) = ds.map (·.1) ∧ Reps c G (kvs.map (·.2)) (ds.map (·.2))
  | .ins n ds => ∃ a dx fs, v = .ref a ∧ H a = some (.ins (c.ct n) dx fs) ∧ fs.map (·.1) = ds.map (·.1) ∧ Reps c G (fs.map (·.2)) (ds.map (·.2))
  | d => Rep c G v d
section
variable {c : Cfg} {f : Fr} {G G' : Hp} {E : Ev} {σ : L2.St} {H H' : Hp} {v : V} {d : D} {m : MO} {r : RV}
theorem Rep.bare (h : Rep c G v d) : Rep c G v (M.bare d) := by
  cases d with
  | tux l =>
    cases h with
    | tux h r => exact .tup h.sqt r
  | _ => exact h
theorem Rep.pk (e : Same G H) (h : Rep c G v d) : Pk c G H v d := by
  cases h with
  | lst h r => exact ⟨_, _, rfl, e _ _ h, r⟩
  | frl h r => exact ⟨_, _, rfl, sql_mono e h, r⟩
  | dct h k r => exact ⟨_, _, rfl, rd_mono e h, k, r⟩
  | non => exact .non
  | bl b => exact .bl b
  | int i => exact .int i
  | str s => exact .str s
  | ty s => exact .ty s
  | gl s => exact .gl s
  | tup h r => exact .tup h r
  | tux h r => exact .tux h r
  | obj h b z k r => exact .obj h b z k r
  | ins h k r => exact ⟨_, _, _, rfl, e _ _ h, k, r⟩
theorem Pk.rep (e : Same G H) (h : Pk c G H v d) : Rep c H v d := by
  cases d with
  | lst ds => obtain ⟨a, vs, rfl, h, r⟩ := h; exact .lst h (r.mono e)
  | frl ds => obtain ⟨a, vs, rfl, h, r⟩ := h; exact .frl h (r.mono e)
  | dct ds => obtain ⟨a, vs, rfl, h, k, r⟩ := h; exact .dct h k (r.mono e)
  | ins n ds => obtain ⟨a, dx, vs, rfl, h, k, r⟩ := h; exact .ins h k (r.mono e)
  | _ => exact Rep.mono e h
theorem OwnRel.pk {p : Addr} (h : OwnRel c G H p m) : Pk c G H (.ref p) m.d := by
  cases m with
  | lst ds => obtain ⟨vs, h, r⟩ := h; exact ⟨_, _, rfl, h, r⟩
  | dct ds => obtain ⟨vs, h, k, r⟩ := h; exact ⟨_, _, rfl, .inl h, k, r⟩
  | ins n ds => obtain ⟨dx, vs, h, k, r⟩ := h; exact ⟨_, _, _, rfl, h, k, r⟩
theorem RS.pk (R : RS c f G E σ H) (h : RelR c f G E σ H v r) (e : M.pk E r = some d) : Pk c G H v d := by
  cases r with
  | fz d' => cases e; exact Rep.pk R.gh (Rep.bare h)
  | ow m => cases e; obtain ⟨p, rfl, h, _⟩ := h; exact h.pk
  | sl j =>
    have hs : σ[j]? = some (some v) := h
    cases q : E[j]? with
    | none => simp [M.pk, q] at e
    | some s =>
      cases s with
      | un => simp [M.pk, q] at e
      | xv => simp [M.pk, q] at e
      | fz d' =>
        simp [M.pk, q] at e
        subst e
        obtain ⟨u, h1, h2⟩ := R.fz j d' q
        rw [hs] at h1
        cases h1
        exact Rep.pk R.gh (Rep.bare h2)
      | ow m =>
        simp [M.pk, q] at e
        subst e
        obtain ⟨p, h1, h2, _⟩ := R.ow j m q
        rw [hs] at h1
        cases h1
        exact h2.pk
      | bo m =>
        simp [M.pk, q] at e
        subst e
        obtain ⟨p, h1, h2, _⟩ := R.bo j m q
        rw [hs] at h1
        cases h1
        exact h2.pk
theorem RS.frz {E' : Ev} (R : RS c f G E σ H) (h : RelR c f G E σ H v r) (e : fzn E r = some (d, E')) : ∃ G', Same G G' ∧ RS c f G' E' σ H ∧ Rep c G' v d := by
  cases r with
  | fz d' => cases e; exact ⟨G, .refl G, R, h⟩
  | ow m => cases e; exact R.freeze h
  | sl j =>
    have hs : σ[j]? = some (some v) := h
    cases q : E[j]? with
    | none => simp [fzn, q] at e
    | some s =>
      cases s with
      | un => simp [fzn, q] at e
      | xv => simp [fzn, q] at e
      | bo m => simp [fzn, q] at e
      | fz d' =>
        simp [fzn, q] at e
        obtain ⟨rfl, rfl⟩ := e
        obtain ⟨u, h1, h2⟩ := R.fz j d' q
        rw [hs] at h1
        cases h1
        exact ⟨G, .refl G, R, h2⟩
      | ow m =>
        simp [fzn, q] at e
        obtain ⟨rfl, rfl⟩ := e
        exact R.freezeSlot q hs
/-- a fresh result settled -/
theorem RS.settle (R : RS c f G E σ H) (h : RelR c f G E σ H v r) : ∃ G', Same G G' ∧ RS c f G' E σ H ∧ RelR c f G' E σ H v r.settle := by
  cases r with
  | fz d' => exact ⟨G, .refl G, R, h⟩
  | sl j => exact ⟨G, .refl G, R, h⟩
  | ow m => exact R.freeze h
theorem RelR.mono_settled {E' : Ev} (e : Same G G') (h : RelR c f G E σ H v r.settle) : RelR c f G' E' σ H' v r.settle := by
  cases r with
  | fz d' => exact Rep.mono e h
  | sl j => exact h
  | ow m => exact Rep.mono e h

/-! ### slots stored -/
theorem own_of_set_fz {i j : Nat} {p : Addr} {d : D} {x : Option V} (h : Own (E.set i (Slot.fz d)) (σ.set i x) j p) : i ≠ j ∧ Own E σ j p := by
  obtain ⟨n, h1, h2⟩ := own_set_fz h
  rw [List.getElem?_set_ne n] at h2
  exact ⟨n, h1, h2⟩
theorem RS.setFz (R : RS c f G E σ H) {i : Nat} (hb : ∀ m, E[i]? ≠ some (Slot.bo m)) (h : Rep c G v d) : RS c f G (E.set i (.fz d)) (σ.set i (some v)) H where
  gh := R.gh
  g0 := R.g0
  new := R.new
  fr := R.fr
  len := by rw [List.length_set, List.length_set]; exact R.len
  fz := fun j d' e => by
    rcases get_set e with ⟨rfl, z⟩ | ⟨n, z⟩
    · cases z
      have hl : i < σ.length := by
        rw [R.len]
        have := (List.getElem?_eq_some_iff.mp e).1
        rwa [List.length_set] at this
      exact ⟨v, List.getElem?_set_self hl, h⟩
    · obtain ⟨u, h1, h2⟩ := R.fz j d' z
      exact ⟨u, by rw [List.getElem?_set_ne n]; exact h1, h2⟩
  ow := fun j m e => by
    rcases get_set e with ⟨_, z⟩ | ⟨n, z⟩
    · cases z
    · obtain ⟨p, h1, h2⟩ := R.ow j m z
      exact ⟨p, by rw [List.getElem?_set_ne n]; exact h1, h2⟩
  bo := fun j m e => by
    rcases get_set e with ⟨_, z⟩ | ⟨n, z⟩
    · cases z
    · obtain ⟨p, h1, h2⟩ := R.bo j m z
      exact ⟨p, by rw [List.getElem?_set_ne n]; exact h1, h2⟩
  bos := fun j p e => by
    obtain ⟨m, hm⟩ := R.bos j p e
    have n : i ≠ j := fun z => by subst z; exact hb m hm
    exact ⟨m, by rw [List.getElem?_set_ne n]; exact hm⟩
  dis := fun j k p n a b => R.dis j k p n (own_of_set_fz a).2 (own_of_set_fz b).2
  inv := R.inv
  xv := fun j e => by
    rcases get_set e with ⟨_, z⟩ | ⟨n, z⟩
    · cases z
    · rw [List.getElem?_set_ne n]; exact R.xv j z
theorem RS.setOw (R : RS c f G E σ H) {i : Nat} (hb : ∀ m, E[i]? ≠ some (Slot.bo m)) (h : RelR c f G E σ H v (.ow m)) : RS c f G (E.set i (.ow m)) (σ.set i (some v)) H := by
  obtain ⟨p, rfl, ho, hg, h0, hn⟩ := h
  have own : ∀ {j : Nat} {q : Addr}, Own (E.set i (Slot.ow m)) (σ.set i (some (V.ref p))) j q → (j = i ∧ q = p) ∨ (i ≠ j ∧ Own E σ j q) := fun {j q} z => by
    obtain ⟨⟨m', z⟩, zs⟩ := z
    rcases get_set zs with ⟨e, z1⟩ | ⟨n, z1⟩
    · cases z1
      exact .inl ⟨e.symm, rfl⟩
    · refine .inr ⟨n, ⟨m', ?_⟩, z1⟩
      rw [List.getElem?_set_ne n] at z
      exact z
  exact {
    gh := R.gh
    g0 := R.g0
    new := R.new
    fr := R.fr
    len := by rw [List.length_set, List.length_set]; exact R.len
    fz := fun j d' e => by
      rcases get_set e with ⟨rfl, z⟩ | ⟨n, z⟩
      · cases z
      · obtain ⟨u, h1, h2⟩ := R.fz j d' z
        exact ⟨u, by rw [List.getElem?_set_ne n]; exact h1, h2⟩
    ow := fun j m' e => by
      rcases get_set e with ⟨rfl, z⟩ | ⟨n, z⟩
      · cases z
        have hl : i < σ.length := by
          rw [R.len]
          have := (List.getElem?_eq_some_iff.mp e).1
          rwa [List.length_set] at this
        exact ⟨p, List.getElem?_set_self hl, ho, hg, h0⟩
      · obtain ⟨p, h1, h2⟩ := R.ow j m' z
        exact ⟨p, by rw [List.getElem?_set_ne n]; exact h1, h2⟩
    bo := fun j m' e => by
      rcases get_set e with ⟨_, z⟩ | ⟨n, z⟩
      · cases z
      · obtain ⟨p, h1, h2⟩ := R.bo j m' z
        exact ⟨p, by rw [List.getElem?_set_ne n]; exact h1, h2⟩
    bos := fun j p e => by
      obtain ⟨m', hm⟩ := R.bos j p e
      have n : i ≠ j := fun z => by subst z; exact hb m' hm
      exact ⟨m', by rw [List.getElem?_set_ne n]; exact hm⟩
    dis := fun j k q n a b => by
      rcases own a with ⟨rfl, rfl⟩ | ⟨n1, a1⟩
      · rcases own b with ⟨rfl, _⟩ | ⟨_, b⟩
        · exact n rfl
        · exact hn k b
      ·
        rcases own b with ⟨rfl, rfl⟩ | ⟨_, b1⟩
        · exact hn j a1
        · exact R.dis j k q n a1 b1
    inv := R.inv
    xv := fun j e => by
      rcases get_set e with ⟨_, z⟩ | ⟨n, z⟩
      · cases z
      · rw [List.getElem?_set_ne n]; exact R.xv j z }
/-- what a slot owns (or was lent) is changed in place: the new content m', the heap changed at that place alone -/
theorem RS.change (R : RS c f G E σ H) {i : Nat} {p : Addr} {m m' : MO} {o : HO} (hs : σ[i]? = some (some (V.ref p))) (he : E[i]? = some (Slot.ow m) ∨ E[i]? = some (Slot.bo m))
    (ho : OwnRel c G (upd H p o) p m') :
    RS c f G (E.set i (match E[i]? with | some (.bo _) => .bo m' | _ => .ow m')) σ (upd H p o) := by
  have oi : Own E σ i p := ⟨⟨m, he⟩, hs⟩
  obtain ⟨hg, m0, hm0⟩ := R.ownG oi
  have hother : ∀ (j : Nat) (q : Addr), i ≠ j → Own E σ j q → q ≠ p := fun j q n h z => R.dis i j p n oi (z ▸ h)
  have hil : i < E.length := by
    rcases he with h | h <;> exact (List.getElem?_eq_some_iff.mp h).1
  have own : ∀ {j : Nat} {q : Addr} {s : Slot}, Own (E.set i s) σ j q → (j = i ∧ q = p) ∨ (i ≠ j ∧ Own E σ j q) := fun {j q s} z => by
    by_cases e : i = j
    · subst e
      obtain ⟨_, z2⟩ := z
      rw [hs] at z2
      cases z2
      exact .inl ⟨rfl, rfl⟩
    · obtain ⟨⟨m1, z1⟩, z2⟩ := z
      rw [List.getElem?_set_ne e] at z1
      exact .inr ⟨e, ⟨m1, z1⟩, z2⟩
  have ghN : Same G (upd H p o) := fun b u hb => by
    rw [upd_ne (ne_of_none hb hg)]
    exact R.gh b u hb
  exact {
    gh := ghN
    g0 := R.g0
    new := R.new
    fr := fun a u ha hb => by
      have z : a ≠ p := fun z => by
        subst z
        rcases he with h | h
        · obtain ⟨q, h1, _, _, h4⟩ := R.ow i m h
          rw [hs] at h1
          cases h1
          rw [ha] at h4
          cases h4
        · obtain ⟨q, h1, _, _, h4⟩ := R.bo i m h
          rw [hs] at h1
          cases h1
          exact hb i h4
      rw [upd_ne z]
      exact R.fr a u ha hb
    len := by rw [List.length_set]; exact R.len
    fz := fun j d e => by
      rcases get_set e with ⟨rfl, z⟩ | ⟨n, z⟩
      · rcases he with h | h <;> (rw [h] at z; cases z)
      · exact R.fz j d z
    ow := fun j m1 e => by
      rcases get_set e with ⟨rfl, z⟩ | ⟨n, z⟩
      · rcases he with h | h
        · rw [h] at z
          cases z
          obtain ⟨q, h1, _, _, h4⟩ := R.ow i m h
          rw [hs] at h1
          cases h1
          exact ⟨p, hs, ho, hg, h4⟩
        · rw [h] at z; cases z
      · obtain ⟨q, h1, h2, h3, h4⟩ := R.ow j m1 z
        have hq : q ≠ p := hother j q n ⟨⟨m1, .inl z⟩, h1⟩
        exact ⟨q, h1, h2.mono (.refl G) (by rw [upd_ne hq]), h3, h4⟩
    bo := fun j m1 e => by
      rcases get_set e with ⟨rfl, z⟩ | ⟨n, z⟩
      · rcases he with h | h
        · rw [h] at z; cases z
        · rw [h] at z
          cases z
          obtain ⟨q, h1, _, _, h4⟩ := R.bo i m h
          rw [hs] at h1
          cases h1
          exact ⟨p, hs, ho, hg, h4⟩
      · obtain ⟨q, h1, h2, h3, h4⟩ := R.bo j m1 z
        have hq : q ≠ p := hother j q n ⟨⟨m1, .inr z⟩, h1⟩
        exact ⟨q, h1, h2.mono (.refl G) (by rw [upd_ne hq]), h3, h4⟩
    bos := fun j q e => by
      by_cases n : i = j
      · subst n
        obtain ⟨m1, hm⟩ := R.bos i q e
        refine ⟨m', ?_⟩
        rw [List.getElem?_set_self hil, hm]
      · obtain ⟨m1, hm⟩ := R.bos j q e
        exact ⟨m1, by rw [List.getElem?_set_ne n]; exact hm⟩
    dis := fun j k q n a b => by
      rcases own a with ⟨rfl, rfl⟩ | ⟨n1, a1⟩
      · rcases own b with ⟨rfl, _⟩ | ⟨_, b⟩
        · exact n rfl
        · exact R.dis _ _ _ n oi b
      ·
        rcases own b with ⟨rfl, rfl⟩ | ⟨_, b1⟩
        · exact R.dis _ _ _ n a1 oi
        · exact R.dis j k q n a1 b1
    inv := R.inv
    xv := fun j e => by
      rcases get_set e with ⟨rfl, z⟩ | ⟨n, z⟩
      · rcases he with h | h <;> (rw [h] at z; cases z)
      · exact R.xv j z }
end

/-! ### judgements -/
def Res.bind {α β : Type} (r : Res α) (g : α → Ev → Res β) : Res β := match r with
  | .ok a E => g a E
  | .ex x E => .ex x E
  | .bad => .bad
def Res.out {α : Type} (r : Res α) (g : α → Ev → Out) : Out := match r with
  | .ok a E => g a E
  | .ex x E => .ex x E
  | .bad => .bad
abbrev EM := Ev → Res RV
abbrev BM := Ev → Res Bool
abbrev AM := Ev → Res (List RV)
abbrev SM := Ev → Out

def XW (c : Cfg) (W : WX) (f : Fr) (G : Hp) (σ : L2.St) (x : Exn) (E : Ev) : Prop :=
  ∀ G' cls d H', Same G G' → RS c f G' E σ H' → RelX c G' H' cls d x → W cls d σ H'
theorem XW.mono {c : Cfg} {W : WX} {f : Fr} {G G' : Hp} {σ : L2.St} {x : Exn} {E : Ev} (e : Same G G') (h : XW c W f G σ x E) : XW c W f G' σ x E := fun _ _ _ _ e' => h _ _ _ _ (e.trans e')
/-- what is wanted behind an expression -/
def postE (c : Cfg) (W : WX) (f : Fr) (G : Hp) (σ : L2.St) (r : Res RV) (Q : VK) : Prop := match r with
  | .ok r E => ∀ G' v H', Same G G' → RS c f G' E σ H' → RelR c f G' E σ H' v r → Q v H'
  | .ex x E => XW c W f G σ x E
  | .bad => False
def postT (c : Cfg) (W : WX) (f : Fr) (G : Hp) (σ : L2.St) (r : Res Bool) (Q : Bool → Hp → Prop) : Prop := match r with
  | .ok b E => ∀ G' H', Same G G' → RS c f G' E σ H' → Q b H'
  | .ex x E => XW c W f G σ x E
  | .bad => False
/-- arguments: settled -/
inductive RelRs (c : Cfg) (f : Fr) (G : Hp) (E : Ev) (σ : L2.St) (H : Hp) : List V → List RV → Prop
  | nil : RelRs c f G E σ H [] []
  | cons {v : V} {r : RV} {vs : List V} {rs : List RV} : r.settle = r → RelR c f G E σ H v r → RelRs c f G E σ H vs rs → RelRs c f G E σ H (v :: vs) (r :: rs)
def postA (c : Cfg) (W : WX) (f : Fr) (G : Hp) (σ : L2.St) (r : Res (List RV)) (Q : List V → Hp → Prop) : Prop := match r with
  | .ok rs E => ∀ G' vs H', Same G G' → RS c f G' E σ H' → RelRs c f G' E σ H' vs rs → Q vs H'
  | .ex x E => XW c W f G σ x E
  | .bad => False
def postS (c : Cfg) (W : WX) (f : Fr) (G : Hp) (o : Out) (Dn : Ends) : Prop := match o with
  | .nx E => ∀ G' σ' H', Same G G' → RS c f G' E σ' H' → Dn.nx σ' H'
  | .rt r E => ∀ G' σ' v H', Same G G' → RS c f G' E σ' H' → RelR c f G' E σ' H' v r → Dn.rt v H'
  | .bk E => ∀ G' σ' H', Same G G' → RS c f G' E σ' H' → Dn.bk σ' H'
  | .ct E => ∀ G' σ' H', Same G G' → RS c f G' E σ' H' → Dn.ct σ' H'
  | .ex x E => ∀ σ', XW c W f G σ' x E
  | .bad => False
def tE (c : Cfg) (W : WX) (m : EM) : TE := fun σ H Q => ∃ f G E, RS c f G E σ H ∧ postE c W f G σ (m E) Q
def tT (c : Cfg) (W : WX) (m : BM) : TT := fun σ H Q => ∃ f G E, RS c f G E σ H ∧ postT c W f G σ (m E) Q
def tA (c : Cfg) (W : WX) (m : AM) : TA := fun σ H Q => ∃ f G E, RS c f G E σ H ∧ postA c W f G σ (m E) Q
def tS (c : Cfg) (W : WX) (m : SM) : TS := fun Dn σ H => ∃ f G E, RS c f G E σ H ∧ postS c W f G (m E) Dn

/-! ### consequence -/
section
variable {X : Cx} {e : Expr} {es : List Expr} {st : Stmt} {sts : List Stmt}
theorem pe_imp {t t' : TE} (h : PE X e t) (i : ∀ σ H Q, t' σ H Q → t σ H Q) : PE X e t' := ⟨fun pins s σ H Q I q => h.run pins s σ H Q I (i σ H Q q)⟩
theorem pt_imp {t t' : TT} (h : PT X e t) (i : ∀ σ H Q, t' σ H Q → t σ H Q) : PT X e t' := ⟨fun pins s σ H Q I q => h.run pins s σ H Q I (i σ H Q q)⟩
theorem pw_imp {t t' : TT} (h : PW X e t) (i : ∀ σ H Q, t' σ H Q → t σ H Q) : PW X e t' := ⟨fun wh pins s σ H Q I q => h.run wh pins s σ H Q I (i σ H Q q)⟩
theorem pa_imp {t t' : TA} (h : PA X es t) (i : ∀ σ H Q, t' σ H Q → t σ H Q) : PA X es t' := ⟨fun pos pins s σ H Q I q => h.run pos pins s σ H Q I (i σ H Q q)⟩
theorem ps_imp {t t' : TS} (h : PS X st t) (i : ∀ Dn σ H, t' Dn σ H → t Dn σ H) : PS X st t' := ⟨fun pins s σ H Dn I q => h.run pins s σ H Dn I (i Dn σ H q)⟩
theorem pss_imp {t t' : TS} (h : PSs X sts t) (i : ∀ Dn σ H, t' Dn σ H → t Dn σ H) : PSs X sts t' := ⟨fun pins s σ H Dn I q => h.run pins s σ H Dn I (i Dn σ H q)⟩
end

/-! ### a part within a whole -/
section
variable {c : Cfg} {W : WX} {f : Fr} {G : Hp} {E : Ev} {σ : L2.St} {H : Hp}
theorem tE_sub {m : EM} {k : VK} (R : RS c f G E σ H) (h : match m E with
    | .ok r E' => ∀ G' v H', Same G G' → RS c f G' E' σ H' → RelR c f G' E' σ H' v r.settle → k v H'
    | .ex x E' => XW c W f G σ x E'
    | .bad => False) : tE c W m σ H k := by
  refine ⟨f, G, E, R, ?_⟩
  cases q : m E with
  | ok r E' =>
    rw [q] at h
    intro G' v H' e R' rel
    obtain ⟨G2, e2, R2, rel2⟩ := R'.settle rel
    exact h G2 v H' (e.trans e2) R2 rel2
  | ex x E' => rw [q] at h; exact h
  | bad => rw [q] at h; exact h
/-- .. as it comes -/
theorem tE_raw {m : EM} {k : VK} (R : RS c f G E σ H) (h : match m E with
    | .ok r E' => ∀ G' v H', Same G G' → RS c f G' E' σ H' → RelR c f G' E' σ H' v r → k v H'
    | .ex x E' => XW c W f G σ x E'
    | .bad => False) : tE c W m σ H k := ⟨f, G, E, R, by cases q : m E <;> (rw [q] at h; exact h)⟩
theorem postE_mono {G' : Hp} (e : Same G G') : ∀ {r : Res RV} {Q : VK}, postE c W f G σ r Q → postE c W f G' σ r Q
  | .ok _ _, _, h => fun _ _ _ e' => h _ _ _ (e.trans e')
  | .ex _ _, _, h => XW.mono e h
  | .bad, _, h => h
theorem postT_mono {G' : Hp} (e : Same G G') : ∀ {r : Res Bool} {Q : Bool → Hp → Prop}, postT c W f G σ r Q → postT c W f G' σ r Q
  | .ok _ _, _, h => fun _ _ e' => h _ _ (e.trans e')
  | .ex _ _, _, h => XW.mono e h
  | .bad, _, h => h
theorem postA_mono {G' : Hp} (e : Same G G') : ∀ {r : Res (List RV)} {Q : List V → Hp → Prop}, postA c W f G σ r Q → postA c W f G' σ r Q
  | .ok _ _, _, h => fun _ _ _ e' => h _ _ _ (e.trans e')
  | .ex _ _, _, h => XW.mono e h
  | .bad, _, h => h
theorem postS_mono {G' : Hp} (e : Same G G') : ∀ {o : Out} {Dn : Ends}, postS c W f G o Dn → postS c W f G' o Dn
  | .nx _, _, h => fun _ _ _ e' => h _ _ _ (e.trans e')
  | .rt _ _, _, h => fun _ _ _ _ e' => h _ _ _ _ (e.trans e')
  | .bk _, _, h => fun _ _ _ e' => h _ _ _ (e.trans e')
  | .ct _, _, h => fun _ _ _ e' => h _ _ _ (e.trans e')
  | .ex _ _, _, h => fun σ' => XW.mono e (h σ')
  | .bad, _, h => h
/-- the rest of a whole behind a part: from what is wanted of the whole -/
theorem postE_bind {α : Type} {r : Res α} {g : α → Ev → Res RV} {Q : VK} (h : postE c W f G σ (r.bind g) Q) : match (generalizing := false) r with
    | .ok a E' => postE c W f G σ (g a E') Q
    | .ex x E' => XW c W f G σ x E'
    | .bad => False := by cases r <;> exact h
theorem postT_bind {α : Type} {r : Res α} {g : α → Ev → Res Bool} {Q : Bool → Hp → Prop} (h : postT c W f G σ (r.bind g) Q) : match (generalizing := false) r with
    | .ok a E' => postT c W f G σ (g a E') Q
    | .ex x E' => XW c W f G σ x E'
    | .bad => False := by cases r <;> exact h
theorem postA_bind {α : Type} {r : Res α} {g : α → Ev → Res (List RV)} {Q : List V → Hp → Prop} (h : postA c W f G σ (r.bind g) Q) : match (generalizing := false) r with
    | .ok a E' => postA c W f G σ (g a E') Q
    | .ex x E' => XW c W f G σ x E'
    | .bad => False := by cases r <;> exact h
theorem postS_out {α : Type} {r : Res α} {g : α → Ev → Out} {Dn : Ends} (h : postS c W f G (r.out g) Dn) : match (generalizing := false) r with
    | .ok a E' => postS c W f G (g a E') Dn
    | .ex x E' => ∀ σ', XW c W f G σ' x E'
    | .bad => False := by cases r <;> exact h
/-- .. for a part that is an expression -/
theorem tE_bindE {m : EM} {g : RV → Ev → Res RV} {Q k : VK} (R : RS c f G E σ H) (h : postE c W f G σ ((m E).bind g) Q)
    (n : ∀ r E' G' v H', Same G G' → RS c f G' E' σ H' → RelR c f G' E' σ H' v r.settle → postE c W f G' σ (g r E') Q → k v H') : tE c W m σ H k := by
  refine tE_sub R ?_
  have h := postE_bind h
  cases q : m E with
  | ok r E' => rw [q] at h; exact fun G' v H' e R' rel => n r E' G' v H' e R' rel (postE_mono e h)
  | ex x E' => rw [q] at h; exact h
  | bad => rw [q] at h; exact h
theorem tE_bindT {m : EM} {g : RV → Ev → Res Bool} {Q : Bool → Hp → Prop} {k : VK} (R : RS c f G E σ H) (h : postT c W f G σ ((m E).bind g) Q)
    (n : ∀ r E' G' v H', Same G G' → RS c f G' E' σ H' → RelR c f G' E' σ H' v r.settle → postT c W f G' σ (g r E') Q → k v H') : tE c W m σ H k := by
  refine tE_sub R ?_
  have h := postT_bind h
  cases q : m E with
  | ok r E' => rw [q] at h; exact fun G' v H' e R' rel => n r E' G' v H' e R' rel (postT_mono e h)
  | ex x E' => rw [q] at h; exact h
  | bad => rw [q] at h; exact h
theorem tE_bindA {m : EM} {g : RV → Ev → Res (List RV)} {Q : List V → Hp → Prop} {k : VK} (R : RS c f G E σ H) (h : postA c W f G σ ((m E).bind g) Q)
    (n : ∀ r E' G' v H', Same G G' → RS c f G' E' σ H' → RelR c f G' E' σ H' v r.settle → postA c W f G' σ (g r E') Q → k v H') : tE c W m σ H k := by
  refine tE_sub R ?_
  have h := postA_bind h
  cases q : m E with
  | ok r E' => rw [q] at h; exact fun G' v H' e R' rel => n r E' G' v H' e R' rel (postA_mono e h)
  | ex x E' => rw [q] at h; exact h
  | bad => rw [q] at h; exact h
theorem tE_outS {m : EM} {g : RV → Ev → Out} {Dn : Ends} {k : VK} (R : RS c f G E σ H) (h : postS c W f G ((m E).out g) Dn)
    (n : ∀ r E' G' v H', Same G G' → RS c f G' E' σ H' → RelR c f G' E' σ H' v r → postS c W f G' (g r E') Dn → k v H') : tE c W m σ H k := by
  refine tE_raw R ?_
  have h := postS_out h
  cases q : m E with
  | ok r E' => rw [q] at h; exact fun G' v H' e R' rel => n r E' G' v H' e R' rel (postS_mono e h)
  | ex x E' => rw [q] at h; exact h σ
  | bad => rw [q] at h; exact h
theorem tT_bindE {m : BM} {g : Bool → Ev → Res RV} {Q : VK} {k : Bool → Hp → Prop} (R : RS c f G E σ H) (h : postE c W f G σ ((m E).bind g) Q)
    (n : ∀ b E' G' H', Same G G' → RS c f G' E' σ H' → postE c W f G' σ (g b E') Q → k b H') : tT c W m σ H k := by
  refine ⟨f, G, E, R, ?_⟩
  have h := postE_bind h
  cases q : m E with
  | ok b E' => rw [q] at h; exact fun G' H' e R' => n b E' G' H' e R' (postE_mono e h)
  | ex x E' => rw [q] at h; exact h
  | bad => rw [q] at h; exact h
theorem tT_bindT {m : BM} {g : Bool → Ev → Res Bool} {Q k : Bool → Hp → Prop} (R : RS c f G E σ H) (h : postT c W f G σ ((m E).bind g) Q)
    (n : ∀ b E' G' H', Same G G' → RS c f G' E' σ H' → postT c W f G' σ (g b E') Q → k b H') : tT c W m σ H k := by
  refine ⟨f, G, E, R, ?_⟩
  have h := postT_bind h
  cases q : m E with
  | ok b E' => rw [q] at h; exact fun G' H' e R' => n b E' G' H' e R' (postT_mono e h)
  | ex x E' => rw [q] at h; exact h
  | bad => rw [q] at h; exact h
theorem tT_outS {m : BM} {g : Bool → Ev → Out} {Dn : Ends} {k : Bool → Hp → Prop} (R : RS c f G E σ H) (h : postS c W f G ((m E).out g) Dn)
    (n : ∀ b E' G' H', Same G G' → RS c f G' E' σ H' → postS c W f G' (g b E') Dn → k b H') : tT c W m σ H k := by
  refine ⟨f, G, E, R, ?_⟩
  have h := postS_out h
  cases q : m E with
  | ok b E' => rw [q] at h; exact fun G' H' e R' => n b E' G' H' e R' (postS_mono e h)
  | ex x E' => rw [q] at h; exact h σ
  | bad => rw [q] at h; exact h
theorem tA_bindE {m : AM} {g : List RV → Ev → Res RV} {Q : VK} {k : List V → Hp → Prop} (R : RS c f G E σ H) (h : postE c W f G σ ((m E).bind g) Q)
    (n : ∀ rs E' G' vs H', Same G G' → RS c f G' E' σ H' → RelRs c f G' E' σ H' vs rs → postE c W f G' σ (g rs E') Q → k vs H') : tA c W m σ H k := by
  refine ⟨f, G, E, R, ?_⟩
  have h := postE_bind h
  cases q : m E with
  | ok rs E' => rw [q] at h; exact fun G' vs H' e R' rel => n rs E' G' vs H' e R' rel (postE_mono e h)
  | ex x E' => rw [q] at h; exact h
  | bad => rw [q] at h; exact h
theorem tA_bindA {m : AM} {g : List RV → Ev → Res (List RV)} {Q k : List V → Hp → Prop} (R : RS c f G E σ H) (h : postA c W f G σ ((m E).bind g) Q)
    (n : ∀ rs E' G' vs H', Same G G' → RS c f G' E' σ H' → RelRs c f G' E' σ H' vs rs → postA c W f G' σ (g rs E') Q → k vs H') : tA c W m σ H k := by
  refine ⟨f, G, E, R, ?_⟩
  have h := postA_bind h
  cases q : m E with
  | ok rs E' => rw [q] at h; exact fun G' vs H' e R' rel => n rs E' G' vs H' e R' rel (postA_mono e h)
  | ex x E' => rw [q] at h; exact h
  | bad => rw [q] at h; exact h
theorem tA_outS {m : AM} {g : List RV → Ev → Out} {Dn : Ends} {k : List V → Hp → Prop} (R : RS c f G E σ H) (h : postS c W f G ((m E).out g) Dn)
    (n : ∀ rs E' G' vs H', Same G G' → RS c f G' E' σ H' → RelRs c f G' E' σ H' vs rs → postS c W f G' (g rs E') Dn → k vs H') : tA c W m σ H k := by
  refine ⟨f, G, E, R, ?_⟩
  have h := postS_out h
  cases q : m E with
  | ok rs E' => rw [q] at h; exact fun G' vs H' e R' rel => n rs E' G' vs H' e R' rel (postS_mono e h)
  | ex x E' => rw [q] at h; exact h σ
  | bad => rw [q] at h; exact h
end
end M

namespace M
open PySem L2

/-! ### what an operation makes: from data, new data -/
def RelN (c : Cfg) (G H H' : Hp) (v : V) : RV → Prop
  | .fz d => Rep c G v d
  | .ow m => ∃ p, v = .ref p ∧ OwnRel c G H' p m ∧ G p = none ∧ H p = none
  | .sl _ => False
theorem RelN.rel {c : Cfg} {f : Fr} {G G' : Hp} {E : Ev} {σ : L2.St} {H H' : Hp} {v : V} {r : RV} (R : RS c f G E σ H) (h : RelN c G' H H' v r) : RelR c f G' E σ H' v r := by
  cases r with
  | fz d => exact h
  | sl j => exact h.elim
  | ow m =>
    obtain ⟨p, h1, h2, h3, h4⟩ := h
    refine ⟨p, h1, h2, h3, R.h0 h4, fun i o => ?_⟩
    obtain ⟨_, m, hm⟩ := R.ownG o
    obtain ⟨o, ho⟩ := hm.there
    rw [h4] at ho
    cases ho
/-- what is wanted of an operation's result -/
def Made (c : Cfg) (G H : Hp) (r : RV) (Q : VK) : Prop := ∀ G' v H', Gro G H G' H' → RelN c G' H H' v r → Q v H'
theorem Made.flat {c : Cfg} {G H : Hp} {d : D} {v : V} {Q : VK} (e : Same G H) (h : Made c G H (.fz d) Q) (r : Rep c G v d) : Q v H := h G v H (.refl e) r
theorem Gro.newG {G H : Hp} {p : Addr} {o : HO} (e : Same G H) (hp : H p = none) : Gro G H (upd G p o) (upd H p o) where
  hh := fun b u q => by rw [upd_ne (ne_of_none q hp)]; exact q
  gg := fun b u q => by rw [upd_ne (ne_of_none (e b u q) hp)]; exact q
  gh := fun b u q => by
    by_cases z : b = p
    · subst z; rw [upd_same] at q ⊢; exact q
    · rw [upd_ne z] at q ⊢; exact e b u q
  new := fun b u q => by
    by_cases z : b = p
    · subst z; exact .inr hp
    · rw [upd_ne z] at q; exact .inl q
theorem Gro.newH {G H : Hp} {p : Addr} {o : HO} (e : Same G H) (hp : H p = none) : Gro G H G (upd H p o) where
  hh := fun b u q => by rw [upd_ne (ne_of_none q hp)]; exact q
  gg := .refl G
  gh := fun b u q => by rw [upd_ne (ne_of_none (e b u q) hp)]; exact e b u q
  new := fun b u q => .inl q
theorem none_of {G H : Hp} {p : Addr} (e : Same G H) (hp : H p = none) : G p = none := by
  cases q : G p with
  | none => rfl
  | some o => rw [e p o q] at hp; cases hp
theorem Made.lst {c : Cfg} {G H : Hp} {ds : List D} {vs : List V} {Q : VK} (e : Same G H) (h : Made c G H (.ow (.lst ds)) Q) (r : Reps c G vs ds) {p : Addr} (hp : H p = none) : Q (.ref p) (upd H p (.lst vs)) :=
  h G _ _ (.newH e hp) ⟨p, rfl, ⟨vs, upd_same, r⟩, none_of e hp, hp⟩
theorem Made.tup {c : Cfg} {G H : Hp} {ds : List D} {vs : List V} {Q : VK} (e : Same G H) (h : Made c G H (.fz (.tup ds)) Q) (r : Reps c G vs ds) {p : Addr} (hp : H p = none) : Q (.ref p) (upd H p (.tup vs)) :=
  h _ _ _ (.newG e hp) (.tup (.inl (.inl upd_same)) (r.mono (Gro.newG (o := .tup vs) e hp).gg))

def rD (c : Cfg) (op : D → D → Option RV) : R2 := fun x y H Q => ∃ G a b r, Same G H ∧ Pk c G H x a ∧ Pk c G H y b ∧ op a b = some r ∧ Made c G H r Q
def rD1 (c : Cfg) (op : D → Option RV) : V → Hp → VK → Prop := fun x H Q => ∃ G a r, Same G H ∧ Pk c G H x a ∧ op a = some r ∧ Made c G H r Q
inductive Pks (c : Cfg) (G H : Hp) : List V → List D → Prop
  | nil : Pks c G H [] []
  | cons {v : V} {d : D} {vs : List V} {ds : List D} : Pk c G H v d → Pks c G H vs ds → Pks c G H (v :: vs) (d :: ds)
def rDn (c : Cfg) (op : List D → Option RV) : List V → Hp → VK → Prop := fun xs H Q => ∃ G ds r, Same G H ∧ Pks c G H xs ds ∧ op ds = some r ∧ Made c G H r Q

/-- the one or the other -/
def orO {α β : Type} (f g : α → Option β) (a : α) : Option β := match f a with
  | some r => some r
  | none => g a
def orO2 {α β γ : Type} (f g : α → β → Option γ) (a : α) (b : β) : Option γ := match f a b with
  | some r => some r
  | none => g a b
section
variable {X : Cx} {c : Cfg}
theorem opr_imp {f : Value → Value → Sem Value} {r r' : R2} (h : OpR X f r) (i : ∀ x y H Q, r' x y H Q → r x y H Q) : OpR X f r' := fun pins s σ H x y v u Q I rx ry q => h pins s σ H x y v u Q I rx ry (i x y H Q q)
theorem callr_imp {f : Value} {r r' : List V → Hp → VK → Prop} (h : CallR X f r) (i : ∀ xs H Q, r' xs H Q → r xs H Q) : CallR X f r' := fun pins s σ H xs us Q I rx q => h pins s σ H xs us Q I rx (i xs H Q q)
theorem opd_or {f : Value → Value → Sem Value} {g h : D → D → Option RV} (hg : OpR X f (rD c g)) (hh : OpR X f (rD c h)) : OpR X f (rD c (orO2 g h)) := fun pins s σ H x y v u Q I rx ry ⟨G, a, b, r, e, ha, hb, q, m⟩ => by
  unfold orO2 at q
  split at q
  · rename_i r' hr
    cases q
    exact hg pins s σ H x y v u Q I rx ry ⟨G, a, b, _, e, ha, hb, hr, m⟩
  · exact hh pins s σ H x y v u Q I rx ry ⟨G, a, b, _, e, ha, hb, q, m⟩
theorem calld_or {f : Value} {g h : List D → Option RV} (hg : CallR X f (rDn c g)) (hh : CallR X f (rDn c h)) : CallR X f (rDn c (orO g h)) := fun pins s σ H xs us Q I rx ⟨G, ds, r, e, hp, q, m⟩ => by
  unfold orO at q
  split at q
  · rename_i r' hr
    cases q
    exact hg pins s σ H xs us Q I rx ⟨G, ds, _, e, hp, hr, m⟩
  · exact hh pins s σ H xs us Q I rx ⟨G, ds, _, e, hp, q, m⟩

/-! ### operators on ints -/
def oI (C : Int → Int → Bool) (g : Int → Int → D) : D → D → Option RV
  | .int i, .int j => if C i j then some (.fz (g i j)) else none
  | _, _ => none
theorem opd_I {f : Value → Value → Sem Value} {C : Int → Int → Prop} {B : Int → Int → Bool} {gV : Int → Int → V} {g : Int → Int → D} (h : OpR X f (rI C gV)) (hB : ∀ i j, B i j = true → C i j) (hg : ∀ G i j, Rep c G (gV i j) (g i j)) : OpR X f (rD c (oI B g)) :=
  opr_imp h fun x y H Q ⟨G, a, b, r, e, ha, hb, q, m⟩ => by
    cases a with
    | int i =>
      cases b with
      | int j =>
        cases ha
        cases hb
        simp only [oI] at q
        split at q
        · rename_i hc
          cases q
          exact ⟨i, j, rfl, rfl, hB i j hc, m.flat e (hg G i j)⟩
        · cases q
      | _ => cases q
    | _ => cases b <;> cases q
theorem opd_I0 {f : Value → Value → Sem Value} {gV : Int → Int → V} {g : Int → Int → D} (h : OpR X f (rI0 gV)) (hg : ∀ G i j, Rep c G (gV i j) (g i j)) : OpR X f (rD c (oI (fun _ _ => true) g)) :=
  opd_I (C := fun _ _ => True) (fun pins s σ H x y v u Q I rx ry ⟨i, j, h1, h2, _, q⟩ => h pins s σ H x y v u Q I rx ry ⟨i, j, h1, h2, q⟩) (fun _ _ _ => trivial) hg
def mulOk (i j : Int) : Bool := decide (i.natAbs < 2 ^ 64) || decide (j.natAbs < 2 ^ 64) || decide (i.natAbs.log2 + j.natAbs.log2 < 1000000)
def divOk (i j : Int) : Bool := decide (0 < j) && decide (j.natAbs.log2 < 9000)
def powOk (i j : Int) : Bool := decide (0 ≤ j) && decide (j ≤ 1000000) && decide (i.natAbs < 2 ^ 64)
def addI := oI (fun _ _ => true) fun i j => .int (i + j)
def subI := oI (fun _ _ => true) fun i j => .int (i - j)
def mulI := oI mulOk fun i j => .int (i * j)
def divI := oI divOk fun i j => .int (i / j)
def modI := oI (fun _ j => decide (0 < j)) fun i j => .int (i % j)
def powI := oI powOk fun i j => .int (i ^ j.toNat)
theorem d_addI : OpR X (binaryOp .Add) (rD c addI) := opd_I0 op_add fun _ _ _ => .int _
theorem d_subI : OpR X (binaryOp .Sub) (rD c subI) := opd_I0 op_sub fun _ _ _ => .int _
def CMul2 (i j : Int) : Prop := CMul i j ∨ CMulW i j
theorem op_mul2 : OpR X (binaryOp .Mult) (rI CMul2 fun i j => .int (i * j)) := fun pins s σ H x y v u Q I rx ry ⟨i, j, h1, h2, h3, q⟩ => by
  rcases h3 with h3 | h3
  · exact op_mul pins s σ H x y v u Q I rx ry ⟨i, j, h1, h2, h3, q⟩
  · exact op_mulW pins s σ H x y v u Q I rx ry ⟨i, j, h1, h2, h3, q⟩
theorem d_mulI : OpR X (binaryOp .Mult) (rD c mulI) := opd_I op_mul2 (fun i j h => by
  unfold mulOk at h
  simp only [Bool.or_eq_true, decide_eq_true_eq] at h
  rcases h with (h | h) | h
  · exact .inl (.inl ⟨by omega, by omega⟩)
  · exact .inl (.inr ⟨by omega, by omega⟩)
  · exact .inr h) fun _ _ _ => .int _
theorem d_divI : OpR X (binaryOp .FloorDiv) (rD c divI) := opd_I op_fdivW (fun i j h => by
  unfold divOk at h
  simp only [Bool.and_eq_true, decide_eq_true_eq] at h
  exact h) fun _ _ _ => .int _
theorem d_modI : OpR X (binaryOp .Mod) (rD c modI) := opd_I op_mod (fun i j h => of_decide_eq_true h) fun _ _ _ => .int _
theorem d_powI : OpR X (binaryOp .Pow) (rD c powI) := opd_I op_pow (fun i j h => by
  unfold powOk at h
  simp only [Bool.and_eq_true, decide_eq_true_eq] at h
  exact ⟨h.1.1, h.1.2, h.2⟩) fun _ _ _ => .int _
def ltI := oI (fun _ _ => true) fun i j => .bl (decide (i < j))
def leI := oI (fun _ _ => true) fun i j => .bl (decide (i ≤ j))
def gtI := oI (fun _ _ => true) fun i j => .bl (decide (j < i))
def geI := oI (fun _ _ => true) fun i j => .bl (decide (j ≤ i))
theorem d_ltI : OpR X (compareOp .Lt) (rD c ltI) := opd_I0 op_lt fun _ _ _ => .bl _
theorem d_leI : OpR X (compareOp .LtE) (rD c leI) := opd_I0 op_le fun _ _ _ => .bl _
theorem d_gtI : OpR X (compareOp .Gt) (rD c gtI) := opd_I0 op_gt fun _ _ _ => .bl _
theorem d_geI : OpR X (compareOp .GtE) (rD c geI) := opd_I0 op_ge fun _ _ _ => .bl _

/-! ### == of data -/
mutual
def py : D → PyData
  | .non => .none
  | .bl b => .bool b
  | .int i => .int i
  | .str s => .str s
  | .tup l => .tuple (pys l)
  | .tux l => .tuple (pys l)
  | .lst l => .list (pys l)
  | .frl _ => .dict []
  | .ty _ => .dict []
  | .gl _ => .dict []
  | .dct _ => .dict []
  | .obj _ _ => .dict []
  | .ins _ _ => .dict []
def pys : List D → List PyData
  | [] => []
  | d :: l => py d :: pys l
end
def plainD (d : D) : Bool := SeqAt.shaped (py d)
mutual
theorem Rep.dp {c : Cfg} {H : Hp} : ∀ {d : D} {v : V}, (py d).canLay0 = true → Rep c H v d → Dp c.K H v (py d)
  | .non, _, _, .non => .non
  | .bl _, _, _, .bl b => .bl b
  | .int _, _, _, .int i => .int i
  | .str _, _, _, .str s => .str s
  | .tup l, _, h, .tup a r => by
    rw [py]
    exact .tup a (Reps.dp (by rw [py] at h; simpa [PyData.canLay0] using h) r)
  | .tux l, _, h, .tux a r => by
    rw [py]
    exact .tup a.sqt (Reps.dp (by rw [py] at h; simpa [PyData.canLay0] using h) r)
  | .lst l, _, h, .lst a r => by
    rw [py]
    exact .lst (.of a) (Reps.dp (by rw [py] at h; simpa [PyData.canLay0] using h) r)
  | .frl _, _, h, _ => by rw [py] at h; cases h
  | .ty _, _, h, _ => by rw [py] at h; cases h
  | .gl _, _, h, _ => by rw [py] at h; cases h
  | .dct _, _, h, _ => by rw [py] at h; cases h
  | .obj _ _, _, h, _ => by rw [py] at h; cases h
  | .ins _ _, _, h, _ => by rw [py] at h; cases h
theorem Reps.dp {c : Cfg} {H : Hp} : ∀ {ds : List D} {vs : List V}, PyData.canLayAll0 (pys ds) = true → Reps c H vs ds → DpAll c.K H vs (pys ds)
  | [], _, _, .nil => by rw [pys]; exact .nil
  | d :: ds, _, h, .cons r t => by
    rw [pys] at h ⊢
    have h' : (py d).canLay0 = true ∧ PyData.canLayAll0 (pys ds) = true := by simpa [PyData.canLayAll0] using h
    exact .cons (Rep.dp h'.1 r) (Reps.dp h'.2 t)
end
def eqD (a b : D) : Option RV := if plainD a && plainD b then some (.fz (.bl (PyData.eqv (py a) (py b)))) else none
def neD (a b : D) : Option RV := if plainD a && plainD b then some (.fz (.bl (!PyData.eqv (py a) (py b)))) else none
theorem d_eqD (hc : c.K = X.K) (hu : X.A.units + 64 < cLine) : OpR X (compareOp .Eq) (rD c eqD) := opr_imp (op_eqD hu) fun x y H Q ⟨G, a, b, r, e, ha, hb, q, m⟩ => by
  unfold eqD at q
  split at q
  · rename_i h
    cases q
    rw [Bool.and_eq_true] at h
    exact ⟨py a, py b, hc ▸ Rep.dp (SeqAt.canLay_of_shaped h.1) (ha.rep e), hc ▸ Rep.dp (SeqAt.canLay_of_shaped h.2) (hb.rep e), h.1, h.2, m.flat e (.bl _)⟩
  · cases q
theorem d_neD (hc : c.K = X.K) (hu : X.A.units + 64 < cLine) : OpR X (compareOp .NotEq) (rD c neD) := opr_imp (op_neD hu) fun x y H Q ⟨G, a, b, r, e, ha, hb, q, m⟩ => by
  unfold neD at q
  split at q
  · rename_i h
    cases q
    rw [Bool.and_eq_true] at h
    exact ⟨py a, py b, hc ▸ Rep.dp (SeqAt.canLay_of_shaped h.1) (ha.rep e), hc ▸ Rep.dp (SeqAt.canLay_of_shaped h.2) (hb.rep e), h.1, h.2, m.flat e (.bl _)⟩
  · cases q
def isNon : D → Bool
  | .non => true
  | _ => false
theorem Pk.isNon {c : Cfg} {G H : Hp} {v : V} {d : D} (e : Same G H) (h : Pk c G H v d) : decide (v = .non) = M.isNon d := by
  cases Pk.rep e h <;> simp [M.isNon]
def isN (a b : D) : Option RV := if isNon b then some (.fz (.bl (isNon a))) else none
def isNotN (a b : D) : Option RV := if isNon b then some (.fz (.bl (!isNon a))) else none
theorem d_isN : OpR X (compareOp .Is) (rD c isN) := opr_imp op_isN fun x y H Q ⟨G, a, b, r, e, ha, hb, q, m⟩ => by
  unfold isN at q
  split at q
  · rename_i h
    cases q
    refine ⟨of_decide_eq_true ((hb.isNon e).trans h), ?_⟩
    rw [ha.isNon e]
    exact m.flat e (.bl _)
  · cases q
theorem d_isNotN : OpR X (compareOp .IsNot) (rD c isNotN) := opr_imp op_notN fun x y H Q ⟨G, a, b, r, e, ha, hb, q, m⟩ => by
  unfold isNotN at q
  split at q
  · rename_i h
    cases q
    refine ⟨of_decide_eq_true ((hb.isNon e).trans h), ?_⟩
    rw [ha.isNon e]
    exact m.flat e (.bl _)
  · cases q

/-! ### lists and tuples together, repeated -/
def maxLen : Nat := 16777216
theorem maxLen_eq : sizeLine = maxLen := sizeLine_eq
def addL : D → D → Option RV
  | .lst x, .lst y => if x.length + y.length ≤ maxLen then some (.ow (.lst (x ++ y))) else none
  | _, _ => none
def addT : D → D → Option RV
  | .tup x, .tup y => if x.length + y.length ≤ maxLen then some (.fz (.tup (x ++ y))) else none
  | _, _ => none
theorem d_addT (hc : c.K = X.K) : OpR X (binaryOp .Add) (rD c addT) := opr_imp op_catA fun x y H Q ⟨G, a, b, r, e, ha, hb, q, m⟩ => by
  cases a with
  | tup xs =>
    cases b with
    | tup ys =>
      simp only [addT] at q
      split at q
      · rename_i hl
        cases q
        cases ha with
        | tup h1 r1 =>
          cases hb with
          | tup h2 r2 =>
            refine ⟨_, _, _, _, rfl, rfl, hc ▸ sqt_mono e h1, hc ▸ sqt_mono e h2, by rw [maxLen_eq, r1.length, r2.length]; exact hl, ?_, ?_, ?_⟩
            · intro z
              subst z
              cases r1
              exact m.flat e (.tup h2 r2)
            · intro _ z
              subst z
              cases r2
              rw [List.append_nil] at m
              exact m.flat e (.tup h1 r1)
            · intro _ _ p hp
              exact m.tup e (r1.append r2) hp
      · cases q
    | _ => cases q
  | _ => cases b <;> cases q
end
end M

namespace M
open PySem L2

section
variable {X : Cx} {c : Cfg}
theorem ixr_imp {r r' : R2} (h : IxR X r) (i : ∀ x y H Q, r' x y H Q → r x y H Q) : IxR X r' := fun a b pins s σ H x y v u Q I rx ry q => h a b pins s σ H x y v u Q I rx ry (i x y H Q q)
theorem ixd_or {g h : D → D → Option RV} (hg : IxR X (rD c g)) (hh : IxR X (rD c h)) : IxR X (rD c (orO2 g h)) := fun e1 e2 pins s σ H x y v u Q I rx ry ⟨G, a, b, r, e, ha, hb, q, m⟩ => by
  unfold orO2 at q
  split at q
  · rename_i r' hr
    cases q
    exact hg e1 e2 pins s σ H x y v u Q I rx ry ⟨G, a, b, _, e, ha, hb, hr, m⟩
  · exact hh e1 e2 pins s σ H x y v u Q I rx ry ⟨G, a, b, _, e, ha, hb, q, m⟩
theorem d_addL : OpR X (binaryOp .Add) (rD c addL) := opr_imp op_cat fun x y H Q ⟨G, a, b, r, e, ha, hb, q, m⟩ => by
  cases a with
  | lst xs =>
    cases b with
    | lst ys =>
      simp only [addL] at q
      split at q
      · rename_i hl
        cases q
        obtain ⟨p1, vs1, rfl, h1, r1⟩ := ha
        obtain ⟨p2, vs2, rfl, h2, r2⟩ := hb
        exact ⟨_, _, _, _, rfl, rfl, h1, h2, by rw [maxLen_eq, r1.length, r2.length]; exact hl, fun p hp => m.lst e (r1.append r2) hp⟩
      · cases q
    | _ => cases q
  | _ => cases b <;> cases q
theorem Reps.flat {G : Hp} {vs : List V} {ds : List D} (h : Reps c G vs ds) : ∀ n, Reps c G (List.replicate n vs).flatten (List.replicate n ds).flatten
  | 0 => .nil
  | n + 1 => by rw [List.replicate_succ, List.replicate_succ, List.flatten_cons, List.flatten_cons]; exact h.append (Reps.flat h n)
def mulL : D → D → Option RV
  | .lst x, .int k => if decide (-(2 ^ 63) ≤ k) && decide (k < 2 ^ 63) && decide (x.length * k.toNat ≤ maxLen) then some (.ow (.lst (List.replicate k.toNat x).flatten)) else none
  | _, _ => none
theorem d_mulL : OpR X (binaryOp .Mult) (rD c mulL) := opr_imp op_rep fun x y H Q ⟨G, a, b, r, e, ha, hb, q, m⟩ => by
  cases a with
  | lst xs =>
    cases b with
    | int k =>
      simp only [mulL] at q
      split at q
      · rename_i hl
        cases q
        simp only [Bool.and_eq_true, decide_eq_true_eq] at hl
        obtain ⟨p1, vs1, rfl, h1, r1⟩ := ha
        cases hb
        exact ⟨_, _, _, rfl, rfl, h1, hl.1.1, hl.1.2, by rw [maxLen_eq, r1.length]; exact hl.2, fun p hp => m.lst e (r1.flat _) hp⟩
      · cases q
    | _ => cases q
  | _ => cases b <;> cases q
def addS : D → D → Option RV
  | .str x, .str y => if x.length + y.length ≤ maxLen then some (.fz (.str (x ++ y))) else none
  | _, _ => none
theorem d_addS : OpR X (binaryOp .Add) (rD c addS) := opr_imp op_add_str fun x y H Q ⟨G, a, b, r, e, ha, hb, q, m⟩ => by
  cases a with
  | str xs =>
    cases b with
    | str k =>
      simp only [addS] at q
      split at q
      · rename_i hl
        cases q
        cases ha
        cases hb
        exact ⟨_, _, rfl, rfl, by rw [maxLen_eq]; exact hl, m.flat e (.str _)⟩
      · cases q
    | _ => cases q
  | _ => cases b <;> cases q
def addD := orO2 addI (orO2 addL (orO2 addT addS))
def mulD := orO2 mulI mulL
theorem d_add (hc : c.K = X.K) : OpR X (binaryOp .Add) (rD c addD) := opd_or d_addI (opd_or d_addL (opd_or (d_addT hc) d_addS))
theorem d_mul : OpR X (binaryOp .Mult) (rD c mulD) := opd_or d_mulI d_mulL

/-! ### an item -/
theorem atI_reps {G : Hp} {vs : List V} {ds : List D} {i : Int} {d : D} (h : Reps c G vs ds) (e : atI ds i = some d) : ∃ v, atI vs i = some v ∧ Rep c G v d := by
  unfold atI at e ⊢
  rw [h.length]
  cases q : ixN ds.length i with
  | none => rw [q] at e; cases e
  | some j => rw [q] at e; exact h.get e
def ixD : D → D → Option RV
  | .lst x, .int i => (atI x i).map .fz
  | .frl x, .int i => (atI x i).map .fz
  | .tup x, .int i => (atI x i).map .fz
  | _, _ => none
theorem d_ix (hc : c.K = X.K) : IxR X (rD c ixD) := ixr_imp (IxR.or ix_list ix_tup) fun x y H Q ⟨G, a, b, r, e, ha, hb, q, m⟩ => by
  cases b with
  | int i =>
    have go : ∀ {ds : List D} {vs : List V}, Reps c G vs ds → (atI ds i).map RV.fz = some r → ∃ v, atI vs i = some v ∧ Q v H := fun {ds vs} hr q => by
      cases z : atI ds i with
      | none => rw [z] at q; cases q
      | some d =>
        rw [z] at q
        cases q
        obtain ⟨v, h1, h2⟩ := atI_reps hr z
        exact ⟨v, h1, m.flat e h2⟩
    cases hb
    cases a with
    | lst xs =>
      obtain ⟨p1, vs1, rfl, h1, r1⟩ := ha
      obtain ⟨v, h2, h3⟩ := go r1 q
      exact .inl ⟨_, _, _, _, rfl, rfl, .of h1, h2, h3⟩
    | frl xs =>
      obtain ⟨p1, vs1, rfl, h1, r1⟩ := ha
      obtain ⟨v, h2, h3⟩ := go r1 q
      exact .inl ⟨_, _, _, _, rfl, rfl, hc ▸ h1, h2, h3⟩
    | tup xs =>
      cases ha with
      | tup h1 r1 =>
        obtain ⟨v, h2, h3⟩ := go r1 q
        exact .inr ⟨_, _, _, _, rfl, rfl, hc ▸ sqt_mono e h1, h2, h3⟩
    | _ => cases q
  | _ => cases a <;> cases q

/-! ### in -/
def toV : D → V
  | .bl b => .bl b
  | .int i => .int i
  | .str s => .str s
  | _ => .non
def flatD : D → Bool
  | .non => true
  | .bl _ => true
  | .int _ => true
  | .str _ => true
  | _ => false
theorem Rep.flatV {G : Hp} {v : V} {d : D} (h : Rep c G v d) (f : flatD d = true) : v = toV d ∧ L2.flatV v = true := by
  cases d <;> first | (cases f; done) | (cases h; exact ⟨rfl, rfl⟩)
theorem Reps.flatV {G : Hp} : ∀ {vs : List V} {ds : List D}, Reps c G vs ds → ds.all flatD = true → vs = ds.map toV ∧ vs.all L2.flatV = true
  | _, _, .nil, _ => ⟨rfl, rfl⟩
  | _, _, .cons r t, f => by
    rw [List.all_cons, Bool.and_eq_true] at f
    obtain ⟨h1, h2⟩ := Rep.flatV r f.1
    obtain ⟨h3, h4⟩ := Reps.flatV t f.2
    rw [List.map_cons, List.all_cons, h2, h4, ← h1, ← h3]
    exact ⟨rfl, rfl⟩
def inS (neg : Bool) (a : D) (l : List D) : Option RV := if flatD a && l.all flatD then some (.fz (.bl (if neg then !inV (toV a) (l.map toV) else inV (toV a) (l.map toV)))) else none
def inD (neg : Bool) (a b : D) : Option RV := match b with
  | .lst l => inS neg a l
  | .frl l => inS neg a l
  | .tup l => inS neg a l
  | _ => none
theorem in_aux {neg : Bool} {G H : Hp} {x y : V} {a b : D} {r : RV} {Q : VK} (e : Same G H) (ha : Pk c G H x a) (hb : Pk c G H y b) (q : inD neg a b = some r) (m : Made c G H r Q) : rIn c.K neg x y H Q := by
  have go : ∀ {ds : List D} {vs : List V}, Reps c G vs ds → inS neg a ds = some r → L2.flatV x = true ∧ vs.all L2.flatV = true ∧ Q (.bl (if neg then !inV x vs else inV x vs)) H := fun {ds vs} hr q => by
    unfold inS at q
    split at q
    · rename_i h
      cases q
      rw [Bool.and_eq_true] at h
      obtain ⟨h1, h2⟩ := Rep.flatV (ha.rep e) h.1
      obtain ⟨h3, h4⟩ := Reps.flatV hr h.2
      rw [h1, h3]
      exact ⟨h1 ▸ h2, h3 ▸ h4, m.flat e (.bl _)⟩
    · cases q
  cases b with
  | lst xs =>
    obtain ⟨p1, vs1, rfl, h1, r1⟩ := hb
    exact ⟨_, _, rfl, .inl (.of h1), go r1 q⟩
  | frl xs =>
    obtain ⟨p1, vs1, rfl, h1, r1⟩ := hb
    exact ⟨_, _, rfl, .inl h1, go r1 q⟩
  | tup xs =>
    cases hb with
    | tup h1 r1 => exact ⟨_, _, rfl, .inr (sqt_mono e h1), go r1 q⟩
  | _ => cases q
theorem d_in (hc : c.K = X.K) : OpR X (compareOp .In) (rD c (inD false)) := opr_imp op_in_seq fun x y H Q ⟨G, a, b, r, e, ha, hb, q, m⟩ => hc ▸ in_aux e ha hb q m
theorem d_notin (hc : c.K = X.K) : OpR X (compareOp .NotIn) (rD c (inD true)) := opr_imp op_notIn_seq fun x y H Q ⟨G, a, b, r, e, ha, hb, q, m⟩ => hc ▸ in_aux e ha hb q m

/-! ### truth -/
def truD : D → Option Bool
  | .non => some false
  | .bl b => some b
  | .int i => some (i != 0)
  | .lst l => some (!l.isEmpty)
  | .tup l => some (!l.isEmpty)
  | .str s => if s.length ≤ maxLen then some ((s.length : Int) != 0) else none
  | _ => none
theorem tru_D {G H : Hp} {v : V} {d : D} {b : Bool} (e : Same G H) (h : Pk c G H v d) (q : truD d = some b) : TruV c.K v H b := by
  have le : ∀ {vs : List V} {ds : List D}, Reps c G vs ds → (!ds.isEmpty) = !vs.isEmpty := fun {vs ds} h => by cases h <;> rfl
  cases d with
  | non => cases h; cases q; rfl
  | bl k => cases h; cases q; rfl
  | int i => cases h; cases q; rfl
  | str s =>
    cases h
    simp only [truD] at q
    split at q
    · rename_i hl
      cases q
      exact ⟨by rw [maxLen_eq]; exact hl, rfl⟩
    · cases q
  | lst l =>
    cases q
    obtain ⟨p, vs, rfl, h1, r⟩ := h
    exact .inl ⟨vs, .of h1, le r⟩
  | tup l =>
    cases q
    cases h with
    | tup h1 r => exact .inr (.inl ⟨_, sqt_mono e h1, le r⟩)
  | _ => cases q
end

/-! ### expressions -/
def mVar (j : Nat) : EM := fun E => match E[j]? with
  | none => .bad
  | some .un => .bad
  | _ => .ok (.sl j) E
def mC (d : D) : EM := fun E => .ok (.fz d) E
def mBin (op : D → D → Option RV) (ma mb : EM) : EM := fun E => (ma E).bind fun a E1 => (mb E1).bind fun b E2 => match pk E2 a.settle, pk E2 b.settle with
  | some x, some y => match op x y with
    | some r => .ok r E2
    | none => .bad
  | _, _ => .bad
def mUn (op : D → Option RV) (ma : EM) : EM := fun E => (ma E).bind fun a E1 => match pk E1 a.settle with
  | some x => match op x with
    | some r => .ok r E1
    | none => .bad
  | _ => .bad
def mBad : EM := fun _ => .bad
def tBad : BM := fun _ => .bad
/-- a value as a test -/
def tTru (ma : EM) : BM := fun E => (ma E).bind fun a E1 => match pk E1 a.settle with
  | some x => match truD x with
    | some b => .ok b E1
    | none => .bad
  | _ => .bad
/-- a comparison as a test -/
def tCmpM (op : D → D → Option RV) (ma mb : EM) : BM := fun E => (ma E).bind fun a E1 => (mb E1).bind fun b E2 => match pk E2 a.settle, pk E2 b.settle with
  | some x, some y => match op x y with
    | some (.fz (.bl k)) => .ok k E2
    | _ => .bad
  | _, _ => .bad
def tAndM (ta tb : BM) : BM := fun E => (ta E).bind fun a E1 => if a then tb E1 else .ok false E1
def tOrM (ta tb : BM) : BM := fun E => (ta E).bind fun a E1 => if a then .ok true E1 else tb E1
def tNotM (ta : BM) : BM := fun E => (ta E).bind fun a E1 => .ok (!a) E1
def mIf (t : BM) (ma mb : EM) : EM := fun E => (t E).bind fun b E1 => if b then ma E1 else mb E1
/-- and, or as values: all but the last True or False -/
def mAndV (ma mb : EM) : EM := fun E => (ma E).bind fun a E1 => match pk E1 a.settle with
  | some (.bl k) => if k then mb E1 else .ok (.fz (.bl false)) E1
  | _ => .bad
def mOrV (ma mb : EM) : EM := fun E => (ma E).bind fun a E1 => match pk E1 a.settle with
  | some (.bl k) => if k then .ok (.fz (.bl true)) E1 else mb E1
  | _ => .bad
def mNotV (ma : EM) : EM := fun E => (ma E).bind fun a E1 => match pk E1 a.settle with
  | some (.bl k) => .ok (.fz (.bl (!k))) E1
  | _ => .bad
def aNil : AM := fun E => .ok [] E
def aCons (ma : EM) (mr : AM) : AM := fun E => (ma E).bind fun a E1 => (mr E1).bind fun rs E2 => .ok (a.settle :: rs) E2
def pks (E : Ev) : List RV → Option (List D)
  | [] => some []
  | r :: rs => match pk E r, pks E rs with
    | some d, some ds => some (d :: ds)
    | _, _ => none
def fzs : Ev → List RV → Option (List D × Ev)
  | E, [] => some ([], E)
  | E, r :: rs => match fzn E r with
    | some (d, E1) => match fzs E1 rs with
      | some (ds, E2) => some (d :: ds, E2)
      | none => none
    | none => none
def mTup (ma : AM) : EM := fun E => (ma E).bind fun rs E1 => match fzs E1 rs with
  | some (ds, E2) => if ds.length ≤ maxLen then .ok (.fz (.tup ds)) E2 else .bad
  | none => .bad
def mLst (ma : AM) : EM := fun E => (ma E).bind fun rs E1 => match fzs E1 rs with
  | some (ds, E2) => if ds.length ≤ maxLen then .ok (.ow (.lst ds)) E2 else .bad
  | none => .bad
/-- a built-in by values -/
def mCall (op : List D → Option RV) (ma : AM) : EM := fun E => (ma E).bind fun rs E1 => match pks E1 rs with
  | some ds => match op ds with
    | some r => .ok r E1
    | none => .bad
  | none => .bad

section
variable {X : Cx} {c : Cfg} {W : WX} {a b e : Expr} {es : List Expr} {ma mb : EM} {mr : AM} {pos : Pos}
theorem de_bad : PE X e (tE c W mBad) := ⟨fun pins s σ H Q I ⟨f, G, E, R, h⟩ => h.elim⟩
theorem dt_bad : PT X e (tT c W tBad) := ⟨fun pins s σ H Q I ⟨f, G, E, R, h⟩ => h.elim⟩
theorem de_var {i : Nat} {x : Str} (h : PE X (.Name x pos) (tVar i)) : PE X (.Name x pos) (tE c W (mVar i)) := pe_imp h fun σ H Q ⟨f, G, E, R, h⟩ => by
  unfold mVar at h
  split at h
  · exact h.elim
  · exact h.elim
  · rename_i h1 h2
    cases q : E[i]? with
    | none => exact absurd q h1
    | some s =>
      cases s with
      | un => exact absurd q h2
      | xv =>
        obtain ⟨v, _, e⟩ := R.xv i q
        exact ⟨v, e, h G v H (.refl G) R e⟩
      | fz d =>
        obtain ⟨v, e, _⟩ := R.fz i d q
        exact ⟨v, e, h G v H (.refl G) R e⟩
      | ow m =>
        obtain ⟨p, e, _⟩ := R.ow i m q
        exact ⟨_, e, h G _ H (.refl G) R e⟩
      | bo m =>
        obtain ⟨p, e, _⟩ := R.bo i m q
        exact ⟨_, e, h G _ H (.refl G) R e⟩
theorem de_c {v : V} {d : D} (h : PE X e (tC v)) (r : ∀ G, Rep c G v d) : PE X e (tE c W (mC d)) := pe_imp h fun σ H Q ⟨f, G, E, R, h⟩ => h G v H (.refl G) R (r G)
theorem de_int {i j} : PE X (.Constant (.int i) j pos) (tE c W (mC (.int i))) := de_c pe_int fun _ => .int _
theorem de_str {i j} : PE X (.Constant (.str i) j pos) (tE c W (mC (.str i))) := de_c pe_str fun _ => .str _
theorem de_bl {i j} : PE X (.Constant (.bool i) j pos) (tE c W (mC (.bl i))) := de_c pe_bl fun _ => .bl _
theorem de_non {j} : PE X (.Constant .none j pos) (tE c W (mC .non)) := de_c pe_non fun _ => .non
/-- the reading of two operands, then an operation -/
theorem bin_read {op : D → D → Option RV} {σ : L2.St} {H : Hp} {Q : VK} (h : tE c W (mBin op ma mb) σ H Q) : tOp (rD c op) (tE c W ma) (tE c W mb) σ H Q := by
  obtain ⟨f, G, E, R, h⟩ := h
  refine tE_bindE R h fun ra E1 G1 v H1 e1 R1 r1 h1 => ?_
  refine tE_bindE R1 h1 fun rb E2 G2 w H2 e2 R2 r2 h2 => ?_
  split at h2
  · rename_i x y px py
    split at h2
    · rename_i r hr
      exact ⟨G2, x, y, r, R2.gh, R2.pk (r1.mono_settled e2) px, R2.pk r2 py, hr, fun G' v' H' g rel => h2 G' v' H' g.gg (R2.gro g) (RelN.rel R2 rel)⟩
    · exact h2.elim
  · exact h2.elim
theorem de_op {op : Operator} {g : D → D → Option RV} (ho : OpR X (binaryOp op) (rD c g)) (ha : PE X a (tE c W ma)) (hb : PE X b (tE c W mb)) : PE X (.BinOp a op b pos) (tE c W (mBin g ma mb)) :=
  pe_imp (pe_op ho ha hb) fun _ _ _ h => bin_read h
theorem de_cmp {op : CmpOp} {g : D → D → Option RV} (ho : OpR X (compareOp op) (rD c g)) (ha : PE X a (tE c W ma)) (hb : PE X b (tE c W mb)) (hm : behindInMarks op b = false) : PE X (.Compare a [op] [b] pos) (tE c W (mBin g ma mb)) :=
  pe_imp (pe_cmpR ho ha hb hm) fun _ _ _ h => bin_read h
theorem dt_cmp {op : CmpOp} {g : D → D → Option RV} (ho : OpR X (compareOp op) (rD c g)) (ha : PE X a (tE c W ma)) (hb : PE X b (tE c W mb)) (hm : behindInMarks op b = false) : PT X (.Compare a [op] [b] pos) (tT c W (tCmpM g ma mb)) :=
  pt_imp (pt_cmpR ho ha hb hm) fun σ H Q h => by
    obtain ⟨f, G, E, R, h⟩ := h
    refine tE_bindT R h fun ra E1 G1 v H1 e1 R1 r1 h1 => ?_
    refine tE_bindT R1 h1 fun rb E2 G2 w H2 e2 R2 r2 h2 => ?_
    split at h2
    · rename_i x y px py
      split at h2
      · rename_i k hr
        refine ⟨G2, x, y, _, R2.gh, R2.pk (r1.mono_settled e2) px, R2.pk r2 py, hr, fun G' v' H' g rel => ?_⟩
        cases rel
        exact ⟨k, rfl, h2 G' H' g.gg (R2.gro g)⟩
      · exact h2.elim
    · exact h2.elim
theorem de_ix {g : D → D → Option RV} (ho : IxR X (rD c g)) (ha : PE X a (tE c W ma)) (hb : PE X b (tE c W mb)) (hs : PlainIx b) : PE X (.Subscript a b pos) (tE c W (mBin g ma mb)) :=
  pe_imp (pe_ix ho ha hb hs) fun _ _ _ h => bin_read h
theorem un_read {op : D → Option RV} {σ : L2.St} {H : Hp} {Q : VK} (h : tE c W (mUn op ma) σ H Q) : tUn (rD1 c op) (tE c W ma) σ H Q := by
  obtain ⟨f, G, E, R, h⟩ := h
  refine tE_bindE R h fun ra E1 G1 v H1 e1 R1 r1 h1 => ?_
  split at h1
  · rename_i x px
    split at h1
    · rename_i r hr
      exact ⟨G1, x, r, R1.gh, R1.pk r1 px, hr, fun G' v' H' g rel => h1 G' v' H' g.gg (R1.gro g) (RelN.rel R1 rel)⟩
    · exact h1.elim
  · exact h1.elim
def negI : D → Option RV
  | .int i => some (.fz (.int (-i)))
  | _ => none
theorem de_neg (ha : PE X a (tE c W ma)) : PE X (.UnaryOp .USub a pos) (tE c W (mUn negI ma)) := pe_imp (pe_un un_neg ha) fun σ H Q h => by
  obtain ⟨f, G, E, R, h⟩ := h
  refine tE_bindE R h fun ra E1 G1 v H1 e1 R1 r1 h1 => ?_
  split at h1
  · rename_i x px
    split at h1
    · rename_i r hr
      cases x with
      | int i =>
        cases hr
        have rep := R1.pk r1 px
        cases rep
        exact ⟨i, rfl, h1 G1 _ H1 (.refl _) R1 (.int _)⟩
      | _ => cases hr
    · exact h1.elim
  · exact h1.elim
/-- a value as a test -/
theorem dt_tru (hc : c.K = X.K) (ha : PE X a (tE c W ma)) (he : ∀ whole, isTrue a X.env whole = (do let v ← whole; standAt a.pos; holding [v] (truthy v))) : PT X a (tT c W (tTru ma)) := pt_imp (pt_truth ha he) fun σ H Q h => by
  obtain ⟨f, G, E, R, h⟩ := h
  refine tE_bindT R h fun ra E1 G1 v H1 e1 R1 r1 h1 => ?_
  split at h1
  · rename_i x px
    split at h1
    · rename_i k hr
      exact ⟨k, hc ▸ tru_D R1.gh (R1.pk r1 px) hr, h1 G1 H1 (.refl _) R1⟩
    · exact h1.elim
  · exact h1.elim
variable {ta tb : BM} {rest : List Expr}
theorem dw_and1 (ha : PT X a (tT c W ta)) : PW X (.BoolOp .And [a] pos) (tT c W ta) := pw_and1 ha
theorem dw_or1 (ha : PT X a (tT c W ta)) : PW X (.BoolOp .Or [a] pos) (tT c W ta) := pw_or1 ha
theorem dw_and (ha : PT X a (tT c W ta)) (hb : PW X (.BoolOp .And (b :: rest) pos) (tT c W tb)) : PW X (.BoolOp .And (a :: b :: rest) pos) (tT c W (tAndM ta tb)) := pw_imp (pw_and ha hb) fun σ H Q h => by
  obtain ⟨f, G, E, R, h⟩ := h
  refine tT_bindT R h fun k E1 G1 H1 e1 R1 h1 => ?_
  cases k with
  | true => exact ⟨f, G1, E1, R1, h1⟩
  | false => exact h1 G1 H1 (.refl _) R1
theorem dw_or (ha : PT X a (tT c W ta)) (hb : PW X (.BoolOp .Or (b :: rest) pos) (tT c W tb)) : PW X (.BoolOp .Or (a :: b :: rest) pos) (tT c W (tOrM ta tb)) := pw_imp (pw_or ha hb) fun σ H Q h => by
  obtain ⟨f, G, E, R, h⟩ := h
  refine tT_bindT R h fun k E1 G1 H1 e1 R1 h1 => ?_
  cases k with
  | false => exact ⟨f, G1, E1, R1, h1⟩
  | true => exact h1 G1 H1 (.refl _) R1
theorem dt_not (ha : PT X a (tT c W ta)) : PT X (.UnaryOp .Not a pos) (tT c W (tNotM ta)) := pt_imp (pt_not ha) fun σ H Q h => by
  obtain ⟨f, G, E, R, h⟩ := h
  exact tT_bindT R h fun k E1 G1 H1 e1 R1 h1 => h1 G1 H1 (.refl _) R1
theorem de_ifExp {t : Expr} (hc : PT X t (tT c W ta)) (ha : PE X a (tE c W ma)) (hb : PE X b (tE c W mb)) : PE X (.IfExp t a b pos) (tE c W (mIf ta ma mb)) := pe_imp (pe_ifExp hc ha hb) fun σ H Q h => by
  obtain ⟨f, G, E, R, h⟩ := h
  refine tT_bindE R h fun k E1 G1 H1 e1 R1 h1 => ?_
  cases k with
  | true => exact ⟨f, G1, E1, R1, h1⟩
  | false => exact ⟨f, G1, E1, R1, h1⟩
theorem de_and (ha : PE X a (tE c W ma)) (hb : PE X (.BoolOp .And (b :: rest) pos) (tE c W mb)) : PE X (.BoolOp .And (a :: b :: rest) pos) (tE c W (mAndV ma mb)) := pe_imp (pe_and ha hb) fun σ H Q h => by
  obtain ⟨f, G, E, R, h⟩ := h
  refine tE_bindE R h fun ra E1 G1 v H1 e1 R1 r1 h1 => ?_
  split at h1
  · rename_i k px
    have rep := R1.pk r1 px
    cases rep
    refine ⟨k, rfl, ?_⟩
    cases k with
    | true => exact ⟨f, G1, E1, R1, h1⟩
    | false => exact h1 G1 _ H1 (.refl _) R1 (.bl _)
  · exact h1.elim
theorem de_or (ha : PE X a (tE c W ma)) (hb : PE X (.BoolOp .Or (b :: rest) pos) (tE c W mb)) : PE X (.BoolOp .Or (a :: b :: rest) pos) (tE c W (mOrV ma mb)) := pe_imp (pe_or ha hb) fun σ H Q h => by
  obtain ⟨f, G, E, R, h⟩ := h
  refine tE_bindE R h fun ra E1 G1 v H1 e1 R1 r1 h1 => ?_
  split at h1
  · rename_i k px
    have rep := R1.pk r1 px
    cases rep
    refine ⟨k, rfl, ?_⟩
    cases k with
    | true => exact h1 G1 _ H1 (.refl _) R1 (.bl _)
    | false => exact ⟨f, G1, E1, R1, h1⟩
  · exact h1.elim
theorem de_not (ha : PE X a (tE c W ma)) : PE X (.UnaryOp .Not a pos) (tE c W (mNotV ma)) := pe_imp (pe_not ha) fun σ H Q h => by
  obtain ⟨f, G, E, R, h⟩ := h
  refine tE_bindE R h fun ra E1 G1 v H1 e1 R1 r1 h1 => ?_
  split at h1
  · rename_i k px
    have rep := R1.pk r1 px
    cases rep
    exact ⟨k, rfl, h1 G1 _ H1 (.refl _) R1 (.bl _)⟩
  · exact h1.elim
theorem settle_settle (r : RV) : r.settle.settle = r.settle := by cases r <;> rfl
theorem RelRs.mono {f : Fr} {G G' : Hp} {E E' : Ev} {σ : L2.St} {H H' : Hp} (e : Same G G') {vs : List V} {rs : List RV} (h : RelRs c f G E σ H vs rs) : RelRs c f G' E' σ H' vs rs := by
  induction h with
  | nil => exact .nil
  | cons z h t ih =>
    refine .cons z ?_ ih
    rw [← z] at h ⊢
    exact h.mono_settled e
theorem da_nil : PA X [] (tA c W aNil) := pa_imp pa_nil fun σ H Q ⟨f, G, E, R, h⟩ => h G [] H (.refl _) R .nil
theorem da_cons (ha : PE X e (tE c W ma)) (hr : PA X es (tA c W mr)) (hs : starEach (e :: es) X.env = (false, eval e X.env) :: starEach es X.env := by rfl) : PA X (e :: es) (tA c W (aCons ma mr)) :=
  pa_imp (pa_cons ha hr hs) fun σ H Q h => by
    obtain ⟨f, G, E, R, h⟩ := h
    refine tE_bindA R h fun ra E1 G1 v H1 e1 R1 r1 h1 => ?_
    refine tA_bindA R1 h1 fun rs E2 G2 vs H2 e2 R2 r2 h2 => ?_
    exact h2 G2 _ H2 (.refl _) R2 (.cons (settle_settle _) (r1.mono_settled e2) r2)
theorem pks_pk {f : Fr} {G : Hp} {E : Ev} {σ : L2.St} {H : Hp} (R : RS c f G E σ H) {vs : List V} {rs : List RV} (h : RelRs c f G E σ H vs rs) : ∀ {ds : List D}, pks E rs = some ds → Pks c G H vs ds := by
  induction h with
  | nil => intro ds q; cases q; exact .nil
  | cons z h t ih =>
    intro ds q
    simp only [pks] at q
    split at q
    · rename_i d ds' h1 h2
      cases q
      exact .cons (R.pk h h1) (ih h2)
    · cases q
theorem fzs_rep {f : Fr} {σ : L2.St} {H : Hp} : ∀ {rs : List RV} {vs : List V} {G : Hp} {E E' : Ev} {ds : List D}, RS c f G E σ H → RelRs c f G E σ H vs rs → fzs E rs = some (ds, E') → ∃ G', Same G G' ∧ RS c f G' E' σ H ∧ Reps c G' vs ds := by
  intro rs
  induction rs with
  | nil => intro vs G E E' ds R h q; cases h; cases q; exact ⟨G, .refl G, R, .nil⟩
  | cons r rs ih =>
    intro vs G E E' ds R h q
    cases h with
    | cons z h t =>
      simp only [fzs] at q
      split at q
      · rename_i d E1 h1
        split at q
        · rename_i ds' E2 h2
          cases q
          obtain ⟨G1, e1, R1, rep⟩ := R.frz h h1
          obtain ⟨G2, e2, R2, reps⟩ := ih R1 (t.mono e1) h2
          exact ⟨G2, e1.trans e2, R2, .cons (rep.mono e2) reps⟩
        · cases q
      · cases q
theorem de_tup {k : Nat} (ha : PA X es (tA c W mr)) : PE X (.Tuple es k pos) (tE c W (mTup mr)) := pe_imp (pe_tup ha) fun σ H Q h => by
  obtain ⟨f, G, E, R, h⟩ := h
  refine tA_bindE R h fun rs E1 G1 vs H1 e1 R1 r1 h1 => ?_
  split at h1
  · rename_i ds E2 hf
    split at h1
    · rename_i hl
      obtain ⟨G2, e2, R2, rep⟩ := fzs_rep R1 r1 hf
      refine ⟨by rw [maxLen_eq, rep.length]; exact hl, fun p hp => ?_⟩
      have g := Gro.newG (o := HO.tup vs) R2.gh hp
      exact h1 _ _ _ (e2.trans g.gg) (R2.gro g) (.tup (.inl (.inl upd_same)) (rep.mono g.gg))
    · exact h1.elim
  · exact h1.elim
theorem de_lst (ha : PA X es (tA c W mr)) : PE X (.List es pos) (tE c W (mLst mr)) := pe_imp (pe_lst ha) fun σ H Q h => by
  obtain ⟨f, G, E, R, h⟩ := h
  refine tA_bindE R h fun rs E1 G1 vs H1 e1 R1 r1 h1 => ?_
  split at h1
  · rename_i ds E2 hf
    split at h1
    · rename_i hl
      obtain ⟨G2, e2, R2, rep⟩ := fzs_rep R1 r1 hf
      refine ⟨by rw [maxLen_eq, rep.length]; exact hl, fun p hp => ?_⟩
      have g := Gro.newH (o := HO.lst vs) R2.gh hp
      exact h1 _ _ _ e2 (R2.gro g) (RelN.rel (r := .ow (.lst ds)) R2 ⟨p, rfl, ⟨vs, upd_same, rep⟩, none_of R2.gh hp, hp⟩)
    · exact h1.elim
  · exact h1.elim
theorem call_read {op : List D → Option RV} {σ : L2.St} {H : Hp} {Q : VK} (h : tE c W (mCall op mr) σ H Q) : tCB (rDn c op) (tA c W mr) σ H Q := by
  obtain ⟨f, G, E, R, h⟩ := h
  refine tA_bindE R h fun rs E1 G1 vs H1 e1 R1 r1 h1 => ?_
  split at h1
  · rename_i ds hp
    split at h1
    · rename_i r hr
      exact ⟨G1, ds, r, R1.gh, pks_pk R1 r1 hp, hr, fun G' v' H' g rel => h1 G' v' H' g.gg (R1.gro g) (RelN.rel R1 rel)⟩
    · exact h1.elim
  · exact h1.elim
theorem de_callB {id : String} {x : Str} {p : Pos} {op : List D → Option RV} (hc : CallR X (.builtin id) (rDn c op)) (hg : Gl X x) (hm : X.mg x = none) (hv : bootBuiltins x = some (.builtin id)) (ha : PA X (e :: es) (tA c W mr)) (hn : x ≠ "__name__" := by decide) (hdb : (x == ("__debug__" : Str)) = false := by decide)
    (he : starEach (e :: es) X.env = (false, eval e X.env) :: starEach es X.env := by rfl) (hpl : (backTo pos (starEach es X.env)).any (·.1) = false := by rfl) : PE X (.Call (.Name x p) (e :: es) [] pos) (tE c W (mCall op mr)) :=
  pe_imp (pe_callB hc hg hm hv ha hn hdb he hpl) fun _ _ _ h => call_read h
theorem de_callT {T : String} {x : Str} {p : Pos} {op : List D → Option RV} (hc : CallR X (.type T) (rDn c op)) (hg : Gl X x) (hm : X.mg x = none) (hv : bootBuiltins x = some (.type T)) (ha : PA X (e :: es) (tA c W mr)) (hn : x ≠ "__name__" := by decide) (hdb : (x == ("__debug__" : Str)) = false := by decide)
    (he : starEach (e :: es) X.env = (false, eval e X.env) :: starEach es X.env := by rfl) (hpl : (backTo pos (starEach es X.env)).any (·.1) = false := by rfl) : PE X (.Call (.Name x p) (e :: es) [] pos) (tE c W (mCall op mr)) :=
  pe_imp (pe_callTy hc hg hm hv ha hn hdb he hpl) fun _ _ _ h => call_read h
end
end M

namespace M
open PySem L2

/-! ### stores -/
def notBo (E : Ev) (i : Nat) : Bool := match E[i]? with
  | some (.bo _) => false
  | _ => true
def asg (E : Ev) (i : Nat) (r : RV) : Option Ev := if notBo E i then match r with
    | .fz d => some (E.set i (.fz d))
    | .ow m => some (E.set i (.ow m))
    | .sl j => match fzn E (.sl j) with
      | some (d, E1) => some (E1.set i (.fz d))
      | none => none
  else none
theorem notBo_ne {E : Ev} {i : Nat} (h : notBo E i = true) : ∀ m, E[i]? ≠ some (Slot.bo m) := fun m e => by
  unfold notBo at h
  rw [e] at h
  cases h
section
variable {c : Cfg} {f : Fr} {G G' : Hp} {E E' : Ev} {σ : L2.St} {H H' : Hp} {v : V} {d : D} {m : MO} {r : RV}
theorem fzn_notBo {r : RV} {i : Nat} (e : fzn E r = some (d, E')) (h : ∀ m, E[i]? ≠ some (Slot.bo m)) : ∀ m, E'[i]? ≠ some (Slot.bo m) := by
  cases r with
  | fz d' => cases e; exact h
  | ow m => cases e; exact h
  | sl j =>
    cases q : E[j]? with
    | none => simp [fzn, q] at e
    | some s =>
      cases s with
      | un => simp [fzn, q] at e
      | xv => simp [fzn, q] at e
      | bo m => simp [fzn, q] at e
      | fz d' =>
        simp [fzn, q] at e
        obtain ⟨rfl, rfl⟩ := e
        exact h
      | ow m =>
        simp [fzn, q] at e
        obtain ⟨rfl, rfl⟩ := e
        intro m' z
        rcases get_set z with ⟨_, z⟩ | ⟨_, z⟩
        · cases z
        · exact h m' z
theorem RS.asg (R : RS c f G E σ H) {i : Nat} (h : RelR c f G E σ H v r) (e : M.asg E i r = some E') : ∃ G', Same G G' ∧ RS c f G' E' (σ.set i (some v)) H := by
  unfold M.asg at e
  split at e
  · rename_i hb
    have nb := notBo_ne hb
    cases r with
    | fz d => cases e; exact ⟨G, .refl G, R.setFz nb h⟩
    | ow m => cases e; exact ⟨G, .refl G, R.setOw nb h⟩
    | sl j =>
      simp only at e
      split at e
      · rename_i d E1 hf
        cases e
        obtain ⟨G', e1, R1, rep⟩ := R.frz h hf
        exact ⟨G', e1, R1.setFz (fzn_notBo hf nb) rep⟩
      · cases e
  · cases e
/-- a further object that is kept as it is -/
def Fr.plus (f : Fr) (p : Addr) (o : HO) : Fr := { f with H0 := upd f.H0 p o }
theorem RS.plus (R : RS c f G E σ H) {p : Addr} {o : HO} (hp : H p = some o) (hg : G p = none) (hn : ∀ i, ¬ Own E σ i p) : RS c (f.plus p o) G E σ H where
  gh := R.gh
  g0 := R.g0
  new := fun a u h => by
    rcases R.new a u h with z | z
    · exact .inl z
    · refine .inr ?_
      show upd f.H0 p o a = none
      rw [upd_ne (ne_of_none h hg)]
      exact z
  fr := fun a u h hb => by
    by_cases z : a = p
    · subst z
      have h : upd f.H0 a o a = some u := h
      rw [upd_same] at h
      rw [hp]
      exact h
    · have h : upd f.H0 p o a = some u := h
      rw [upd_ne z] at h
      exact R.fr a u h hb
  len := R.len
  fz := R.fz
  ow := fun i m e => by
    obtain ⟨q, h1, h2, h3, h4⟩ := R.ow i m e
    refine ⟨q, h1, h2, h3, ?_⟩
    show upd f.H0 p o q = none
    rw [upd_ne (fun z => hn i ⟨⟨m, .inl e⟩, by rw [← z]; exact h1⟩)]
    exact h4
  bo := R.bo
  bos := R.bos
  dis := R.dis
  inv := R.inv
  xv := R.xv
theorem RS.minus {p : Addr} {o : HO} (R : RS c (f.plus p o) G E σ H) (h0 : f.H0 p = none) (hg0 : f.G0 p = none) (hb : ∀ i, f.bo i ≠ some p) : RS c f G E σ H ∧ H p = some o ∧ G p = none ∧ ∀ i, ¬ Own E σ i p := by
  have up : upd f.H0 p o p = some o := upd_same
  have lt : ∀ a, upd f.H0 p o a = none → f.H0 a = none ∧ a ≠ p := fun a h => by
    have z : a ≠ p := fun z => by subst z; rw [up] at h; cases h
    rw [upd_ne z] at h
    exact ⟨h, z⟩
  refine ⟨{
    gh := R.gh
    g0 := R.g0
    new := fun a u h => by
      rcases R.new a u h with z | z
      · exact .inl z
      · exact .inr (lt a z).1
    fr := fun a u h hb' => by
      have z : a ≠ p := fun z => by subst z; rw [h0] at h; cases h
      exact R.fr a u (show upd f.H0 p o a = some u by rw [upd_ne z]; exact h) hb'
    len := R.len
    fz := R.fz
    ow := fun i m e => by
      obtain ⟨q, h1, h2, h3, h4⟩ := R.ow i m e
      exact ⟨q, h1, h2, h3, (lt q h4).1⟩
    bo := R.bo
    bos := R.bos
    dis := R.dis
    inv := R.inv
    xv := R.xv }, R.fr p o up hb, ?_, ?_⟩
  · cases q : G p with
    | none => rfl
    | some u =>
      rcases R.new p u q with z | z
      · exact absurd hg0 z
      · have z : upd f.H0 p o p = none := z
        rw [up] at z
        cases z
  · rintro i ⟨⟨m, hm | hm⟩, hs⟩
    · obtain ⟨q, h1, _, _, h4⟩ := R.ow i m hm
      rw [hs] at h1
      cases h1
      exact (lt p h4).2 rfl
    · obtain ⟨q, h1, _, _, h4⟩ := R.bo i m hm
      rw [hs] at h1
      cases h1
      exact hb i h4
theorem RS.g0n (R : RS c f G E σ H) {p : Addr} (hg : G p = none) : f.G0 p = none := none_of R.g0 hg
theorem RS.bon (R : RS c f G E σ H) {p : Addr} (hn : ∀ i, ¬ Own E σ i p) : ∀ i, f.bo i ≠ some p := fun i e => by
  obtain ⟨m, hm⟩ := R.bos i p e
  obtain ⟨q, h1, _, _, h4⟩ := R.bo i m hm
  rw [e] at h4
  cases h4
  exact hn i ⟨⟨m, .inr hm⟩, h1⟩
/-- a new list that is held while other things happen -/
theorem RS.keep (R : RS c f G E σ H) (h : RelR c f G E σ H v (.ow m)) : ∃ f', RS c f' G E σ H ∧ ∀ G' E' H', Same G G' → RS c f' G' E' σ H' → RS c f G' E' σ H' ∧ RelR c f G' E' σ H' v (.ow m) := by
  obtain ⟨p, rfl, ho, hg, h0, hn⟩ := h
  obtain ⟨o, hp⟩ := ho.there
  refine ⟨f.plus p o, R.plus hp hg hn, fun G' E' H' e R' => ?_⟩
  obtain ⟨R1, h1, h2, h3⟩ := R'.minus h0 (R.g0n hg) (R.bon hn)
  exact ⟨R1, p, rfl, ho.mono e (by rw [h1, hp]), h2, h0, h3⟩
/-- a slot is forgotten -/
theorem RS.drop (R : RS c f G E σ H) {i : Nat} (hb : ∀ m, E[i]? ≠ some (Slot.bo m)) : RS c f G (E.set i .un) σ H := by
  have own : ∀ {j : Nat} {q : Addr}, Own (E.set i Slot.un) σ j q → i ≠ j ∧ Own E σ j q := fun {j q} z => by
    obtain ⟨⟨m1, z1⟩, z2⟩ := z
    have n : i ≠ j := fun n => by
      subst n
      rcases z1 with z1 | z1
      · rcases get_set z1 with ⟨_, z⟩ | ⟨n, _⟩
        · cases z
        · exact n rfl
      · rcases get_set z1 with ⟨_, z⟩ | ⟨n, _⟩
        · cases z
        · exact n rfl
    rw [List.getElem?_set_ne n] at z1
    exact ⟨n, ⟨m1, z1⟩, z2⟩
  exact {
    gh := R.gh
    g0 := R.g0
    new := R.new
    fr := R.fr
    len := by rw [List.length_set]; exact R.len
    fz := fun j d e => by
      rcases get_set e with ⟨_, z⟩ | ⟨_, z⟩
      · cases z
      · exact R.fz j d z
    ow := fun j d e => by
      rcases get_set e with ⟨_, z⟩ | ⟨_, z⟩
      · cases z
      · exact R.ow j d z
    bo := fun j d e => by
      rcases get_set e with ⟨_, z⟩ | ⟨_, z⟩
      · cases z
      · exact R.bo j d z
    bos := fun j q e => by
      obtain ⟨m1, hm⟩ := R.bos j q e
      have n : i ≠ j := fun n => by subst n; exact hb _ hm
      exact ⟨m1, by rw [List.getElem?_set_ne n]; exact hm⟩
    dis := fun j k q n a b => R.dis j k q n (own a).2 (own b).2
    inv := R.inv
    xv := fun j e => by
      rcases get_set e with ⟨_, z⟩ | ⟨_, z⟩
      · cases z
      · exact R.xv j z }
/-- .. or anything that is no slot's -/
theorem RS.keepR (R : RS c f G E σ H) (h : RelR c f G E σ H v r) (hr : ∀ j, r ≠ .sl j) : ∃ f', RS c f' G E σ H ∧ (∀ q, f'.H0 q = none → f.H0 q = none ∧ ∀ m, r = .ow m → v ≠ .ref q) ∧
    ∀ G' E' H', Same G G' → RS c f' G' E' σ H' → RS c f G' E' σ H' ∧ RelR c f G' E' σ H' v r := by
  cases r with
  | sl j => exact absurd rfl (hr j)
  | fz d => exact ⟨f, R, fun q hq => ⟨hq, fun m z => by cases z⟩, fun G' E' H' e R' => ⟨R', Rep.mono e h⟩⟩
  | ow m =>
    obtain ⟨p, rfl, ho, hg, h0, hn⟩ := h
    obtain ⟨o, hp⟩ := ho.there
    refine ⟨f.plus p o, R.plus hp hg hn, fun q hq => ?_, fun G' E' H' e R' => ?_⟩
    · have hq : upd f.H0 p o q = none := hq
      have z : q ≠ p := fun z => by subst z; rw [upd_same] at hq; cases hq
      rw [upd_ne z] at hq
      exact ⟨hq, fun m' _ e => z (by injection e with e; exact e.symm)⟩
    · obtain ⟨R1, h1, h2, h3⟩ := R'.minus h0 (R.g0n hg) (R.bon hn)
      exact ⟨R1, p, rfl, ho.mono e (by rw [h1, hp]), h2, h0, h3⟩
end
/-- what a slot holds is given up, the rest stays -/
def rz (E : Ev) : RV → Option (RV × Ev)
  | .fz d => some (.fz d, E)
  | .ow m => some (.ow m, E)
  | .sl j => match fzn E (.sl j) with
    | some (d, E1) => some (.fz d, E1)
    | none => none
section
variable {c : Cfg} {f : Fr} {G G' : Hp} {E E' : Ev} {σ : L2.St} {H H' : Hp} {v : V} {r r' : RV}
theorem RS.rz (R : RS c f G E σ H) (h : RelR c f G E σ H v r) (e : M.rz E r = some (r', E')) : (∀ j, r' ≠ .sl j) ∧ ∃ G', Same G G' ∧ RS c f G' E' σ H ∧ RelR c f G' E' σ H v r' := by
  cases r with
  | fz d => cases e; exact ⟨(fun j z => by cases z), G, .refl G, R, h⟩
  | ow m => cases e; exact ⟨(fun j z => by cases z), G, .refl G, R, h⟩
  | sl j =>
    simp only [M.rz] at e
    split at e
    · rename_i d E1 q
      cases e
      obtain ⟨G', e1, R1, rep⟩ := R.frz h q
      exact ⟨(fun j z => by cases z), G', e1, R1, rep⟩
    · cases e
/-- a value that is no slot's is stored -/
def put (E : Ev) (i : Nat) : RV → Option Ev
  | .fz d => if notBo E i then some (E.set i (.fz d)) else none
  | .ow m => if notBo E i then some (E.set i (.ow m)) else none
  | .sl _ => none
theorem RS.put (R : RS c f G E σ H) {i : Nat} (h : RelR c f G E σ H v r) (e : M.put E i r = some E') : RS c f G E' (σ.set i (some v)) H := by
  cases r with
  | sl j => cases e
  | fz d =>
    simp only [M.put] at e
    split at e
    · rename_i hb; cases e; exact R.setFz (notBo_ne hb) h
    · cases e
  | ow m =>
    simp only [M.put] at e
    split at e
    · rename_i hb; cases e; exact R.setOw (notBo_ne hb) h
    · cases e
theorem RelR.put {i : Nat} {w : V} (hr : ∀ j, r' ≠ .sl j) (h : RelR c f G E σ H w r') (e : M.put E i r = some E') (dif : ∀ m m', r = .ow m → r' = .ow m' → v ≠ w) : RelR c f G E' (σ.set i (some v)) H w r' := by
  cases r' with
  | sl j => exact absurd rfl (hr j)
  | fz d => exact h
  | ow m' =>
    obtain ⟨p, rfl, h1, h2, h3, h4⟩ := h
    refine ⟨p, rfl, h1, h2, h3, fun k o => ?_⟩
    obtain ⟨⟨m1, z1⟩, z2⟩ := o
    cases r with
    | sl j => cases e
    | fz d =>
      simp only [M.put] at e
      split at e
      · cases e
        exact h4 k (own_of_set_fz ⟨⟨m1, z1⟩, z2⟩).2
      · cases e
    | ow m =>
      simp only [M.put] at e
      split at e
      · cases e
        by_cases n : i = k
        · subst n
          rcases get_set z2 with ⟨_, z⟩ | ⟨n, _⟩
          · injection z with z
            exact dif m m' rfl rfl z.symm
          · exact n rfl
        · rw [List.getElem?_set_ne n] at z1 z2
          exact h4 k ⟨⟨m1, z1⟩, z2⟩
      · cases e
end

/-! ### statements -/
def sNil : SM := fun E => .nx E
def sSeq (a b : SM) : SM := fun E => match a E with
  | .nx E1 => b E1
  | o => o
def sBad : SM := fun _ => .bad
def sSet (i : Nat) (m : EM) : SM := fun E => (m E).out fun r E1 => match asg E1 i r with
  | some E2 => .nx E2
  | none => .bad
/-- a, b = x, y -/
def sPar (i j : Nat) (ma mb : EM) : SM := fun E => (ma E).out fun a E1 => match rz E1 a with
  | some (ra, E2) => (mb E2).out fun b E3 => match rz E3 b with
    | some (rb, E4) => match put E4 i ra with
      | some E5 => match put E5 j rb with
        | some E6 => .nx E6
        | none => .bad
      | none => .bad
    | none => .bad
  | none => .bad
def sDrop (m : EM) : SM := fun E => (m E).out fun _ E1 => .nx E1
def retv (E : Ev) : RV → Out
  | .fz d => .rt (.fz d) E
  | .ow m => .rt (.ow m) E
  | .sl j => match E[j]? with
    | some (.fz d) => .rt (.fz d) E
    | some (.ow m) => .rt (.ow m) (E.set j .un)
    | _ => .bad
def sRet (m : EM) : SM := fun E => (m E).out fun r E1 => retv E1 r
def sRetN : SM := fun E => .rt (.fz .non) E
def sIf (t : BM) (a b : SM) : SM := fun E => (t E).out fun k E1 => if k then a E1 else b E1
def sBrk : SM := fun E => .bk E
def sCt : SM := fun E => .ct E
abbrev TgM := D → Ev → Option Ev
def tgName (i : Nat) : TgM := fun d E => if notBo E i then some (E.set i (.fz d)) else none
def tgs : List TgM → List D → Ev → Option Ev
  | [], [], E => some E
  | t :: ts, d :: ds, E => match t d E with
    | some E1 => tgs ts ds E1
    | none => none
  | _, _, _ => none
def tgTup (ts : List TgM) : TgM := fun d E => match d with
  | .tup ds => tgs ts ds E
  | .tux ds => tgs ts ds E
  | .lst ds => tgs ts ds E
  | .frl ds => tgs ts ds E
  | _ => none
def sAsg (t : TgM) (m : EM) : SM := fun E => (m E).out fun r E1 => match fzn E1 r with
  | some (d, E2) => match t d E2 with
    | some E3 => .nx E3
    | none => .bad
  | none => .bad
def SameBut (S : List Nat) (σ σ' : L2.St) : Prop := σ'.length = σ.length ∧ ∀ j, j ∉ S → σ'[j]? = σ[j]?
def tG (c : Cfg) (t : TgM) (S : List Nat) : TG := fun v σ H Q => ∃ f G E d E', RS c f G E σ H ∧ Rep c G v d ∧ t d E = some E' ∧ ∀ σ', RS c f G E' σ' H → SameBut S σ σ' → Q σ' H
def tGs (c : Cfg) (ts : List TgM) (S : List Nat) : TGs := fun vs σ H Q => ∃ f G E ds E', RS c f G E σ H ∧ Reps c G vs ds ∧ tgs ts ds E = some E' ∧ ∀ σ', RS c f G E' σ' H → SameBut S σ σ' → Q σ' H
section
variable {X : Cx} {c : Cfg} {W : WX} {e tg : Expr} {es : List Expr} {st : Stmt} {sts : List Stmt} {m ma mb : EM} {a b : SM} {pos : Pos}
theorem ds_bad : PS X st (tS c W sBad) := ⟨fun pins s σ H Q I ⟨f, G, E, R, h⟩ => h.elim⟩
theorem dss_bad : PSs X sts (tS c W sBad) := ⟨fun pins s σ H Q I ⟨f, G, E, R, h⟩ => h.elim⟩
theorem dss_nil : PSs X [] (tS c W sNil) := pss_imp pss_nil fun Dn σ H ⟨f, G, E, R, h⟩ => h G σ H (.refl _) R
theorem dss_cons (h1 : PS X st (tS c W a)) (h2 : PSs X sts (tS c W b)) : PSs X (st :: sts) (tS c W (sSeq a b)) := pss_imp (pss_cons h1 h2) fun Dn σ H ⟨f, G, E, R, h⟩ => by
  refine ⟨f, G, E, R, ?_⟩
  unfold sSeq at h
  cases q : a E with
  | nx E1 => rw [q] at h; exact fun G' σ' H' e R' => ⟨f, G', E1, R', postS_mono e h⟩
  | rt r E1 => rw [q] at h; exact h
  | bk E1 => rw [q] at h; exact h
  | ct E1 => rw [q] at h; exact h
  | ex x E1 => rw [q] at h; exact h
  | bad => rw [q] at h; exact h.elim
theorem ds_set {i : Nat} {x : Str} {pos' : Pos} (hN : X.N.Nodup) (hi : X.N[i]? = some x) (hx : Loc X.env.scope x) (he : PE X e (tE c W m)) (hs : swapsWith e (some (.Name x pos')) pos.line X.env = pure false := by rfl) (hf : X.fn x = true ∨ X.env.scope.names.lookup x = some .local := by first | exact .inl rfl | exact .inr rfl | assumption) :
    PS X (.Assign [.Name x pos'] e pos) (tS c W (sSet i m)) := ps_imp (ps_set hN hi hx he hs hf) fun Dn σ H ⟨f, G, E, R, h⟩ =>
  tE_outS R h fun r E1 G1 v H1 e1 R1 r1 h1 => by
    split at h1
    · rename_i E2 q
      obtain ⟨G2, e2, R2⟩ := R1.asg r1 q
      exact h1 G2 _ H1 e2 R2
    · exact h1.elim
theorem ds_par {i j : Nat} (h : PS X st (tPar i j (tCons (tE c W ma) (tCons (tE c W mb) tNil)))) : PS X st (tS c W (sPar i j ma mb)) := ps_imp h fun Dn σ H ⟨f, G, E, R, h⟩ => by
  refine tE_outS R h fun r E1 G1 v H1 s1 R1 r1 h1 => ?_
  split at h1
  · rename_i ra E2 q2
    obtain ⟨na, G2, s2, R2, ra2⟩ := R1.rz r1 q2
    obtain ⟨f', R2', hf, back⟩ := R2.keepR ra2 na
    refine tE_raw R2' ?_
    have h2 := postS_out h1
    cases qb : mb E2 with
    | bad => rw [qb] at h2; exact h2
    | ex x E3 => rw [qb] at h2; exact fun G' cls d H' e R' rel => h2 σ G' cls d H' (s2.trans e) (back G' E3 H' e R').1 rel
    | ok b E3 =>
      rw [qb] at h2
      intro G3 w H3 s3 R3 rb
      simp only at h2
      split at h2
      · rename_i rb' E4 q4
        obtain ⟨nb, G4, s4, R4, rb4⟩ := R3.rz rb q4
        obtain ⟨R4f, ra4⟩ := back G4 E4 H3 (s3.trans s4) R4
        have dif : ∀ m m', ra = .ow m → rb' = .ow m' → v ≠ w := fun m m' e1 e2 z => by
          subst e2
          obtain ⟨p', hw, _, _, h0', _⟩ := rb4
          exact (hf p' h0').2 m e1 (z.trans hw)
        have rb4f : RelR c f G4 E4 σ H3 w rb' := by
          cases rb' with
          | sl j => exact absurd rfl (nb j)
          | fz d => exact rb4
          | ow m' =>
            obtain ⟨p', hw, x1, x2, x3, x4⟩ := rb4
            exact ⟨p', hw, x1, x2, (hf p' x3).1, x4⟩
        split at h2
        · rename_i E5 q5
          split at h2
          · rename_i E6 q6
            have R5 := R4f.put ra4 q5
            have rb5 := RelR.put (v := v) nb rb4f q5 dif
            have R6 := R5.put rb5 q6
            exact ⟨v, w, rfl, h2 G4 _ H3 ((s2.trans s3).trans s4) R6⟩
          · exact h2.elim
        · exact h2.elim
      · exact h2.elim
  · exact h1.elim
theorem ds_drop (he : PE X e (tE c W m)) (hs : swapsWith e none pos.line X.env = pure false := by rfl) : PS X (.Expr e pos) (tS c W (sDrop m)) := ps_imp (ps_expr he hs) fun Dn σ H ⟨f, G, E, R, h⟩ =>
  tE_outS R h fun r E1 G1 v H1 e1 R1 r1 h1 => h1 G1 σ H1 (.refl _) R1
theorem ds_ret (he : PE X e (tE c W m)) : PS X (.Return (some e) pos) (tS c W (sRet m)) := ps_imp (ps_ret he) fun Dn σ H ⟨f, G, E, R, h⟩ =>
  tE_outS R h fun r E1 G1 v H1 e1 R1 r1 h1 => by
    cases r with
    | fz d => exact h1 G1 σ v H1 (.refl _) R1 r1
    | ow m => exact h1 G1 σ v H1 (.refl _) R1 r1
    | sl j =>
      have hs : σ[j]? = some (some v) := r1
      simp only [retv] at h1
      split at h1
      · rename_i d q
        obtain ⟨u, x1, x2⟩ := R1.fz j d q
        rw [hs] at x1
        cases x1
        exact h1 G1 σ v H1 (.refl _) R1 x2
      · rename_i m q
        obtain ⟨p, x1, x2, x3, x4⟩ := R1.ow j m q
        rw [hs] at x1
        cases x1
        refine h1 G1 σ _ H1 (.refl _) (R1.drop (fun m' z => by rw [q] at z; cases z)) ⟨p, rfl, x2, x3, x4, fun k o => ?_⟩
        have n : j ≠ k := fun n => by
          subst n
          obtain ⟨⟨m1, z1⟩, _⟩ := o
          rcases z1 with z1 | z1
          · rcases get_set z1 with ⟨_, z⟩ | ⟨n, _⟩
            · cases z
            · exact n rfl
          · rcases get_set z1 with ⟨_, z⟩ | ⟨n, _⟩
            · cases z
            · exact n rfl
        obtain ⟨⟨m1, z1⟩, z2⟩ := o
        rw [List.getElem?_set_ne n] at z1
        exact R1.dis j k p n ⟨⟨m, .inl q⟩, hs⟩ ⟨⟨m1, z1⟩, z2⟩
      · exact h1.elim
theorem ds_retN : PS X (.Return none pos) (tS c W sRetN) := ps_imp ps_retN fun Dn σ H ⟨f, G, E, R, h⟩ => h G σ .non H (.refl _) R .non
theorem ds_if {t : Expr} {sa sb : List Stmt} {tm : BM} (hc : PT X t (tT c W tm)) (ha : PSs X sa (tS c W a)) (hb : PSs X sb (tS c W b)) : PS X (.If t sa sb pos) (tS c W (sIf tm a b)) := ps_imp (ps_if hc ha hb) fun Dn σ H ⟨f, G, E, R, h⟩ =>
  tT_outS R h fun k E1 G1 H1 e1 R1 h1 => by
    cases k with
    | true => exact ⟨f, G1, E1, R1, h1⟩
    | false => exact ⟨f, G1, E1, R1, h1⟩
theorem ds_brk : PS X (.Break pos) (tS c W sBrk) := ps_imp ps_break fun Dn σ H ⟨f, G, E, R, h⟩ => h G σ H (.refl _) R
theorem ds_ct : PS X (.Continue pos) (tS c W sCt) := ps_imp ps_continue fun Dn σ H ⟨f, G, E, R, h⟩ => h G σ H (.refl _) R
theorem ds_pass : PS X (.Pass pos) (tS c W sNil) := ps_imp ps_pass fun Dn σ H ⟨f, G, E, R, h⟩ => h G σ H (.refl _) R
theorem ds_doc {x j pos'} : PS X (.Expr (.Constant (.str x) j pos) pos') (tS c W sNil) := ps_imp ps_doc fun Dn σ H ⟨f, G, E, R, h⟩ => h G σ H (.refl _) R

/-! ### targets -/
variable {t : TgM} {ts : List TgM} {S S' : List Nat}
theorem pg_imp {g g' : TG} (h : PG X tg g) (i : ∀ v σ H Q, g' v σ H Q → g v σ H Q) : PG X tg g' := ⟨fun pins s σ H v u Q I r q => h.run pins s σ H v u Q I r (i v σ H Q q)⟩
theorem pgs_imp {g g' : TGs} (h : PGs X es g) (i : ∀ v σ H Q, g' v σ H Q → g v σ H Q) : PGs X es g' := ⟨fun pins s σ H v u Q I r q => h.run pins s σ H v u Q I r (i v σ H Q q)⟩
theorem dg_name {i : Nat} {x : Str} (h : PG X (.Name x pos) (gName i)) : PG X (.Name x pos) (tG c (tgName i) [i]) := pg_imp h fun v σ H Q ⟨f, G, E, d, E', R, rep, e, k⟩ => by
  unfold tgName at e
  split at e
  · rename_i hb
    cases e
    exact k _ (R.setFz (notBo_ne hb) rep) ⟨List.length_set, fun j hj => List.getElem?_set_ne (fun z => hj (by rw [z]; exact List.mem_singleton.mpr rfl))⟩
  · cases e
theorem dgs_nil : PGs X [] (tGs c [] []) := pgs_imp pgs_nil fun vs σ H Q ⟨f, G, E, ds, E', R, rep, e, k⟩ => by
  cases rep with
  | nil => cases e; exact ⟨rfl, k σ R ⟨rfl, fun _ _ => rfl⟩⟩
  | cons _ _ => cases e
theorem dgs_cons (h1 : PG X e (tG c t S)) (h2 : PGs X es (tGs c ts S')) (hs : (assignEach (e :: es) X.env).map (·.2) = assign e X.env :: (assignEach es X.env).map (·.2) := by rfl) : PGs X (e :: es) (tGs c (t :: ts) (S ++ S')) :=
  pgs_imp (pgs_cons h1 h2 hs) fun vs σ H Q ⟨f, G, E, ds, E', R, rep, e, k⟩ => by
    cases rep with
    | nil => cases e
    | cons r rs =>
      simp only [tgs] at e
      split at e
      · rename_i E1 q
        refine ⟨_, _, rfl, f, G, E, _, E1, R, r, q, fun σ' R' sb => ⟨f, G, E1, _, E', R', rs, e, fun σ2 R2 sb2 => k σ2 R2 ⟨sb2.1.trans sb.1, fun j hj => ?_⟩⟩⟩
        exact (sb2.2 j (fun z => hj (List.mem_append_right _ z))).trans (sb.2 j (fun z => hj (List.mem_append_left _ z)))
      · cases e
theorem tgs_len : ∀ {ts : List TgM} {ds : List D} {E E' : Ev}, tgs ts ds E = some E' → ds.length = ts.length
  | [], [], _, _, _ => rfl
  | [], _ :: _, _, _, h => by cases h
  | _ :: _, [], _, _, h => by cases h
  | t :: ts, d :: ds, E, E', h => by
    simp only [tgs] at h
    split at h
    · simp [tgs_len h]
    · cases h
theorem pg_or {t1 t2 : L2.TG} {e : Expr} (h1 : PG X e t1) (h2 : PG X e t2) : PG X e (fun v σ H Q => t1 v σ H Q ∨ t2 v σ H Q) :=
  ⟨fun pins s σ H v u Q I r h => h.elim (h1.run pins s σ H v u Q I r) (h2.run pins s σ H v u Q I r)⟩
theorem dg_tup {k n : Nat} (hK : c.K = X.K) (hc : X.calm = true) (h : PGs X es (tGs c ts S)) (hl : ts.length = n) (hn : (assignEach es X.env).length = n := by rfl) (hst : (assignEach es X.env).findIdx? (·.1) = none := by rfl) : PG X (.Tuple es k pos) (tG c (tgTup ts) S) :=
  pg_imp (pg_or (pg_tup hc h hn hst) (pg_unl hc h hn hst)) fun v σ H Q ⟨f, G, E, d, E', R, rep, e, kk⟩ => by
    unfold tgTup at e
    split at e
    · rename_i ds
      cases rep with
      | tup h1 r1 => exact .inl ⟨_, _, rfl, hK ▸ sqt_mono R.gh h1, by rw [r1.length, tgs_len e, hl], f, G, E, ds, E', R, r1, e, kk⟩
    · rename_i ds
      cases rep with
      | tux h1 r1 => exact .inl ⟨_, _, rfl, hK ▸ sqt_mono R.gh h1.sqt, by rw [r1.length, tgs_len e, hl], f, G, E, ds, E', R, r1, e, kk⟩
    · rename_i ds
      cases rep with
      | lst h1 r1 => exact .inr ⟨_, _, rfl, .inl (.inl (R.gh _ _ h1)), by rw [r1.length, tgs_len e, hl], f, G, E, ds, E', R, r1, e, kk⟩
    · rename_i ds
      cases rep with
      | frl h1 r1 => exact .inr ⟨_, _, rfl, hK ▸ sql_mono R.gh h1, by rw [r1.length, tgs_len e, hl], f, G, E, ds, E', R, r1, e, kk⟩
    · cases e
theorem ds_asg (he : PE X e (tE c W m)) (hg : PG X tg (tG c t S)) (hs : swapsWithSole [tg] e pos.line X.env = pure false := by rfl) (hw : swappedStores [tg] e X.env = pure none := by rfl)
    (h1 : (assignEach [tg] X.env).map (·.2) = [assign tg X.env] := by rfl) : PS X (.Assign [tg] e pos) (tS c W (sAsg t m)) := ps_imp (ps_asg he hg hs hw h1) fun Dn σ H ⟨f, G, E, R, h⟩ =>
  tE_outS R h fun r E1 G1 v H1 e1 R1 r1 h1 => by
    split at h1
    · rename_i d E2 q
      obtain ⟨G2, e2, R2, rep⟩ := R1.frz r1 q
      split at h1
      · rename_i E3 q3
        exact ⟨f, G2, E2, d, E3, R2, rep, q3, fun σ' R' _ => h1 G2 σ' H1 e2 R'⟩
      · exact h1.elim
    · exact h1.elim
end
end M

namespace M
open PySem L2

/-! ### what is owned, changed in place -/
def own (E : Ev) (j : Nat) : Option MO := match E[j]? with
  | some (.ow m) => some m
  | some (.bo m) => some m
  | _ => none
def setOwn (E : Ev) (j : Nat) (m' : MO) : Ev := E.set j (match E[j]? with
  | some (.bo _) => .bo m'
  | _ => .ow m')
section
variable {c : Cfg} {f : Fr} {G G' : Hp} {E E' : Ev} {σ : L2.St} {H H' : Hp} {v : V} {d : D} {m m' : MO}
theorem RS.own (R : RS c f G E σ H) {j : Nat} (h : M.own E j = some m) : ∃ p, σ[j]? = some (some (V.ref p)) ∧ OwnRel c G H p m ∧ (E[j]? = some (Slot.ow m) ∨ E[j]? = some (Slot.bo m)) ∧ G p = none := by
  unfold M.own at h
  split at h
  · rename_i m0 q
    cases h
    obtain ⟨p, h1, h2, h3, _⟩ := R.ow j m q
    exact ⟨p, h1, h2, .inl q, h3⟩
  · rename_i m0 q
    cases h
    obtain ⟨p, h1, h2, h3, _⟩ := R.bo j m q
    exact ⟨p, h1, h2, .inr q, h3⟩
  · cases h
theorem RS.setOwn (R : RS c f G E σ H) {j : Nat} {p : Addr} {o : HO} (hs : σ[j]? = some (some (V.ref p))) (he : E[j]? = some (Slot.ow m) ∨ E[j]? = some (Slot.bo m)) (ho : OwnRel c G (upd H p o) p m') :
    RS c f G (M.setOwn E j m') σ (upd H p o) := R.change hs he ho
end
/-- x.append(e) -/
def mAppend (j : Nat) (m : EM) : EM := fun E => match own E j with
  | some (.lst _) => (m E).bind fun r E1 => match fzn E1 r with
    | some (d, E2) => match own E2 j with
      | some (.lst ds) => if ds.length < maxLen then .ok (.fz .non) (setOwn E2 j (.lst (ds ++ [d]))) else .bad
      | _ => .bad
    | none => .bad
  | _ => .bad
/-- x.extend(e) -/
def mExtend (j : Nat) (m : EM) : EM := fun E => match own E j with
  | some (.lst _) => (m E).bind fun r E1 => match fzn E1 r with
    | some (.lst es, E2) => match own E2 j with
      | some (.lst ds) => if ds.length + es.length ≤ maxLen then .ok (.fz .non) (setOwn E2 j (.lst (ds ++ es))) else .bad
      | _ => .bad
    | _ => .bad
  | _ => .bad
/-- x[i] = e -/
def sSetIx (j : Nat) (mi m : EM) : SM := fun E => (m E).out fun r E1 => match fzn E1 r with
  | some (d, E2) => match own E2 j with
    | some (.lst _) => (mi E2).out fun ri E3 => match pk E3 ri, own E3 j with
      | some (.int i), some (.lst ds) => match ixN ds.length i with
        | some k => .nx (setOwn E3 j (.lst (ds.set k d)))
        | none => .bad
      | _, _ => .bad
    | _ => .bad
  | none => .bad
section
variable {X : Cx} {c : Cfg} {W : WX} {e o : Expr} {es : List Expr} {m mi : EM} {pos apos cpos : Pos}
theorem own_tyV {K : PySem.W.Frag} {G H : Hp} {p : Addr} {ds : List D} (h : OwnRel c G H p (.lst ds)) : tyV K "list" (.ref p) H := by
  obtain ⟨vs, h, _⟩ := h
  exact .inl ⟨rfl, vs, .of h⟩
theorem fzn_settle (E : Ev) (r : RV) : fzn E r.settle = fzn E r := by cases r <;> rfl
theorem pk_settle (E : Ev) (r : RV) : pk E r.settle = pk E r := by
  cases r with
  | ow m => cases m <;> rfl
  | _ => rfl
theorem de_append {x : Str} {j : Nat} {p0 : Pos} (hv : PE X (.Name x p0) (tVar j)) (ha : PE X e (tE c W m))
    (hp : ∀ {to : TE} {t : TA}, PE X (.Name x p0) to → PA X [e] t → PE X o (tBM X.K "list" rAppend to t)) (hs : starEach [e] X.env = (false, eval e X.env) :: starEach [] X.env := by rfl) :
    PE X o (tE c W (mAppend j m)) := pe_imp (hp hv (pa_cons ha pa_nil hs)) fun σ H Q ⟨f, G, E, R, h⟩ => by
  unfold mAppend at h
  split at h
  · rename_i ds0 q0
    obtain ⟨p, hs0, ho0, _⟩ := R.own q0
    refine ⟨_, hs0, own_tyV ho0, ?_⟩
    refine tE_bindE R h fun r E1 G1 v H1 e1 R1 r1 h1 => ?_
    split at h1
    · rename_i d E2 q
      obtain ⟨G2, e2, R2, rep⟩ := R1.frz r1 ((fzn_settle _ _).trans q)
      split at h1
      · rename_i ds q2
        split at h1
        · rename_i hl
          obtain ⟨p2, hs2, ho2, he2, _⟩ := R2.own q2
          rw [hs0] at hs2
          cases hs2
          obtain ⟨vs, hH, reps⟩ := ho2
          refine ⟨p, vs, v, rfl, rfl, hH, by rw [maxLen_eq, reps.length]; exact hl, ?_⟩
          exact h1 G2 _ _ e2 (R2.setOwn hs0 he2 ⟨vs ++ [v], upd_same, reps.append (.cons rep .nil)⟩) .non
        · exact h1.elim
      · exact h1.elim
    · exact h1.elim
  · exact h.elim
theorem de_extend {x : Str} {j : Nat} {p0 : Pos} (hv : PE X (.Name x p0) (tVar j)) (ha : PE X e (tE c W m))
    (hp : ∀ {to : TE} {t : TA}, PE X (.Name x p0) to → PA X [e] t → PE X o (tBM X.K "list" rExtend to t)) (hs : starEach [e] X.env = (false, eval e X.env) :: starEach [] X.env := by rfl) :
    PE X o (tE c W (mExtend j m)) := pe_imp (hp hv (pa_cons ha pa_nil hs)) fun σ H Q ⟨f, G, E, R, h⟩ => by
  unfold mExtend at h
  split at h
  · rename_i ds0 q0
    obtain ⟨p, hs0, ho0, _⟩ := R.own q0
    refine ⟨_, hs0, own_tyV ho0, ?_⟩
    refine tE_bindE R h fun r E1 G1 v H1 e1 R1 r1 h1 => ?_
    split at h1
    · rename_i ys E2 q
      obtain ⟨G2, e2, R2, rep⟩ := R1.frz r1 ((fzn_settle _ _).trans q)
      split at h1
      · rename_i ds q2
        split at h1
        · rename_i hl
          obtain ⟨p2, hs2, ho2, he2, _⟩ := R2.own q2
          rw [hs0] at hs2
          cases hs2
          obtain ⟨vs, hH, reps⟩ := ho2
          obtain ⟨a, ws, rfl, hW, rw'⟩ := rep.pk R2.gh
          refine ⟨p, a, vs, ws, rfl, rfl, hH, hW, by rw [maxLen_eq, reps.length, rw'.length]; exact hl, ?_⟩
          exact h1 G2 _ _ e2 (R2.setOwn hs0 he2 ⟨vs ++ ws, upd_same, reps.append rw'⟩) .non
        · exact h1.elim
      · exact h1.elim
    · exact h1.elim
  · exact h.elim
theorem ds_setIx {x : Str} {i : Expr} {j : Nat} {p0 : Pos} (hv : PE X (.Name x p0) (tVar j)) (hi : PE X i (tE c W mi)) (ha : PE X e (tE c W m)) {st : Stmt} (hp : ∀ {te to ti : TE}, PE X e te → PE X (.Name x p0) to → PE X i ti → PS X st (tAsg te (gSub to ti rSetL))) :
    PS X st (tS c W (sSetIx j mi m)) := ps_imp (hp ha hv hi) fun Dn σ H ⟨f, G, E, R, h⟩ =>
  tE_outS R h fun r E1 G1 v H1 e1 R1 r1 h1 => by
    split at h1
    · rename_i d E2 q
      obtain ⟨G2, e2, R2, rep⟩ := R1.frz r1 q
      split at h1
      · rename_i ds0 q0
        obtain ⟨p, hs0, ho0, _⟩ := R2.own q0
        refine ⟨_, hs0, ?_⟩
        refine tE_outS R2 (postS_mono e2 h1) fun ri E3 G3 w H3 e3 R3 r3 h3 => ?_
        split at h3
        · rename_i k ds q3 q4
          split at h3
          · rename_i n q5
            obtain ⟨p2, hs2, ho2, he2, _⟩ := R3.own q4
            rw [hs0] at hs2
            cases hs2
            obtain ⟨vs, hH, reps⟩ := ho2
            have rk := R3.pk r3 q3
            cases rk
            refine ⟨p, vs, k, n, rfl, rfl, hH, by rw [reps.length]; exact q5, ?_⟩
            exact h3 G3 σ _ (.refl _) (R3.setOwn hs0 he2 ⟨_, upd_same, reps.set n (rep.mono e3)⟩)
          · exact h3.elim
        · exact h3.elim
      · exact h1.elim
    · exact h1.elim
end

/-! ### what is walked -/
def Yields (c : Cfg) (G0 : Hp) (H0 : Hp) (ds : List D) (J : It) : Prop := ∀ (i : Nat) (G H : Hp), Same G0 G → Same G H → (∀ a o, G0 a = some o → H a = some o) →
  (i < ds.length → J.go i H ∧ ∀ x H', J.yld i H x H' → ∃ d, ds[i]? = some d ∧ ∃ G', Gro G H G' H' ∧ Rep c G' x d) ∧ (ds.length = i → J.stop i H)
abbrev IM := Ev → Res (List D)
def tI (c : Cfg) (W : WX) (mi : IM) : TI := fun σ H R => ∃ f G E, RS c f G E σ H ∧ match mi E with
  | .ok ds E' => ∀ G' H' J, Same G G' → RS c f G' E' σ H' → Yields c G' H' ds J → R J H'
  | .ex x E' => XW c W f G σ x E'
  | .bad => False
/-- a list or tuple -/
def iSeq (m : EM) : IM := fun E => (m E).bind fun r E1 => match fzn E1 r with
  | some (.lst ds, E2) => .ok ds E2
  | some (.frl ds, E2) => .ok ds E2
  | some (.tup ds, E2) => .ok ds E2
  | some (.tux ds, E2) => .ok ds E2
  | _ => .bad
def iRange1 (m : EM) : IM := fun E => (m E).bind fun r E1 => match pk E1 r with
  | some (.int j) => if decide (-(2 ^ 62) ≤ j) && decide (j < 2 ^ 62) then .ok ((List.range j.toNat).map fun i => .int (i : Nat)) E1 else .bad
  | _ => .bad
def iRange2 (m m' : EM) : IM := fun E => (m E).bind fun r E1 => (m' E1).bind fun r' E2 => match pk E2 r.settle, pk E2 r' with
  | some (.int i), some (.int j) => if decide (-(2 ^ 62) ≤ i) && decide (i < 2 ^ 62) && decide (-(2 ^ 62) ≤ j) && decide (j < 2 ^ 62) then .ok ((List.range (j - i).toNat).map fun (k : Nat) => .int (i + k)) E2 else .bad
  | _, _ => .bad
section
variable {X : Cx} {c : Cfg} {W : WX} {e tg iter : Expr} {m m' : EM}
theorem pi_imp {w w' : TI} (h : PI X tg iter w) (i : ∀ σ H R, w' σ H R → w σ H R) : PI X tg iter w' := ⟨fun pins s σ H R I q => h.run pins s σ H R I (i σ H R q)⟩
theorem yields_lst {G H : Hp} {a : Addr} {vs : List V} {ds : List D} (h : SqL c.K G a vs) (r : Reps c G vs ds) : Yields c G H ds (Itl c.K a) := fun i G1 H1 e1 e2 _ => by
  have hs : SqL c.K H1 a vs := sql_mono (e1.trans e2) h
  refine ⟨fun hi => ?_, fun hi => ⟨vs, hs, by rw [r.length]; exact Nat.le_of_eq hi⟩⟩
  have hv : i < vs.length := by rw [r.length]; exact hi
  obtain ⟨d, hd, rep⟩ := r.getV (List.getElem?_eq_getElem hv)
  refine ⟨⟨vs, _, hs, List.getElem?_eq_getElem hv⟩, fun x H' y => ?_⟩
  obtain ⟨rfl, y⟩ := y
  have hx := y vs hs
  obtain ⟨d', hd', rep'⟩ := r.getV hx
  exact ⟨d', hd', G1, .refl e2, rep'.mono e1⟩
theorem yields_tup {G H : Hp} {a : Addr} {vs : List V} {ds : List D} (h : SqT c.K G a vs) (r : Reps c G vs ds) : Yields c G H ds (Itt c.K a) := fun i G1 H1 e1 e2 _ => by
  have hs : SqT c.K H1 a vs := sqt_mono (e1.trans e2) h
  refine ⟨fun hi => ?_, fun hi => ⟨vs, hs, by rw [r.length]; exact Nat.le_of_eq hi⟩⟩
  have hv : i < vs.length := by rw [r.length]; exact hi
  refine ⟨⟨vs, _, hs, List.getElem?_eq_getElem hv⟩, fun x H' y => ?_⟩
  obtain ⟨rfl, y⟩ := y
  obtain ⟨d', hd', rep'⟩ := r.getV (y vs hs)
  exact ⟨d', hd', G1, .refl e2, rep'.mono e1⟩
theorem yields_rng {G H : Hp} {lo : Int} {n : Nat} : Yields c G H ((List.range n).map fun (k : Nat) => .int (lo + k)) (Itr lo n) := fun i G1 H1 e1 e2 _ => by
  rw [List.length_map, List.length_range]
  refine ⟨fun hi => ⟨hi, fun x H' y => ?_⟩, fun hi => Nat.le_of_eq hi⟩
  obtain ⟨rfl, rfl⟩ := y
  exact ⟨.int (lo + i), by simp [hi], G1, .refl e2, .int _⟩
/-- a list or a tuple, whichever comes -/
def iBoth (K : PySem.W.Frag) (tl : TE) : TI := fun σ H R => tl σ H fun x H1 => ∃ a, x = .ref a ∧ ((∃ xs, SqL K H1 a xs) ∧ R (Itl K a) H1 ∨ (∃ xs, SqT K H1 a xs) ∧ R (Itt K a) H1)
theorem pi_both {l : Expr} {tl : TE} (hl : PE X l tl) : PI X tg l (iBoth X.K tl) := by
  constructor
  intro pins s σ H R I h
  refine thn (hl.run pins s σ H _ I h) ?_
  rintro v s1 ⟨x, H1, I1, r1, a, rfl, (⟨⟨xs, hq⟩, q⟩ | ⟨⟨xs, hq⟩, q⟩)⟩
  all_goals
    obtain rfl : v = Value.ref a := r1
  · obtain ⟨its, _, pl, _⟩ := I1.list hq
    apply wpAny_pyIter_list pl.isList
    refine ⟨_, [s1.heap.objs.size], _, _, H1, rfl, I1.kept (t' := s1.toks) (fun b o e => Heap.get?_push_of_some _ e), turn_list a _, ⟨_, Heap.get?_push_size _ rfl, rfl, rfl⟩, ?_, q⟩
    intro b hb
    rw [List.mem_singleton.mp hb]
    exact I1.fpOk (Nat.le_refl _) (I1.hok.fresh (Nat.le_refl _))
  · obtain ⟨its, _, pt, _⟩ := I1.tuple hq
    apply wpAny_pyIter_tuple (show s1.heap.IsTuple a its.toArray from pt)
    refine ⟨_, [s1.heap.objs.size], _, _, H1, rfl, I1.kept (t' := s1.toks) (fun b o e => Heap.get?_push_of_some _ e), turn_tuple a _, ⟨_, Heap.get?_push_size _ rfl, rfl, rfl⟩, ?_, q⟩
    intro b hb
    rw [List.mem_singleton.mp hb]
    exact I1.fpOk (Nat.le_refl _) (I1.hok.fresh (Nat.le_refl _))
theorem di_seq (hK : c.K = X.K) (he : PE X iter (tE c W m)) : PI X tg iter (tI c W (iSeq m)) := pi_imp (pi_both he) fun σ H R ⟨f, G, E, Rr, h⟩ => by
  refine tE_sub Rr ?_
  unfold iSeq at h
  cases q : m E with
  | bad => rw [q] at h; exact h
  | ex x E' => rw [q] at h; exact h
  | ok r E1 =>
    rw [q] at h
    intro G1 v H1 e1 R1 r1
    simp only [Res.bind] at h
    cases q2 : fzn E1 r with
    | none => rw [q2] at h; exact h.elim
    | some p =>
      obtain ⟨d, E2⟩ := p
      rw [q2] at h
      obtain ⟨G2, e2, R2, rep⟩ := R1.frz r1 ((fzn_settle _ _).trans q2)
      cases d with
      | lst ds =>
        cases rep with
        | lst h1 reps => exact ⟨_, rfl, .inl ⟨⟨_, .of (R2.gh _ _ h1)⟩, h G2 H1 _ (e1.trans e2) R2 (hK ▸ yields_lst (.of h1) reps)⟩⟩
      | frl ds =>
        cases rep with
        | frl h1 reps => exact ⟨_, rfl, .inl ⟨⟨_, hK ▸ sql_mono R2.gh h1⟩, h G2 H1 _ (e1.trans e2) R2 (hK ▸ yields_lst h1 reps)⟩⟩
      | tup ds =>
        cases rep with
        | tup h1 reps => exact ⟨_, rfl, .inr ⟨⟨_, hK ▸ sqt_mono R2.gh h1⟩, h G2 H1 _ (e1.trans e2) R2 (hK ▸ yields_tup h1 reps)⟩⟩
      | tux ds =>
        cases rep with
        | tux h1 reps => exact ⟨_, rfl, .inr ⟨⟨_, hK ▸ sqt_mono R2.gh h1.sqt⟩, h G2 H1 _ (e1.trans e2) R2 (hK ▸ yields_tup h1.sqt reps)⟩⟩
      | _ => exact h.elim
theorem di_range1 {a : Expr} (h : ∀ {ta : TA}, PA X [a] ta → PI X tg iter (iRng1 ta)) (ha : PE X a (tE c W m)) (hs : starEach [a] X.env = (false, eval a X.env) :: starEach [] X.env := by rfl) : PI X tg iter (tI c W (iRange1 m)) :=
  pi_imp (h (pa_cons ha pa_nil hs)) fun σ H R ⟨f, G, E, Rr, h⟩ => by
    refine tE_raw Rr ?_
    unfold iRange1 at h
    cases q : m E with
    | bad => rw [q] at h; exact h
    | ex x E' => rw [q] at h; exact h
    | ok r E1 =>
      rw [q] at h
      intro G1 v H1 e1 R1 r1
      simp only [Res.bind] at h
      cases q2 : pk E1 r with
      | none => rw [q2] at h; exact h.elim
      | some d =>
        rw [q2] at h
        cases d with
        | int j =>
          have rep := R1.pk r1 q2
          cases rep
          simp only at h
          by_cases hb : (decide (-(2 ^ 62) ≤ j) && decide (j < 2 ^ 62)) = true
          · rw [if_pos hb] at h
            simp only [Bool.and_eq_true, decide_eq_true_eq] at hb
            refine ⟨j, rfl, hb.1, hb.2, h G1 H1 _ e1 R1 ?_⟩
            have y := yields_rng (c := c) (G := G1) (H := H1) (lo := 0) (n := j.toNat)
            simpa using y
          · rw [if_neg hb] at h
            exact h.elim
        | _ => exact h.elim
theorem di_range2 {a b : Expr} (h : ∀ {ta : TA}, PA X [a, b] ta → PI X tg iter (iRng2 ta)) (ha : PE X a (tE c W m)) (hb : PE X b (tE c W m')) (hs : starEach [a, b] X.env = (false, eval a X.env) :: starEach [b] X.env := by rfl) (hs2 : starEach [b] X.env = (false, eval b X.env) :: starEach [] X.env := by rfl) : PI X tg iter (tI c W (iRange2 m m')) :=
  pi_imp (h (pa_cons ha (pa_cons hb pa_nil hs2) hs)) fun σ H R ⟨f, G, E, Rr, h⟩ => by
    refine tE_sub Rr ?_
    unfold iRange2 at h
    cases q : m E with
    | bad => rw [q] at h; exact h
    | ex x E' => rw [q] at h; exact h
    | ok r E1 =>
      rw [q] at h
      intro G1 v H1 e1 R1 r1
      simp only [Res.bind] at h
      refine tE_raw R1 ?_
      cases q' : m' E1 with
      | bad => rw [q'] at h; exact h
      | ex x E' => rw [q'] at h; exact XW.mono e1 h
      | ok r' E2 =>
        rw [q'] at h
        intro G2 w H2 e2 R2 r2
        simp only at h
        cases p1 : pk E2 r.settle with
        | none => rw [p1] at h; exact h.elim
        | some d1 =>
        cases p2 : pk E2 r' with
        | none => rw [p1, p2] at h; cases d1 <;> exact h.elim
        | some d2 =>
        rw [p1, p2] at h
        have rep1 := R2.pk (r1.mono_settled e2) p1
        have rep2 := R2.pk r2 p2
        cases d1 with
        | int i =>
          cases d2 with
          | int j =>
            cases rep1
            cases rep2
            simp only at h
            by_cases hb : (decide (-(2 ^ 62) ≤ i) && decide (i < 2 ^ 62) && decide (-(2 ^ 62) ≤ j) && decide (j < 2 ^ 62)) = true
            · rw [if_pos hb] at h
              simp only [Bool.and_eq_true, decide_eq_true_eq] at hb
              exact ⟨i, j, rfl, ⟨hb.1.1.1, hb.1.1.2, hb.1.2, hb.2⟩, h G2 H2 _ (e1.trans e2) R2 yields_rng⟩
            · rw [if_neg hb] at h
              exact h.elim
          | _ => exact h.elim
        | _ => exact h.elim

end

/-! ### for -/
def forLoop (t : TgM) (body : SM) : List D → Ev → Out
  | [], E => .nx E
  | d :: ds, E => match t d E with
    | none => .bad
    | some E1 => match body E1 with
      | .nx E2 => forLoop t body ds E2
      | .ct E2 => forLoop t body ds E2
      | .bk E2 => .nx E2
      | .rt r E2 => .rt r E2
      | .ex x E2 => .ex x E2
      | .bad => .bad
def sFor (mi : IM) (t : TgM) (body : SM) : SM := fun E => (mi E).out fun ds E1 => forLoop t body ds E1
section
variable {X : Cx} {c : Cfg} {W : WX} {tg iter : Expr} {body : List Stmt} {mi : IM} {t : TgM} {S : List Nat} {b : SM} {pos : Pos}
theorem drop_cons {α : Type} {l : List α} {i : Nat} {d : α} (h : l[i]? = some d) : l.drop i = d :: l.drop (i + 1) := by
  have hi : i < l.length := (List.getElem?_eq_some_iff.mp h).1
  have e : l[i] = d := (List.getElem?_eq_some_iff.mp h).2
  rw [List.drop_eq_getElem_cons hi, e]
theorem ds_for (hp : PassesOwn (model X.prog X.w) X.A X.env X.xe) (hc : X.calm = true) (hi : PI X tg iter (tI c W mi)) (hg : PG X tg (tG c t S)) (hb : PSs X body (tS c W b)) (hs : ∀ x, foldedSetIterable iter X.env x = pure x := by intro _; rfl) :
    PS X (.For tg iter body [] pos) (tS c W (sFor mi t b)) := ps_imp (ps_for hp hc hi hg hb hs) fun Dn σ H ⟨f, G, E, R, h⟩ => by
  refine ⟨f, G, E, R, ?_⟩
  unfold sFor at h
  cases q : mi E with
  | bad => rw [q] at h; exact h
  | ex x E1 => rw [q] at h; exact h σ
  | ok ds E1 =>
    rw [q] at h
    have h : postS c W f G (forLoop t b ds E1) Dn := h
    intro G1 H1 J e1 R1 Y
    have h := postS_mono e1 h
    refine ⟨fun i m σ' H' => m = ds.length - i ∧ i ≤ ds.length ∧ ∃ G' E', Same G1 G' ∧ RS c f G' E' σ' H' ∧ postS c W f G' (forLoop t b (ds.drop i) E') Dn, ⟨_, rfl, Nat.zero_le _, G1, E1, .refl _, R1, h⟩, ?_⟩
    rintro i m σ' H' ⟨rfl, hi', G', E', e', R', h'⟩
    obtain ⟨y1, y2⟩ := Y i G' H' e' R'.gh fun a o q => R'.gh a o (e' a o q)
    by_cases hl : i < ds.length
    · refine .inr ⟨(y1 hl).1, fun σ2 H2 => ∃ G2 E2, Same G1 G2 ∧ RS c f G2 E2 σ2 H2 ∧ postS c W f G2 (forLoop t b (ds.drop (i + 1)) E2) Dn, fun σ2 H2 ⟨G2, E2, e2, R2, h2⟩ => ⟨ds.length - (i + 1), by omega, rfl, hl, G2, E2, e2, R2, h2⟩, fun x H2 y => ?_⟩
      obtain ⟨d, hd, G2, g2, rep⟩ := (y1 hl).2 x H2 y
      have R2 := R'.gro g2
      have h2 := postS_mono g2.gg h'
      rw [drop_cons hd] at h2
      simp only [forLoop] at h2
      cases q2 : t d E' with
      | none => rw [q2] at h2; exact h2.elim
      | some E2 =>
        rw [q2] at h2
        refine ⟨f, G2, E', d, E2, R2, rep, q2, fun σ3 R3 _ => ⟨f, G2, E2, R3, ?_⟩⟩
        simp only at h2
        cases q3 : b E2 with
        | bad => rw [q3] at h2; exact h2
        | nx E3 => rw [q3] at h2; exact fun G4 σ4 H4 e4 R4 => ⟨G4, E3, (e'.trans g2.gg).trans e4, R4, postS_mono e4 h2⟩
        | ct E3 => rw [q3] at h2; exact fun G4 σ4 H4 e4 R4 => ⟨G4, E3, (e'.trans g2.gg).trans e4, R4, postS_mono e4 h2⟩
        | bk E3 => rw [q3] at h2; exact h2
        | rt r E3 => rw [q3] at h2; exact h2
        | ex x E3 => rw [q3] at h2; exact h2
    · refine .inl ⟨y2 (by omega), ?_⟩
      rw [List.drop_eq_nil_of_le (by omega)] at h'
      exact h' G' σ' H' (.refl _) R'
end
end M

namespace M
open PySem L2

/-! ### slots forgotten -/
def wipeE (E : Ev) : List Nat → Ev
  | [] => E
  | v :: vs => (wipeE E vs).set v .un
theorem wipe_get {σ : L2.St} {j : Nat} : ∀ {vs : List Nat}, (wipe σ vs)[j]? = if j ∈ vs ∧ j < σ.length then some none else σ[j]?
  | [] => by simp [wipe]
  | v :: vs => by
    have ih := wipe_get (σ := σ) (j := j) (vs := vs)
    unfold wipe
    by_cases e : v = j
    · subst e
      by_cases l : v < σ.length
      · rw [List.getElem?_set_self (by rw [wipe_length]; exact l), if_pos ⟨List.mem_cons_self, l⟩]
      · rw [List.getElem?_eq_none (by rw [List.length_set, wipe_length]; omega), if_neg (fun h => l h.2), List.getElem?_eq_none (by omega)]
    · rw [List.getElem?_set_ne e, ih]
      have : (j ∈ v :: vs ∧ j < σ.length) ↔ (j ∈ vs ∧ j < σ.length) := by
        simp only [List.mem_cons]
        constructor
        · rintro ⟨h | h, l⟩
          · exact absurd h.symm e
          · exact ⟨h, l⟩
        · rintro ⟨h, l⟩
          exact ⟨.inr h, l⟩
      by_cases h : j ∈ vs ∧ j < σ.length
      · rw [if_pos h, if_pos (this.mpr h)]
      · rw [if_neg h, if_neg (fun z => h (this.mp z))]
theorem wipeE_un {E : Ev} {j : Nat} : ∀ {vs : List Nat}, j ∈ vs → j < E.length → (wipeE E vs)[j]? = some .un
  | v :: vs, h, l => by
    have len : ∀ ws : List Nat, (wipeE E ws).length = E.length := fun ws => by
      induction ws with
      | nil => rfl
      | cons w ws ih => unfold wipeE; rw [List.length_set, ih]
    unfold wipeE
    by_cases e : v = j
    · subst e
      rw [List.getElem?_set_self (by rw [len]; exact l)]
    · rw [List.getElem?_set_ne e]
      rcases List.mem_cons.mp h with h | h
      · exact absurd h.symm e
      · exact wipeE_un h l
theorem wipeE_notBo {E : Ev} {i : Nat} (h : ∀ m, E[i]? ≠ some (Slot.bo m)) : ∀ vs, ∀ m, (wipeE E vs)[i]? ≠ some (Slot.bo m)
  | [] => h
  | v :: vs => fun m e => by
    unfold wipeE at e
    rcases get_set e with ⟨_, z⟩ | ⟨_, z⟩
    · cases z
    · exact wipeE_notBo h vs m z
def allNotBo (E : Ev) (vs : List Nat) : Bool := vs.all (notBo E)
section
variable {c : Cfg} {f : Fr} {G G' : Hp} {E E' : Ev} {σ σ' : L2.St} {H H' : Hp}
/-- what stands in a slot without data does not matter -/
theorem RS.reσ (R : RS c f G E σ H) (hl : σ'.length = σ.length) (h : ∀ i : Nat, E[i]? ≠ some Slot.un → σ'[i]? = σ[i]?) : RS c f G E σ' H := by
  have own : ∀ {j : Nat} {q : Addr}, Own E σ' j q → Own E σ j q := fun {j q} ⟨⟨m, z⟩, s⟩ => ⟨⟨m, z⟩, by rw [← h j (by rcases z with z | z <;> (rw [z]; intro w; cases w))]; exact s⟩
  exact {
    gh := R.gh
    g0 := R.g0
    new := R.new
    fr := R.fr
    len := hl.trans R.len
    fz := fun i d e => by rw [h i (by rw [e]; intro w; cases w)]; exact R.fz i d e
    ow := fun i d e => by rw [h i (by rw [e]; intro w; cases w)]; exact R.ow i d e
    bo := fun i d e => by rw [h i (by rw [e]; intro w; cases w)]; exact R.bo i d e
    bos := R.bos
    dis := fun i j p n a b => R.dis i j p n (own a) (own b)
    inv := R.inv
    xv := fun i e => by rw [h i (by rw [e]; intro w; cases w)]; exact R.xv i e }
theorem RS.wipe (R : RS c f G E σ H) : ∀ {vs : List Nat}, allNotBo E vs = true → RS c f G (wipeE E vs) σ H
  | [], _ => R
  | v :: vs, h => by
    unfold allNotBo at h
    rw [List.all_cons, Bool.and_eq_true] at h
    exact (RS.wipe R (vs := vs) h.2).drop (wipeE_notBo (notBo_ne h.1) vs)
/-- a thing that is nobody's is changed -/
theorem RS.poke (R : RS c f G E σ H) {p : Addr} {o : HO} (h0 : f.H0 p = none) (hg : G p = none) (hn : ∀ i, ¬ Own E σ i p) : RS c f G E σ (upd H p o) where
  gh := fun b u h => by rw [upd_ne (ne_of_none h hg)]; exact R.gh b u h
  g0 := R.g0
  new := R.new
  fr := fun a u h hb => by rw [upd_ne (ne_of_none h h0)]; exact R.fr a u h hb
  len := R.len
  fz := R.fz
  ow := fun i m e => by
    obtain ⟨q, h1, h2, h3, h4⟩ := R.ow i m e
    have z : q ≠ p := fun z => hn i ⟨⟨m, .inl e⟩, by rw [← z]; exact h1⟩
    exact ⟨q, h1, h2.mono (.refl G) (by rw [upd_ne z]), h3, h4⟩
  bo := fun i m e => by
    obtain ⟨q, h1, h2, h3, h4⟩ := R.bo i m e
    have z : q ≠ p := fun z => hn i ⟨⟨m, .inr e⟩, by rw [← z]; exact h1⟩
    exact ⟨q, h1, h2.mono (.refl G) (by rw [upd_ne z]), h3, h4⟩
  bos := R.bos
  dis := R.dis
  inv := R.inv
  xv := R.xv
end
/-! ### comprehensions -/
def lcLoop (t : TgM) (cond : BM) (elt : EM) (vs : List Nat) : List D → List D → Ev → Res RV
  | [], acc, E => .ok (.ow (.lst acc)) E
  | d :: ds, acc, E => match t d E with
    | none => .bad
    | some E1 => match cond E1 with
      | .ok true E2 => match elt E2 with
        | .ok r E3 => match fzn E3 r with
          | some (y, E4) => if acc.length < maxLen ∧ allNotBo E4 vs = true then lcLoop t cond elt vs ds (acc ++ [y]) (wipeE E4 vs) else .bad
          | none => .bad
        | _ => .bad
      | .ok false E2 => if allNotBo E2 vs = true then lcLoop t cond elt vs ds acc (wipeE E2 vs) else .bad
      | _ => .bad
def mLc (mi : IM) (t : TgM) (cond : BM) (elt : EM) (vs : List Nat) : EM := fun E => (mi E).bind fun ds E1 => if allNotBo E1 vs = true then lcLoop t cond elt vs ds [] (wipeE E1 vs) else .bad
def tYesM : BM := fun E => .ok true E
abbrev W0 : WX := fun _ _ _ _ => False
section
variable {X : Cx} {c : Cfg} {W : WX} {mi : IM} {t : TgM} {S : List Nat} {cond : BM} {elt : EM} {vs : List Nat}
theorem pts_imp {ifs : List Expr} {t t' : TT} (h : PTs X ifs t) (i : ∀ σ H Q, t' σ H Q → t σ H Q) : PTs X ifs t' := ⟨fun pins s σ H Q I q => h.run pins s σ H Q I (i σ H Q q)⟩
theorem dts_nil : PTs X [] (tT c W tYesM) := pts_imp pts_nil fun σ H Q ⟨f, G, E, R, h⟩ => h G H (.refl _) R
theorem dts_one {e : Expr} (h : PT X e (tT c W cond)) : PTs X [e] (tT c W cond) := pts_one h
theorem lc_read (hS : ∀ j ∈ S, j ∈ vs) {σ : L2.St} {H : Hp} {Q : VK} (h : tE c W (mLc mi t cond elt vs) σ H Q) : tLc (tI c W mi) (tG c t S) (tT c W0 cond) (tE c W0 elt) vs σ H Q := by
  obtain ⟨f, G, E, R, h⟩ := h
  refine ⟨f, G, E, R, ?_⟩
  unfold mLc at h
  cases q : mi E with
  | bad => rw [q] at h; exact h
  | ex x E1 => rw [q] at h; exact h
  | ok ds E1 =>
    rw [q] at h
    intro G1 H1 J e1 R1 Y p hp
    have h : postE c W f G σ (if allNotBo E1 vs = true then lcLoop t cond elt vs ds [] (wipeE E1 vs) else .bad) Q := h
    by_cases hb : allNotBo E1 vs = true
    case neg => rw [if_neg hb] at h; exact h.elim
    rw [if_pos hb] at h
    have h := postE_mono e1 h
    have hg1 : G1 p = none := none_of R1.gh hp
    have h0p : f.H0 p = none := R1.h0 hp
    have hg0 : f.G0 p = none := R1.g0n hg1
    have nOwn : ∀ i, ¬ Own E1 σ i p := fun i o => by
      obtain ⟨_, m, hm⟩ := R1.ownG o
      obtain ⟨u, hu⟩ := hm.there
      rw [hp] at hu
      cases hu
    have hbo := R1.bon nOwn
    have wl : (L2.wipe σ vs).length = σ.length := wipe_length σ vs
    -- a wiped environment does not see the wiped slots
    have blind : ∀ {E' : Ev} {σ2 : L2.St}, (∀ j ∈ vs, j < E'.length → E'[j]? = some Slot.un) → E'.length = σ.length → L2.wipe σ2 vs = L2.wipe σ vs → σ2.length = σ.length → ∀ i : Nat, E'[i]? ≠ some Slot.un → σ2[i]? = σ[i]? := by
      intro E' σ2 hu hl hw hl2 i hi
      by_cases m : i ∈ vs
      · by_cases l : i < E'.length
        · exact absurd (hu i m l) hi
        · rw [List.getElem?_eq_none (by omega), List.getElem?_eq_none (by omega)]
      · have a := wipe_get (σ := σ2) (j := i) (vs := vs)
        have b := wipe_get (σ := σ) (j := i) (vs := vs)
        rw [if_neg (fun z => m z.1)] at a b
        rw [← a, ← b, hw]
    have wlen : ∀ (E' : Ev) (ws : List Nat), (wipeE E' ws).length = E'.length := fun E' ws => by
      induction ws with
      | nil => rfl
      | cons w ws ih => unfold wipeE; rw [List.length_set, ih]
    have ww : L2.wipe (L2.wipe σ vs) vs = L2.wipe σ vs := by
      apply List.ext_getElem?
      intro j
      by_cases h : j ∈ vs ∧ j < σ.length
      · rw [wipe_get, if_pos ⟨h.1, by rw [wipe_length]; exact h.2⟩, wipe_get, if_pos h]
      · rw [wipe_get, if_neg (by rw [wipe_length]; exact h)]
    refine ⟨fun i m H' => m = ds.length - i ∧ i ≤ ds.length ∧ ∃ G' E' acc, Same G1 G' ∧ RS c f G' E' σ H' ∧ (∀ j ∈ vs, j < E'.length → E'[j]? = some Slot.un) ∧ H' p = some (.lst acc) ∧ G' p = none ∧ (∀ i, ¬ Own E' σ i p) ∧ ∃ accD, Reps c G' acc accD ∧ postE c W f G' σ (lcLoop t cond elt vs (ds.drop i) accD E') Q,
      ⟨_, rfl, Nat.zero_le _, G1, wipeE E1 vs, [], .refl _, (R1.wipe hb).poke h0p hg1 ?_, fun j hj hl => wipeE_un hj (by rw [wlen] at hl; exact hl), upd_same, hg1, ?_, [], .nil, h⟩, ?_⟩
    · intro i o
      obtain ⟨_, m, hm⟩ := (R1.wipe hb).ownG o
      obtain ⟨u, hu⟩ := hm.there
      rw [hp] at hu
      cases hu
    · intro i o
      obtain ⟨_, m, hm⟩ := (R1.wipe hb).ownG o
      obtain ⟨u, hu⟩ := hm.there
      rw [hp] at hu
      cases hu
    rintro i m H' ⟨rfl, hi', G', E', acc, e', R', hun, hacc, hgp, hno, accD, racc, h'⟩
    obtain ⟨y1, y2⟩ := Y i G' H' e' R'.gh fun a o q => R'.gh a o (e' a o q)
    by_cases hl : i < ds.length
    · refine .inr ⟨(y1 hl).1, fun H2 => ∃ G2 E2 acc, Same G1 G2 ∧ RS c f G2 E2 σ H2 ∧ (∀ j ∈ vs, j < E2.length → E2[j]? = some Slot.un) ∧ H2 p = some (.lst acc) ∧ G2 p = none ∧ (∀ i, ¬ Own E2 σ i p) ∧ ∃ accD, Reps c G2 acc accD ∧ postE c W f G2 σ (lcLoop t cond elt vs (ds.drop (i + 1)) accD E2) Q,
        fun H2 z => ⟨ds.length - (i + 1), by omega, rfl, hl, z⟩, fun x H2 y => ?_⟩
      obtain ⟨d, hd, G2, g2, rep⟩ := (y1 hl).2 x H2 y
      have h2 := postE_mono g2.gg h'
      rw [drop_cons hd] at h2
      simp only [lcLoop] at h2
      have RP := R'.plus hacc hgp hno
      have RP2 := (RP.gro g2).reσ (σ' := L2.wipe σ vs) wl (fun j hj => (blind hun (by rw [← R'.len]) ww wl j hj))
      cases q2 : t d E' with
      | none => rw [q2] at h2; exact h2.elim
      | some E2 =>
        rw [q2] at h2
        refine ⟨_, G2, E', d, E2, RP2, rep, q2, fun σ3 R3 sb => ⟨?_, ?_⟩⟩
        · apply List.ext_getElem?
          intro j
          rw [wipe_get, wipe_get, sb.1, wl]
          by_cases z : j ∈ vs ∧ j < σ.length
          · rw [if_pos z, if_pos z]
          · rw [if_neg z, if_neg z]
            by_cases zv : j ∈ vs
            · have : ¬ j < σ.length := fun l => z ⟨zv, l⟩
              rw [List.getElem?_eq_none (by rw [sb.1, wl]; omega), List.getElem?_eq_none (by omega)]
            · rw [sb.2 j (fun w => zv (hS j w)), wipe_get, if_neg (fun w => zv w.1)]
        have hw3 : L2.wipe σ3 vs = L2.wipe σ vs := by
          apply List.ext_getElem?
          intro j
          rw [wipe_get, wipe_get, sb.1, wl]
          by_cases z : j ∈ vs ∧ j < σ.length
          · rw [if_pos z, if_pos z]
          · rw [if_neg z, if_neg z]
            by_cases zv : j ∈ vs
            · have : ¬ j < σ.length := fun l => z ⟨zv, l⟩
              rw [List.getElem?_eq_none (by rw [sb.1, wl]; omega), List.getElem?_eq_none (by omega)]
            · rw [sb.2 j (fun w => zv (hS j w)), wipe_get, if_neg (fun w => zv w.1)]
        have hl3 : σ3.length = σ.length := sb.1.trans wl
        -- back to the block's outside
        have back : ∀ {G4 : Hp} {E4 : Ev} {H4 : Hp}, RS c (f.plus p (.lst acc)) G4 E4 σ3 H4 → allNotBo E4 vs = true → RS c f G4 (wipeE E4 vs) σ H4 ∧ (∀ j ∈ vs, j < (wipeE E4 vs).length → (wipeE E4 vs)[j]? = some Slot.un) ∧ H4 p = some (.lst acc) ∧ G4 p = none ∧ ∀ i, ¬ Own (wipeE E4 vs) σ i p := by
          intro G4 E4 H4 R4 hb4
          have un4 : ∀ j ∈ vs, j < (wipeE E4 vs).length → (wipeE E4 vs)[j]? = some Slot.un := fun j hj hl => wipeE_un hj (by rw [wlen] at hl; exact hl)
          have R5 := (R4.wipe hb4).reσ (σ' := σ) hl3.symm (fun j hj => (blind un4 (by rw [wlen, ← R4.len, hl3]) hw3 hl3 j hj).symm)
          obtain ⟨x1, x2, x3, x4⟩ := R5.minus h0p hg0 hbo
          exact ⟨x1, un4, x2, x3, x4⟩
        refine ⟨_, G2, E2, R3, ?_⟩
        simp only at h2
        cases q3 : cond E2 with
        | bad => rw [q3] at h2; exact h2
        | ex x E3 => rw [q3] at h2; exact h2.elim
        | ok k E3 =>
          rw [q3] at h2
          intro G3 H3 e3 R3'
          cases k with
          | false =>
            simp only at h2
            by_cases hb3 : allNotBo E3 vs = true
            case neg => rw [if_neg hb3] at h2; exact h2.elim
            rw [if_pos hb3] at h2
            obtain ⟨x1, x0, x2, x3, x4⟩ := back R3' hb3
            exact ⟨G3, _, acc, (e'.trans g2.gg).trans e3, x1, x0, x2, x3, x4, accD, racc.mono (g2.gg.trans e3), postE_mono e3 h2⟩
          | true =>
            refine ⟨_, G3, E3, R3', ?_⟩
            simp only at h2
            cases q4 : elt E3 with
            | bad => rw [q4] at h2; exact h2
            | ex x E4 => rw [q4] at h2; exact h2.elim
            | ok r E4 =>
              rw [q4] at h2
              intro G4 w H4 e4 R4 r4
              simp only at h2
              cases q5 : fzn E4 r with
              | none => rw [q5] at h2; exact h2.elim
              | some pr =>
                obtain ⟨yd, E5⟩ := pr
                rw [q5] at h2
                simp only at h2
                by_cases hb5 : accD.length < maxLen ∧ allNotBo E5 vs = true
                case neg => rw [if_neg hb5] at h2; exact h2.elim
                rw [if_pos hb5] at h2
                obtain ⟨G5, e5, R5, rep5⟩ := R4.frz r4 q5
                obtain ⟨x1, x0, x2, x3, x4⟩ := back R5 hb5.2
                refine ⟨acc, x2, by rw [maxLen_eq, racc.length]; exact hb5.1, G5, _, acc ++ [w], ((e'.trans g2.gg).trans e3).trans (e4.trans e5), x1.poke h0p x3 x4, x0, upd_same, x3, x4, accD ++ [yd], ?_, postE_mono (e3.trans (e4.trans e5)) h2⟩
                exact (racc.mono (g2.gg.trans (e3.trans (e4.trans e5)))).append (.cons rep5 .nil)
    · refine .inl ⟨y2 (by omega), ?_⟩
      rw [List.drop_eq_nil_of_le (by omega)] at h'
      have hE : RS c f G' E' σ H' := R'
      exact h' G' _ H' (.refl _) hE ⟨p, rfl, ⟨acc, hacc, racc⟩, hgp, h0p, hno⟩
theorem de_lc {e : Expr} (h : PE X e (tLc (tI c W mi) (tG c t S) (tT c W0 cond) (tE c W0 elt) vs)) (hS : ∀ j ∈ S, j ∈ vs := by decide) : PE X e (tE c W (mLc mi t cond elt vs)) := pe_imp h fun σ H Q q => lc_read hS q
theorem ds_setLc {st : Stmt} {i : Nat} (h : PS X st (tAsg (tLc (tI c W mi) (tG c t S) (tT c W0 cond) (tE c W0 elt) vs) (gName i))) (hS : ∀ j ∈ S, j ∈ vs := by decide) : PS X st (tS c W (sSet i (mLc mi t cond elt vs))) := ps_imp h fun Dn σ H ⟨f, G, E, R, h⟩ =>
  lc_read hS (tE_outS R h fun r E1 G1 v H1 e1 R1 r1 h1 => by
    split at h1
    · rename_i E2 q
      obtain ⟨G2, e2, R2⟩ := R1.asg r1 q
      exact h1 G2 _ H1 e2 R2
    · exact h1.elim)
end
end M

namespace M
open PySem L2

/-! ### defs: from the arguments' slots to the answer, and the slots at the end -/
abbrev FM := Ev → Res RV
/-- a body with n slots in all -/
def runF (n : Nat) (body : SM) : FM := fun as => match body (as ++ List.replicate (n - as.length) .un) with
  | .rt r E => .ok r E
  | .nx E => .ok (.fz .non) E
  | .ex x E => .ex x E
  | _ => .bad
def boOf (as : Ev) (vs : List V) : Nat → Option Addr := fun i => match as[i]?, vs[i]? with
  | some (.bo _), some (.ref p) => some p
  | _, _ => none
def startF (G H : Hp) (as : Ev) (vs : List V) : Fr := ⟨G, H, boOf as vs⟩
def okArg : Slot → Bool
  | .fz _ => true
  | .bo _ => true
  | _ => false
def spM (c : Cfg) (n : Nat) (F : FM) : Sp := fun vs H Q Ee => vs.length = n ∧ ∃ G as, as.all okArg = true ∧ RS c (startF G H as vs) G as (vs.map some) H ∧ match F as with
  | .ok r E => ∀ G' σ' v H', Same G G' → RS c (startF G H as vs) G' E σ' H' → RelR c (startF G H as vs) G' E σ' H' v r → Q v H'
  | .ex x E => ∀ G' σ' cls d H', Same G G' → RS c (startF G H as vs) G' E σ' H' → RelX c G' H' cls d x → Ee cls d H'
  | .bad => False
theorem append_un {as : Ev} {k i : Nat} {s : Slot} (h : (as ++ List.replicate k Slot.un)[i]? = some s) (hs : s ≠ .un) : as[i]? = some s := by
  by_cases l : i < as.length
  · rwa [List.getElem?_append_left l] at h
  · rw [List.getElem?_append_right (by omega)] at h
    have := List.mem_of_getElem? h
    exact absurd (List.eq_of_mem_replicate this) hs
theorem RS.start {c : Cfg} {f : Fr} {G H : Hp} {as : Ev} {vs : List V} {N : List Str} (R : RS c f G as (vs.map some) H) : RS c f G (as ++ List.replicate (N.length - as.length) .un) (L2.start N vs) H := by
  have hl : vs.length = as.length := by have := R.len; rwa [List.length_map] at this
  have e : ∀ i, i < as.length → (L2.start N vs)[i]? = (vs.map some)[i]? := fun i hi => by
    unfold L2.start
    rw [List.getElem?_append_left (by rw [List.length_map, hl]; exact hi)]
  have up : ∀ {i : Nat} {s : Slot}, (as ++ List.replicate (N.length - as.length) Slot.un)[i]? = some s → s ≠ .un → as[i]? = some s ∧ i < as.length := fun {i s} h hs => by
    have a := append_un h hs
    exact ⟨a, (List.getElem?_eq_some_iff.mp a).1⟩
  exact {
    gh := R.gh
    g0 := R.g0
    new := R.new
    fr := R.fr
    len := by unfold L2.start; simp [hl]
    fz := fun i d h => by
      obtain ⟨a, l⟩ := up h (by intro z; cases z)
      rw [e i l]
      exact R.fz i d a
    ow := fun i d h => by
      obtain ⟨a, l⟩ := up h (by intro z; cases z)
      rw [e i l]
      exact R.ow i d a
    bo := fun i d h => by
      obtain ⟨a, l⟩ := up h (by intro z; cases z)
      rw [e i l]
      exact R.bo i d a
    bos := fun i p h => by
      obtain ⟨m, hm⟩ := R.bos i p h
      exact ⟨m, by rw [List.getElem?_append_left (List.getElem?_eq_some_iff.mp hm).1]; exact hm⟩
    dis := fun i j p n a b => by
      have down : ∀ {k : Nat}, Own (as ++ List.replicate (N.length - as.length) Slot.un) (L2.start N vs) k p → Own as (vs.map some) k p := fun {k} ⟨⟨m, z⟩, s⟩ => by
        rcases z with z | z
        · obtain ⟨a, l⟩ := up z (by intro z; cases z)
          exact ⟨⟨m, .inl a⟩, by rw [← e k l]; exact s⟩
        · obtain ⟨a, l⟩ := up z (by intro z; cases z)
          exact ⟨⟨m, .inr a⟩, by rw [← e k l]; exact s⟩
      exact R.dis i j p n (down a) (down b)
    inv := R.inv
    xv := fun i h => by
      obtain ⟨a, l⟩ := up h (by intro z; cases z)
      rw [e i l]
      exact R.xv i a }
/-- THE RULE for a def -/
theorem mk_fn {P : Program} {w : World} {K : PySem.W.Frag} {mg : Str → Option Value} {base : Heap} {x qual : Str} {st : Stmt} {f : Addr} {fd : FuncData} {N ps : List Str} {k n m : Nat} {c : Cfg} {body : SM} (F : Fun K x qual st f fd) (S : FnScope N ps (defScope st))
    (hn : N.length = n) (hm : ps.length = m)
    (hb : ∀ (cdv : Value) (A : Around) (outer : List Env) (s : Shared) (H : Hp) (E : XK), Room k (A.deeper (PyProof.Rows.envOfC qual (defScope st) s.heap.objs.size f cdv)) →
      PSs (cxOf (L2.CX P w) P w K mg base N qual (defScope st) f cdv A outer s H E) (defBody st) (tS c (fun cls d _ H' => E cls d H') body)) :
    FnOk P w K mg base (L2.CX P w) (k + 1) f fd ps (spM c m (runF n body)) := by
  refine F.okX S (fun vs H Q E h => by rw [hm]; exact h.1) fun cdv A outer s H vs Q E hr h => ⟨_, hb cdv A outer s H E hr, ?_⟩
  obtain ⟨hl, G, as, _, R, h⟩ := h
  have R1 := R.start (N := N)
  refine ⟨_, G, _, R1, ?_⟩
  unfold runF at h
  rw [← hn] at h
  cases q : body (as ++ List.replicate (N.length - as.length) .un) with
  | nx E1 => rw [q] at h; exact fun G' σ' H' e R' => h G' σ' .non H' e R' .non
  | rt r E1 => rw [q] at h; exact fun G' σ' v H' e R' rel => h G' σ' v H' e R' rel
  | ex x E1 => rw [q] at h; exact fun σ' G' cls d H' e R' rel => h G' σ' cls d H' e R' rel
  | bk E1 => rw [q] at h; exact h.elim
  | ct E1 => rw [q] at h; exact h.elim
  | bad => rw [q] at h; exact h.elim

/-! ### calls of defs -/
/-- what a def hands back -/
inductive RX where
  | ok (r : RV) | ex (x : Exn) | bad
def Res.rx : Res RV → RX
  | .ok r _ => .ok r
  | .ex x _ => .ex x
  | .bad => .bad
/-- .. and what is left of the lent thing -/
inductive RXB where
  | ok (r : RV) (m : MO) | ex (x : Exn) (m : MO) | bad
def Res.rxb : Res RV → RXB
  | .ok r (.bo m :: _) => .ok r m
  | .ex x (.bo m :: _) => .ex x m
  | _ => .bad
/-- all arguments are data -/
def mFn (F : FM) (ma : AM) : EM := fun E => (ma E).bind fun rs E1 => match fzs E1 rs with
  | some (ds, E2) => match (F (ds.map .fz)).rx with
    | .ok (.fz d) => .ok (.fz d) E2
    | .ok (.ow m) => .ok (.ow m) E2
    | .ex x => .ex x E2
    | _ => .bad
  | none => .bad
/-- the first argument is lent: what stands in slot j -/
def mFnB (F : FM) (j : Nat) (ma : AM) : EM := fun E => match own E j with
  | some _ => (ma E).bind fun rs E1 => match fzs E1 rs with
    | some (ds, E2) => match own E2 j with
      | some m => match (F (.bo m :: ds.map .fz)).rxb with
        | .ok (.fz d) m' => .ok (.fz d) (setOwn E2 j m')
        | .ok (.ow r) m' => .ok (.ow r) (setOwn E2 j m')
        | .ex x m' => .ex x (setOwn E2 j m')
        | _ => .bad
      | none => .bad
    | none => .bad
  | none => .bad
section
variable {c : Cfg} {f : Fr} {G G' : Hp} {E E' : Ev} {σ σ' : L2.St} {H H' : Hp} {vs : List V} {ds : List D}
theorem map_fz_get {i : Nat} {s : Slot} (h : (ds.map Slot.fz)[i]? = some s) : ∃ d, s = .fz d ∧ ds[i]? = some d := by
  rw [List.getElem?_map] at h
  cases q : ds[i]? with
  | none => rw [q] at h; cases h
  | some d => rw [q] at h; cases h; exact ⟨d, rfl, rfl⟩
theorem boOf_fz : boOf (ds.map Slot.fz) vs = fun _ => none := by
  funext i
  unfold boOf
  cases q : (ds.map Slot.fz)[i]? with
  | none => rfl
  | some s => obtain ⟨d, rfl, _⟩ := map_fz_get q; rfl
theorem RS.callee (R : RS c f G E σ H) (r : Reps c G vs ds) : RS c (startF G H (ds.map .fz) vs) G (ds.map .fz) (vs.map some) H where
  gh := R.gh
  g0 := .refl G
  new := fun a o h => .inl (by show G a ≠ none; rw [h]; intro z; cases z)
  fr := fun a o h _ => h
  len := by rw [List.length_map, List.length_map]; exact r.length
  fz := fun i d h => by
    obtain ⟨d', e, q⟩ := map_fz_get h
    cases e
    obtain ⟨v, h1, h2⟩ := r.get q
    exact ⟨v, by rw [List.getElem?_map, h1]; rfl, h2⟩
  ow := fun i m h => by obtain ⟨d', e, q⟩ := map_fz_get h; cases e
  bo := fun i m h => by obtain ⟨d', e, q⟩ := map_fz_get h; cases e
  bos := fun i p h => by
    have h : boOf (ds.map Slot.fz) vs i = some p := h
    rw [boOf_fz] at h
    cases h
  dis := fun i j p n ⟨⟨m, z⟩, _⟩ _ => by
    rcases z with z | z
    · obtain ⟨d', e, q⟩ := map_fz_get z; cases e
    · obtain ⟨d', e, q⟩ := map_fz_get z; cases e
  inv := R.inv
  xv := fun i h => by obtain ⟨d', e, q⟩ := map_fz_get h; cases e
/-- behind a call to which nothing was lent -/
theorem RS.back (R : RS c f G E σ H) {as : Ev} (hb : boOf as vs = fun _ => none) {E1 : Ev} {σ1 : L2.St} (R1 : RS c (startF G H as vs) G' E1 σ1 H') : Gro G H G' H' where
  hh := fun a o h => R1.fr a o h (fun i z => by
    have z : boOf as vs i = some a := z
    rw [hb] at z
    cases z)
  gg := R1.g0
  gh := R1.gh
  new := fun a o h => by
    rcases R1.new a o h with z | z
    · refine .inl ?_
      have z : G a ≠ none := z
      cases q : G a with
      | none => exact absurd q z
      | some u =>
        have := R1.g0 a u q
        rw [h] at this
        cases this
        rfl
    · exact .inr z
theorem RelR.back (R : RS c f G E σ H) {as E1 : Ev} {σ1 : L2.St} {v : V} {r : RV} (h : RelR c (startF G H as vs) G' E1 σ1 H' v r) (hr : ∀ j, r ≠ .sl j) : RelN c G' H H' v r := by
  cases r with
  | sl j => exact absurd rfl (hr j)
  | fz d => exact h
  | ow m =>
    obtain ⟨p, h1, h2, h3, h4, _⟩ := h
    exact ⟨p, h1, h2, h3, h4⟩
end
theorem boOf_bo {m : MO} {p : Addr} {vs : List V} {ds : List D} : boOf (.bo m :: ds.map Slot.fz) (.ref p :: vs) = fun i => if i = 0 then some p else none := by
  funext i
  cases i with
  | zero => rfl
  | succ i =>
    rw [if_neg (by omega)]
    have := congrFun (boOf_fz (ds := ds) (vs := vs)) i
    unfold boOf at this ⊢
    simpa using this
section
variable {c : Cfg} {f : Fr} {G G' : Hp} {E E' : Ev} {σ σ' : L2.St} {H H' : Hp} {vs : List V} {ds : List D} {m m' : MO} {p : Addr}
theorem RS.calleeB (R : RS c f G E σ H) (r : Reps c G vs ds) (ho : OwnRel c G H p m) (hg : G p = none) : RS c (startF G H (.bo m :: ds.map .fz) (.ref p :: vs)) G (.bo m :: ds.map .fz) ((V.ref p :: vs).map some) H where
  gh := R.gh
  g0 := .refl G
  new := fun a o h => .inl (by show G a ≠ none; rw [h]; intro z; cases z)
  fr := fun a o h _ => h
  len := by simp [r.length]
  fz := fun i d h => by
    cases i with
    | zero => cases h
    | succ i =>
      have h : (ds.map Slot.fz)[i]? = some (Slot.fz d) := h
      obtain ⟨d', e, q⟩ := map_fz_get h
      cases e
      obtain ⟨v, h1, h2⟩ := r.get q
      exact ⟨v, by show (vs.map some)[i]? = _; rw [List.getElem?_map, h1]; rfl, h2⟩
  ow := fun i m h => by
    cases i with
    | zero => cases h
    | succ i =>
      have h : (ds.map Slot.fz)[i]? = some (Slot.ow m) := h
      obtain ⟨d', e, q⟩ := map_fz_get h; cases e
  bo := fun i m h => by
    cases i with
    | zero => cases h; exact ⟨p, rfl, ho, hg, rfl⟩
    | succ i =>
      have h : (ds.map Slot.fz)[i]? = some (Slot.bo m) := h
      obtain ⟨d', e, q⟩ := map_fz_get h; cases e
  bos := fun i q h => by
    have h : boOf (.bo m :: ds.map Slot.fz) (.ref p :: vs) i = some q := h
    rw [boOf_bo] at h
    dsimp only at h
    split at h
    · rename_i z; subst z; exact ⟨m, rfl⟩
    · cases h
  dis := fun i j q n a b => by
    have z : ∀ {k : Nat}, Own (.bo m :: ds.map Slot.fz) ((V.ref p :: vs).map some) k q → k = 0 := fun {k} ⟨⟨m1, z⟩, _⟩ => by
      cases k with
      | zero => rfl
      | succ k =>
        rcases z with z | z
        · have z : (ds.map Slot.fz)[k]? = some (Slot.ow m1) := z
          obtain ⟨d', e, q⟩ := map_fz_get z; cases e
        · have z : (ds.map Slot.fz)[k]? = some (Slot.bo m1) := z
          obtain ⟨d', e, q⟩ := map_fz_get z; cases e
    exact n ((z a).trans (z b).symm)
  inv := R.inv
  xv := fun i h => by
    cases i with
    | zero => cases h
    | succ i =>
      have h : (ds.map Slot.fz)[i]? = some Slot.xv := h
      obtain ⟨d', e, q⟩ := map_fz_get h; cases e
/-- behind a call to which slot j was lent -/
theorem RS.backB (R : RS c f G E σ H) {j : Nat} (hs : σ[j]? = some (some (V.ref p))) (he : E[j]? = some (Slot.ow m) ∨ E[j]? = some (Slot.bo m)) (ho : OwnRel c G H p m)
    {E1 : Ev} {σ1 : L2.St} (R1 : RS c (startF G H (.bo m :: ds.map .fz) (.ref p :: vs)) G' (.bo m' :: E1) σ1 H') : RS c f G' (M.setOwn E j m') σ H' := by
  obtain ⟨q, hq1, hq2, hq3, hq4⟩ := R1.bo 0 m' rfl
  have hq4 : boOf (.bo m :: ds.map Slot.fz) (.ref p :: vs) 0 = some q := hq4
  cases hq4
  have keep : ∀ a o, a ≠ p → H a = some o → H' a = some o := fun a o n h => R1.fr a o h fun i z => by
    have z : boOf (.bo m :: ds.map Slot.fz) (.ref p :: vs) i = some a := z
    rw [boOf_bo] at z
    dsimp only at z
    split at z
    · exact n (Option.some.inj z).symm
    · cases z
  have new : ∀ a o, G' a = some o → G a = some o ∨ H a = none := fun a o h => by
    rcases R1.new a o h with z | z
    · refine .inl ?_
      have z : G a ≠ none := z
      cases q : G a with
      | none => exact absurd q z
      | some u =>
        have := R1.g0 a u q
        rw [h] at this
        cases this
        rfl
    · exact .inr z
  obtain ⟨hgp, _⟩ := R.ownG (⟨⟨m, he⟩, hs⟩ : Own E σ j p)
  -- first the data and the other things grow, p as it was; then p is changed
  obtain ⟨op, hop⟩ := ho.there
  let Hm : Hp := fun a => if a = p then some op else H' a
  have g : Gro G H G' Hm := {
    hh := fun a o h => by
      show (if a = p then some op else H' a) = some o
      by_cases z : a = p
      · subst z; rw [if_pos rfl]; rw [hop] at h; exact h
      · rw [if_neg z]; exact keep a o z h
    gg := R1.g0
    gh := fun a o h => by
      show (if a = p then some op else H' a) = some o
      by_cases z : a = p
      · subst z; rw [hq3] at h; cases h
      · rw [if_neg z]; exact R1.gh a o h
    new := new }
  have R2 := R.gro g
  obtain ⟨o', ho'⟩ := hq2.there
  have eH : upd Hm p o' = H' := by
    funext a
    unfold upd
    by_cases z : a = p
    · subst z; rw [if_pos rfl, ho']
    · rw [if_neg z]; show (if a = p then some op else H' a) = _; rw [if_neg z]
  have := R2.setOwn (m' := m') (o := o') hs he (by rw [eH]; exact hq2)
  rwa [eH] at this
end
section
variable {X : Cx} {c : Cfg} {W : WX} {e o : Expr} {es : List Expr} {mr : AM} {F : FM} {n : Nat}
theorem fn_read {σ : L2.St} {H : Hp} {Q : VK} (hn : ∀ {E E1 : Ev} {rs}, mr E = .ok rs E1 → rs.length = n) (h : tE c W (mFn F mr) σ H Q) : tCallS (spM c n F) (WE W) (tA c W mr) σ H Q := by
  obtain ⟨f, G, E, R, h⟩ := h
  refine ⟨f, G, E, R, ?_⟩
  unfold mFn at h
  cases q : mr E with
  | bad => rw [q] at h; exact h
  | ex x E1 => rw [q] at h; exact h
  | ok rs E1 =>
    rw [q] at h
    intro G1 vs H1 e1 R1 r1
    have h := postE_mono e1 h
    simp only [Res.bind] at h
    cases q2 : fzs E1 rs with
    | none => rw [q2] at h; exact h.elim
    | some pr =>
      obtain ⟨ds, E2⟩ := pr
      rw [q2] at h
      simp only at h
      obtain ⟨G2, e2, R2, rep⟩ := fzs_rep R1 r1 q2
      have lens : ∀ {rs : List RV} {E1 E2 : Ev} {ds : List D}, fzs E1 rs = some (ds, E2) → ds.length = rs.length := by
        intro rs
        induction rs with
        | nil => intro E1 E2 ds q; cases q; rfl
        | cons r rs ih =>
          intro E1 E2 ds q
          simp only [fzs] at q
          split at q
          · split at q
            · rename_i h2
              cases q
              simp [ih h2]
            · cases q
          · cases q
      refine ⟨by rw [rep.length, lens q2, hn q], G2, ds.map .fz, ?_, R2.callee rep, ?_⟩
      · rw [List.all_map]
        exact List.all_eq_true.mpr fun _ _ => rfl
      cases q3 : F (ds.map .fz) with
      | bad => rw [q3] at h; exact h
      | ex x E3 =>
        rw [q3] at h
        intro G3 σ3 cls d H3 e3 R3 rel
        exact h G3 cls d H3 (e2.trans e3) (R2.gro (R2.back boOf_fz R3)) rel
      | ok r E3 =>
        rw [q3] at h
        intro G3 σ3 v H3 e3 R3 rel
        have g := R2.back boOf_fz R3
        cases r with
        | sl j => exact h.elim
        | fz d => exact h G3 v H3 (e2.trans e3) (R2.gro g) rel
        | ow m => exact h G3 v H3 (e2.trans e3) (R2.gro g) (RelN.rel R2 (RelR.back R2 rel (fun j z => by cases z)))
theorem de_fn {o : Expr} (h : ∀ {t : TA}, PA X es t → PE X o (tCallS (spM c n F) (WE W) t)) (ha : PA X es (tA c W mr)) (hn : ∀ {E E1 : Ev} {rs}, mr E = .ok rs E1 → rs.length = n) : PE X o (tE c W (mFn F mr)) := pe_imp (h ha) fun _ _ _ q => fn_read hn q
theorem aNil_len {E E1 : Ev} {rs : List RV} (h : aNil E = .ok rs E1) : rs.length = 0 := by cases h; rfl
theorem aCons_len {ma : EM} {mr : AM} {n : Nat} (hn : ∀ {E E1 : Ev} {rs}, mr E = .ok rs E1 → rs.length = n) {E E1 : Ev} {rs : List RV} (h : aCons ma mr E = .ok rs E1) : rs.length = n + 1 := by
  unfold aCons at h
  cases q : ma E with
  | bad => rw [q] at h; cases h
  | ex x E' => rw [q] at h; cases h
  | ok r E' =>
    rw [q] at h
    simp only [Res.bind] at h
    cases q2 : mr E' with
    | bad => rw [q2] at h; cases h
    | ex x E' => rw [q2] at h; cases h
    | ok rs' E'' =>
      rw [q2] at h
      cases h
      simp [hn q2]
theorem fnB_read {x : Str} {p0 : Pos} {j : Nat} {σ : L2.St} {H : Hp} {Q : VK} (hn : ∀ {E E1 : Ev} {rs}, mr E = .ok rs E1 → rs.length = n) (h : tE c W (mFnB F j mr) σ H Q) : tCallS (spM c (n + 1) F) (WE W) (tCons (tVar j) (tA c W mr)) σ H Q := by
  obtain ⟨f, G, E, R, h⟩ := h
  unfold mFnB at h
  cases q0 : own E j with
  | none => rw [q0] at h; exact h.elim
  | some m0 =>
  rw [q0] at h
  obtain ⟨p, hs0, ho0, _⟩ := R.own q0
  refine ⟨.ref p, hs0, f, G, E, R, ?_⟩
  cases q : mr E with
  | bad => rw [q] at h; exact h
  | ex x E1 => rw [q] at h; exact h
  | ok rs E1 =>
    rw [q] at h
    intro G1 vs H1 e1 R1 r1
    have h := postE_mono e1 h
    simp only [Res.bind] at h
    cases q2 : fzs E1 rs with
    | none => rw [q2] at h; exact h.elim
    | some pr =>
      obtain ⟨ds, E2⟩ := pr
      rw [q2] at h
      simp only at h
      obtain ⟨G2, e2, R2, rep⟩ := fzs_rep R1 r1 q2
      have lens : ∀ {rs : List RV} {E1 E2 : Ev} {ds : List D}, fzs E1 rs = some (ds, E2) → ds.length = rs.length := by
        intro rs
        induction rs with
        | nil => intro E1 E2 ds q; cases q; rfl
        | cons r rs ih =>
          intro E1 E2 ds q
          simp only [fzs] at q
          split at q
          · split at q
            · rename_i h2
              cases q
              simp [ih h2]
            · cases q
          · cases q
      cases q4 : own E2 j with
      | none => rw [q4] at h; exact h.elim
      | some m =>
      rw [q4] at h
      simp only at h
      obtain ⟨p2, hs2, ho2, he2, hg2⟩ := R2.own q4
      rw [hs0] at hs2
      cases hs2
      refine ⟨by rw [List.length_cons, rep.length, lens q2, hn q], G2, .bo m :: ds.map .fz, ?_, R2.calleeB rep ho2 hg2, ?_⟩
      · rw [List.all_cons, List.all_map]
        exact (Bool.and_eq_true _ _).mpr ⟨rfl, List.all_eq_true.mpr fun _ _ => rfl⟩
      cases q3 : F (.bo m :: ds.map .fz) with
      | bad => rw [q3] at h; exact h
      | ex x E3 =>
        rw [q3] at h
        cases E3 with
        | nil => exact h.elim
        | cons s3 E3 =>
        cases s3 with
        | bo m' =>
          intro G3 σ3 cls d H3 e3 R3 rel
          exact h G3 cls d H3 (e2.trans e3) (R2.backB hs0 he2 ho2 R3) rel
        | _ => exact h.elim
      | ok r E3 =>
        rw [q3] at h
        cases E3 with
        | nil => cases r <;> exact h.elim
        | cons s3 E3 =>
        cases s3 with
        | bo m' =>
          cases r with
          | sl j => exact h.elim
          | fz d =>
            intro G3 σ3 v H3 e3 R3 rel
            exact h G3 v H3 (e2.trans e3) (R2.backB hs0 he2 ho2 R3) rel
          | ow r =>
            intro G3 σ3 v H3 e3 R3 rel
            refine h G3 v H3 (e2.trans e3) (R2.backB hs0 he2 ho2 R3) ?_
            obtain ⟨p3, z1, z2, z3, z4, _⟩ := rel
            have z4 : H1 p3 = none := z4
            refine ⟨p3, z1, z2, z3, R2.h0 z4, fun i o => ?_⟩
            have eo : Own E2 σ i p3 := by
              obtain ⟨⟨m1, y1⟩, y2⟩ := o
              by_cases n : j = i
              · subst n
                exact ⟨⟨m, he2⟩, y2⟩
              · unfold setOwn at y1
                rw [List.getElem?_set_ne n] at y1
                exact ⟨⟨m1, y1⟩, y2⟩
            obtain ⟨_, m1, hm1⟩ := R2.ownG eo
            obtain ⟨u, hu⟩ := hm1.there
            rw [z4] at hu
            cases hu
        | _ => cases r <;> exact h.elim
theorem de_fnB {o : Expr} {x : Str} {p0 : Pos} {j : Nat} (h : ∀ {t : TA}, PA X (.Name x p0 :: es) t → PE X o (tCallS (spM c (n + 1) F) (WE W) t)) (hv : PE X (.Name x p0) (tVar j)) (ha : PA X es (tA c W mr)) (hn : ∀ {E E1 : Ev} {rs}, mr E = .ok rs E1 → rs.length = n)
    (hs : starEach (.Name x p0 :: es) X.env = (false, eval (.Name x p0) X.env) :: starEach es X.env := by rfl) : PE X o (tE c W (mFnB F j mr)) := pe_imp (h (pa_cons hv ha hs)) fun _ _ _ q => fnB_read (x := x) (p0 := p0) hn q
end
end M

namespace M
open PySem PySem.Spec PyProof.Rows L2

section
variable {X : Cx} {c : Cfg}
/-- a built-in's rule from a rule by values -/
theorem calld {f : Value} {r : List V → Hp → VK → Prop} {op : List D → Option RV} (h : CallR X f r) (i : ∀ {G H : Hp} {vs : List V} {ds : List D} {a : RV} {Q : VK}, Same G H → Pks c G H vs ds → op ds = some a → Made c G H a Q → r vs H Q) : CallR X f (rDn c op) :=
  callr_imp h fun xs H Q ⟨G, ds, a, e, hp, q, m⟩ => i e hp q m

/-! ### len, abs, min, max, int -/
def lenD : List D → Option RV
  | [.lst l] => some (.fz (.int l.length))
  | [.frl l] => some (.fz (.int l.length))
  | [.tup l] => some (.fz (.int l.length))
  | _ => none
theorem d_len (hK : c.K = X.K) : CallR X (.builtin "len") (rDn c lenD) := calld call_len_seq fun e hp q m => by
  cases hp with
  | nil => cases q
  | cons p1 t =>
    cases t with
    | cons _ _ => unfold lenD at q; split at q <;> simp_all
    | nil =>
      unfold lenD at q
      split at q
      · rename_i l z
        cases z; cases q
        obtain ⟨a, vs, rfl, h1, r1⟩ := p1
        exact ⟨_, _, rfl, .inl (.of h1), by rw [r1.length]; exact m.flat e (.int _)⟩
      · rename_i l z
        cases z; cases q
        obtain ⟨a, vs, rfl, h1, r1⟩ := p1
        exact ⟨_, _, rfl, .inl (hK ▸ h1), by rw [r1.length]; exact m.flat e (.int _)⟩
      · rename_i l z
        cases z; cases q
        cases p1 with
        | tup h1 r1 => exact ⟨_, _, rfl, .inr (hK ▸ sqt_mono e h1), by rw [r1.length]; exact m.flat e (.int _)⟩
      · cases q
def absD : List D → Option RV
  | [.int i] => some (.fz (.int (if i < 0 then -i else i)))
  | _ => none
theorem d_abs : CallR X (.builtin "abs") (rDn c absD) := calld call_abs fun e hp q m => by
  unfold absD at q
  split at q
  · rename_i i
    cases q
    cases hp with
    | cons p1 t =>
      cases t
      cases p1
      exact ⟨i, rfl, m.flat e (.int _)⟩
  · cases q
def max2D : List D → Option RV
  | [.int i, .int j] => some (.fz (.int (if j > i then j else i)))
  | _ => none
def min2D : List D → Option RV
  | [.int i, .int j] => some (.fz (.int (if j < i then j else i)))
  | _ => none
theorem d_max2 (hc : X.calm = true) : CallR X (.builtin "max") (rDn c max2D) := calld (call_max2 hc) fun e hp q m => by
  unfold max2D at q
  split at q
  · rename_i i j
    cases q
    cases hp with
    | cons p1 t =>
      cases t with
      | cons p2 t =>
        cases t
        cases p1
        cases p2
        exact ⟨i, j, rfl, m.flat e (.int _)⟩
  · cases q
theorem d_min2 (hc : X.calm = true) : CallR X (.builtin "min") (rDn c min2D) := calld (call_min2 hc) fun e hp q m => by
  unfold min2D at q
  split at q
  · rename_i i j
    cases q
    cases hp with
    | cons p1 t =>
      cases t with
      | cons p2 t =>
        cases t
        cases p1
        cases p2
        exact ⟨i, j, rfl, m.flat e (.int _)⟩
  · cases q
def intD : List D → Option RV
  | [.int i] => some (.fz (.int i))
  | [.bl k] => some (.fz (.int (if k then 1 else 0)))
  | _ => none
theorem d_int : CallR X (.type "int") (rDn c intD) := calld call_int1 fun e hp q m => by
  unfold intD at q
  split at q
  · rename_i i
    cases q
    cases hp with
    | cons p1 t =>
      cases t
      cases p1
      exact .inl ⟨i, rfl, m.flat e (.int _)⟩
  · rename_i k
    cases q
    cases hp with
    | cons p1 t =>
      cases t
      cases p1
      exact .inr ⟨k, rfl, m.flat e (.int _)⟩
  · cases q
def divmodD : List D → Option RV
  | [.int i, .int j] => if decide (0 < j) && !Builtin.divisionGoesByPylong i j then some (.fz (.tup [.int (i / j), .int (i % j)])) else none
  | _ => none
theorem d_divmod : CallR X (.builtin "divmod") (rDn c divmodD) := calld call_divmodW fun e hp q m => by
  unfold divmodD at q
  split at q
  · rename_i i j
    split at q
    · rename_i hd
      cases q
      simp only [Bool.and_eq_true, decide_eq_true_eq, Bool.not_eq_true'] at hd
      cases hp with
      | cons p1 t =>
        cases t with
        | cons p2 t =>
          cases t
          cases p1
          cases p2
          exact ⟨i, j, rfl, hd, fun p hp => m.tup e (.cons (.int _) (.cons (.int _) .nil)) hp⟩
    · cases q
  · cases q

/-! ### tuple(x), list(x) -/
def tupleD : List D → Option RV
  | [.lst l] => some (.fz (.tup l))
  | [.tup l] => some (.fz (.tup l))
  | _ => none
theorem d_tuple (hK : c.K = X.K) : CallR X (.type "tuple") (rDn c tupleD) := calld call_tuple_of fun e hp q m => by
  unfold tupleD at q
  split at q
  · cases q
    cases hp with
    | cons p1 t =>
      cases t
      obtain ⟨a, vs, rfl, h1, r1⟩ := p1
      exact ⟨_, _, rfl, .inl ⟨.of h1, fun p hp => m.tup e r1 hp⟩⟩
  · cases q
    cases hp with
    | cons p1 t =>
      cases t
      cases p1 with
      | tup h1 r1 => exact ⟨_, _, rfl, .inr ⟨hK ▸ sqt_mono e h1, m.flat e (.tup h1 r1)⟩⟩
  · cases q
def listD : List D → Option RV
  | [.lst l] => some (.ow (.lst l))
  | [.frl l] => some (.ow (.lst l))
  | [.tup l] => some (.ow (.lst l))
  | _ => none
theorem d_list (hK : c.K = X.K) : CallR X (.type "list") (rDn c listD) := calld call_list_of fun e hp q m => by
  unfold listD at q
  split at q
  · cases q
    cases hp with
    | cons p1 t =>
      cases t
      obtain ⟨a, vs, rfl, h1, r1⟩ := p1
      exact ⟨_, _, rfl, .inl (.of h1), fun p hp => m.lst e r1 hp⟩
  · cases q
    cases hp with
    | cons p1 t =>
      cases t
      obtain ⟨a, vs, rfl, h1, r1⟩ := p1
      exact ⟨_, _, rfl, .inl (hK ▸ h1), fun p hp => m.lst e r1 hp⟩
  · cases q
    cases hp with
    | cons p1 t =>
      cases t
      cases p1 with
      | tup h1 r1 => exact ⟨_, _, rfl, .inr (hK ▸ sqt_mono e h1), fun p hp => m.lst e r1 hp⟩
  · cases q

/-! ### sum, any, all, sorted -/
def intsD : List D → Option (List Int)
  | [] => some []
  | .int i :: l => (intsD l).map (i :: ·)
  | _ :: _ => none
def boolsD : List D → Option (List Bool)
  | [] => some []
  | .bl i :: l => (boolsD l).map (i :: ·)
  | _ :: _ => none
theorem intsD_map : ∀ {ds : List D} {ns : List Int}, intsD ds = some ns → ds = ns.map D.int
  | [], _, h => by cases h; rfl
  | .int i :: l, ns, h => by
    cases q : intsD l with
    | none => simp [intsD, q] at h
    | some ms =>
      simp [intsD, q] at h
      subst h
      rw [intsD_map q]
      rfl
theorem boolsD_map : ∀ {ds : List D} {ns : List Bool}, boolsD ds = some ns → ds = ns.map D.bl
  | [], _, h => by cases h; rfl
  | .bl i :: l, ns, h => by
    cases q : boolsD l with
    | none => simp [boolsD, q] at h
    | some ms =>
      simp [boolsD, q] at h
      subst h
      rw [boolsD_map q]
      rfl
theorem Reps.of_bls {G : Hp} : ∀ {vs : List V} {l : List Bool}, Reps c G vs (l.map D.bl) → vs = l.map V.bl
  | [], [], _ => rfl
  | _ :: _, i :: l, .cons r t => by cases r; rw [Reps.of_bls t]; rfl
def sumL : List D → Option RV
  | [.lst l] => (intsD l).map fun ns => .fz (.int ns.sum)
  | [.frl l] => (intsD l).map fun ns => .fz (.int ns.sum)
  | _ => none
theorem d_sumL (hK : c.K = X.K) (hc : X.calm = true) : CallR X (.builtin "sum") (rDn c sumL) := calld (cr_sum hc) fun e hp q m => by
  unfold sumL at q
  split at q
  · rename_i l
    cases z : intsD l with
    | none => rw [z] at q; cases q
    | some ns =>
      rw [z] at q
      cases q
      cases hp with
      | cons p1 t =>
        cases t
        obtain ⟨a, vs, rfl, h1, r1⟩ := p1
        rw [intsD_map z] at r1
        rw [r1.of_ints] at h1
        exact ⟨a, ns, rfl, .of h1, m.flat e (.int _)⟩
  · rename_i l
    cases z : intsD l with
    | none => rw [z] at q; cases q
    | some ns =>
      rw [z] at q
      cases q
      cases hp with
      | cons p1 t =>
        cases t
        obtain ⟨a, vs, rfl, h1, r1⟩ := p1
        rw [intsD_map z] at r1
        rw [r1.of_ints] at h1
        exact ⟨a, ns, rfl, hK ▸ h1, m.flat e (.int _)⟩
  · cases q
def rSumT (K : PySem.W.Frag) : List V → Hp → VK → Prop := fun vs H Q => ∃ (a : Addr) (ns : List Int), vs = [V.ref a] ∧ SqT K H a (ns.map V.int) ∧ Q (.int ns.sum) H
theorem cr_sumT (hc : X.calm = true) : CallR X (.builtin "sum") (rSumT X.K) := by
  intro pins s σ H vs us Q I r h
  obtain ⟨a, ns, rfl, hs, q⟩ := h
  obtain ⟨its, rv, ht, _⟩ := I.tuple hs
  obtain ⟨u, rfl, rr⟩ := Vals.one r
  obtain rfl : u = Value.ref a := rr
  have hi : IntsAre its ns := rv.ints
  obtain ⟨xs, e⟩ := hi.allInts.items
  have hn : numsOf (intItems xs).toList = ns := by rw [← e]; exact hi.numsOf
  rw [nums_intItems] at hn
  rw [e] at ht
  have hT : s.heap.IsTuple a (intItems xs) := ht
  refine PySem.call_sum_walkG (wpAny_pyIter_tuple hT ?_)
  have hlt : a < s.heap.objs.size := by obtain ⟨_, z, _⟩ := hT; exact Heap.lt_size z
  refine ⟨_, _, _, _, _, _, numAt xs, rfl, Walks.tuple (A := X.A.in1) (I.ok.hd hc) _ a (Nat.ne_of_lt hlt) (intItems xs), ⟨⟨_, Heap.get?_push_size _ rfl, rfl, rfl⟩, hT.at fun o q => Heap.get?_push_of_some _ q⟩, ?_, fun _ _ => intItems_at, fun h' tk t' hk => ?_⟩
  · intro b hb
    show b < (s.heap.push _).objs.size
    rw [Heap.size_push]
    rcases List.mem_cons.mp hb with rfl | hb
    · exact Nat.lt_succ_self _
    · rw [List.mem_singleton.mp hb]
      exact Nat.lt_succ_of_lt hlt
  · have e2 : preSum (numAt xs) (intItems xs).size = ns.sum := by
      rw [preSum_eq, List.take_of_length_le (by simp [intItems]), hn]
    rw [e2]
    exact ⟨.int _, H, I.kept fun b o q => hk b o (fun z => by
      rw [List.mem_singleton.mp z] at q
      exact absurd (Heap.lt_size q) (Nat.lt_irrefl _)) (Heap.get?_push_of_some _ q), ⟨_, rfl⟩, q⟩
def sumT : List D → Option RV
  | [.tup l] => (intsD l).map fun ns => .fz (.int ns.sum)
  | _ => none
theorem d_sumT (hK : c.K = X.K) (hc : X.calm = true) : CallR X (.builtin "sum") (rDn c sumT) := calld (cr_sumT hc) fun e hp q m => by
  unfold sumT at q
  split at q
  · rename_i l
    cases z : intsD l with
    | none => rw [z] at q; cases q
    | some ns =>
      rw [z] at q
      cases q
      cases hp with
      | cons p1 t =>
        cases t
        cases p1 with
        | tup h1 r1 =>
          rw [intsD_map z] at r1
          rw [r1.of_ints] at h1
          exact ⟨_, ns, rfl, hK ▸ sqt_mono e h1, m.flat e (.int _)⟩
  · cases q
def sumD := orO sumL sumT
theorem d_sum (hK : c.K = X.K) (hc : X.calm = true) : CallR X (.builtin "sum") (rDn c sumD) := calld_or (d_sumL hK hc) (d_sumT hK hc)
def anyD : List D → Option RV
  | [.lst l] => (boolsD l).map fun ns => .fz (.bl (ns.any id))
  | _ => none
def allD : List D → Option RV
  | [.lst l] => (boolsD l).map fun ns => .fz (.bl (ns.all id))
  | _ => none
theorem d_any (hc : X.calm = true) : CallR X (.builtin "any") (rDn c anyD) := calld (cr_any hc) fun e hp q m => by
  unfold anyD at q
  split at q
  · rename_i l
    cases z : boolsD l with
    | none => rw [z] at q; cases q
    | some ns =>
      rw [z] at q
      cases q
      cases hp with
      | cons p1 t =>
        cases t
        obtain ⟨a, vs, rfl, h1, r1⟩ := p1
        rw [boolsD_map z] at r1
        rw [r1.of_bls] at h1
        exact ⟨a, ns, rfl, .of h1, m.flat e (.bl _)⟩
  · cases q
theorem d_all (hc : X.calm = true) : CallR X (.builtin "all") (rDn c allD) := calld (cr_all hc) fun e hp q m => by
  unfold allD at q
  split at q
  · rename_i l
    cases z : boolsD l with
    | none => rw [z] at q; cases q
    | some ns =>
      rw [z] at q
      cases q
      cases hp with
      | cons p1 t =>
        cases t
        obtain ⟨a, vs, rfl, h1, r1⟩ := p1
        rw [boolsD_map z] at r1
        rw [r1.of_bls] at h1
        exact ⟨a, ns, rfl, .of h1, m.flat e (.bl _)⟩
  · cases q

/-! ### isinstance with a built-in class -/
def tyName : D → Option String
  | .non => some "NoneType"
  | .bl _ => some "bool"
  | .int _ => some "int"
  | .str _ => some "str"
  | .tup _ => some "tuple"
  | .lst _ => some "list"
  | .frl _ => some "list"
  | .dct _ => some "dict"
  | _ => none
def tyNames : List String := ["NoneType", "bool", "int", "str", "tuple", "list", "dict"]
def clsNames : List String := ["bool", "int", "str", "tuple", "list", "dict"]
def isB (t n : String) : Bool := t == n || (t == "bool" && n == "int")
theorem kit_all : ∀ t ∈ tyNames, ∀ n ∈ clsNames, kitB t n = some (isB t n) := by
  intro t ht n hn
  simp only [tyNames, clsNames, List.mem_cons, List.not_mem_nil, or_false] at ht hn
  rcases ht with rfl | rfl | rfl | rfl | rfl | rfl | rfl <;> rcases hn with rfl | rfl | rfl | rfl | rfl | rfl <;> decide +kernel
def isiD : List D → Option RV
  | [d, .ty n] => match tyName d with
    | some t => if clsNames.contains n then some (.fz (.bl (isB t n))) else none
    | none => none
  | _ => none
theorem tyX_of {G H : Hp} {v : V} {d : D} {t : String} (e : Same G H) (h : Pk c G H v d) (q : tyName d = some t) : t ∈ tyNames ∧ TyX c.K H v (.type t) := by
  cases d with
  | non => cases q; cases h; exact ⟨by decide, .base .non⟩
  | bl b => cases q; cases h; exact ⟨by decide, .base (.bl _)⟩
  | int b => cases q; cases h; exact ⟨by decide, .base (.int _)⟩
  | str b => cases q; cases h; exact ⟨by decide, .base (.str _)⟩
  | tup l =>
    cases q
    cases h with
    | tup h1 r1 =>
      refine ⟨by decide, ?_⟩
      rcases sqt_mono e h1 with (z | ⟨o, z⟩) | ⟨o, its, n, z, w, _⟩
      · exact .base (.tup z)
      · exact .fTuple z
      · exact .kTuple z w
  | lst l =>
    cases q
    obtain ⟨a, vs, rfl, h1, _⟩ := h
    exact ⟨by decide, .base (.lst h1)⟩
  | frl l =>
    cases q
    obtain ⟨a, vs, rfl, h1, _⟩ := h
    refine ⟨by decide, ?_⟩
    rcases h1 with (z | ⟨o, z⟩) | ⟨o, its, n, z, w, _⟩
    · exact .base (.lst z)
    · exact .base (.frz z)
    · exact .kList z w
  | dct l =>
    cases q
    obtain ⟨a, vs, rfl, h1, _⟩ := h
    refine ⟨by decide, ?_⟩
    rcases h1 with h1 | ⟨o, h1⟩
    · exact .base (.dK h1)
    · exact .fDict h1
  | _ => cases q
theorem d_isi (hK : c.K = X.K) : CallR X (.builtin "isinstance") (rDn c isiD) := calld call_isi fun e hp q m => by
  unfold isiD at q
  split at q
  · rename_i d n
    split at q
    · rename_i t ht
      split at q
      · rename_i hn
        cases q
        cases hp with
        | cons p1 t2 =>
          cases t2 with
          | cons p2 t3 =>
            cases t3
            have p2' := Pk.rep e p2
            cases p2'
            obtain ⟨h1, h2⟩ := tyX_of e p1 ht
            exact ⟨_, _, _, _, _, rfl, .ty _, hK ▸ h2, kit_ty (kit_all _ h1 _ (by simpa using hn)), m.flat e (.bl _)⟩
      · cases q
    · cases q
  · cases q

/-! ### slices -/
def cutD (ds : List D) (lo hi : Option Int) : List D := (ds.drop (HT.sIx ds.length 0 lo)).take (HT.sIx ds.length ds.length hi - HT.sIx ds.length 0 lo)
theorem Reps.cut {G : Hp} {vs : List V} {ds : List D} (h : Reps c G vs ds) (lo hi : Option Int) : Reps c G (cutV vs lo hi) (cutD ds lo hi) := by
  unfold cutV cutD
  rw [h.length]
  exact (h.drop _).take _
def slD (d : D) (lo hi : Option Int) : Option RV := match d with
  | .lst l => some (.ow (.lst (cutD l lo hi)))
  | .frl l => some (.ow (.lst (cutD l lo hi)))
  | .tup l => some (.fz (.tup (cutD l lo hi)))
  | _ => none
abbrev OM := Ev → Res (Option Int)
def oNone : OM := fun E => .ok none E
def oSome (m : EM) : OM := fun E => (m E).bind fun r E1 => match pk E1 r with
  | some (.int i) => .ok (some i) E1
  | _ => .bad
def mSl (m : EM) (lo hi : OM) : EM := fun E => (m E).bind fun r E1 => (lo E1).bind fun a E2 => (hi E2).bind fun b E3 => match pk E3 r.settle with
  | some d => match slD d a b with
    | some r => .ok r E3
    | none => .bad
  | none => .bad
def tO (c : Cfg) (W : WX) (m : OM) : TO := fun σ H Q => ∃ f G E, RS c f G E σ H ∧ match m E with
  | .ok o E' => ∀ G' H', Same G G' → RS c f G' E' σ H' → Q o H'
  | .ex x E' => XW c W f G σ x E'
  | .bad => False
variable {W : WX} {e : Expr} {m : EM} {lo hi : OM} {elo ehi : Option Expr} {p2 pos : Pos}
theorem po_imp {t t' : TO} {e : Option Expr} (h : PO X e t) (i : ∀ σ H Q, t' σ H Q → t σ H Q) : PO X e t' := ⟨fun pins s σ H Q I q => h.run pins s σ H Q I (i σ H Q q)⟩
theorem do_none : PO X none (tO c W oNone) := po_imp po_none fun σ H Q ⟨f, G, E, R, h⟩ => h G H (.refl _) R
theorem do_some (h : PE X e (tE c W m)) : PO X (some e) (tO c W (oSome m)) := po_imp (po_some h) fun σ H Q ⟨f, G, E, R, h⟩ => by
  refine tE_raw R ?_
  unfold oSome at h
  cases q : m E with
  | bad => rw [q] at h; exact h
  | ex x E' => rw [q] at h; exact h
  | ok r E1 =>
    rw [q] at h
    intro G1 v H1 e1 R1 r1
    simp only [Res.bind] at h
    cases q2 : pk E1 r with
    | none => rw [q2] at h; exact h.elim
    | some d =>
      rw [q2] at h
      cases d with
      | int i =>
        have rep := R1.pk r1 q2
        cases rep
        exact ⟨i, rfl, h G1 H1 e1 R1⟩
      | _ => exact h.elim
theorem slr_imp {r r' : V → Option Int → Option Int → Hp → VK → Prop} (h : SlR X r) (i : ∀ x lo hi H Q, r' x lo hi H Q → r x lo hi H Q) : SlR X r' := fun pins s σ H x v vl vu lo hi sl Q I rx hs pl pu q => h pins s σ H x v vl vu lo hi sl Q I rx hs pl pu (i x lo hi H Q q)
def rSlD (c : Cfg) : V → Option Int → Option Int → Hp → VK → Prop := fun x lo hi H Q => ∃ G d r, Same G H ∧ Pk c G H x d ∧ slD d lo hi = some r ∧ Made c G H r Q
theorem d_sl (hK : c.K = X.K) : SlR X (rSlD c) := slr_imp (SlR.or sl_list sl_tupA) fun x lo hi H Q ⟨G, d, r, e, hp, q, m⟩ => by
  cases d with
  | lst l =>
    cases q
    obtain ⟨a, vs, rfl, h1, r1⟩ := hp
    exact .inl ⟨a, vs, rfl, .of h1, fun p hp => m.lst e (r1.cut lo hi) hp⟩
  | frl l =>
    cases q
    obtain ⟨a, vs, rfl, h1, r1⟩ := hp
    exact .inl ⟨a, vs, rfl, hK ▸ h1, fun p hp => m.lst e (r1.cut lo hi) hp⟩
  | tup l =>
    cases q
    cases hp with
    | @tup a vs _ h1 r1 =>
      refine .inr ⟨a, vs, rfl, hK ▸ sqt_mono e h1, fun hw => ?_, fun _ p hp => m.tup e (r1.cut lo hi) hp⟩
      refine m.flat e ?_
      have : cutD l lo hi = l := by
        unfold cutD
        rw [← r1.length, hw.1, hw.2, List.drop_zero, Nat.sub_zero, List.take_of_length_le (by rw [r1.length]; exact Nat.le_refl _)]
      rw [this]
      exact .tup h1 r1
  | _ => cases q
theorem de_sl (hK : c.K = X.K) (he : PE X e (tE c W m)) (hl : PO X elo (tO c W lo)) (hu : PO X ehi (tO c W hi)) : PE X (.Subscript e (.Slice elo ehi none p2) pos) (tE c W (mSl m lo hi)) := pe_imp (pe_slice (d_sl hK) he hl hu) fun σ H Q ⟨f, G, E, R, h⟩ => by
  refine tE_bindE R h fun r E1 G1 v H1 e1 R1 r1 h1 => ?_
  refine ⟨f, G1, E1, R1, ?_⟩
  have h2 := postE_bind h1
  cases q : lo E1 with
  | bad => rw [q] at h2; exact h2
  | ex x E' => rw [q] at h2; exact h2
  | ok a E2 =>
    rw [q] at h2
    intro G2 H2 e2 R2
    refine ⟨f, G2, E2, R2, ?_⟩
    have h3 := postE_bind h2
    cases q3 : hi E2 with
    | bad => rw [q3] at h3; exact h3
    | ex x E' => rw [q3] at h3; exact XW.mono e2 h3
    | ok b E3 =>
      rw [q3] at h3
      intro G3 H3 e3 R3
      have h3 := postE_mono (e2.trans e3) h3
      split at h3
      · rename_i d pd
        split at h3
        · rename_i r2 hr
          exact ⟨G3, d, r2, R3.gh, R3.pk (r1.mono_settled (e2.trans e3)) pd, hr, fun G' v' H' g rel => h3 G' v' H' g.gg (R3.gro g) (RelN.rel R3 rel)⟩
        · exact h3.elim
      · exact h3.elim
end
end M

namespace M
open PySem PySem.Spec PyProof.Rows L2

/-! ### enumerate of a tuple -/
def ItT (K : PySem.W.Frag) (a : Addr) : It where
  go i H := ∃ (xs : List V) (x : V), SqT K H a xs ∧ xs[i]? = some x
  yld i H v H' := ∃ T x, v = .ref T ∧ H T = none ∧ H' = upd H T (.tup [.int (i : Nat), x]) ∧ ∀ xs, SqT K H a xs → xs[i]? = some x
  stop i H := ∃ xs : List V, SqT K H a xs ∧ xs.length = i
def enumT (e it a : Addr) (i : Nat) (h : Heap) : Prop := (∃ old, IsEnum h e it ((i : Nat) : Int) old) ∧ h.IsTupleIter it a i ∧ e ≠ it
theorem turn_enumT {P : Program} {w : World} {K : PySem.W.Frag} {elts : List Expr} {kk : Nat} {tpos : Pos} (a e it : Addr) : Turn P w K (.Tuple elts kk tpos) (ItT K a) [e, it] e (enumT e it a) where
  mem := List.mem_cons_self
  obj := by
    rintro i h ⟨⟨old, he⟩, ⟨o, ho, hc, hd⟩, _⟩ b hb
    rcases List.mem_cons.mp hb with rfl | hb
    · exact ⟨_, he, fun v q => nomatch q⟩
    · rw [List.mem_singleton.mp hb]
      exact ⟨o, ho, fun v q => by rw [hd] at q; cases q⟩
  keep := by
    rintro i h h' ⟨⟨old, he⟩, hi, hne⟩ k
    exact ⟨⟨old, k e (List.mem_cons_self) _ he⟩, hi.at fun o q => k it (List.mem_cons_of_mem _ (List.mem_singleton.mpr rfl)) o q, hne⟩
  item := by
    intro X hP hw hK hc i pins s σ H E I hf st hg
    subst hP hw hK
    obtain ⟨⟨old, he⟩, hit, hne⟩ := st
    obtain ⟨xs, x, hq, hx⟩ := hg
    obtain ⟨its, rv, pt, hz⟩ := I.tuple hq
    obtain ⟨u, hu, ru⟩ := rv.get hx
    have hT : s.heap.IsTuple a its.toArray := pt
    have hel : e < s.heap.objs.size := Heap.lt_size he
    have hil : it < s.heap.objs.size := by obtain ⟨_, q, _⟩ := hit; exact Heap.lt_size q
    have hia : i < its.toArray.size := by
      rw [List.size_toArray]
      exact (List.getElem?_eq_some_iff.mp hu).1
    obtain ⟨oa, hoa, hca, na, hda⟩ := id hT
    have nai : a ≠ it := fun z => by
      obtain ⟨o, ho, hc2, hd2⟩ := id hit
      rw [z, ho] at hoa
      cases hoa
      rw [hd2] at hda
      cases hda
    have nea : e ≠ a := fun z => by
      have he2 : s.heap.get? e = some _ := he
      rw [z, hoa] at he2
      cases he2
      cases hda
    have hef : e ∉ [it, a] := fun z => by
      rcases List.mem_cons.mp z with z | z
      · exact hne z
      · exact nea (List.mem_singleton.mp z)
    refine wpAny_pyNext_enum_itemD (Draws.tuple (A := X.A.in1) (I.ok.hd hc) it a nai its.toArray) he ⟨hit, hT⟩ hia hne hef fun y h' tk hy ho hst hnew hsz hk => ?_
    have ey : y = u := by
      have hy : its.toArray[i]? = some y := hy
      rw [List.getElem?_toArray, hu] at hy
      exact (Option.some.inj hy).symm
    subst ey
    refine ⟨_, rfl, wpAny_letOwnedTupleGo_enum (s := { s with heap := h', toks := tk + 1 }) ho fun h'' he' sb => ?_⟩
    have hnew2 := (sb.2 _ (Nat.ne_of_gt hel)).trans hnew
    have made : ObjOk X.prog X.w (upd H s.heap.objs.size (.tup [.int (i : Nat), x])) h'' s.heap.objs.size (.tup [.int (i : Nat), x]) := by
      refine ⟨?_, [.int i tk, y], .cons ⟨_, rfl⟩ (.cons ru .nil), _, hnew2, rfl, _, rfl⟩
      show 2 ≤ sizeLine
      decide
    have I1 := I.turnedNew (ch := [e, it]) (t' := tk + 1) (h' := h'') (fun b ob hb q => by
      have n1 : b ≠ e := fun z => hb (by rw [z]; exact List.mem_cons_self)
      have n2 : b ≠ it := fun z => hb (by rw [z]; exact List.mem_cons_of_mem _ (List.mem_singleton.mpr rfl))
      exact (sb.2 b n1).trans (hk b ob n1 n2 q)) hf (Nat.le_refl _) made
    refine ⟨.ref s.heap.objs.size, _, I1, rfl, ⟨_, x, rfl, I.hok.fresh (Nat.le_refl _), rfl, fun ys hy => ?_⟩, ⟨⟨y, ?_⟩, hst.1.at fun o q => (sb.2 it (Ne.symm hne)).trans q, hne⟩, fun b hb => ?_⟩
    · rw [I.tuple_inj hy hq]
      exact hx
    · have e1 : ((i + 1 : Nat) : Int) = (i : Int) + 1 := by omega
      rw [e1]
      exact he'
    · have lt : b < s.heap.objs.size := by
        rcases List.mem_cons.mp hb with rfl | hb
        · exact hel
        · rw [List.mem_singleton.mp hb]; exact hil
      rw [upd_ne (Nat.ne_of_lt lt)]
      exact (hf b hb).1
  done := by
    intro X hP hw hK hc i pins s σ H E I hf st hg
    subst hP hw hK
    obtain ⟨⟨old, he⟩, hit, hne⟩ := st
    obtain ⟨xs, hq, hx⟩ := hg
    obtain ⟨its, rv, pt, hz⟩ := I.tuple hq
    have hT : s.heap.IsTuple a its.toArray := pt
    obtain ⟨oa, hoa, hca, na, hda⟩ := id hT
    have nai : a ≠ it := fun z => by
      obtain ⟨o, ho, hc2, hd2⟩ := id hit
      rw [z, ho] at hoa
      cases hoa
      rw [hd2] at hda
      cases hda
    have en : i = its.toArray.size := by rw [List.size_toArray, ← rv.length]; exact hx.symm
    obtain ⟨f0, f1, f2, f3, f4, f5⟩ := hf it (List.mem_cons_of_mem _ (List.mem_singleton.mpr rfl))
    have st2 : s.heap.IsTupleIter it a its.toArray.size ∧ s.heap.IsTuple a its.toArray := ⟨en ▸ hit, hT⟩
    exact wpAny_pyNext_enum_endD (Draws.tuple (A := X.A.in1) (I.ok.hd hc) it a nai its.toArray) he st2 fun h' eb => ⟨rfl, I.turned (t' := s.toks) (fun b o hb q => eb b o hb q) f0 f1 f3 f4 f5⟩
  self := by
    rintro A i s Q E ⟨⟨_, he⟩, _⟩ h
    exact wpAny_pyIter_enum he h

theorem meets_enum1 {v : Value} {o : Obj} {H : Heap → Prop} (B : Begins v o H) :
    Meets (Builtin.«enumerate.__new__» ⟨[.type "enumerate", v], []⟩) (fun _ R s => H s.heap ∧
      R (.ok (.ret (.ref (s.heap.push o).objs.size))) { s with heap := (s.heap.push o).push { cls := .type "enumerate", data := .fields #[.none, .bool false, .ref s.heap.objs.size, rawInt 0, .none, .none] } }) := by
  refine Meets.of_wp fun prog w A R s h => ?_
  obtain ⟨hp, g, d, tk, os⟩ := s
  obtain ⟨h1, h⟩ := h
  have hsub := sub_enumerate
  have q1 : ∀ {A' : Around} {E : Value → Shared → Prop} {Q : Value → Shared → Prop}, Q (.ref hp.objs.size) ⟨hp.push o, g, d, tk, os⟩ → wpAny (model prog w) A' (pyIter v) Q E ⟨hp, g, d, tk, os⟩ := by
    intro A' E Q q
    exact B.iter prog w _ _ ⟨hp, g, d, tk, os⟩ _ h1 q
  wp_walk using q1
  refine wpAny_stack_any fun st => wpAny_pure ?_
  split
  case h_1 =>
    rename_i c _ _ _ _ _
    cases (c == Value.type "enumerate") <;> (wp_walk using q1; exact ⟨_, rfl, h⟩)
  case h_2 => wp_walk using q1; exact ⟨_, rfl, h⟩

theorem call_enum1 {prog : Program} {w : World} {A : Around} {E : Value → Shared → Prop} {s : Shared} {v : Value} {o : Obj} {H : Heap → Prop} {Q : Value → Shared → Prop} (B : Begins v o H) (h1 : H s.heap)
    (h : ∀ h', IsEnum h' (s.heap.objs.size + 1) s.heap.objs.size 0 .none → h'.get? s.heap.objs.size = some o → (∀ b o, s.heap.get? b = some o → h'.get? b = some o) → Q (.ref (s.heap.objs.size + 1)) { s with heap := h' }) :
    wpAny (model prog w) A (call (.type "enumerate") [v]) Q E s := by
  refine callType_new F.called_enumerate (by decide) (F.typeCall_enumerate_1 _) (F.newCall_enumerate_1 _) ?_ F.entry_enumerate_new (meets_enum1 B) ⟨h1, ?_⟩
  · intro obj
    exact F.args_object_init_2 obj _
  have hz : (s.heap.push o).objs.size = s.heap.objs.size + 1 := Heap.size_push ..
  show _ ∧ _
  rw [hz]
  have he : IsEnum ((s.heap.push o).push { cls := .type "enumerate", data := .fields #[.none, .bool false, .ref s.heap.objs.size, rawInt 0, .none, .none] }) (s.heap.objs.size + 1) s.heap.objs.size 0 .none := by
    have := Heap.get?_push_size (s.heap.push o) (o := { cls := .type "enumerate", data := .fields #[.none, .bool false, .ref s.heap.objs.size, rawInt 0, .none, .none] }) rfl
    rwa [hz] at this
  refine ⟨⟨_, he, rfl⟩, h _ he (Heap.get?_push_of_some _ (Heap.get?_push_size _ B.free)) ?_⟩
  intro b u x
  exact Heap.get?_push_of_some _ (Heap.get?_push_of_some _ x)
def iEnumT (K : PySem.W.Frag) (ta : TA) : TI := fun σ H R => ta σ H fun vs H1 => ∃ a xs, vs = [.ref a] ∧ SqT K H1 a xs ∧ R (ItT K a) H1
theorem pi_enumT {X : Cx} {e : Expr} {ta : TA} {p pos tpos : Pos} {elts : List Expr} {kk : Nat} (hg : Gl X "enumerate") (hm : X.mg "enumerate" = none) (ha : PA X [e] ta) (hs : starEach [e] X.env = [(false, eval e X.env)] := by rfl) :
    PI X (.Tuple elts kk tpos) (.Call (.Name "enumerate" p) [e] [] pos) (iEnumT X.K ta) := by
  constructor
  intro pins s σ H R I h
  refine Call_ (ld_blt I hg hm boot_enumerate (callWith_type1 (thn (ha.run pos pins s σ H _ I h) ?_) hs rfl))
  rintro us s1 ⟨vs, H1, I1, r1, a, xs, rfl, hq, q⟩
  obtain ⟨u, rfl, rr⟩ := Vals.one r1
  obtain rfl : u = Value.ref a := rr
  obtain ⟨its, rv, pt, hz⟩ := I1.tuple hq
  refine call_enum1 (begins_tuple a its.toArray) (show s1.heap.IsTuple a its.toArray from pt) fun h' he hit hk => wpAny_pyIter_enum he ?_
  refine ⟨s1.heap.objs.size + 1, [s1.heap.objs.size + 1, s1.heap.objs.size], _, _, H1, rfl, I1.kept (t' := s1.toks) hk, turn_enumT a (s1.heap.objs.size + 1) s1.heap.objs.size, ⟨⟨.none, he⟩, ⟨_, hit, rfl, rfl⟩, Nat.succ_ne_self _⟩, fun b hb => ?_, q⟩
  have hle : s1.heap.objs.size ≤ b := by
    rcases List.mem_cons.mp hb with rfl | hb
    · exact Nat.le_add_right _ _
    · rw [List.mem_singleton.mp hb]; exact Nat.le_refl _
  exact I1.fpOk hle (I1.hok.fresh hle)
def enumD (ds : List D) : List D := (List.range ds.length).map fun i => .tup [.int (i : Nat), (ds[i]?).getD .non]
section
variable {X : Cx} {c : Cfg} {W : WX} {a b tg iter : Expr} {m m' : EM}
theorem yields_enumT {G H : Hp} {p : Addr} {vs : List V} {ds : List D} (h : SqT c.K G p vs) (r : Reps c G vs ds) : Yields c G H (enumD ds) (ItT c.K p) := fun i G1 H1 e1 e2 _ => by
  have hs : SqT c.K H1 p vs := sqt_mono (e1.trans e2) h
  have hl : (enumD ds).length = ds.length := by unfold enumD; simp
  rw [hl]
  refine ⟨fun hi => ?_, fun hi => ⟨vs, hs, by rw [r.length]; exact hi⟩⟩
  have hv : i < vs.length := by rw [r.length]; exact hi
  refine ⟨⟨vs, _, hs, List.getElem?_eq_getElem hv⟩, fun x H' y => ?_⟩
  obtain ⟨T, x', rfl, hT, rfl, y⟩ := y
  obtain ⟨d, hd, rep⟩ := r.getV (y vs hs)
  have g := Gro.newG (o := HO.tup [.int (i : Nat), x']) e2 hT
  refine ⟨.tup [.int (i : Nat), d], ?_, _, g, .tup (.inl (.inl upd_same)) ((Reps.cons (.int _) (.cons (rep.mono e1) .nil)).mono g.gg)⟩
  unfold enumD
  rw [List.getElem?_map, List.getElem?_range hi]
  simp only [Option.map_some, hd, Option.getD_some]
def iEnumM (m : EM) : IM := fun E => (m E).bind fun r E1 => match fzn E1 r with
  | some (.tup ds, E2) => .ok (enumD ds) E2
  | some (.tux ds, E2) => .ok (enumD ds) E2
  | _ => .bad
theorem di_enum (hK : c.K = X.K) (h : ∀ {ta : TA}, PA X [a] ta → PI X tg iter (iEnumT X.K ta)) (ha : PE X a (tE c W m)) (hs : starEach [a] X.env = (false, eval a X.env) :: starEach [] X.env := by rfl) : PI X tg iter (tI c W (iEnumM m)) :=
  pi_imp (h (pa_cons ha pa_nil hs)) fun σ H R ⟨f, G, E, Rr, h⟩ => by
    refine tE_sub Rr ?_
    unfold iEnumM at h
    cases q : m E with
    | bad => rw [q] at h; exact h
    | ex x E' => rw [q] at h; exact h
    | ok r E1 =>
      rw [q] at h
      intro G1 v H1 e1 R1 r1
      simp only [Res.bind] at h
      cases q2 : fzn E1 r with
      | none => rw [q2] at h; exact h.elim
      | some p =>
        obtain ⟨d, E2⟩ := p
        rw [q2] at h
        obtain ⟨G2, e2, R2, rep⟩ := R1.frz r1 ((fzn_settle _ _).trans q2)
        cases d with
        | tup ds =>
          cases rep with
          | tup h1 reps => exact ⟨_, _, rfl, hK ▸ sqt_mono R2.gh h1, h G2 H1 _ (e1.trans e2) R2 (hK ▸ yields_enumT h1 reps)⟩
        | tux ds =>
          cases rep with
          | tux h1 reps => exact ⟨_, _, rfl, hK ▸ sqt_mono R2.gh h1.sqt, h G2 H1 _ (e1.trans e2) R2 (hK ▸ yields_enumT h1.sqt reps)⟩
        | _ => exact h.elim
/-! ### zip -/
def zipD (xs ys : List D) : List D := (List.range (min xs.length ys.length)).map fun i => .tup [(xs[i]?).getD .non, (ys[i]?).getD .non]
theorem yields_zipT {G H : Hp} {p p' : Addr} {vs ws : List V} {ds es : List D} (h : SqT c.K G p vs) (r : Reps c G vs ds) (h' : SqT c.K G p' ws) (r' : Reps c G ws es) : Yields c G H (zipD ds es) (RZ.ItzT c.K p p') := fun i G1 H1 e1 e2 _ => by
  have hs : SqT c.K H1 p vs := sqt_mono (e1.trans e2) h
  have hs' : SqT c.K H1 p' ws := sqt_mono (e1.trans e2) h'
  have hl : (zipD ds es).length = min ds.length es.length := by unfold zipD; simp
  rw [hl]
  refine ⟨fun hi => ?_, fun hi => ⟨vs, ws, hs, hs', by rw [r.length, r'.length]; omega⟩⟩
  have hv : i < vs.length := by rw [r.length]; omega
  have hw : i < ws.length := by rw [r'.length]; omega
  refine ⟨⟨vs, ws, _, _, hs, hs', List.getElem?_eq_getElem hv, List.getElem?_eq_getElem hw⟩, fun x H' y => ?_⟩
  obtain ⟨T, x', y', rfl, hT, rfl, yx, yy⟩ := y
  obtain ⟨d, hd, rep⟩ := r.getV (yx vs hs)
  obtain ⟨d', hd', rep'⟩ := r'.getV (yy ws hs')
  have g := Gro.newG (o := HO.tup [x', y']) e2 hT
  refine ⟨.tup [d, d'], ?_, _, g, .tup (.inl (.inl upd_same)) ((Reps.cons (rep.mono e1) (.cons (rep'.mono e1) .nil)).mono g.gg)⟩
  unfold zipD
  rw [List.getElem?_map, List.getElem?_range hi]
  simp only [Option.map_some, hd, hd', Option.getD_some]
theorem yields_zipL {G H : Hp} {p p' : Addr} {vs ws : List V} {ds es : List D} (h : SqL c.K G p vs) (r : Reps c G vs ds) (h' : SqL c.K G p' ws) (r' : Reps c G ws es) : Yields c G H (zipD ds es) (Itz c.K p p') := fun i G1 H1 e1 e2 _ => by
  have hs : SqL c.K H1 p vs := sql_mono (e1.trans e2) h
  have hs' : SqL c.K H1 p' ws := sql_mono (e1.trans e2) h'
  have hl : (zipD ds es).length = min ds.length es.length := by unfold zipD; simp
  rw [hl]
  refine ⟨fun hi => ?_, fun hi => ⟨vs, ws, hs, hs', by rw [r.length, r'.length]; omega⟩⟩
  have hv : i < vs.length := by rw [r.length]; omega
  have hw : i < ws.length := by rw [r'.length]; omega
  refine ⟨⟨vs, ws, _, _, hs, hs', List.getElem?_eq_getElem hv, List.getElem?_eq_getElem hw⟩, fun x H' y => ?_⟩
  obtain ⟨T, x', y', rfl, hT, rfl, yx, yy⟩ := y
  obtain ⟨d, hd, rep⟩ := r.getV (yx vs hs)
  obtain ⟨d', hd', rep'⟩ := r'.getV (yy ws hs')
  have g := Gro.newG (o := HO.tup [x', y']) e2 hT
  refine ⟨.tup [d, d'], ?_, _, g, .tup (.inl (.inl upd_same)) ((Reps.cons (rep.mono e1) (.cons (rep'.mono e1) .nil)).mono g.gg)⟩
  unfold zipD
  rw [List.getElem?_map, List.getElem?_range hi]
  simp only [Option.map_some, hd, hd', Option.getD_some]
end

/-! ### a def as callers see it -/
structure Cal (P : Program) (w : World) (K : PySem.W.Frag) (mg : Str → Option Value) (base : Heap) (c : Cfg) (x : Str) (k : Nat) (ps : List Str) (n : Nat) (F : FM) (dds : List D) : Prop where
  ex : ∃ (f : Addr) (fd : FuncData) (ds : List Value) (dvs : List V), mg x = some (.ref f) ∧ PySem.W.keepIn K (.ref f) = true ∧ FnOk P w K mg base (L2.CX P w) k f fd ps (spM c n F) ∧ Binds K fd ps ds ∧ Vals dvs ds ∧ ∀ G, Reps c G dvs dds
theorem Cal.mono {P : Program} {w : World} {K : PySem.W.Frag} {mg : Str → Option Value} {base : Heap} {c : Cfg} {x : Str} {k k' : Nat} {ps : List Str} {n : Nat} {F : FM} {dds : List D} (h : Cal P w K mg base c x k ps n F dds) (hk : k ≤ k') : Cal P w K mg base c x k' ps n F dds := by
  obtain ⟨f, fd, ds, dvs, a, b, d, e⟩ := h.ex
  exact ⟨f, fd, ds, dvs, a, b, d.mono hk, e⟩
theorem mk_fnD {P : Program} {w : World} {K : PySem.W.Frag} {mg : Str → Option Value} {base : Heap} {x qual : Str} {params : Arguments} {body : List Stmt} {scope : Scope} {dvs : List V} {kws : List (Str × V)} {f : Addr} {fd : FuncData} {N ps : List Str} {k n m : Nat} {c : Cfg} {bm : SM}
    (F : FunD K x qual params body scope dvs kws f fd) (S : FnScope N ps scope) (hn : N.length = n) (hm : ps.length = m)
    (hb : ∀ (cdv : Value) (A : Around) (outer : List Env) (s : Shared) (H : Hp) (E : XK), Room k (A.deeper (envOfC qual scope s.heap.objs.size f cdv)) →
      PSs (cxOf (L2.CX P w) P w K mg base N qual scope f cdv A outer s H E) body (tS c (fun cls d _ H' => E cls d H') bm)) :
    FnOk P w K mg base (L2.CX P w) (k + 1) f fd ps (spM c m (runF n bm)) := by
  refine F.ok S (fun vs H Q E h => by rw [hm]; exact h.1) fun cdv A outer s H vs Q E hr h => ⟨_, hb cdv A outer s H E hr, ?_⟩
  obtain ⟨hl, G, as, _, R, h⟩ := h
  have R1 := R.start (N := N)
  refine ⟨_, G, _, R1, ?_⟩
  unfold runF at h
  rw [← hn] at h
  cases q : bm (as ++ List.replicate (N.length - as.length) .un) with
  | nx E1 => rw [q] at h; exact fun G' σ' H' e R' => h G' σ' .non H' e R' .non
  | rt r E1 => rw [q] at h; exact fun G' σ' v H' e R' rel => h G' σ' v H' e R' rel
  | ex x E1 => rw [q] at h; exact fun σ' G' cls d H' e R' rel => h G' σ' cls d H' e R' rel
  | bk E1 => rw [q] at h; exact h.elim
  | ct E1 => rw [q] at h; exact h.elim
  | bad => rw [q] at h; exact h.elim
/-- a def of which nothing is promised -/
def badF : FM := fun _ => .bad
theorem fn_bad {P : Program} {w : World} {K : PySem.W.Frag} {mg : Str → Option Value} {base : Heap} {c : Cfg} {k m : Nat} {f : Addr} {fd : FuncData} {ps : List Str} (hm : ps.length = m) : FnOk P w K mg base (L2.CX P w) k f fd ps (spM c m badF) :=
  ⟨fun vs H Q E h => by rw [hm]; exact h.1, fun A outer s H args us vs Q E _ _ _ _ h => by
    obtain ⟨_, _, _, _, _, h⟩ := h
    exact h.elim⟩
/-- all arguments are data, the defaults behind them -/
def mFnD (F : FM) (dds : List D) (ma : AM) : EM := mFn (fun as => F (as ++ dds.map .fz)) ma
section
variable {X : Cx} {c : Cfg} {W : WX} {e o : Expr} {es : List Expr} {mr : AM} {F : FM} {n : Nat} {x : Str} {p p0 pos : Pos} {k kX : Nat} {ps : List Str} {dds : List D}
theorem fnD_read {σ : L2.St} {H : Hp} {Q : VK} {dvs : List V} (hd : ∀ G, Reps c G dvs dds) (hn : ∀ {E E1 : Ev} {rs}, mr E = .ok rs E1 → rs.length + dds.length = n) (h : tE c W (mFnD F dds mr) σ H Q) : tCallSD (spM c n F) dvs (WE W) (tA c W mr) σ H Q := by
  obtain ⟨f, G, E, R, h⟩ := h
  refine ⟨f, G, E, R, ?_⟩
  unfold mFnD mFn at h
  cases q : mr E with
  | bad => rw [q] at h; exact h
  | ex x E1 => rw [q] at h; exact h
  | ok rs E1 =>
    rw [q] at h
    intro G1 vs H1 e1 R1 r1
    have h := postE_mono e1 h
    simp only [Res.bind] at h
    cases q2 : fzs E1 rs with
    | none => rw [q2] at h; exact h.elim
    | some pr =>
      obtain ⟨ds, E2⟩ := pr
      rw [q2] at h
      simp only at h
      obtain ⟨G2, e2, R2, rep⟩ := fzs_rep R1 r1 q2
      have rep2 := rep.append (hd G2)
      have lens : ∀ {rs : List RV} {E1 E2 : Ev} {ds : List D}, fzs E1 rs = some (ds, E2) → ds.length = rs.length := by
        intro rs
        induction rs with
        | nil => intro E1 E2 ds q; cases q; rfl
        | cons r rs ih =>
          intro E1 E2 ds q
          simp only [fzs] at q
          split at q
          · split at q
            · rename_i h2
              cases q
              simp [ih h2]
            · cases q
          · cases q
      have hl := hn q
      have em : ds.map Slot.fz ++ dds.map Slot.fz = (ds ++ dds).map Slot.fz := by rw [List.map_append]
      rw [em] at h
      refine ⟨by rw [rep2.length, List.length_append, lens q2]; exact hl, G2, (ds ++ dds).map .fz, ?_, R2.callee rep2, ?_⟩
      · rw [List.all_map]
        exact List.all_eq_true.mpr fun _ _ => rfl
      cases q3 : F ((ds ++ dds).map .fz) with
      | bad => rw [q3] at h; exact h
      | ex x E3 =>
        rw [q3] at h
        intro G3 σ3 cls d H3 e3 R3 rel
        exact h G3 cls d H3 (e2.trans e3) (R2.gro (R2.back boOf_fz R3)) rel
      | ok r E3 =>
        rw [q3] at h
        intro G3 σ3 v H3 e3 R3 rel
        have g := R2.back boOf_fz R3
        cases r with
        | sl j => exact h.elim
        | fz d => exact h G3 v H3 (e2.trans e3) (R2.gro g) rel
        | ow m => exact h G3 v H3 (e2.trans e3) (R2.gro g) (RelN.rel R2 (RelR.back R2 rel (fun j z => by cases z)))
theorem de_cal (C : Cal X.prog X.w X.K X.mg X.base c x k ps n F dds) (hr : Room kX X.A) (hg : Gl X x) (tk : Takes X W) (ha : PA X (e :: es) (tA c W mr)) (hn : ∀ {E E1 : Ev} {rs}, mr E = .ok rs E1 → rs.length + dds.length = n) (hk : k ≤ kX := by decide) (hdb : (x == ("__debug__" : Str)) = false := by decide)
    (he : starEach (e :: es) X.env = (false, eval e X.env) :: starEach es X.env := by rfl) (hpl : (backTo pos (starEach es X.env)).any (·.1) = false := by rfl) : PE X (.Call (.Name x p) (e :: es) [] pos) (tE c W (mFnD F dds mr)) := by
  obtain ⟨f, fd, ds, dvs, h1, h2, h3, h4, h5, h6⟩ := C.ex
  exact pe_imp (pe_callSD h3 (hr.mono hk) hg h1 h2 h4 h5 (passAt tk) ha hdb he hpl) fun _ _ _ q => fnD_read h6 hn q
theorem de_calB {j : Nat} (C : Cal X.prog X.w X.K X.mg X.base c x k ps (n + 1) F []) (hr : Room kX X.A) (hg : Gl X x) (tk : Takes X W) (hv : PE X o (tVar j)) {y : Str} (ho : o = .Name y p0) (ha : PA X es (tA c W mr)) (hn : ∀ {E E1 : Ev} {rs}, mr E = .ok rs E1 → rs.length = n) (hk : k ≤ kX := by decide) (hdb : (x == ("__debug__" : Str)) = false := by decide)
    (he : starEach (o :: es) X.env = (false, eval o X.env) :: starEach es X.env := by rfl) (hpl : (backTo pos (starEach es X.env)).any (·.1) = false := by rfl) : PE X (.Call (.Name x p) (o :: es) [] pos) (tE c W (mFnB F j mr)) := by
  subst ho
  obtain ⟨f, fd, ds, dvs, h1, h2, h3, h4, h5, h6⟩ := C.ex
  have e5 : dvs = [] := by
    have := (h6 (fun _ => none)).length
    simpa using this
  subst e5
  cases h5
  exact pe_imp (pe_callS h3 (hr.mono hk) hg h1 h2 h4 (passAt tk) (pa_cons hv ha he) hdb he hpl) fun _ _ _ q => fnB_read (x := y) (p0 := p0) hn q
end
theorem hu64 {k : Nat} {A : Around} (hr : Room k A) : A.units + 64 < cLine := by
  have := hr.un
  omega
end M

namespace M
open PySem PySem.Spec PyProof.Rows L2
section
variable {E E1 : Ev} {rs : List RV} {m1 m2 m3 m4 m5 : EM}
theorem alen0 (h : aNil E = .ok rs E1) : rs.length = 0 := by cases h; rfl
theorem alenS {ma : EM} {mr : AM} {n : Nat} (hn : ∀ (E E1 : Ev) (rs : List RV), mr E = .ok rs E1 → rs.length = n) (h : aCons ma mr E = .ok rs E1) : rs.length = n + 1 := aCons_len (fun {E E1 rs} h => hn E E1 rs h) h
theorem alen1 (h : aCons m1 aNil E = .ok rs E1) : rs.length = 1 := alenS (fun _ _ _ h => alen0 h) h
theorem alen2 (h : aCons m1 (aCons m2 aNil) E = .ok rs E1) : rs.length = 2 := alenS (fun _ _ _ h => alen1 h) h
theorem alen3 (h : aCons m1 (aCons m2 (aCons m3 aNil)) E = .ok rs E1) : rs.length = 3 := alenS (fun _ _ _ h => alen2 h) h
theorem alen4 (h : aCons m1 (aCons m2 (aCons m3 (aCons m4 aNil))) E = .ok rs E1) : rs.length = 4 := alenS (fun _ _ _ h => alen3 h) h
theorem alen5 (h : aCons m1 (aCons m2 (aCons m3 (aCons m4 (aCons m5 aNil)))) E = .ok rs E1) : rs.length = 5 := alenS (fun _ _ _ h => alen4 h) h
end
section
variable {X : Cx} {c : Cfg} {W : WX} {x : Str} {pos : Pos}
theorem de_gint {i : Int} (h : ∃ t, X.mg x = some (.int i t)) (hg : Gl X x) (hd : (x == ("__debug__" : Str)) = false := by decide) : PE X (.Name x pos) (tE c W (mC (.int i))) := by
  obtain ⟨t, h⟩ := h
  exact de_c (pe_glob (v := .int i) hg h ⟨t, rfl⟩ hd) fun _ => .int _
theorem de_ty {n : String} (hg : Gl X x) (hm : X.mg x = none) (hv : bootBuiltins x = some (.type n)) (hn : x ≠ "__name__" := by decide) (hd : (x == ("__debug__" : Str)) = false := by decide) : PE X (.Name x pos) (tE c W (mC (.ty n))) :=
  de_c (pe_bltn (v := .ty n) hg hm hv rfl hn hd) fun _ => .ty _
end
theorem bt_len : bootBuiltins "len" = some (.builtin "len") := by decide +kernel
theorem bt_abs : bootBuiltins "abs" = some (.builtin "abs") := by decide +kernel
theorem bt_sum : bootBuiltins "sum" = some (.builtin "sum") := by decide +kernel
theorem bt_min : bootBuiltins "min" = some (.builtin "min") := by decide +kernel
theorem bt_max : bootBuiltins "max" = some (.builtin "max") := by decide +kernel
theorem bt_any : bootBuiltins "any" = some (.builtin "any") := by decide +kernel
theorem bt_all : bootBuiltins "all" = some (.builtin "all") := by decide +kernel
theorem bt_repr : bootBuiltins "repr" = some (.builtin "repr") := by decide +kernel
theorem bt_sorted : bootBuiltins "sorted" = some (.builtin "sorted") := by decide +kernel
theorem bt_divmod : bootBuiltins "divmod" = some (.builtin "divmod") := by decide +kernel
theorem bt_isinstance : bootBuiltins "isinstance" = some (.builtin "isinstance") := by decide +kernel
theorem bt_int : bootBuiltins "int" = some (.type "int") := by decide +kernel
theorem bt_bool : bootBuiltins "bool" = some (.type "bool") := by decide +kernel
theorem bt_str : bootBuiltins "str" = some (.type "str") := by decide +kernel
theorem bt_tuple : bootBuiltins "tuple" = some (.type "tuple") := by decide +kernel
theorem bt_list : bootBuiltins "list" = some (.type "list") := by decide +kernel
theorem bt_set : bootBuiltins "set" = some (.type "set") := by decide +kernel
theorem bt_dict : bootBuiltins "dict" = some (.type "dict") := by decide +kernel
/-- a def's wish about exceptions is taken -/
theorem tk_of {P : Program} {w : World} {K : PySem.W.Frag} {mg : Str → Option Value} {base : Heap} {N : List Str} {qual : Str} {scope : Scope} {f : Addr} {cdv : Value} {A : Around} {outer : List Env} {s : Shared} {H : Hp} {E : XK} :
    Takes (cxOf (L2.CX P w) P w K mg base N qual scope f cdv A outer s H E) (fun cls d _ H' => E cls d H') := takes_of rfl rfl rfl rfl
end M
namespace M
open PySem PySem.Spec PyProof.Rows L2
theorem RS.init {c : Cfg} {G H : Hp} {vs : List V} {ds : List D} (hP : c.P G) (e : Same G H) (r : Reps c G vs ds) : RS c (startF G H (ds.map .fz) vs) G (ds.map .fz) (vs.map some) H where
  gh := e
  g0 := .refl G
  new := fun a o h => .inl (by show G a ≠ none; rw [h]; intro z; cases z)
  fr := fun a o h _ => h
  len := by rw [List.length_map, List.length_map]; exact r.length
  fz := fun i d h => by
    obtain ⟨d', e, q⟩ := map_fz_get h
    cases e
    obtain ⟨v, h1, h2⟩ := r.get q
    exact ⟨v, by rw [List.getElem?_map, h1]; rfl, h2⟩
  ow := fun i m h => by obtain ⟨d', e, q⟩ := map_fz_get h; cases e
  bo := fun i m h => by obtain ⟨d', e, q⟩ := map_fz_get h; cases e
  bos := fun i p h => by
    have h : boOf (ds.map Slot.fz) vs i = some p := h
    rw [boOf_fz] at h
    cases h
  dis := fun i j p n ⟨⟨m, z⟩, _⟩ _ => by
    rcases z with z | z
    · obtain ⟨d', e, q⟩ := map_fz_get z; cases e
    · obtain ⟨d', e, q⟩ := map_fz_get z; cases e
  inv := hP
  xv := fun i h => by obtain ⟨d', e, q⟩ := map_fz_get h; cases e
/-- nothing is let out where nothing is wished for -/
theorem fn_nox {P : Program} {w : World} {K : PySem.W.Frag} {mg : Str → Option Value} {base : Heap} {k : Nat} {f : Addr} {fd : FuncData} {ps : List Str} {sp : Sp} (F : FnOk P w K mg base (L2.CX P w) k f fd ps sp) :
    FnOk P w K mg base CX0 k f fd ps (fun vs H Q _ => sp vs H Q E0) where
  len := fun vs H Q E h => F.len vs H Q E0 h
  run := fun A outer s H args us vs Q E hr he hb hv hs => by
    refine codeAny_mono (F.run A outer s H args us vs Q E0 hr he hb hv hs) fun r s' hq => ?_
    cases r with
    | ok fl => cases fl <;> exact hq
    | error e =>
      obtain ⟨_, _, _, _, _, _, _, _, _, _, _, _, z⟩ := hq
      exact z.elim
theorem law_sp {K : PySem.W.Frag} {c : Cfg} (hP : ∀ G, c.P G) (hK : c.K = K) {F : FM} {H : Hp} {a : Addr} {ns : List Int} (hS : SqL K H a (ns.map V.int)) (h : ∃ E, F [.fz (.frl (ns.map D.int))] = .ok (.fz (.bl true)) E) :
    spM c 1 F [.ref a] H (fun v _ => v = .bl true) E0 := by
  subst hK
  obtain ⟨E, h⟩ := h
  refine ⟨rfl, H, [.fz (.frl (ns.map D.int))], rfl, RS.init (ds := [.frl (ns.map D.int)]) (hP H) (.refl H) (.cons (.frl hS (Reps.ints ns)) .nil), ?_⟩
  rw [h]
  intro G' σ' v H' _ _ rel
  cases rel
  rfl
end M

/-! evaluation of mirrors by simp -/
namespace M
open PySem PySem.Spec PyProof.Rows L2
/-- a mark that keeps simp out of what comes after -/
structure Tg {γ : Type} (g : γ) : Type where
  mk ::
def Res.bd {α β : Type} (r : Res α) (g : α → Ev → Res β) (t : Tg g := .mk) : Res β := r.bind g
def Res.ot {α : Type} (r : Res α) (g : α → Ev → Out) (t : Tg g := .mk) : Out := r.out g
def Out.seq (o : Out) (b : SM) (t : Tg b := .mk) : Out := match o with
  | .nx E1 => b E1
  | o => o
@[simp] theorem sSeq_eq (a b : SM) (E : Ev) : sSeq a b E = (a E).seq b := rfl
@[simp] theorem seq_nx (E : Ev) (b : SM) : (Out.nx E).seq b = b E := rfl
@[simp] theorem seq_rt (r : RV) (E : Ev) (b : SM) : (Out.rt r E).seq b = .rt r E := rfl
@[simp] theorem seq_bk (E : Ev) (b : SM) : (Out.bk E).seq b = .bk E := rfl
@[simp] theorem seq_ct (E : Ev) (b : SM) : (Out.ct E).seq b = .ct E := rfl
@[simp] theorem seq_ex (x : Exn) (E : Ev) (b : SM) : (Out.ex x E).seq b = .ex x E := rfl
@[simp] theorem seq_bad (b : SM) : Out.bad.seq b = .bad := rfl
@[simp] theorem bind_ok {α β : Type} (a : α) (E : Ev) (g : α → Ev → Res β) : (Res.ok a E).bd g = g a E := rfl
@[simp] theorem bind_ex {α β : Type} (x : Exn) (E : Ev) (g : α → Ev → Res β) : (Res.ex x E : Res α).bd g = .ex x E := rfl
@[simp] theorem bind_bad {α β : Type} (g : α → Ev → Res β) : (Res.bad : Res α).bd g = .bad := rfl
@[simp] theorem out_ok {α : Type} (a : α) (E : Ev) (g : α → Ev → Out) : (Res.ok a E).ot g = g a E := rfl
@[simp] theorem out_ex {α : Type} (x : Exn) (E : Ev) (g : α → Ev → Out) : (Res.ex x E : Res α).ot g = .ex x E := rfl
@[simp] theorem out_bad {α : Type} (g : α → Ev → Out) : (Res.bad : Res α).ot g = .bad := rfl
@[simp] theorem rx_ok (r : RV) (E : Ev) : (Res.ok r E).rx = .ok r := rfl
@[simp] theorem rx_ex (x : Exn) (E : Ev) : (Res.ex x E).rx = .ex x := rfl
@[simp] theorem rx_bad : Res.bad.rx = .bad := rfl
@[simp] theorem mC_eq (d : D) (E : Ev) : mC d E = .ok (.fz d) E := rfl
@[simp] theorem mBin_eq (op : D → D → Option RV) (ma mb : EM) (E : Ev) : mBin op ma mb E = (ma E).bd fun a E1 => (mb E1).bd fun b E2 => match pk E2 a.settle, pk E2 b.settle with
  | some x, some y => match op x y with
    | some r => .ok r E2
    | none => .bad
  | _, _ => .bad := rfl
@[simp] theorem mUn_eq (op : D → Option RV) (ma : EM) (E : Ev) : mUn op ma E = (ma E).bd fun a E1 => match pk E1 a.settle with
  | some x => match op x with
    | some r => .ok r E1
    | none => .bad
  | _ => .bad := rfl
@[simp] theorem mBad_eq (E : Ev) : mBad E = .bad := rfl
@[simp] theorem tTru_eq (ma : EM) (E : Ev) : tTru ma E = (ma E).bd fun a E1 => match pk E1 a.settle with
  | some x => match truD x with
    | some b => .ok b E1
    | none => .bad
  | _ => .bad := rfl
@[simp] theorem tCmpM_eq (op : D → D → Option RV) (ma mb : EM) (E : Ev) : tCmpM op ma mb E = (ma E).bd fun a E1 => (mb E1).bd fun b E2 => match pk E2 a.settle, pk E2 b.settle with
  | some x, some y => match op x y with
    | some (.fz (.bl k)) => .ok k E2
    | _ => .bad
  | _, _ => .bad := rfl
@[simp] theorem tAndM_eq (ta tb : BM) (E : Ev) : tAndM ta tb E = (ta E).bd fun a E1 => if a then tb E1 else .ok false E1 := rfl
@[simp] theorem tOrM_eq (ta tb : BM) (E : Ev) : tOrM ta tb E = (ta E).bd fun a E1 => if a then .ok true E1 else tb E1 := rfl
@[simp] theorem tNotM_eq (ta : BM) (E : Ev) : tNotM ta E = (ta E).bd fun a E1 => .ok (!a) E1 := rfl
@[simp] theorem mIf_eq (t : BM) (ma mb : EM) (E : Ev) : mIf t ma mb E = (t E).bd fun b E1 => if b then ma E1 else mb E1 := rfl
@[simp] theorem mAndV_eq (ma mb : EM) (E : Ev) : mAndV ma mb E = (ma E).bd fun a E1 => match pk E1 a.settle with
  | some (.bl k) => if k then mb E1 else .ok (.fz (.bl false)) E1
  | _ => .bad := rfl
@[simp] theorem mOrV_eq (ma mb : EM) (E : Ev) : mOrV ma mb E = (ma E).bd fun a E1 => match pk E1 a.settle with
  | some (.bl k) => if k then .ok (.fz (.bl true)) E1 else mb E1
  | _ => .bad := rfl
@[simp] theorem mNotV_eq (ma : EM) (E : Ev) : mNotV ma E = (ma E).bd fun a E1 => match pk E1 a.settle with
  | some (.bl k) => .ok (.fz (.bl (!k))) E1
  | _ => .bad := rfl
@[simp] theorem aNil_eq (E : Ev) : aNil E = .ok [] E := rfl
@[simp] theorem aCons_eq (ma : EM) (mr : AM) (E : Ev) : aCons ma mr E = (ma E).bd fun a E1 => (mr E1).bd fun rs E2 => .ok (a.settle :: rs) E2 := rfl
@[simp] theorem mTup_eq (ma : AM) (E : Ev) : mTup ma E = (ma E).bd fun rs E1 => match fzs E1 rs with
  | some (ds, E2) => if ds.length ≤ maxLen then .ok (.fz (.tup ds)) E2 else .bad
  | none => .bad := rfl
@[simp] theorem mLst_eq (ma : AM) (E : Ev) : mLst ma E = (ma E).bd fun rs E1 => match fzs E1 rs with
  | some (ds, E2) => if ds.length ≤ maxLen then .ok (.ow (.lst ds)) E2 else .bad
  | none => .bad := rfl
@[simp] theorem mCall_eq (op : List D → Option RV) (ma : AM) (E : Ev) : mCall op ma E = (ma E).bd fun rs E1 => match pks E1 rs with
  | some ds => match op ds with
    | some r => .ok r E1
    | none => .bad
  | none => .bad := rfl
@[simp] theorem mFnD_eq (F : FM) (dds : List D) (ma : AM) (E : Ev) : mFnD F dds ma E = (ma E).bd fun rs E1 => match fzs E1 rs with
  | some (ds, E2) => match (F (ds.map .fz ++ dds.map .fz)).rx with
    | .ok (.fz d) => .ok (.fz d) E2
    | .ok (.ow m) => .ok (.ow m) E2
    | .ex x => .ex x E2
    | _ => .bad
  | none => .bad := rfl
@[simp] theorem sNil_eq (E : Ev) : sNil E = .nx E := rfl
@[simp] theorem sBad_eq (E : Ev) : sBad E = .bad := rfl
@[simp] theorem sSet_eq (i : Nat) (m : EM) (E : Ev) : sSet i m E = (m E).ot fun r E1 => match asg E1 i r with
  | some E2 => .nx E2
  | none => .bad := rfl
@[simp] theorem sDrop_eq (m : EM) (E : Ev) : sDrop m E = (m E).ot fun _ E1 => .nx E1 := rfl
@[simp] theorem sRet_eq (m : EM) (E : Ev) : sRet m E = (m E).ot fun r E1 => retv E1 r := rfl
@[simp] theorem sRetN_eq (E : Ev) : sRetN E = .rt (.fz .non) E := rfl
@[simp] theorem sIf_eq (t : BM) (a b : SM) (E : Ev) : sIf t a b E = (t E).ot fun k E1 => if k then a E1 else b E1 := rfl
@[simp] theorem sBrk_eq (E : Ev) : sBrk E = .bk E := rfl
@[simp] theorem sCt_eq (E : Ev) : sCt E = .ct E := rfl
@[simp] theorem sAsg_eq (t : TgM) (m : EM) (E : Ev) : sAsg t m E = (m E).ot fun r E1 => match fzn E1 r with
  | some (d, E2) => match t d E2 with
    | some E3 => .nx E3
    | none => .bad
  | none => .bad := rfl
@[simp] theorem sPar_eq (i j : Nat) (ma mb : EM) (E : Ev) : sPar i j ma mb E = (ma E).ot fun a E1 => match rz E1 a with
  | some (ra, E2) => (mb E2).ot fun b E3 => match rz E3 b with
    | some (rb, E4) => match put E4 i ra with
      | some E5 => match put E5 j rb with
        | some E6 => .nx E6
        | none => .bad
      | none => .bad
    | none => .bad
  | none => .bad := rfl
@[simp] theorem sFor_eq (mi : IM) (t : TgM) (body : SM) (E : Ev) : sFor mi t body E = (mi E).ot fun ds E1 => forLoop t body ds E1 := rfl
@[simp] theorem mLc_eq (mi : IM) (t : TgM) (cond : BM) (elt : EM) (vs : List Nat) (E : Ev) : mLc mi t cond elt vs E = (mi E).bd fun ds E1 => if allNotBo E1 vs = true then lcLoop t cond elt vs ds [] (wipeE E1 vs) else .bad := rfl
@[simp] theorem iSeq_eq (m : EM) (E : Ev) : iSeq m E = (m E).bd fun r E1 => match fzn E1 r with
  | some (.lst ds, E2) => .ok ds E2
  | some (.frl ds, E2) => .ok ds E2
  | some (.tup ds, E2) => .ok ds E2
  | some (.tux ds, E2) => .ok ds E2
  | _ => .bad := rfl
@[simp] theorem iEnumM_eq (m : EM) (E : Ev) : iEnumM m E = (m E).bd fun r E1 => match fzn E1 r with
  | some (.tup ds, E2) => .ok (enumD ds) E2
  | some (.tux ds, E2) => .ok (enumD ds) E2
  | _ => .bad := rfl
@[simp] theorem iRange1_eq (m : EM) (E : Ev) : iRange1 m E = (m E).bd fun r E1 => match pk E1 r with
  | some (.int j) => if decide (-(2 ^ 62) ≤ j) && decide (j < 2 ^ 62) then .ok ((List.range j.toNat).map fun i => .int (i : Nat)) E1 else .bad
  | _ => .bad := rfl
@[simp] theorem tYesM_eq (E : Ev) : tYesM E = .ok true E := rfl
@[simp] theorem oNone_eq (E : Ev) : oNone E = .ok none E := rfl
@[simp] theorem oSome_eq (m : EM) (E : Ev) : oSome m E = (m E).bd fun r E1 => match pk E1 r with
  | some (.int i) => .ok (some i) E1
  | _ => .bad := rfl
@[simp] theorem mSl_eq (m : EM) (lo hi : OM) (E : Ev) : mSl m lo hi E = (m E).bd fun r E1 => (lo E1).bd fun a E2 => (hi E2).bd fun b E3 => match pk E3 r.settle with
  | some d => match slD d a b with
    | some r => .ok r E3
    | none => .bad
  | none => .bad := rfl
@[simp] theorem mAppend_eq (j : Nat) (m : EM) (E : Ev) : mAppend j m E = match own E j with
  | some (.lst _) => (m E).bd fun r E1 => match fzn E1 r with
    | some (d, E2) => match own E2 j with
      | some (.lst ds) => if ds.length < maxLen then .ok (.fz .non) (setOwn E2 j (.lst (ds ++ [d]))) else .bad
      | _ => .bad
    | none => .bad
  | _ => .bad := rfl
@[simp] theorem mExtend_eq (j : Nat) (m : EM) (E : Ev) : mExtend j m E = match own E j with
  | some (.lst _) => (m E).bd fun r E1 => match fzn E1 r with
    | some (.lst es, E2) => match own E2 j with
      | some (.lst ds) => if ds.length + es.length ≤ maxLen then .ok (.fz .non) (setOwn E2 j (.lst (ds ++ es))) else .bad
      | _ => .bad
    | _ => .bad
  | _ => .bad := rfl
@[simp] theorem sSetIx_eq (j : Nat) (mi m : EM) (E : Ev) : sSetIx j mi m E = (m E).ot fun r E1 => match fzn E1 r with
  | some (d, E2) => match own E2 j with
    | some (.lst _) => (mi E2).ot fun ri E3 => match pk E3 ri, own E3 j with
      | some (.int i), some (.lst ds) => match ixN ds.length i with
        | some k => .nx (setOwn E3 j (.lst (ds.set k d)))
        | none => .bad
      | _, _ => .bad
    | _ => .bad
  | none => .bad := rfl
@[simp] theorem settle_fz (d : D) : (RV.fz d).settle = .fz d := rfl
@[simp] theorem settle_ow (m : MO) : (RV.ow m).settle = .fz m.d := rfl
@[simp] theorem settle_sl (j : Nat) : (RV.sl j).settle = .sl j := rfl
@[simp] theorem pk_fz (E : Ev) (d : D) : pk E (.fz d) = some (bare d) := rfl
@[simp] theorem bare_tux (l : List D) : bare (.tux l) = .tup l := rfl
@[simp] theorem bare_tup (l : List D) : bare (.tup l) = .tup l := rfl
@[simp] theorem bare_non : bare .non = .non := rfl
@[simp] theorem bare_bl (b : Bool) : bare (.bl b) = .bl b := rfl
@[simp] theorem bare_int (i : Int) : bare (.int i) = .int i := rfl
@[simp] theorem bare_str (s : Str) : bare (.str s) = .str s := rfl
@[simp] theorem bare_lst (l : List D) : bare (.lst l) = .lst l := rfl
@[simp] theorem bare_frl (l : List D) : bare (.frl l) = .frl l := rfl
@[simp] theorem bare_dct (l : List (Key × D)) : bare (.dct l) = .dct l := rfl
@[simp] theorem bare_obj (n : Nat) (l : List (Str × D)) : bare (.obj n l) = .obj n l := rfl
@[simp] theorem bare_ty (n : String) : bare (.ty n) = .ty n := rfl
@[simp] theorem bare_gl (x : Str) : bare (.gl x) = .gl x := rfl
@[simp] theorem bare_bare (d : D) : bare (bare d) = bare d := by cases d <;> rfl
@[simp] theorem bare_MO (m : MO) : bare m.d = m.d := by cases m <;> rfl
@[simp] theorem pk_ow (E : Ev) (m : MO) : pk E (.ow m) = some m.d := rfl
@[simp] theorem fzn_fz (E : Ev) (d : D) : fzn E (.fz d) = some (d, E) := rfl
@[simp] theorem fzn_ow (E : Ev) (m : MO) : fzn E (.ow m) = some (m.d, E) := rfl
@[simp] theorem MOd_lst (l : List D) : (MO.lst l).d = .lst l := rfl
@[simp] theorem MOd_dct (l : List (Key × D)) : (MO.dct l).d = .dct l := rfl
@[simp] theorem retv_fz (E : Ev) (d : D) : retv E (.fz d) = .rt (.fz d) E := rfl
@[simp] theorem retv_ow (E : Ev) (m : MO) : retv E (.ow m) = .rt (.ow m) E := rfl
@[simp] theorem pks_nil (E : Ev) : pks E [] = some [] := rfl
@[simp] theorem fzs_nil (E : Ev) : fzs E [] = some ([], E) := rfl
@[simp] theorem rz_fz (E : Ev) (d : D) : rz E (.fz d) = some (.fz d, E) := rfl
@[simp] theorem rz_ow (E : Ev) (m : MO) : rz E (.ow m) = some (.ow m, E) := rfl
@[simp] theorem wipeE_nil (E : Ev) : wipeE E [] = E := rfl
@[simp] theorem wipeE_cons (E : Ev) (v : Nat) (vs : List Nat) : wipeE E (v :: vs) = (wipeE E vs).set v .un := rfl
@[simp] theorem forLoop_nil (t : TgM) (b : SM) (E : Ev) : forLoop t b [] E = .nx E := rfl
@[simp] theorem lcLoop_nil (t : TgM) (cond : BM) (elt : EM) (vs : List Nat) (acc : List D) (E : Ev) : lcLoop t cond elt vs [] acc E = .ok (.ow (.lst acc)) E := rfl

/-- what stands in a slot -/
def cont (E : Ev) (j : Nat) : Option D := match E[j]? with
  | some (.fz d) => some d
  | some (.ow m) => some m.d
  | some (.bo m) => some m.d
  | _ => none
@[simp] theorem pk_sl (E : Ev) (j : Nat) : pk E (.sl j) = match E[j]? with
    | some (.fz d) => some (bare d)
    | some (.ow m) => some m.d
    | some (.bo m) => some m.d
    | _ => none := rfl
@[simp] theorem fzn_sl (E : Ev) (j : Nat) : fzn E (.sl j) = match E[j]? with
    | some (.fz d) => some (d, E)
    | some (.ow m) => some (m.d, E.set j (.fz m.d))
    | _ => none := rfl
@[simp] theorem mVar_eq (j : Nat) (E : Ev) : mVar j E = match E[j]? with
  | none => .bad
  | some .un => .bad
  | _ => .ok (.sl j) E := rfl
@[simp] theorem retv_sl (E : Ev) (j : Nat) : retv E (.sl j) = match E[j]? with
    | some (.fz d) => .rt (.fz d) E
    | some (.ow m) => .rt (.ow m) (E.set j .un)
    | _ => .bad := rfl
@[simp] theorem rz_sl (E : Ev) (j : Nat) : rz E (.sl j) = match fzn E (.sl j) with
    | some (d, E1) => some (.fz d, E1)
    | none => none := rfl
@[simp] theorem asg_eq (E : Ev) (i : Nat) (r : RV) : asg E i r = if notBo E i then match r with
    | .fz d => some (E.set i (.fz d))
    | .ow m => some (E.set i (.ow m))
    | .sl j => match fzn E (.sl j) with
      | some (d, E1) => some (E1.set i (.fz d))
      | none => none
  else none := rfl
@[simp] theorem put_fz (E : Ev) (i : Nat) (d : D) : put E i (.fz d) = if notBo E i then some (E.set i (.fz d)) else none := rfl
@[simp] theorem put_ow (E : Ev) (i : Nat) (m : MO) : put E i (.ow m) = if notBo E i then some (E.set i (.ow m)) else none := rfl
@[simp] theorem notBo_eq (E : Ev) (i : Nat) : notBo E i = match E[i]? with
  | some (.bo _) => false
  | _ => true := rfl
@[simp] theorem pks_cons (E : Ev) (r : RV) (rs : List RV) : pks E (r :: rs) = match pk E r, pks E rs with
    | some d, some ds => some (d :: ds)
    | _, _ => none := rfl
@[simp] theorem fzs_cons (E : Ev) (r : RV) (rs : List RV) : fzs E (r :: rs) = match fzn E r with
    | some (d, E1) => match fzs E1 rs with
      | some (ds, E2) => some (d :: ds, E2)
      | none => none
    | none => none := rfl
@[simp] theorem own_eq (E : Ev) (j : Nat) : own E j = match E[j]? with
  | some (.ow m) => some m
  | some (.bo m) => some m
  | _ => none := rfl
@[simp] theorem setOwn_eq (E : Ev) (j : Nat) (m' : MO) : setOwn E j m' = E.set j (match E[j]? with
  | some (.bo _) => .bo m'
  | _ => .ow m') := rfl
@[simp] theorem tgName_eq (i : Nat) (d : D) (E : Ev) : tgName i d E = if notBo E i then some (E.set i (.fz d)) else none := rfl
@[simp] theorem tgTup_eq (ts : List TgM) (ds : List D) (E : Ev) : tgTup ts (.tup ds) E = tgs ts ds E := rfl
@[simp] theorem tgTup_tux (ts : List TgM) (ds : List D) (E : Ev) : tgTup ts (.tux ds) E = tgs ts ds E := rfl
@[simp] theorem tgTup_lst (ts : List TgM) (ds : List D) (E : Ev) : tgTup ts (.lst ds) E = tgs ts ds E := rfl
@[simp] theorem tgTup_frl (ts : List TgM) (ds : List D) (E : Ev) : tgTup ts (.frl ds) E = tgs ts ds E := rfl
@[simp] theorem tgs_nil (E : Ev) : tgs [] [] E = some E := rfl
@[simp] theorem tgs_cons (t : TgM) (ts : List TgM) (d : D) (ds : List D) (E : Ev) : tgs (t :: ts) (d :: ds) E = match t d E with
    | some E1 => tgs ts ds E1
    | none => none := rfl
@[simp] theorem allNotBo_nil (E : Ev) : allNotBo E [] = true := rfl
@[simp] theorem allNotBo_cons (E : Ev) (v : Nat) (vs : List Nat) : allNotBo E (v :: vs) = (notBo E v && allNotBo E vs) := rfl
theorem runF_eq (n : Nat) (body : SM) (as : Ev) : runF n body as = match body (as ++ List.replicate (n - as.length) .un) with
  | .rt r E => .ok r E
  | .nx E => .ok (.fz .non) E
  | .ex x E => .ex x E
  | _ => .bad := rfl
/-- a loop without a surprise: each turn ends in the next -/
theorem forLoop_cons (t : TgM) (b : SM) (d : D) (ds : List D) (E : Ev) : forLoop t b (d :: ds) E = match t d E with
    | none => .bad
    | some E1 => match b E1 with
      | .nx E2 => forLoop t b ds E2
      | .ct E2 => forLoop t b ds E2
      | .bk E2 => .nx E2
      | .rt r E2 => .rt r E2
      | .ex x E2 => .ex x E2
      | .bad => .bad := rfl
/-- a comprehension whose turns leave the slots as they were -/
theorem lc_pure {t : TgM} {elt : EM} {vs : List Nat} {E : Ev} {f : D → D} : ∀ {ds acc : List D}, (∀ d ∈ ds, ∃ E1 r E3 E4, t d E = some E1 ∧ elt E1 = .ok r E3 ∧ fzn E3 r = some (f d, E4) ∧ allNotBo E4 vs = true ∧ wipeE E4 vs = E) → acc.length + ds.length ≤ maxLen →
    lcLoop t tYesM elt vs ds acc E = .ok (.ow (.lst (acc ++ ds.map f))) E
  | [], acc, _, _ => by simp [lcLoop]
  | d :: ds, acc, h, hl => by
    obtain ⟨E1, r, E3, E4, h1, h2, h3, h4, h5⟩ := h d List.mem_cons_self
    have hl' : acc.length < maxLen := by simp only [List.length_cons] at hl; omega
    simp only [lcLoop, h1, tYesM, h2, h3, h4, hl', h5]
    simp only [and_self, if_true]
    rw [lc_pure (fun d hd => h d (List.mem_cons_of_mem _ hd)) (by simp only [List.length_append, List.length_cons, List.length_nil] at hl ⊢; omega)]
    simp
end M

/-! dicts of data -/
namespace M
open PySem L2
def vD (ds : List (Key × D)) (k : Key) : Option D := match ds with
  | [] => none
  | p :: r => if p.1 = k then some p.2 else vD r k
def hasK (ds : List (Key × D)) (k : Key) : Bool := (vD ds k).isSome
def replD (ds : List (Key × D)) (k : Key) (d : D) : List (Key × D) := match ds with
  | [] => []
  | p :: r => if p.1 = k then (p.1, d) :: replD r k d else p :: replD r k d
def putD (ds : List (Key × D)) (k : Key) (d : D) : List (Key × D) := if hasK ds k = true then replD ds k d else ds ++ [(k, d)]
def keyD : D → Option Key
  | .int i => some (.inl i)
  | .str s => some (.inr s)
  | _ => none
section
variable {c : Cfg} {G H : Hp}
theorem keyD_rep {v : V} {d : D} {k : Key} (h : keyD d = some k) (r : Pk c G H v d) : v = kV k := by
  cases d with
  | int i => cases h; cases r; rfl
  | str s => cases h; cases r; rfl
  | _ => cases h
theorem vD_rel : ∀ {kvs : List (Key × V)} {ds : List (Key × D)} {k : Key}, kvs.map (·.1) = ds.map (·.1) → Reps c G (kvs.map (·.2)) (ds.map (·.2)) →
    (∀ d, vD ds k = some d → ∃ v, valV kvs k = some v ∧ Rep c G v d) ∧ (vD ds k = none → valV kvs k = none)
  | [], [], k, _, _ => ⟨(fun d h => by cases h), (fun _ => valV_nil)⟩
  | [], _ :: _, k, e, _ => by cases e
  | _ :: _, [], k, e, _ => by cases e
  | p :: r, q :: s, k, e, t => by
    rw [List.map_cons, List.map_cons] at e
    injection e with e1 e2
    rw [List.map_cons, List.map_cons] at t
    cases t with
    | cons t1 t2 =>
      obtain ⟨i1, i2⟩ := vD_rel (k := k) e2 t2
      rw [vD]
      by_cases z : q.1 = k
      · rw [if_pos z, valV_pos (e1.trans z)]
        exact ⟨(fun d h => by cases h; exact ⟨_, rfl, t1⟩), (fun h => by cases h)⟩
      · rw [if_neg z, valV_neg (fun y => z (e1.symm.trans y))]
        exact ⟨i1, i2⟩
theorem replD_keys : ∀ (ds : List (Key × D)) (k : Key) (d : D), (replD ds k d).map (·.1) = ds.map (·.1)
  | [], k, d => rfl
  | p :: r, k, d => by
    rw [replD]
    split <;> simp [replD_keys r k d]
theorem replV_keys (kvs : List (Key × V)) (k : Key) (v : V) : (kvs.map fun kv => if kv.1 = k then (kv.1, v) else kv).map (·.1) = kvs.map (·.1) := by
  rw [List.map_map]
  apply List.map_congr_left
  intro x _
  simp only [Function.comp]
  split <;> rfl
theorem replD_rel {v : V} {d : D} {k : Key} (rd : Rep c G v d) : ∀ {kvs : List (Key × V)} {ds : List (Key × D)}, kvs.map (·.1) = ds.map (·.1) → Reps c G (kvs.map (·.2)) (ds.map (·.2)) →
    Reps c G ((kvs.map fun kv => if kv.1 = k then (kv.1, v) else kv).map (·.2)) ((replD ds k d).map (·.2))
  | [], [], _, _ => .nil
  | [], _ :: _, e, _ => by cases e
  | _ :: _, [], e, _ => by cases e
  | p :: r, q :: s, e, t => by
    rw [List.map_cons, List.map_cons] at e
    injection e with e1 e2
    rw [List.map_cons, List.map_cons] at t
    cases t with
    | cons t1 t2 =>
      have ih := replD_rel (k := k) rd e2 t2
      rw [replD, List.map_cons, List.map_cons]
      by_cases z : q.1 = k
      · rw [if_pos z, if_pos (e1.trans z)]
        exact .cons rd ih
      · rw [if_neg z, if_neg (fun y => z (e1.symm.trans y))]
        exact .cons t1 ih
theorem putD_rel {v : V} {d : D} {k : Key} {kvs : List (Key × V)} {ds : List (Key × D)} (rd : Rep c G v d) (e : kvs.map (·.1) = ds.map (·.1)) (t : Reps c G (kvs.map (·.2)) (ds.map (·.2))) :
    (putK kvs k v).map (·.1) = (putD ds k d).map (·.1) ∧ Reps c G ((putK kvs k v).map (·.2)) ((putD ds k d).map (·.2)) := by
  obtain ⟨h1, h2⟩ := vD_rel (k := k) e t
  unfold putD hasK
  cases q : vD ds k with
  | none =>
    rw [putK_new v (h2 q)]
    simp only [Option.isSome_none]
    rw [if_neg (by decide)]
    rw [List.map_append, List.map_append, List.map_append, List.map_append, e]
    exact ⟨rfl, t.append (.cons rd .nil)⟩
  | some x =>
    obtain ⟨y, hy, _⟩ := h1 x q
    have hany : (kvs.any fun kv => decide (kv.1 = k)) = true := by rw [valV_any, hy]; rfl
    simp only [Option.isSome_some]
    unfold putK
    rw [if_pos hany, if_pos trivial, replV_keys, replD_keys]
    exact ⟨e, replD_rel rd e t⟩
end
/-- {} -/
def mDict0 : EM := fun E => .ok (.ow (.dct [])) E
/-- x[k] of an own dict -/
def mDGet (j : Nat) (mi : EM) : EM := fun E => match own E j with
  | some (.dct _) => (mi E).bind fun ri E1 => match pk E1 ri, own E1 j with
    | some d, some (.dct ds) => match keyD d with
      | some k => match vD ds k with
        | some x => .ok (.fz x) E1
        | none => .bad
      | none => .bad
    | _, _ => .bad
  | _ => .bad
/-- x.get(k, z) of an own dict -/
def mGet2 (j : Nat) (mi mz : EM) : EM := fun E => match own E j with
  | some (.dct _) => (mi E).bind fun ri E1 => (mz E1).bind fun rz E2 => match pk E2 ri.settle, pk E2 rz, own E2 j with
    | some d, some (.int z), some (.dct ds) => match keyD d with
      | some k => .ok (.fz ((vD ds k).getD (.int z))) E2
      | none => .bad
    | _, _, _ => .bad
  | _ => .bad
/-- x[k] = e of an own dict -/
def sDPutM (j : Nat) (mi m : EM) : SM := fun E => (m E).out fun r E1 => match fzn E1 r with
  | some (d, E2) => match own E2 j with
    | some (.dct _) => (mi E2).out fun ri E3 => match pk E3 ri, own E3 j with
      | some dk, some (.dct ds) => match keyD dk with
        | some k => if ds.length < maxLen then .nx (setOwn E3 j (.dct (putD ds k d))) else .bad
        | none => .bad
      | _, _ => .bad
    | _ => .bad
  | none => .bad
section
variable {X : Cx} {c : Cfg} {W : WX} {e o : Expr} {m mi mz : EM} {pos apos cpos : Pos}
theorem de_dict0 : PE X (.Dict [] [] pos) (tE c W mDict0) := pe_imp pe_dnewK fun σ H Q ⟨f, G, E, R, h⟩ p hp => by
  have g := Gro.newH (o := HO.dK []) R.gh hp
  exact h _ _ _ (.refl _) (R.gro g) (RelN.rel (r := .ow (.dct [])) R ⟨p, rfl, ⟨[], upd_same, rfl, .nil⟩, none_of R.gh hp, hp⟩)
theorem de_dget {x : Str} {i : Expr} {j : Nat} {p0 : Pos} (hu : X.A.units + 64 < cLine) (hv : PE X (.Name x p0) (tVar j)) (hi : PE X i (tE c W mi)) (hs : NoSl i) : PE X (.Subscript (.Name x p0) i pos) (tE c W (mDGet j mi)) :=
  pe_imp (pe_dget (by omega) hv hi hs) fun σ H Q ⟨f, G, E, R, h⟩ => by
    unfold mDGet at h
    split at h
    · rename_i ds0 q0
      obtain ⟨p, hs0, _⟩ := R.own q0
      refine ⟨_, hs0, ?_⟩
      refine tE_bindE R h fun r E1 G1 v H1 e1 R1 r1 h1 => ?_
      split at h1
      · rename_i d ds q1 q2
        split at h1
        · rename_i k hk
          split at h1
          · rename_i x hx
            obtain ⟨p2, hs2, ho2, _⟩ := R1.own q2
            rw [hs0] at hs2
            cases hs2
            obtain ⟨kvs, hH, ek, reps⟩ := ho2
            obtain ⟨y, hy, ry⟩ := (vD_rel (k := k) ek reps).1 x hx
            have ev := keyD_rep hk (R1.pk r1 ((pk_settle _ _).trans q1))
            subst ev
            refine ⟨p, y, rfl, ?_, h1 G1 _ _ (.refl _) R1 ry⟩
            rw [← hy]
            exact DGet.k hH
          · exact h1.elim
        · exact h1.elim
      · exact h1.elim
    · exact h.elim
theorem de_get2 {x : Str} {i z : Expr} {j : Nat} {p0 : Pos} (hu : X.A.units + 64 < cLine) (hv : PE X (.Name x p0) (tVar j)) (hi : PE X i (tE c W mi)) (hz : PE X z (tE c W mz)) (m2 : M2 X (.Name x p0) "get" apos i z cpos) :
    PE X (.Call (.Attribute (.Name x p0) "get" apos) [i, z] [] cpos) (tE c W (mGet2 j mi mz)) :=
  pe_imp (pe_dget2 (by omega) hv hi hz m2) fun σ H Q ⟨f, G, E, R, h⟩ => by
    unfold mGet2 at h
    split at h
    · rename_i ds0 q0
      obtain ⟨p, hs0, ho0, _⟩ := R.own q0
      obtain ⟨kvs0, hH0, _⟩ := ho0
      refine ⟨_, hs0, p, rfl, .inl ⟨kvs0, .of hH0⟩, ?_⟩
      refine tE_bindE R h fun r E1 G1 v H1 e1 R1 r1 h1 => ?_
      refine tE_bindE R1 h1 fun r2 E2 G2 v2 H2 e2 R2 r2r h2 => ?_
      split at h2
      · rename_i d z ds q1 q3 q2
        split at h2
        · rename_i k hk
          obtain ⟨p2, hs2, ho2, _⟩ := R2.own q2
          rw [hs0] at hs2
          cases hs2
          obtain ⟨kvs, hH, ek, reps⟩ := ho2
          have ev := keyD_rep hk (R2.pk (r1.mono_settled e2) q1)
          subst ev
          have ez := R2.pk r2r ((pk_settle _ _).trans q3)
          cases ez
          refine ⟨_, DGet.k hH, ?_⟩
          obtain ⟨i1, i2⟩ := vD_rel (k := k) ek reps
          cases hx : vD ds k with
          | none =>
            rw [hx] at h2
            rw [i2 hx]
            exact h2 G2 _ _ (.refl _) R2 (.int _)
          | some x =>
            rw [hx] at h2
            obtain ⟨y, hy, ry⟩ := i1 x hx
            rw [hy]
            exact h2 G2 _ _ (.refl _) R2 ry
        · exact h2.elim
      · exact h2.elim
    · exact h.elim
theorem ds_dput {x : Str} {i : Expr} {j : Nat} {p0 pos' : Pos} (hu : X.A.units + 64 < cLine) (hv : PE X (.Name x p0) (tVar j)) (hi : PE X i (tE c W mi)) (ha : PE X e (tE c W m)) (hs : swapsWith e (some (.Subscript (.Name x p0) i pos')) pos.line X.env = pure false := by rfl) :
    PS X (.Assign [.Subscript (.Name x p0) i pos'] e pos) (tS c W (sDPutM j mi m)) := ps_imp (ps_dput (by omega) hv hi ha hs) fun Dn σ H ⟨f, G, E, R, h⟩ =>
  tE_outS R h fun r E1 G1 v H1 e1 R1 r1 h1 => by
    split at h1
    · rename_i d E2 q
      obtain ⟨G2, e2, R2, rep⟩ := R1.frz r1 q
      split at h1
      · rename_i ds0 q0
        obtain ⟨p, hs0, ho0, _⟩ := R2.own q0
        refine ⟨_, hs0, ?_⟩
        refine tE_outS R2 (postS_mono e2 h1) fun ri E3 G3 w H3 e3 R3 r3 h3 => ?_
        split at h3
        · rename_i dk ds q3 q4
          split at h3
          · rename_i k hk
            split at h3
            · rename_i hl
              obtain ⟨p2, hs2, ho2, he2, _⟩ := R3.own q4
              rw [hs0] at hs2
              cases hs2
              obtain ⟨kvs, hH, ek, reps⟩ := ho2
              have ev := keyD_rep hk (R3.pk r3 q3)
              subst ev
              have ll : kvs.length = ds.length := by
                have := congrArg List.length ek
                simpa using this
              obtain ⟨k1, k2⟩ := putD_rel (k := k) (rep.mono e3) ek reps
              refine ⟨p, _, rfl, DPut.k hH (by rw [maxLen_eq, ll]; exact hl), ?_⟩
              exact h3 G3 σ _ (.refl _) (R3.setOwn hs0 he2 ⟨_, upd_same, k1, k2⟩)
            · exact h3.elim
          · exact h3.elim
        · exact h3.elim
      · exact h1.elim
    · exact h1.elim
end
end M

/-! sorted keys; dict(pairs) -/
namespace M
open PySem L2
def insI (x : Int) : List Int → List Int
  | [] => [x]
  | y :: l => if x ≤ y then x :: y :: l else y :: insI x l
def sortI : List Int → List Int
  | [] => []
  | x :: l => insI x (sortI l)
theorem insI_perm (x : Int) : ∀ l, (insI x l).Perm (x :: l)
  | [] => .refl _
  | y :: l => by
    rw [insI]
    split
    · exact .refl _
    · exact ((insI_perm x l).cons y).trans (.swap x y l)
theorem sortI_perm : ∀ l, (sortI l).Perm l
  | [] => .refl _
  | x :: l => (insI_perm x (sortI l)).trans ((sortI_perm l).cons x)
theorem insI_sorted (x : Int) : ∀ {l}, l.Pairwise (· ≤ ·) → (insI x l).Pairwise (· ≤ ·)
  | [], _ => by simp [insI]
  | y :: l, h => by
    rw [List.pairwise_cons] at h
    rw [insI]
    split
    · rename_i hl
      rw [List.pairwise_cons, List.pairwise_cons]
      refine ⟨fun z hz => ?_, h⟩
      rcases List.mem_cons.mp hz with rfl | hz
      · exact hl
      · exact Int.le_trans hl (h.1 z hz)
    · rename_i hl
      rw [List.pairwise_cons]
      refine ⟨fun z hz => ?_, insI_sorted x h.2⟩
      rcases List.mem_cons.mp ((insI_perm x l).mem_iff.mp hz) with rfl | hz
      · omega
      · exact h.1 z hz
theorem sortI_sorted : ∀ l, (sortI l).Pairwise (· ≤ ·)
  | [] => .nil
  | x :: l => insI_sorted x (sortI_sorted l)
theorem sorted_eq : ∀ {a b : List Int}, a.Perm b → a.Pairwise (· ≤ ·) → b.Pairwise (· ≤ ·) → a = b
  | [], b, p, _, _ => (List.Perm.nil_eq p)
  | x :: a, [], p, _, _ => by have := p.length_eq; simp at this
  | x :: a, y :: b, p, h1, h2 => by
    rw [List.pairwise_cons] at h1 h2
    have e : x = y := by
      have m1 : x ∈ y :: b := p.mem_iff.mp List.mem_cons_self
      have m2 : y ∈ x :: a := p.mem_iff.mpr List.mem_cons_self
      rcases List.mem_cons.mp m1 with e | m1
      · exact e
      · rcases List.mem_cons.mp m2 with e | m2
        · exact e.symm
        · exact Int.le_antisymm (h1.1 y m2) (h2.1 x m1)
    subst e
    rw [sorted_eq (List.Perm.cons_inv p) h1.2 h2.2]
def intKeys : List (Key × D) → Option (List Int)
  | [] => some []
  | (.inl i, _) :: r => (intKeys r).map (i :: ·)
  | (.inr _, _) :: _ => none
theorem intKeys_of : ∀ {ds : List (Key × D)} {ks : List Int}, intKeys ds = some ks → ds.map (·.1) = ks.map Sum.inl
  | [], ks, h => by cases h; rfl
  | (.inl i, d) :: r, ks, h => by
    rw [intKeys] at h
    cases q : intKeys r with
    | none => rw [q] at h; cases h
    | some l =>
      rw [q] at h
      cases h
      rw [List.map_cons, List.map_cons, intKeys_of q]
  | (.inr i, d) :: r, ks, h => by cases h
def sortedDD : List D → Option RV
  | [.dct ds] => match intKeys ds with
    | some ks => if ks.length < 64 then some (.ow (.lst ((sortI ks).map D.int))) else none
    | none => none
  | _ => none
section
variable {X : Cx} {c : Cfg}
theorem Pk.dctAt {G H : Hp} {v : V} {ds : List (Key × D)} (e : Same G H) (h : Pk c G H v (.dct ds)) : ∃ a kvs, v = .ref a ∧ Rd H a (.dK kvs) ∧ kvs.map (·.1) = ds.map (·.1) ∧ Reps c G (kvs.map (·.2)) (ds.map (·.2)) := by
  obtain ⟨a, kvs, rfl, h1, h2, h3⟩ := h
  exact ⟨a, kvs, rfl, h1, h2, h3⟩
theorem d_sortedDD (hcalm : X.calm = true) : CallR X (.builtin "sorted") (rDn c sortedDD) := calld (call_sortedDI hcalm) fun e hp q m => by
  unfold sortedDD at q
  split at q
  · split at q
    · rename_i ds ks hk
      split at q
      · rename_i hl
        cases q
        cases hp with
        | cons p1 t =>
          cases t
          obtain ⟨a, kvs, rfl, h1, h2, h3⟩ := Pk.dctAt e p1
          refine ⟨a, kvs, ks, rfl, h1, h2.trans (intKeys_of hk), hl, fun ys p pm ps hp => ?_⟩
          have ey : ys = sortI ks := sorted_eq (pm.trans (sortI_perm ks).symm) ps (sortI_sorted ks)
          subst ey
          exact m.lst e (Reps.ints _) hp
      · cases q
    · cases q
  · cases q
end
end M

/-! own classes of errors over any built-in one -/
namespace M
open PySem PySem.Spec PyProof.Rows L2
/-- an own class of errors; the nearest built-in one, B, makes its objects -/
structure XC (K : PySem.W.Frag) (B newId initId : String) (bmB : List Value) (C : Addr) : Prop where
  bf : ExcBaseFacts B newId initId bmB
  sf : StoreFacts B bmB "object.__setattr__" "object"
  inn : PySem.W.excInitIn K C bmB newId = true
  ov : PySem.W.excOver K C bmB = true
  hd : (match PySem.W.clsIn K C with | some cd => cd.hasDict | none => false) = true
  sa : PySem.W.findIn K (.ref C) "__setattr__" = some (some (.builtin "object.__setattr__"))
  exC : PySem.W.subIn K (.ref C) (.type "BaseException") = some true
  tyC : PySem.W.typeIn K (.ref C) = some (.type "type")
  kC : PySem.W.keepIn K (.ref C) = true
section
variable {B newId initId : String} {bmB : List Value}
section
variable {prog : Program} {w : World} {A : Around} {R : Result → Shared → Prop} {hp : Heap} {g : Array GenState} {d : Drawn} {t : Nat} {os : OsState}
/-- the first field: the object gets its dict -/
theorem x_first {K : PySem.W.Frag} {f : Str} {tk : Tok} {u : Value} {a C : Addr} {vs : Array Value} (T : XC K B newId initId bmB C)
    (X : K.In hp) (ha : hp.get? a = some { cls := .ref C, data := .fields vs }) (hn : PySem.W.findIn K (.ref C) f = some none)
    (hq : ∀ h' tk' dx, (∀ b o, b ≠ a → hp.get? b = some o → h'.get? b = some o) → hp.objs.size ≤ dx → dx ≠ a → h'.get? a = some { cls := .ref C, dict := some dx, data := .fields vs } →
      h'.Ns1 dx (fun y => if y = f then some u else none) → R (.ok (.ret .none)) ⟨h', g, d, tk', os⟩) :
    codeAny (model prog w) A (.call (.builtin "object.__setattr__") ⟨[.ref a, .str f tk, u], []⟩) R ⟨hp, g, d, t, os⟩ := by
  have hne : a ≠ hp.objs.size := Nat.ne_of_lt (Heap.lt_size ha)
  have tn : PySem.W.takerIn K C f = some none := by
    unfold PySem.W.takerIn
    rw [hn]
    rfl
  refine PySem.W.osa_openX (s := ⟨hp, g, d, t, os⟩) T.sf X (ox := { cls := .ref C, data := .fields vs }) (od := none) ⟨ha, rfl, rfl, trivial⟩ T.ov tn fun b => ?_
  have hh := T.hd
  cases hc : PySem.W.clsIn K C with
  | none => rw [hc] at hh; cases hh
  | some cd =>
    rw [hc] at hh
    have hl : PySem.W.Looks (model prog w) hp (classData C) cd := PySem.W.looks_clsIn X hc
    obtain ⟨c1, c2, c3, c4, c5, c6, c7, c8, c9, c10, c11⟩ := cd
    dsimp only at hh
    subst hh
    show wpAny _ _ (Builtin.ObjectAttr.storeInOwnDict (.ref a) (.ref C) (.str f tk) f u b) _ _ _
    unfold Builtin.ObjectAttr.storeInOwnDict Builtin.ObjectAttr.ownDictForStores
    repeat (first | with_reducible refine PySem.HandSPX.store_in_new ?_ ?_ | with_reducible refine wpAny_loadPart_at ha ?_ | with_reducible refine hl.at ?_ | wp_step)
    · refine ⟨_, #[], _, (Heap.get?_update_ne _ _ _ _ hne.symm).trans (Heap.get?_push_at rfl rfl), rfl, ?_, fun _ => rfl⟩
      intro z hz
      simp at hz
    · intro h2 tk2 ns sb
      have ha2 : (hp.push { cls := .type "dict", data := .dict #[] }).get? a = some { cls := .ref C, data := .fields vs } := Heap.get?_push_of_some _ ha
      refine hq h2 tk2 hp.objs.size (fun c o hc ho => ?_) (Nat.le_refl _) hne.symm ?_ ns
      · exact (sb.2 c (Nat.ne_of_lt (Heap.lt_size ho))).trans ((Heap.get?_update_ne _ _ _ _ hc).trans (Heap.get?_push_of_some _ ho))
      · exact (sb.2 a hne).trans (Heap.get?_update_self _ ha2 rfl)
end
section
variable {X : Cx} {pins : List (Addr × Obj)} {σ : L2.St} {H : Hp} {s : Shared} {a C : Addr} {f : Str} {y : V} {u : Value}
/-- self.f = y, the first field of an error -/
theorem x_store {Q : Unit → Shared → Prop} {E : Value → Shared → Prop} {A : Around} (T : XC X.K B newId initId bmB C) (I : Inv X pins σ H s) (ea : H a = some (exo a C none)) (hno : PySem.W.findIn X.K (.ref C) f = some none) (ry : RelV y u)
    (h : ∀ p s', H p = none → p ≠ a → Inv X pins σ (upd (upd H p (exd p [(f, y)])) a (exo a C (some p))) s' → Q () s') : wpAny (model X.prog X.w) A (setAttr (.ref a) f u) Q E s := by
  obtain ⟨t1, ho⟩ := exo_at I.hok ea
  obtain ⟨hp, g, d, t, os⟩ := s
  refine PySem.W.set_plain I.kIn (ox := { cls := .ref C, dict := none, data := .fields #[.ref t1, .none, .none, .none, .bool false, .none] }) (od := none) ⟨ho, rfl, rfl, trivial⟩ T.sa ?_
  refine x_first T I.kIn ho hno fun h2 tk2 p k fresh pa ha2 ns => ?_
  have hp0 : H p = none := I.hok.fresh fresh
  have old : ∀ {c : Addr} {o : Obj}, hp.get? c = some o → c ≠ p := fun z => Nat.ne_of_lt (Nat.lt_of_lt_of_le (Heap.lt_size z) fresh)
  have nota : ∀ {c : Addr}, H c = none → c ≠ a := fun n z => by rw [z, ea] at n; cases n
  have two : ∀ {c : Addr} {o : HO}, H c = some o → c ≠ a → upd (upd H p (exd p [(f, y)])) a (exo a C (some p)) c = some o := fun z n => by
    rw [upd_ne n, upd_ne (ne_of_none z hp0)]
    exact z
  have un : Un X.fs [] H (upd (upd H p (exd p [(f, y)])) a (exo a C (some p))) hp h2 :=
    ⟨fun c o z n _ _ => k c o (nota n) z, fun c o z n _ _ => ⟨o.slots, k c o (nota n) z⟩, fun c o z n _ => by rw [upd_ne (nota n), upd_ne (old z)]; exact n,
      fun c o z _ => (Decidable.em (c = a)).elim (fun hc => ⟨_, hc ▸ ha2⟩) fun hc => ⟨o, k c o hc z⟩, fun c xs z => two z (at_ne ea z exo_tup), fun c o v z => two z (at_ne ea z exo_frz), fun c ps z => ⟨#[], by rw [two z (at_ne ea z exo_tbl)]; simp⟩⟩
  refine h p _ hp0 pa (I.un (t' := tk2) un fun c o z => ?_)
  rcases Decidable.em (c = a) with rfl | hc
  · rw [upd_same] at z
    cases z
    exact exo_ok ha2
  · rw [upd_ne hc] at z
    rcases Decidable.em (c = p) with rfl | hd
    · rw [upd_same] at z
      cases z
      exact exd_ok ns (relO_put (fs := []) ry fun _ => True.intro)
    · rw [upd_ne hd] at z
      refine (I.hok c o z).stay (fun c2 v hv r => k c2 v ?_ r) (fun c2 hv => ?_) fun c2 xs hv => two hv (at_ne ea hv exo_tup)
      · rcases hv with rfl | hv
        · exact hc
        · exact at_ne ea hv exo_own
      · exact two hv (at_ne ea hv exo_own)
end
end
end M
namespace M
open PySem PySem.Spec PyProof.Rows L2
section
variable {B newId initId : String} {bmB : List Value}
section
variable {X : Cx} {pins : List (Addr × Obj)} {σ : L2.St} {H : Hp} {s : Shared} {a C : Addr} {f : Str}
/-- B.__init__(self, ..) of the built-in base -/
theorem x_init {us : List Value} {Q : Value → Shared → Prop} {E : Value → Shared → Prop} {A : Around} (T : XC X.K B newId initId bmB C) (I : Inv X pins σ H s) (ea : H a = some (exo a C none)) (hl : us.length ≤ sizeLine)
    (h : ∀ s', Inv X pins σ H s' → Q .none s') : wpAny (model X.prog X.w) A (call (.builtin initId) (.ref a :: us)) Q E s := by
  obtain ⟨nm, N, qn, bs, bm, hd, sn, sub, ab, col, dd, k0, k1, k2, k3, k5, there, hT⟩ := PySem.W.excInit_of I.kIn T.inn
  obtain ⟨t1, ho⟩ := exo_at I.hok ea
  cases s with
  | mk hp gg dr tk os =>
  refine wpAny_call (PySem.HandSPX.init_base T.bf hT there ho hl fun g' t2 kept gx => ?_)
  have J := I.write (t' := tk) (x := a) (e := a) (o := exo a C none) (by rw [ea]; trivial) (.inl rfl) kept ⟨_, gx⟩ (exo_ok gx)
  have same : upd H a (exo a C none) = H := funext fun b => (Decidable.em (b = a)).elim (fun z => by rw [z, upd_same, ea]) fun z => upd_ne z
  rw [same] at J
  exact h _ J
/-- what __init__ does -/
def spI (C : Addr) (f : Str) : Sp := fun vs H Q _ => ∃ a v, vs = [.ref a, v] ∧ H a = some (exo a C none) ∧ ∀ d, H d = none → d ≠ a → Q .non (upd (upd H d (exd d [(f, v)])) a (exo a C (some d)))
def tMk (C : Addr) (f : Str) (ta : TA) : L2.St → Hp → XK → Prop := fun σ H Q => ta σ H fun vs H1 => ∃ v, vs = [v] ∧ ∀ d, H1 d = none → Q (.ref C) (some d) (upd H1 d (.xd [(f, v)]))
variable {e : Expr} {es : List Expr} {ta : TA} {p pos : Pos} {x : Str} {fI : Addr} {k : Nat} {fd : FuncData} {CX : CXT}
theorem made_eq {H1 : Hp} {a d C : Addr} {f : Str} {v : V} (na : H1 a = none) (ne : d ≠ a) :
    upd (del (upd (upd (upd H1 a (exo a C none)) d (exd d [(f, v)])) a (exo a C (some d))) a) d (.xd [(f, v)]) = upd H1 d (.xd [(f, v)]) := by
  funext b
  rcases Decidable.em (b = d) with rfl | hd
  · rw [upd_same, upd_same]
  rw [upd_ne hd, upd_ne hd]
  rcases Decidable.em (b = a) with rfl | ha
  · rw [del_same, na]
  rw [del_ne ha, upd_ne ha, upd_ne hd, upd_ne ha]
/-- C(e), an error -/
theorem x_make (T : XC X.K B newId initId bmB C) (iC : PySem.W.findIn X.K (.ref C) "__init__" = some (some (.ref fI))) (tI : PySem.W.typeIn X.K (.ref fI) = some (.type "function"))
    (F1 : FnOk X.prog X.w X.K X.mg X.base CX k fI fd ["self", f] (spI C f)) (hr : Room (k + 1) X.A) (hb : Binds X.K fd ["self", f] []) (hx : Passes CX X (fun _ _ _ => False)) (hg : Gl X x) (hm : X.mg x = some (.ref C)) (ha : PA X (e :: es) ta)
    (hdb : (x == ("__debug__" : Str)) = false := by decide) (he : starEach (e :: es) X.env = (false, eval e X.env) :: starEach es X.env := by rfl) (hpl : (backTo pos (starEach es X.env)).any (·.1) = false := by rfl) :
    PMk X (.Call (.Name x p) (e :: es) [] pos) (tMk C f ta) := fun pins s σ H Q I h => by
  obtain ⟨nm, N, qn, bs, bm, hd, sn, sub, ab, col, dd, k0, k1, k2, k3, k5, there, hT⟩ := PySem.W.excInit_of I.kIn T.inn
  refine wpAny_Call_Name_kw (ld_glob I hg hm ?_ hdb)
  refine PySem.W.callWith_K (h₀ := X.base) I.ok.mod.kin T.kC (thn (ha.run pos pins s σ H _ I h) fun us s1 hh => ?_) he hpl
  obtain ⟨vs, H1, I1, r1, v, rfl, q⟩ := hh
  refine ⟨I1.kIn, ?_⟩
  obtain ⟨u, rfl, rv⟩ := Vals.one r1
  obtain ⟨nm, N, qn, bs, bm, hd, sn, sub, ab, col, dd, k0, k1, k2, k3, k5, there, hT⟩ := PySem.W.excInit_of I1.kIn T.inn
  cases s1 with
  | mk hp g dr tk os =>
  have up : hp.objs.size ≤ hp.objs.size + 1 := Nat.le_succ _
  have fresh : H1 (hp.objs.size + 1) = none := I1.hok.fresh up
  have older : ∀ b o, hp.get? b = some o → ((hp.push (PySem.W.kdv_tup [u])).push (PySem.HandSPX.excO C hp.objs.size)).get? b = some o := fun b o z => Heap.get?_push_of_some _ (Heap.get?_push_of_some _ z)
  have laid : ((hp.push (PySem.W.kdv_tup [u])).push (PySem.HandSPX.excO C hp.objs.size)).get? (hp.objs.size + 1) = some (PySem.HandSPX.excO C hp.objs.size) := by heap_get
  have I2 := I1.laid (t' := tk) (a := hp.objs.size + 1) (o := exo (hp.objs.size + 1) C none) older up (exo_ok laid)
  have rs : Vals [V.ref (hp.objs.size + 1), v] [Value.ref (hp.objs.size + 1), u] := .cons rfl (.cons rv .nil)
  refine wpAny_call (PySem.HandSPX.call_own T.bf hT there (PySem.W.looks_findIn I1.kIn iC) (fun self => PySem.W.bind_fn I1.kIn self tI) (by rw [sizeLine_eq]; exact (by decide : 1 ≤ 16777216)) ?_)
  refine codeAny_mono (F1.run _ X.stack _ _ ⟨Value.ref (hp.objs.size + 1) :: [u], []⟩ [Value.ref (hp.objs.size + 1), u] _ _ (fun _ _ _ => False) (hr.make C [u] []) (I2.env0.make C [u] []) (hb _ [Value.ref (hp.objs.size + 1), u] I2.kIn rfl) rs
    ⟨_, v, rfl, upd_same, fun d nd ne => ⟨rfl, d, ne, nd, rfl⟩⟩ : codeAny _ _ _ (CR CX X.stack X.prog X.w _ _ (fun w H2 => w = .non ∧ ∃ d, d ≠ hp.objs.size + 1 ∧ (upd H1 (hp.objs.size + 1) (exo (hp.objs.size + 1) C none)) d = none ∧ H2 = upd (upd (upd H1 (hp.objs.size + 1) (exo (hp.objs.size + 1) C none)) d (exd d [(f, v)])) (hp.objs.size + 1) (exo (hp.objs.size + 1) C (some d))) _) _) fun r s' back => ?_
  cases r with
  | error er => exact hx pins σ _ _ er s' I2 back
  | ok fl =>
    cases fl with
    | ret z =>
      obtain ⟨w, H2, os2, bare2, un2, hok2, rw2, rfl, d, ne, nd, rfl⟩ := back
      cases s' with
      | mk h2 g2 d2 t2 os' =>
      have nd1 : H1 d = none := by rw [upd_ne ne] at nd; exact nd
      refine ⟨rw2, mk_end (fs := [(f, v)]) (raises_own T.exC T.tyC) I1 up older un2 hok2 os2 bare2 upd_same (by rw [upd_ne ne, upd_same]) nd1 ?_⟩
      rw [made_eq fresh ne]
      exact q d nd1
    | next => exact False.elim back
    | brk => exact False.elim back
    | cont => exact False.elim back
/-- self.f = e of an error that is being made -/
def tXst (C : Addr) (f : Str) (to te : TE) : TS := fun D σ H => te σ H fun y H1 => to σ H1 fun x H2 => ∃ a, x = .ref a ∧ H2 a = some (exo a C none) ∧ ∀ d, H2 d = none → d ≠ a → D.nx σ (upd (upd H2 d (exd d [(f, y)])) a (exo a C (some d)))
variable {o : Expr} {to te : TE} {p' p1 p2 : Pos}
theorem x_ost (T : XC X.K B newId initId bmB C) (hno : PySem.W.findIn X.K (.ref C) f = some none) (ho : PE X o to) (he : PE X e te) (hs : swapsWith e (some (.Attribute o f p')) pos.line X.env = pure false := by rfl) :
    PS X (.Assign [.Attribute o f p'] e pos) (tXst C f to te) := by
  constructor
  intro pins s σ H D I h
  refine plainObj_wpAny_Assign_Attribute (thn (he.run pins s σ H _ I h) fun v s1 h1 => ?_) hs
  obtain ⟨y, H1, I1, r1, h1⟩ := h1
  refine thn (ho.run pins s1 σ H1 _ I1 h1) fun u s2 h2 => ?_
  obtain ⟨x, H2, I2, r2, a, rfl, ea, q⟩ := h2
  cases r2
  exact x_store T I2 ea hno r1 fun d s' n ne J => ⟨σ, _, J, q d n ne⟩
/-- how the base's __init__ is found -/
def InitAt (X : Cx) (b : Str) (initId : String) : Prop := ∀ (p1 : Pos) (pl : Sem Bool) (pins : List (Addr × Obj)) (s : Shared) (σ : L2.St) (H : Hp) (Q : Value × List Value → Shared → Prop), Inv X pins σ H s → (∀ s', Inv X pins σ H s' → Q (.builtin initId, []) s') →
  wpAny (model X.prog X.w) X.A (eval (.Name b p1) X.env) (fun ov s1 => wpAny (model X.prog X.w) X.A (getMethod ov "__init__" pl) Q X.xe s1) X.xe s
theorem initAt_bltn {T : String} {b : Str} (hg : Gl X b) (hm : X.mg b = none) (hv : bootBuiltins b = some (.type T)) (hn : b ≠ "__name__") (hd : (b == ("__debug__" : Str)) = false) (ht : typeOf (.type T) = pure (.type "type")) (hs : Manifest.isStub T = false)
    (vV : PySem.W.findCls X.K (.type T) (.type "type") "__init__" = some (.val (.builtin initId))) (hh : PySem.W.handedIn (.builtin initId) = true) : InitAt X b initId := fun p1 pl pins s σ H Q I h => by
  refine ld_blt I hg hm hv ?_ hn hd
  obtain ⟨m, fr⟩ := I.fr
  exact PySem.W.method_type fr I.ok.mod.kin ht hs vV hh (h _ (I.tok _))
theorem initAt_own {b : Str} {C0 : Addr} {mc : Value} (hg : Gl X b) (hm : X.mg b = some (.ref C0)) (hd : (b == ("__debug__" : Str)) = false) (rd : PySem.W.readsIn X.K C0 mc = true) (ga : PySem.W.specialIn X.K (.ref C0) "__getattribute__" = some (some (.builtin "type.__getattribute__")))
    (vV : PySem.W.findCls X.K (.ref C0) mc "__init__" = some (.val (.builtin initId))) (hh : PySem.W.handedIn (.builtin initId) = true) : InitAt X b initId := fun p1 pl pins s σ H Q I h => by
  refine ld_glob I hg hm ?_ hd
  exact PySem.W.method_cls I.kIn ga (PySem.W.cls_value I.kIn rd vV hh (h _ (I.tok _)))
/-- b.__init__(self, ..) -/
def tXi (C : Addr) (ta : TA) : TE := fun σ H Q => ta σ H fun vs H1 => ∃ a ws, vs = .ref a :: ws ∧ ws.length ≤ 1000 ∧ H1 a = some (exo a C none) ∧ Q .non H1
theorem pe_xi {b : Str} {pl : Sem Bool} (T : XC X.K B newId initId bmB C) (hi : InitAt X b initId) (ha : PA X (e :: es) ta)
    (hc : eval (.Call (.Attribute (.Name b p1) "__init__" p2) (e :: es) [] pos) X.env = (do
      let ov ← eval (.Name b p1) X.env
      standAt p2.atName
      let (f, first) ← holding [ov] (getMethod ov "__init__" pl)
      callWith pos f first (backTo pos (starEach (e :: es) X.env)) (backToKw pos (keywordEach [] X.env))) := by rfl)
    (he : starEach (e :: es) X.env = (false, eval e X.env) :: starEach es X.env := by rfl) (hpl : (backTo pos (starEach es X.env)).any (·.1) = false := by rfl) :
    PE X (.Call (.Attribute (.Name b p1) "__init__" p2) (e :: es) [] pos) (tXi C ta) := by
  constructor
  intro pins s σ H Q I h
  refine PySem.W.methodCall_KW (hi p1 pl pins s σ H _ I fun s1 I1 => ?_) hc
  show wpAny _ _ (callWith pos (Value.builtin initId) [] (backTo pos (starEach (e :: es) X.env)) []) _ _ _
  refine PyProof.Rows.callWith_method1 (thn (ha.run pos pins _ σ H _ I1 h) fun us s2 hh => ?_) he hpl
  obtain ⟨vs, H1, I2, r, a, ws, rfl, hl, ea, q⟩ := hh
  cases r with
  | @cons _ u0 _ ur ra rw' =>
    cases ra
    have small : ur.length ≤ sizeLine := by rw [← Paired.length rw', sizeLine_eq]; omega
    exact x_init T I2 ea small fun s' J => ⟨.non, H1, J, rfl, q⟩
end
end
end M

/-! try with any number of clauses 'except x as n'; raise; the mirror of both -/
namespace M
open PySem PySem.Spec PyProof.Rows L2
abbrev TSx := Addr → Value → Option Addr → TS
/-- the ends of a suite whose name is forgotten behind it -/
def unE (i : Nat) (D : Ends) : Ends := { nx := fun σ H => D.nx (σ.set i none) H, rt := D.rt, bk := fun σ H => D.bk (σ.set i none) H, ct := fun σ H => D.ct (σ.set i none) H }
def wCl (K : PySem.W.Frag) (Wo : WX) (D : Ends) : List (Value × Nat × TSx) → WX
  | [] => Wo
  | (k, i, ts) :: rest => fun cls d σ H => ∃ b, PySem.W.exmOne K cls k = some b ∧ (b = true → ∀ a, H a = none → ts a cls d (unE i D) (σ.set i (some (.ref a))) H) ∧ (b = false → wCl K Wo D rest cls d σ H)
inductive Cls1 (X : Cx) : List ExceptHandler → List (Value × Nat × TSx) → Prop
  | nil : Cls1 X [] []
  | cons {x n : Str} {k : Value} {i : Nat} {ts : TSx} {b0 : Stmt} {bs : List Stmt} {p1 p2 : Pos} {hds : List ExceptHandler} {l : List (Value × Nat × TSx)} (at_ : X.N[i]? = some n) (loc : X.env.kindOf n = some .local) (nam : Names X x k)
      (su : ∀ (a : Addr) (oe : Obj) (cls : Value) (d : Option Addr) (pn : List (Addr × Obj)), Zc cls d oe → (∃ vs, oe.data = .fields vs) → PSs (X.suite a ((a, oe) :: pn)) (b0 :: bs) (ts a cls d)) (rest : Cls1 X hds l) :
      Cls1 X (.ExceptHandler (some (.Name x p1)) (some n) (b0 :: bs) p2 :: hds) ((k, i, ts) :: l)
section
variable {X : Cx} {body : List Stmt} {h0 : ExceptHandler} {hds : List ExceptHandler} {l : List (Value × Nat × TSx)} {pos : Pos} {tb : WX → TS} {Wo : WX}
theorem x_try (top : X.stack = X.env :: X.outer) (fr : X.env.frame = some X.env.locals) (nod : X.N.Nodup) (tk : Takes X Wo)
    (hb : ∀ (W : WX) (pn : List (Addr × Obj)) (xe : Value → Shared → Prop), Takes (X.tr pn xe) W → PassesOwn (model X.prog X.w) X.A X.env xe → PSs (X.tr pn xe) body (tb W))
    (hh : Cls1 X (h0 :: hds) l) : PS X (.Try body (h0 :: hds) [] [] pos) (fun D σ H => tb (wCl X.K Wo D l) D σ H) := by
  constructor
  intro pins s σ H D I h
  have good := I.ok
  have frames : X.A.frames = some (X.env :: X.outer) := by rw [good.frames, top]
  let air : Value → Shared → Prop := fun e s₁ => wpAny (model X.prog X.w) X.A (noteFrame e X.env) (fun _ s₂ => wpAny (model X.prog X.w) X.A (setFlight e none) (fun _ s₃ =>
    wpAny (model X.prog X.w) X.A (handleBy e X.env (h0 :: hds)) (SP X pins D) X.xe s₃) X.xe s₂) X.xe s₁
  have catch_ : Takes (X.tr (X.pn ++ pins) air) (wCl X.K Wo D l) := by
    rintro u t ⟨a, ground, sI, ps, τ, Hx, cls, d, rfl, J', nb, up, sky, na, os, ag, wish⟩
    have J : Inv X pins τ Hx sI := J'.ofTry good
    have sky2 : Sky ground (X.env :: X.outer) a (Zc cls d) X.env.locals t.heap := top ▸ sky
    show wpAny (model X.prog X.w) X.A (noteFrame (.ref a) X.env) _ _ _
    refine Sky.land Zc.steady frames fr sky2 fun g3 fl3 up3 => ?_
    have J3 : Inv X pins τ Hx { t with heap := g3 } := J.landed nb fl3.1 (up.trans up3) os ag
    obtain ⟨oe3, vs3, he3, hz3, hd3⟩ := fl3.there
    have away : a ∉ frs (X.env :: X.outer) := fun hm => by
      obtain ⟨_, o', e', hnf⟩ := (fl3.2.2.1).mem hm
      rw [he3] at e'
      cases e'
      exact hnf _ hd3
    have nL : a ≠ X.env.locals := fun z => away (List.mem_filterMap.mpr ⟨X.env, List.mem_cons_self, by rw [fr, z]⟩)
    have nF : a ∉ X.fs := fun hm => by
      obtain ⟨en, hen, q⟩ := List.mem_filterMap.mp hm
      exact away (List.mem_filterMap.mpr ⟨en, List.mem_cons_of_mem _ hen, q⟩)
    have S3 := J3.suite he3 hd3 na nL nF
    suffices go : ∀ (cs : List ExceptHandler) (m : List (Value × Nat × TSx)), Cls1 X cs m → wCl X.K Wo D m cls d τ Hx → wpAny (model X.prog X.w) X.A (handleBy (.ref a) X.env cs) (SP X pins D) X.xe { t with heap := g3 } from go _ _ hh wish
    intro cs m hk
    induction hk with
    | nil =>
      intro wo
      refine wpAny_handleBy_nil ?_
      obtain ⟨k1, k2, k3, oe, vs, T, oT, tr, at1, hz, hd, f1, hr⟩ := id fl3
      unfold PySem.passOn
      refine wpAny_bind (wpAny_field at1 hd f1 ?_)
      rw [if_neg (show ¬ ((Value.ref T == Value.none) = true) by simp)]
      refine wpAny_bind ?_
      rw [fr]
      refine HandSPX.setFlight_upZ fl3 fun g4 fl4 up4 => wpAny_throw (tk _ _ ⟨a, ground, sI, pins, τ, Hx, cls, d, rfl, J, nb, (up.trans up3).trans up4, .inr (.inr (top.symm ▸ fl4)), na, os, ag, wo⟩)
    | @cons x n k i ts b0 bs p1 p2 hds2 l2 at_ loc nam su rest ih =>
      rintro ⟨b, hb1, yes, no⟩
      refine wpAny_handleBy_cons (codeAny_handlers_test ?_) (by intro q; cases q)
      have what : PySem.W.Looks (model X.prog X.w) g3 (typeOf (.ref a)) cls := fun A Q E s2 k2 q => wpAny_typeOf_ref (k2 _ _ he3) (by rw [hz3.1]; exact q)
      have LM := PySem.W.exm_one (M := model X.prog X.w) J3.kIn what hb1
      have named : ∀ {Q : Value → Shared → Prop} {E : Value → Shared → Prop}, Q k { t with heap := g3 } → wpAny (model X.prog X.w) (X.A.mark (some (.ref a))) (eval (.Name x p1) X.env) Q E { t with heap := g3 } := fun {Q E} q => by
        obtain ⟨hg, hdbg, hm | ⟨hm, hv, hnn⟩⟩ := nam
        · exact ld_glob (X := X.suite a ((a, oe3) :: (X.pn ++ pins))) S3 hg hm q hdbg
        · exact ld_blt (X := X.suite a ((a, oe3) :: (X.pn ++ pins))) S3 hg hm hv q hnn hdbg
      refine named (LM.here ?_)
      cases b with
      | false =>
        show wpAny _ X.A (handleBy (.ref a) X.env hds2) _ _ _
        exact ih (no rfl)
      | true =>
        refine codeAny_handlers_suite_as (HandSPX.lands_againZ fl3 fun g4 fl4 up4 => ?_)
        have J4 : Inv X pins τ Hx { t with heap := g4 } := J.landed nb fl4.1 ((up.trans up3).trans up4) os ag
        obtain ⟨oe4, vs4, he4, hz4, hd4⟩ := fl4.there
        have S4 := J4.suite he4 hd4 na nL nF
        refine store_ok (X := X.suite a ((a, oe4) :: (X.pn ++ pins))) (v := .ref a) S4 nod at_ (.inl loc) rfl (fun s5 S5 => ?_) (.inr loc)
        refine wpAny_mono ((su a oe4 cls d (X.pn ++ pins) hz4 ⟨_, hd4⟩).run [] s5 _ Hx _ S5 (yes rfl a na)) (fun fl s6 sp => ?_) (fun _ _ z => False.elim z)
        have behind : ∀ {σ6 : L2.St} {H6 : Hp} {Q : Shared → Prop}, Inv (X.suite a ((a, oe4) :: (X.pn ++ pins))) [] σ6 H6 s6 → (∀ s7, Inv X pins (σ6.set i none) H6 s7 → Q s7) →
            wpAny (model X.prog X.w) X.A (do bindName X.env n .none; unbindBehindTheSuite X.env n p2) (fun _ s7 => Q s7) X.xe s6 := fun {σ6 H6 Q} S6 q => gone_ok (S6.unsuite good) nod at_ loc q
        cases fl with
        | next =>
          obtain ⟨σ6, H6, S6, q⟩ := sp
          exact behind S6 fun s7 J7 => ⟨_, _, J7, q⟩
        | brk =>
          obtain ⟨σ6, H6, S6, q⟩ := sp
          exact behind S6 fun s7 J7 => ⟨_, _, J7, q⟩
        | cont =>
          obtain ⟨σ6, H6, S6, q⟩ := sp
          exact behind S6 fun s7 J7 => ⟨_, _, J7, q⟩
        | ret u =>
          obtain ⟨v6, σ6, H6, S6, r6, q⟩ := sp
          exact behind S6 fun s7 J7 => ⟨_, _, _, J7, r6, q⟩
  refine wpAny_Try_except ?_
  refine wpAny_mono ((hb (wCl X.K Wo D l) (X.pn ++ pins) air catch_ PassesOwn.looking).run [] s σ H D (I.toTry _) h) (fun fl s1 sp => ?_) (fun e s1 he => he)
  cases fl with
  | next =>
    obtain ⟨τ, Ht, J, q⟩ := sp
    exact wpAny_execs_nil ⟨τ, Ht, J.ofTry good, q⟩
  | brk =>
    obtain ⟨τ, Ht, J, q⟩ := sp
    exact ⟨τ, Ht, J.ofTry good, q⟩
  | cont =>
    obtain ⟨τ, Ht, J, q⟩ := sp
    exact ⟨τ, Ht, J.ofTry good, q⟩
  | ret u =>
    obtain ⟨v, τ, Ht, J, r, q⟩ := sp
    exact ⟨v, τ, Ht, J.ofTry good, r, q⟩
end

/-! ### the config of a suite -/
theorem Rep.cv_aux {c c' : Cfg} (hK : c.K = c'.K) (hc : c.ct = c'.ct) (hg : c.ga = c'.ga) {G : Hp} : (∀ {v : V} {d : D}, Rep c G v d → Rep c' G v d) ∧ (∀ {vs : List V} {ds : List D}, Reps c G vs ds → Reps c' G vs ds) := by
  constructor
  · intro v d h
    refine Rep.rec (motive_1 := fun v d _ => Rep c' G v d) (motive_2 := fun vs ds _ => Reps c' G vs ds) .non (fun b => .bl b) (fun i => .int i) (fun s => .str s) (fun n => .ty n) (fun x => hg ▸ .gl x)
      (fun a _ r => .tup (hK ▸ a) r) (fun a _ r => .tux (hK ▸ a) r) (fun a _ r => .lst a r) (fun a _ r => .frl (hK ▸ a) r) (fun a k _ r => .dct a k r) (fun a b z k _ r => .obj (hc ▸ a) b z k r) (fun a k _ r => .ins (hc ▸ a) k r) .nil (fun _ _ a b => .cons a b) h
  · intro v d h
    refine Reps.rec (motive_1 := fun v d _ => Rep c' G v d) (motive_2 := fun vs ds _ => Reps c' G vs ds) .non (fun b => .bl b) (fun i => .int i) (fun s => .str s) (fun n => .ty n) (fun x => hg ▸ .gl x)
      (fun a _ r => .tup (hK ▸ a) r) (fun a _ r => .tux (hK ▸ a) r) (fun a _ r => .lst a r) (fun a _ r => .frl (hK ▸ a) r) (fun a k _ r => .dct a k r) (fun a b z k _ r => .obj (hc ▸ a) b z k r) (fun a k _ r => .ins (hc ▸ a) k r) .nil (fun _ _ a b => .cons a b) h
/-- the same but for what is known of an error in hand -/
structure Cfg.Eq (c c' : Cfg) : Prop where
  K : c.K = c'.K
  ct : c.ct = c'.ct
  ga : c.ga = c'.ga
  xt : c.xt = c'.xt
theorem Cfg.Eq.symm {c c' : Cfg} (e : c.Eq c') : c'.Eq c := ⟨e.K.symm, e.ct.symm, e.ga.symm, e.xt.symm⟩
theorem Rep.cv {c c' : Cfg} (e : c.Eq c') {G : Hp} {v : V} {d : D} (h : Rep c G v d) : Rep c' G v d := (Rep.cv_aux e.K e.ct e.ga).1 h
theorem Reps.cv {c c' : Cfg} (e : c.Eq c') {G : Hp} {v : List V} {d : List D} (h : Reps c G v d) : Reps c' G v d := (Rep.cv_aux e.K e.ct e.ga).2 h
theorem OwnRel.cv {c c' : Cfg} (e : c.Eq c') {G H : Hp} {p : Addr} {m : MO} (h : OwnRel c G H p m) : OwnRel c' G H p m := by
  cases m with
  | lst ds => obtain ⟨vs, h, r⟩ := h; exact ⟨vs, h, r.cv e⟩
  | dct ds => obtain ⟨vs, h, k, r⟩ := h; exact ⟨vs, h, k, r.cv e⟩
  | ins n ds => obtain ⟨dx, vs, h, k, r⟩ := h; exact ⟨dx, vs, e.ct ▸ h, k, r.cv e⟩
theorem RelR.cv {c c' : Cfg} (e : c.Eq c') {f : Fr} {G : Hp} {E : Ev} {σ : L2.St} {H : Hp} {v : V} {r : RV} (h : RelR c f G E σ H v r) : RelR c' f G E σ H v r := by
  cases r with
  | fz d => exact Rep.cv e h
  | ow m => obtain ⟨p, a, b, q⟩ := h; exact ⟨p, a, b.cv e, q⟩
  | sl j => exact h
theorem RS.cv {c c' : Cfg} (e : c.Eq c') {f : Fr} {G : Hp} {E : Ev} {σ : L2.St} {H : Hp} (R : RS c f G E σ H) (hP : c'.P G) (hx : ∀ (i : Nat), E[i]? = some Slot.xv → ∃ v, c'.xa = some v ∧ σ[i]? = some (some v)) : RS c' f G E σ H where
  gh := R.gh
  g0 := R.g0
  new := R.new
  fr := R.fr
  len := R.len
  fz := fun i d h => by
    obtain ⟨v, a, b⟩ := R.fz i d h
    exact ⟨v, a, b.cv e⟩
  ow := fun i m h => by
    obtain ⟨p, a, b, q⟩ := R.ow i m h
    exact ⟨p, a, b.cv e, q⟩
  bo := fun i m h => by
    obtain ⟨p, a, b, q⟩ := R.bo i m h
    exact ⟨p, a, b.cv e, q⟩
  bos := R.bos
  dis := R.dis
  inv := hP
  xv := hx
/-- an error in hand: at a, its dict d; the fields of x -/
def XAt (c : Cfg) (d : Option Addr) (x : Exn) (G : Hp) : Prop := x.fs = [] ∨ ∃ dx fs, d = some dx ∧ G dx = some (.xd fs) ∧ fs.map (·.1) = x.fs.map (·.1) ∧ Reps c G (fs.map (·.2)) (x.fs.map (·.2))
def Cfg.held (c : Cfg) (a : Addr) (d : Option Addr) (x : Exn) : Cfg := { c with xa := some (.ref a), P := fun G => c.P G ∧ XAt c d x G, mono := fun {G G'} e h => ⟨c.mono e h.1, h.2.imp id fun ⟨dx, fs, a, b, k, r⟩ => ⟨dx, fs, a, e _ _ b, k, r.mono e⟩⟩ }
theorem Cfg.held_eq (c : Cfg) (a : Addr) (d : Option Addr) (x : Exn) : c.Eq (c.held a d x) := ⟨rfl, rfl, rfl, rfl⟩
/-- x.f of the error in hand -/
def mXF (x : Exn) (i : Nat) (f : Str) : EM := fun E => match E[i]? with
  | some .xv => match x.fs.lookup f with
    | some d => .ok (.fz d) E
    | none => .bad
  | _ => .bad
theorem lookup_two {β γ : Type} {f : Str} {d : γ} : ∀ {a : List (Str × β)} {b : List (Str × γ)}, a.map (·.1) = b.map (·.1) → b.lookup f = some d → ∃ v : β, a.lookup f = some v ∧ ∃ n : Nat, (a.map (·.2))[n]? = some v ∧ (b.map (·.2))[n]? = some d
  | [], [], _, h => by cases h
  | [], _ :: _, e, _ => by cases e
  | _ :: _, [], e, _ => by cases e
  | (g, v) :: a, (g', d') :: b, e, h => by
    rw [List.map_cons, List.map_cons] at e
    injection e with e1 e2
    simp only at e1
    subst e1
    rw [List.lookup] at h ⊢
    split at h
    · rename_i z
      cases h
      exact ⟨v, rfl, 0, rfl, rfl⟩
    · rename_i z
      obtain ⟨w, h1, n, h2, h3⟩ := lookup_two e2 h
      exact ⟨w, h1, n + 1, by simpa using h2, by simpa using h3⟩
theorem de_xf {X : Cx} {c : Cfg} {a : Addr} {oe : Obj} {cls : Value} {d : Option Addr} {pn : List (Addr × Obj)} {e : Expr} {pos : Pos} {n : Str} {x : Exn} {i : Nat} {C : Addr} {W : WX} (T : XfC X.K C) (hno : PySem.W.findIn X.K (.ref C) n = some none) (hC : cls = .ref C)
    (hz : Zc cls d oe) (hf : ∃ vs, oe.data = .fields vs) (he : PE (X.suite a ((a, oe) :: pn)) e (tVar i)) (hb : attributeBase e n X.env (eval e X.env) = eval e X.env := by rfl) :
    PE (X.suite a ((a, oe) :: pn)) (.Attribute e n pos) (tE (c.held a d x) W (mXF x i n)) := pe_imp (pe_xf T hno hz hf he hb) fun σ H Q ⟨f, G, E, R, h⟩ => by
  unfold mXF at h
  split at h
  · rename_i hx
    split at h
    · rename_i dd hl
      obtain ⟨v, e1, e2⟩ := R.xv i hx
      cases e1
      rcases R.inv.2 with z | ⟨dx, fs, e3, e4, ek, reps⟩
      · rw [z] at hl; cases hl
      obtain ⟨w, l1, m, l2, l3⟩ := lookup_two ek hl
      obtain ⟨u, g1, g2⟩ := reps.get l3
      rw [l2] at g1
      cases g1
      exact ⟨_, e2, rfl, hC, dx, fs, w, e3, R.gh _ _ e4, l1, h G w H (.refl _) R (g2.cv (c.held_eq a d x))⟩
    · exact h.elim
  · exact h.elim

/-! ### raise -/
def sRaise (n : Nat) (f : Str) (m : EM) : SM := fun E => (m E).out fun r E1 => match fzn E1 r with
  | some (d, E2) => .ex ⟨n, [(f, d)]⟩ E2
  | none => .bad
theorem ds_raise {X : Cx} {c : Cfg} {W : WX} {e call : Expr} {pos : Pos} {n : Nat} {f : Str} {m : EM} {C : Addr} (calm : X.calm = true) (tk : Takes X W) (mk : ∀ {ta : TA}, PA X [e] ta → PMk X call (tMk C f ta)) (hC : c.xt n = .ref C) (ha : PE X e (tE c W m))
    (hs : starEach [e] X.env = (false, eval e X.env) :: starEach [] X.env := by rfl) : PS X (.Raise (some call) none pos) (tS c W (sRaise n f m)) := ps_imp (ps_raise calm tk (mk (pa_cons ha pa_nil hs))) fun Dn σ H ⟨f', G, E, R, h⟩ =>
  tE_outS R h fun r E1 G1 v H1 e1 R1 r1 h1 => by
    split at h1
    · rename_i dd E2 q
      obtain ⟨G2, e2, R2, rep⟩ := R1.frz r1 q
      refine ⟨v, rfl, fun d hd => ?_⟩
      have g := Gro.newG (o := HO.xd [(f, v)]) R2.gh hd
      exact h1 σ _ _ _ _ (e2.trans g.gg) (R2.gro g) ⟨hC.symm, .inr ⟨d, [(f, v)], rfl, upd_same, rfl, .cons (rep.mono g.gg) .nil⟩⟩
    · exact h1.elim

/-! ### try -/
structure Hd where
  cat : Nat → Option Bool
  slot : Nat
  su : Exn → SM
def noXv (E : Ev) : Bool := E.all fun s => match s with
  | .xv => false
  | _ => true
def notSl : RV → Bool
  | .sl _ => false
  | _ => true
/-- behind a suite -/
def unO (i : Nat) : Out → Out
  | .nx E => if notBo E i && noXv (E.set i .un) then .nx (E.set i .un) else .bad
  | .bk E => if notBo E i && noXv (E.set i .un) then .bk (E.set i .un) else .bad
  | .ct E => if notBo E i && noXv (E.set i .un) then .ct (E.set i .un) else .bad
  | .rt r E => if notSl r && (notBo E i && noXv (E.set i .un)) then .rt r (E.set i .un) else .bad
  | _ => .bad
def tryHs : List Hd → Exn → SM
  | [], x => fun E => .ex x E
  | h :: r, x => fun E => match h.cat x.cls with
    | some true => if notBo E h.slot && noXv E && decide (h.slot < E.length) then unO h.slot (h.su x (E.set h.slot .xv)) else .bad
    | some false => tryHs r x E
    | none => .bad
def sTry (body : SM) (hs : List Hd) : SM := fun E => match body E with
  | .ex x E1 => tryHs hs x E1
  | o => o
section
variable {X : Cx} {c : Cfg} {W : WX}
theorem noXv_of {E : Ev} {i : Nat} (h : noXv E = true) : E[i]? ≠ some Slot.xv := fun e => by
  have := List.all_eq_true.mp h _ (List.mem_of_getElem? e)
  cases this
/-- the clauses of a try and their mirrors -/
inductive HdsOk (X : Cx) (c : Cfg) : List ExceptHandler → List Hd → Prop
  | nil : HdsOk X c [] []
  | cons {x n : Str} {k : Value} {h : Hd} {b0 : Stmt} {bs : List Stmt} {p1 p2 : Pos} {hds : List ExceptHandler} {l : List Hd} (at_ : X.N[h.slot]? = some n) (loc : X.env.kindOf n = some .local) (nam : Names X x k)
      (cat : ∀ m b, h.cat m = some b → PySem.W.exmOne X.K (c.xt m) k = some b)
      (su : ∀ (a : Addr) (oe : Obj) (d : Option Addr) (pn : List (Addr × Obj)) (y : Exn), h.cat y.cls = some true → Zc (c.xt y.cls) d oe → (∃ vs, oe.data = .fields vs) → PSs (X.suite a ((a, oe) :: pn)) (b0 :: bs) (tS (c.held a d y) W0 (h.su y))) (rest : HdsOk X c hds l) :
      HdsOk X c (.ExceptHandler (some (.Name x p1)) (some n) (b0 :: bs) p2 :: hds) (h :: l)
/-- what a clause's suite is asked -/
def tsH (c : Cfg) (h : Hd) : TSx := fun a cls d D σ H => ∃ y, h.cat y.cls = some true ∧ cls = c.xt y.cls ∧ tS (c.held a d y) W0 (h.su y) D σ H
theorem hds_cls {hds : List ExceptHandler} {l : List Hd} (h : HdsOk X c hds l) : ∃ ks : List Value, ks.length = l.length ∧ Cls1 X hds ((ks.zip l).map fun p => (p.1, p.2.slot, tsH c p.2)) ∧ ∀ (Wo : WX) (D : Ends) (f : Fr) (G : Hp) (x : Exn) (E : Ev), (∀ G, c.P G) →
    postS c Wo f G (tryHs l x E) D → ∀ σ, XW c (wCl X.K Wo D ((ks.zip l).map fun p => (p.1, p.2.slot, tsH c p.2))) f G σ x E := by
  induction h with
  | nil => exact ⟨[], rfl, .nil, fun Wo D f G x E _ h σ => h σ⟩
  | @cons xn n k h b0 bs p1 p2 hds l at_ loc nam cat su rest ih =>
    obtain ⟨ks, hl, cl, ih⟩ := ih
    refine ⟨k :: ks, by simp [hl], ?_, fun Wo D f G x E hP hpost σ => ?_⟩
    · refine .cons at_ loc nam (fun a oe cls d pn hz hf => ?_) cl
      constructor
      intro pins s σ H Dn I ⟨y, hy, hc, q⟩
      subst hc
      exact (su a oe d pn y hy hz hf).run pins s σ H Dn I q
    · intro G' cls d H' e R rel
      show ∃ b, _
      rw [tryHs] at hpost
      cases hb : h.cat x.cls with
      | none => simp only [hb] at hpost; exact hpost.elim
      | some b =>
        refine ⟨b, by rw [rel.1]; exact cat _ _ hb, fun hb1 a na => ?_, fun hb0 => ?_⟩
        · subst hb1
          simp only [hb] at hpost
          split at hpost
          case isFalse => exact hpost.elim
          rename_i hok
          simp only [Bool.and_eq_true, decide_eq_true_eq] at hok
          have hxE := hok.1.2
          refine ⟨x, hb, rel.1, f, G', E.set h.slot .xv, ?_, ?_⟩
          · have R1 := R.drop (i := h.slot) (notBo_ne hok.1.1)
            have R2 : RS c f G' (E.set h.slot .un) (σ.set h.slot (some (.ref a))) H' := R1.reσ (by rw [List.length_set]) fun i hi => by
              by_cases z : h.slot = i
              · subst z; exact absurd (List.getElem?_set_self hok.2) hi
              · rw [List.getElem?_set_ne z]
            have lv : h.slot < σ.length := by have := R.len; omega
            have own : ∀ {j : Nat} {q : Addr}, Own (E.set h.slot Slot.xv) (σ.set h.slot (some (.ref a))) j q → Own (E.set h.slot Slot.un) (σ.set h.slot (some (.ref a))) j q := fun {j q} z => by
              obtain ⟨⟨m1, z1⟩, z2⟩ := z
              have n : h.slot ≠ j := fun n => by
                subst n
                rw [List.getElem?_set_self hok.2] at z1
                rcases z1 with z1 | z1 <;> cases z1
              rw [List.getElem?_set_ne n] at z1
              exact ⟨⟨m1, by rw [List.getElem?_set_ne n]; exact z1⟩, z2⟩
            have low : ∀ {j : Nat} {s : Slot}, (E.set h.slot Slot.xv)[j]? = some s → s ≠ .xv → (E.set h.slot Slot.un)[j]? = some s := fun {j s} z hs => by
              have n : h.slot ≠ j := fun n => by
                subst n
                rw [List.getElem?_set_self hok.2] at z
                cases z
                exact hs rfl
              rw [List.getElem?_set_ne n] at z ⊢
              exact z
            have R3 := R2.cv (c' := c.held a d x) (c.held_eq a d x) ⟨hP _, rel.2⟩ (fun i z => by
              by_cases n : h.slot = i
              · subst n; rw [List.getElem?_set_self hok.2] at z; cases z
              · rw [List.getElem?_set_ne n] at z; exact absurd z (noXv_of hxE))
            exact {
              gh := R3.gh
              g0 := R3.g0
              new := R3.new
              fr := R3.fr
              len := by have := R3.len; simpa using this
              fz := fun i d z => R3.fz i d (low z (by intro w; cases w))
              ow := fun i d z => R3.ow i d (low z (by intro w; cases w))
              bo := fun i d z => R3.bo i d (low z (by intro w; cases w))
              bos := fun i p z => by
                obtain ⟨m, hm⟩ := R3.bos i p z
                have n : h.slot ≠ i := fun n => by subst n; rw [List.getElem?_set_self hok.2] at hm; cases hm
                rw [List.getElem?_set_ne n] at hm
                exact ⟨m, by rw [List.getElem?_set_ne n]; exact hm⟩
              dis := fun i j p n a b => R3.dis i j p n (own a) (own b)
              inv := R3.inv
              xv := fun i z => by
                by_cases n : h.slot = i
                · subst n; exact ⟨_, rfl, List.getElem?_set_self lv⟩
                · rw [List.getElem?_set_ne n] at z; exact absurd z (noXv_of hxE) }
          · have hpost := postS_mono e hpost
            -- back from a suite's end
            have back : ∀ {E' : Ev} {G2 : Hp} {σ2 : L2.St} {H2 : Hp}, (notBo E' h.slot && noXv (E'.set h.slot .un)) = true → RS (c.held a d x) f G2 E' σ2 H2 → RS c f G2 (E'.set h.slot .un) (σ2.set h.slot none) H2 := fun {E' G2 σ2 H2} hq R => by
              rw [Bool.and_eq_true] at hq
              have R1 := R.drop (i := h.slot) (notBo_ne hq.1)
              have R2 := R1.reσ (σ' := σ2.set h.slot none) (by rw [List.length_set]) fun i hi => by
                by_cases z : h.slot = i
                · subst z
                  by_cases l : h.slot < E'.length
                  · exact absurd (List.getElem?_set_self l) hi
                  · have : σ2.length = E'.length := R.len
                    rw [List.getElem?_eq_none (by rw [List.length_set]; omega), List.getElem?_eq_none (by omega)]
                · rw [List.getElem?_set_ne z]
              exact R2.cv (c.held_eq a d x).symm (hP _) fun i z => absurd z (noXv_of hq.2)
            cases q : h.su x (E.set h.slot .xv) with
            | bad => rw [q] at hpost; exact hpost.elim
            | ex y E' => rw [q] at hpost; exact hpost.elim
            | nx E' =>
              rw [q, unO] at hpost
              split at hpost
              · rename_i hq
                intro G2 σ2 H2 e2 R2
                exact hpost G2 _ H2 e2 (back hq R2)
              · exact hpost.elim
            | bk E' =>
              rw [q, unO] at hpost
              split at hpost
              · rename_i hq
                intro G2 σ2 H2 e2 R2
                exact hpost G2 _ H2 e2 (back hq R2)
              · exact hpost.elim
            | ct E' =>
              rw [q, unO] at hpost
              split at hpost
              · rename_i hq
                intro G2 σ2 H2 e2 R2
                exact hpost G2 _ H2 e2 (back hq R2)
              · exact hpost.elim
            | rt r E' =>
              rw [q, unO] at hpost
              split at hpost
              · rename_i hq
                rw [Bool.and_eq_true] at hq
                intro G2 σ2 v H2 e2 R2 rel2
                refine hpost G2 _ v H2 e2 (back hq.2 R2) ?_
                have rel3 := rel2.cv (c.held_eq a d x).symm
                cases r with
                | sl j => cases hq.1
                | fz dd => exact rel3
                | ow m =>
                  obtain ⟨p, y1, y2, y3, y4, y5⟩ := rel3
                  refine ⟨p, y1, y2, y3, y4, fun j o => ?_⟩
                  obtain ⟨⟨m1, z1⟩, z2⟩ := o
                  have n : h.slot ≠ j := fun n => by
                    subst n
                    rcases z1 with z1 | z1
                    · rcases get_set z1 with ⟨_, z⟩ | ⟨n, _⟩
                      · cases z
                      · exact n rfl
                    · rcases get_set z1 with ⟨_, z⟩ | ⟨n, _⟩
                      · cases z
                      · exact n rfl
                  rw [List.getElem?_set_ne n] at z1 z2
                  exact y5 j ⟨⟨m1, z1⟩, z2⟩
              · exact hpost.elim
        · subst hb0
          simp only [hb] at hpost
          exact ih Wo D f G x E hP hpost σ G' cls d H' e R rel
theorem ds_try {body : List Stmt} {h0 : ExceptHandler} {hds : List ExceptHandler} {l : List Hd} {pos : Pos} {mb : SM} (top : X.stack = X.env :: X.outer) (fr : X.env.frame = some X.env.locals) (nod : X.N.Nodup) (tk : Takes X W) (hP : ∀ G, c.P G)
    (hb : ∀ (W' : WX) (pn : List (Addr × Obj)) (xe : Value → Shared → Prop), Takes (X.tr pn xe) W' → PassesOwn (model X.prog X.w) X.A X.env xe → PSs (X.tr pn xe) body (tS c W' mb))
    (hh : HdsOk X c (h0 :: hds) l) : PS X (.Try body (h0 :: hds) [] [] pos) (tS c W (sTry mb l)) := by
  obtain ⟨ks, _, cl, key⟩ := hds_cls hh
  refine ps_imp (x_try top fr nod tk hb cl) fun Dn σ H ⟨f, G, E, R, h⟩ => ⟨f, G, E, R, ?_⟩
  unfold sTry at h
  cases q : mb E with
  | ex x E1 => rw [q] at h; exact key W Dn f G x E1 hP h
  | nx E1 => rw [q] at h; exact h
  | rt r E1 => rw [q] at h; exact h
  | bk E1 => rw [q] at h; exact h
  | ct E1 => rw [q] at h; exact h
  | bad => rw [q] at h; exact h
end
end M

/-! defs that are called where nothing is being shown; repr of data -/
namespace M
open PySem PySem.Spec PyProof.Rows L2
/-- as FnOk, for callers around whom no list or tuple is being shown -/
structure FnG (P : Program) (w : World) (K : PySem.W.Frag) (mg : Str → Option Value) (base : Heap) (CX : CXT) (k : Nat) (f : Addr) (fd : FuncData) (ps : List Str) (sp : Sp) : Prop where
  len : ∀ vs H Q E, sp vs H Q E → vs.length = ps.length
  run : ∀ (A : Around) (outer : List Env) (s : Shared) (H : Hp) (args : Args) (us : List Value) (vs : List V) (Q : VK) (E : XK), Room k A → A.guards = some [] → Env0 P w K mg base A outer s H → BindsTo s fd args (ps.zip us) → Vals vs us → sp vs H Q E →
    codeAny (model P w) A (.call (.ref f) args) (CR CX outer P w H s Q E) s
section
variable {P : Program} {w : World} {K : PySem.W.Frag} {mg : Str → Option Value} {base : Heap} {CX : CXT} {k : Nat} {f : Addr} {fd : FuncData} {ps : List Str} {sp : Sp}
theorem FnG.of (F : FnOk P w K mg base CX k f fd ps sp) : FnG P w K mg base CX k f fd ps sp := ⟨F.len, fun A o s H args us vs Q E r _ => F.run A o s H args us vs Q E r⟩
theorem FnG.mono {j : Nat} (F : FnG P w K mg base CX j f fd ps sp) (h : j ≤ k) : FnG P w K mg base CX k f fd ps sp := ⟨F.len, fun A o s H args us vs Q E r => F.run A o s H args us vs Q E (r.mono h)⟩
theorem fnG_of {x qual : Str} {params : Arguments} {body : List Stmt} {scope : Scope} {dvs : List V} {kws : List (Str × V)} {N : List Str} (F : FunD K x qual params body scope dvs kws f fd) (S : FnScope N ps scope) (len : ∀ vs H Q E, sp vs H Q E → vs.length = ps.length)
    (walk : ∀ (cdv : Value) (A : Around) (outer : List Env) (s : Shared) (H : Hp) (vs : List V) (Q : VK) (E : XK), Room k (A.deeper (envOfC qual scope s.heap.objs.size f cdv)) → A.guards = some [] → sp vs H Q E →
      ∃ t, PSs (cxOf CX P w K mg base N qual scope f cdv A outer s H E) body t ∧ t { nx := fun _ H' => Q .non H', rt := Q } (start N vs) H) : FnG P w K mg base CX (k + 1) f fd ps sp := by
  obtain ⟨oc, od, dV, kV, doc, pm, an, cdv, ct, osl, rfl, there, coded, _, _⟩ := F.ex
  refine ⟨len, fun A outer s H args us vs Q E room gd e0 bound rel want => ?_⟩
  have many := len _ _ _ _ want
  have Ks : K.In s.heap := e0.mod.kin.keeps fun b o e => (e0.bs b o e).1
  have places : ∀ y ∈ ps.zip us, scope.names.lookup y.1 = some .local ∨ (scope.names.lookup y.1 = some .cell ∧ ((cellsFrom (s.heap.objs.size + 1) scope.names []).lookup y.1).isSome = true) := by
    rintro ⟨n, v⟩ hy
    exact (S.par n (List.of_mem_zip hy).1).imp id fun q => ⟨q, PySem.W.cellsFrom_some _ _ _ (.inl q)⟩
  refine codeAny_call_function room.depth (Ks _ _ there) rfl S.co S.gen rfl (PySem.W.codeRec_of Ks coded) (bound _ _ _ _ (wpAny_newFunctionEnv_cells S.kind places fun env he s1 inside => ?_))
  subst he
  have unl : s.heap.NoLimit := e0.mod.nolimit.keeps fun b o e => (e0.bs b o e).1
  refine ⟨unl.keeps inside.toInCall.keep, codeAny_func ?_⟩
  obtain ⟨t, ht, hq⟩ := walk cdv A outer s H vs Q E (room.deeper _) gd want
  refine wpAny_mono (ht.run [] s1 (start N vs) H _ (inv_start S room.hd e0 many rel inside) hq) (fun fl s' hs => ?_) fun e s' hs => hs
  have done : ∀ (σ' : L2.St) (H' : Hp) (v : V) (u : Value), Inv (cxOf CX P w K mg base N qual scope f cdv A outer s H E) [] σ' H' s' → RelV v u → Q v H' → CE outer P w H s Q u s' :=
    fun _ H' v _ J rv q => ⟨v, H', J.os, J.bare, J.base, J.hok, rv, q⟩
  cases fl with
  | next =>
    obtain ⟨σ', H', J, q⟩ := hs
    exact done _ _ .non .none J rfl q
  | ret u =>
    obtain ⟨v, σ', H', J, rv, q⟩ := hs
    exact done _ _ _ _ J rv q
  | brk => exact hs.choose_spec.choose_spec.2.elim
  | cont => exact hs.choose_spec.choose_spec.2.elim
theorem mk_fnG {x qual : Str} {params : Arguments} {body : List Stmt} {scope : Scope} {dvs : List V} {kws : List (Str × V)} {N : List Str} {n m : Nat} {c : Cfg} {bm : SM}
    (F : FunD K x qual params body scope dvs kws f fd) (S : FnScope N ps scope) (hn : N.length = n) (hm : ps.length = m)
    (hb : ∀ (cdv : Value) (A : Around) (outer : List Env) (s : Shared) (H : Hp) (E : XK), Room k (A.deeper (envOfC qual scope s.heap.objs.size f cdv)) → A.guards = some [] →
      PSs (cxOf (L2.CX P w) P w K mg base N qual scope f cdv A outer s H E) body (tS c (fun cls d _ H' => E cls d H') bm)) :
    FnG P w K mg base (L2.CX P w) (k + 1) f fd ps (spM c m (runF n bm)) := by
  refine fnG_of F S (fun vs H Q E h => by rw [hm]; exact h.1) fun cdv A outer s H vs Q E hr hg h => ⟨_, hb cdv A outer s H E hr hg, ?_⟩
  obtain ⟨hl, G, as, _, R, h⟩ := h
  refine ⟨_, G, _, R.start (N := N), ?_⟩
  unfold runF at h
  rw [← hn] at h
  cases q : bm (as ++ List.replicate (N.length - as.length) .un) with
  | nx E1 => rw [q] at h; exact fun G' σ' H' e R' => h G' σ' .non H' e R' .non
  | rt r E1 => rw [q] at h; exact fun G' σ' v H' e R' rel => h G' σ' v H' e R' rel
  | ex x E1 => rw [q] at h; exact fun σ' G' cls d H' e R' rel => h G' σ' cls d H' e R' rel
  | bk E1 => rw [q] at h; exact h.elim
  | ct E1 => rw [q] at h; exact h.elim
  | bad => rw [q] at h; exact h.elim
theorem fnG_bad {c : Cfg} {m : Nat} (hm : ps.length = m) : FnG P w K mg base (L2.CX P w) k f fd ps (spM c m badF) := .of (fn_bad hm)
end
/-- a def as callers see it, around whom nothing is being shown -/
structure CalG (P : Program) (w : World) (K : PySem.W.Frag) (mg : Str → Option Value) (base : Heap) (c : Cfg) (x : Str) (k : Nat) (ps : List Str) (n : Nat) (F : FM) (dds : List D) : Prop where
  ex : ∃ (f : Addr) (fd : FuncData) (ds : List Value) (dvs : List V), mg x = some (.ref f) ∧ PySem.W.keepIn K (.ref f) = true ∧ FnG P w K mg base (L2.CX P w) k f fd ps (spM c n F) ∧ Binds K fd ps ds ∧ Vals dvs ds ∧ ∀ G, Reps c G dvs dds
section
variable {P : Program} {w : World} {K : PySem.W.Frag} {mg : Str → Option Value} {base : Heap} {c : Cfg} {x : Str} {k : Nat} {ps : List Str} {n : Nat} {F : FM} {dds : List D}
theorem CalG.of (C : Cal P w K mg base c x k ps n F dds) : CalG P w K mg base c x k ps n F dds := by
  obtain ⟨f, fd, ds, dvs, a, b, d, e⟩ := C.ex
  exact ⟨f, fd, ds, dvs, a, b, .of d, e⟩
end
section
variable {X : Cx} {pins : List (Addr × Obj)} {σ : L2.St} {H : Hp} {s : Shared} {k kX n : Nat} {f : Addr} {fd : FuncData} {ps : List Str} {sp : Sp} {E : L2.St → XK} {Q : VK}
theorem runG {us ds : List Value} {vs dvs : List V} (F : FnG X.prog X.w X.K X.mg X.base (L2.CX X.prog X.w) k f fd ps sp) (hr : Room k X.A) (hg : X.A.guards = some []) (hb : Binds X.K fd ps ds) (hd : Vals dvs ds) (hx : PassesAt (L2.CX X.prog X.w) X σ (E σ))
    (I : Inv X pins σ H s) (r : Vals vs us) (h : sp (vs ++ dvs) H Q (E σ)) : wpAny (model X.prog X.w) X.A (call (.ref f) us) (EP X pins σ Q) X.xe s := by
  have rr := r.append hd
  have many : (us ++ ds).length = ps.length := rr.length.symm.trans (F.len _ _ _ _ h)
  refine wpAny_call (codeAny_mono (F.run X.A X.stack s H ⟨us, []⟩ _ _ Q (E σ) hr hg I.env0 (hb s us I.kIn many) rr h) fun r s' out => ?_)
  match r, out with
  | .error e, out => exact hx pins H s e s' I out
  | .ok (.ret u), out => exact I.after out
  | .ok .next, out => exact False.elim out
  | .ok .brk, out => exact False.elim out
  | .ok .cont, out => exact False.elim out
variable {c : Cfg} {W : WX} {e o : Expr} {es : List Expr} {mr : AM} {F : FM} {x : Str} {p p0 pos : Pos} {dds : List D}
theorem de_calG (C : CalG X.prog X.w X.K X.mg X.base c x k ps n F dds) (hr : Room kX X.A) (hgd : X.A.guards = some []) (hg : Gl X x) (tk : Takes X W) (ha : PA X (e :: es) (tA c W mr)) (hn : ∀ {E E1 : Ev} {rs}, mr E = .ok rs E1 → rs.length + dds.length = n) (hk : k ≤ kX := by decide) (hdb : (x == ("__debug__" : Str)) = false := by decide)
    (he : starEach (e :: es) X.env = (false, eval e X.env) :: starEach es X.env := by rfl) (hpl : (backTo pos (starEach es X.env)).any (·.1) = false := by rfl) : PE X (.Call (.Name x p) (e :: es) [] pos) (tE c W (mFnD F dds mr)) := by
  obtain ⟨f, fd, ds, dvs, h1, h2, h3, h4, h5, h6⟩ := C.ex
  refine pe_imp (t := tCallSD (spM c n F) dvs (WE W) (tA c W mr)) ⟨fun pins s σ H Q I h => ?_⟩ fun _ _ _ q => fnD_read h6 hn q
  refine wpAny_Call_Name_kw (ld_glob I hg h1 (PySem.W.callWith_K (h₀ := X.base) I.ok.mod.kin h2 (thn (ha.run pos pins s σ H _ I h) fun us s1 ⟨vs, H1, I1, r, q⟩ => ⟨I1.kIn, ?_⟩) he hpl) hdb)
  exact runG h3 (hr.mono hk) hgd h4 h5 (passAt tk σ) I1 r q
theorem de_calBG {j : Nat} (C : CalG X.prog X.w X.K X.mg X.base c x k ps (n + 1) F []) (hr : Room kX X.A) (hgd : X.A.guards = some []) (hg : Gl X x) (tk : Takes X W) (hv : PE X o (tVar j)) {y : Str} (ho : o = .Name y p0) (ha : PA X es (tA c W mr)) (hn : ∀ {E E1 : Ev} {rs}, mr E = .ok rs E1 → rs.length = n) (hk : k ≤ kX := by decide) (hdb : (x == ("__debug__" : Str)) = false := by decide)
    (he : starEach (o :: es) X.env = (false, eval o X.env) :: starEach es X.env := by rfl) (hpl : (backTo pos (starEach es X.env)).any (·.1) = false := by rfl) : PE X (.Call (.Name x p) (o :: es) [] pos) (tE c W (mFnB F j mr)) := by
  subst ho
  obtain ⟨f, fd, ds, dvs, h1, h2, h3, h4, h5, h6⟩ := C.ex
  obtain rfl : dvs = [] := by simpa using (h6 (fun _ => none)).length
  cases h5
  refine pe_imp (t := tCallS (spM c (n + 1) F) (WE W) (tCons (tVar j) (tA c W mr))) ⟨fun pins s σ H Q I h => ?_⟩ fun _ _ _ q => fnB_read (x := y) (p0 := p0) hn q
  refine wpAny_Call_Name_kw (ld_glob I hg h1 (PySem.W.callWith_K (h₀ := X.base) I.ok.mod.kin h2 (thn ((pa_cons hv ha he).run pos pins s σ H _ I h) fun us s1 ⟨vs, H1, I1, r, q⟩ => ⟨I1.kIn, ?_⟩) he hpl) hdb)
  exact runG h3 (hr.mono hk) hgd h4 .nil (passAt tk σ) I1 r (by rw [List.append_nil]; exact q)
end

/-! ### the end of a law -/
theorem lawG {P : Program} {w : World} {K : PySem.W.Frag} {mg mb : Str → Option Value} {CX : CXT} {k : Nat} {fa a : Addr} {fd : FuncData} {x : Str} {sp : Sp} {s₁ : Shared} {vs : List Value} {ns : List Int}
    (KX : K.In s₁.heap) (hns : s₁.heap.Ns mainGlobals mg) (hb : s₁.heap.Ns builtinsNs mb) (hbb : ∀ x : Str, x ≠ "__name__" → mb x = bootBuiltins x) (hlim : s₁.heap.NoLimit) (hg : s₁.gens = #[])
    (ha : s₁.heap.get? a = some { cls := .type "list", data := .seq vs.toArray }) (hi : IntsAre vs ns) (hl : ns.length ≤ sizeLine) (hr : Room k callerA)
    (F : ∀ base : Heap, K.In base → base.Ns mainGlobals mg → FnG P w K mg base CX k fa fd [x] sp) (hbind : ∀ (s : Shared) (u : Value), BindsTo s fd ⟨[u], []⟩ [(x, u)])
    (hsp : ∀ H : Hp, Only H → SqL K H a (ns.map V.int) → sp [.ref a] H (fun v _ => v = .bl true) fun _ _ _ => False)
    (hCX : ∀ H e s', CX [] H s₁ (fun _ _ _ => False) e s' → False) :
    codeAny (model P w) callerA (.call (.ref fa) ⟨[.ref a], []⟩) (fun r s' => r = .ok (.ret (.bool true)) ∧ OldK s₁.heap s'.heap ∧ s'.os = s₁.os ∧ AllBare s'.gens) s₁ := by
  -- the script is tracked, unless it is one of the module's own objects
  have pick : ∃ H : Hp, Only H ∧ SqL K H a (ns.map V.int) ∧ HOk P w H s₁.heap ∧ (∀ b, H b ≠ none → b = a) ∧ (H a ≠ none → K.lookup a = none) := by
    cases hk : K.lookup a with
    | some o =>
      have e := KX a o hk
      rw [ha] at e
      cases e
      exact ⟨fun _ => none, fun _ => .inl rfl, .inr ⟨_, vs.toArray, _, hk, rfl, rfl, rfl, by rw [List.size_toArray, hi.length]; exact hl, by simpa using vals_ints hi⟩, (fun b u z => by cases (show (none : Option HO) = some u from z)), (fun b z => absurd rfl z), fun z => absurd rfl z⟩
    | none =>
      refine ⟨fun b => if b = a then some (.frz { cls := .type "list", data := .seq vs.toArray } (.lst (ns.map V.int))) else none, fun b => ?_, .inl (.inr ⟨_, if_pos rfl⟩), fun b u z => ?_, fun b z => ?_, fun _ => rfl⟩
      · exact (Decidable.em (b = a)).elim (fun hb => .inr ⟨_, _, if_pos hb⟩) fun hb => .inl (if_neg hb)
      · by_cases hb : b = a
        · cases (if_pos hb).symm.trans z
          subst hb
          exact ⟨ha, by rw [List.length_map]; exact hl, vs, _, vals_ints hi, ha⟩
        · cases (if_neg hb).symm.trans z
      · exact Decidable.byContradiction fun hb => absurd (if_neg hb) z
  obtain ⟨H, only, sq, hok, alone, notK⟩ := pick
  have put : ∀ {b : Addr} {o : Obj}, s₁.heap.get? b = some o → H b = none → (hidT s₁.heap H).get? b = some o := fun e n => hidT_get e n
  have noDict : ∀ {b : Addr} {o : Obj} {es : Array DictEntry} {ep : Nat}, s₁.heap.get? b = some o → o.data = .dict es ep → H b = none := fun {b o es ep} e d => Decidable.byContradiction fun q => by
    have e' := alone b q
    subst e'
    rw [ha] at e
    cases e
    cases (show Data.seq vs.toArray _ = Data.dict es ep from d)
  have names : ∀ {b : Addr} {m : Str → Option Value}, s₁.heap.Ns b m → (hidT s₁.heap H).Ns b m := fun {b m} ⟨o, es, ep, e, d, r⟩ => ⟨o, es, ep, put e (noDict e d), d, r⟩
  have Kb : K.In (hidT s₁.heap H) := fun b o e => put (KX b o e) (Decidable.byContradiction fun q => by
    have e' := alone b q
    subst e'
    rw [notK q] at e
    cases e)
  have hM : Mod K mg (hidT s₁.heap H) := ⟨Kb, names hns, ⟨mb, names hb, hbb⟩, let ⟨mc, h1, h2⟩ := hlim; ⟨mc, names h1, h2⟩⟩
  have e0 : Env0 P w K mg (hidT s₁.heap H) callerA [] s₁ H := ⟨rfl, hM, fun b o e => of_hidT e, Nat.le_of_eq (hidT_size _ _), trivial, fun b z => absurd (show b ∈ ([] : List Addr) from z) (by simp), hok, .of_eq hg⟩
  refine codeAny_mono ((F _ Kb (names hns)).run callerA [] s₁ H ⟨[.ref a], []⟩ [.ref a] [.ref a] _ _ hr rfl e0 (hbind s₁ (.ref a)) (.cons rfl .nil) (hsp H only sq)) fun r s' out => ?_
  match r, out with
  | .error e, out => exact (hCX H e s' out).elim
  | .ok .next, out => exact False.elim out
  | .ok .brk, out => exact False.elim out
  | .ok .cont, out => exact False.elim out
  | .ok (.ret u), out =>
    obtain ⟨v, H', os, bare, un, hok', r', q⟩ := out
    obtain rfl : v = .bl true := q
    obtain rfl : u = Value.bool true := r'
    refine ⟨rfl, OldK.of_keep fun b o e => ?_, os, bare⟩
    cases q : H b with
    | none => exact un.keep b o e q (by intro z; exact absurd (show b ∈ ([] : List Addr) from z) (by simp)) (by simp)
    | some u =>
      rcases only b with z | ⟨ob, xs, z⟩
      · rw [q] at z; cases z
      · obtain ⟨e1, _⟩ := hok b _ z
        obtain ⟨e2, _⟩ := hok' b _ (un.frzs b ob _ z)
        rw [e] at e1
        cases e1
        exact e2
theorem walkG {l : PySem.W.OpenLaw} {n k : Nat} {q : Program} {loose : List Str} {XP : (Str → Option Value) → Heap → Prop} {YP : World → Heap → Prop} {d : DefRec} {CX : CXT} {x : Str}
    (hn : l.most = some n) (hn2 : n ≤ sizeLine) (hdf : d.params.defaults = []) (hr : Room k callerA)
    (F : ∀ (w : World) (mg : Str → Option Value) (fa : Addr) (h : Heap), YP w h → h.Ns mainGlobals mg → mg d.name = some (.ref fa) →
      ∃ (K : PySem.W.Frag) (fd : FuncData) (sp : Sp), K.In h ∧ (∀ (s : Shared) (u : Value), BindsTo s fd ⟨[u], []⟩ [(x, u)]) ∧
        (∀ (H : Hp) (a : Addr) (ns : List Int), ns.length ≤ n → Only H → SqL K H a (ns.map V.int) → sp [.ref a] H (fun v _ => v = .bl true) fun _ _ _ => False) ∧
        ∀ base : Heap, K.In base → base.Ns mainGlobals mg → FnG l.prog w K mg base CX k fa fd [x] sp)
    (hCX : ∀ (H : Hp) (s : Shared) (e : Value) (s' : Shared), CX [] H s (fun _ _ _ => False) e s' → False) :
    PySem.W.WalkO q loose XP YP l.row.toRowW d [] (fun f vs => PySem.call f vs) :=
  Att.attach_call hn hdf fun w s₀ s₁ mg mb fa o pm cd doc a vs ns G Y ho hd hcd hmg hobj hints hlen hg => by
    obtain ⟨K, fd, sp, KX, hb, hsp, hF⟩ := F w mg fa _ Y G.T.g hmg
    exact lawG KX G.T.g G.T.b G.T.builtins G.T.nolimit hg hobj hints (Nat.le_trans hlen hn2) hr hF hb (fun H hO hS => hsp H a ns hlen hO hS) fun H e s' => hCX H s₁ e s'
/-- nothing is let out where nothing is wished for -/
theorem fnG_nox {P : Program} {w : World} {K : PySem.W.Frag} {mg : Str → Option Value} {base : Heap} {k : Nat} {f : Addr} {fd : FuncData} {ps : List Str} {sp : Sp} (F : FnG P w K mg base (L2.CX P w) k f fd ps sp) :
    FnG P w K mg base CX0 k f fd ps (fun vs H Q _ => sp vs H Q E0) where
  len := fun vs H Q E h => F.len vs H Q E0 h
  run := fun A outer s H args us vs Q E hr hg he hb hv hs => codeAny_mono (F.run A outer s H args us vs Q E0 hr hg he hb hv hs) fun r s' hq => by
    cases r with
    | ok fl => cases fl <;> exact hq
    | error e =>
      obtain ⟨_, _, _, _, _, _, _, _, _, _, _, _, z⟩ := hq
      exact z.elim

/-! ### repr -/
mutual
theorem ints_short : ∀ {d : PyData}, d.showable = true → d.intsShort 1921 = true
  | .none, _ => rfl
  | .bool _, _ => rfl
  | .str _, _ => rfl
  | .int i, h => by
    have h' : i.natAbs.log2 < 1920 := by simpa [PyData.showable] using h
    have e := int_text_length_le (k := 1920) (by decide) h'
    simp only [PyData.intsShort, decide_eq_true_eq]
    show (PyData.shown (.int i)).length ≤ 1921
    rw [PyData.shown_int, PySem.ofString_length]
    omega
  | .list xs, h => by
    simp only [PyData.intsShort]
    exact ints_short_all (by simpa [PyData.showable] using h)
  | .tuple xs, h => by
    simp only [PyData.intsShort]
    exact ints_short_all (by simpa [PyData.showable] using h)
  | .dict kvs, h => by simp [PyData.intsShort]
theorem ints_short_all : ∀ {ds : List PyData}, PyData.showableAll ds = true → PyData.intsShortAll 1921 ds = true
  | [], _ => by simp [PyData.intsShortAll]
  | d :: ds, h => by
    have h' : d.showable = true ∧ PyData.showableAll ds = true := by simpa [PyData.showableAll] using h
    simp only [PyData.intsShortAll, ints_short h'.1, ints_short_all h'.2, Bool.and_self]
end
def reprOk (p : PyData) : Bool := p.canLay0 && (p.showable && (decide (p.depth ≤ 60) && (decide (p.bulk ≤ 4000) && !p.hasDict)))
def reprD : List D → Option RV
  | [d] => if reprOk (py d) then some (.fz (.str (py d).shown)) else none
  | _ => none
theorem shown_small {p : PyData} (h : reprOk p = true) : p.shown.length ≤ sizeLine := by
  unfold reprOk at h
  simp only [Bool.and_eq_true, decide_eq_true_eq] at h
  have e := PyData.shown_le_bulk 1921 (by decide) p (PyData.leavesShort_of_canLay0 1921 p h.1 (ints_short h.2.1))
  have e2 : (1921 + 2) * p.bulk ≤ 1923 * 4000 := Nat.mul_le_mul_left 1923 h.2.2.2.1
  rw [sizeLine_eq]
  omega
theorem d_repr {X : Cx} {c : Cfg} (hK : c.K = X.K) (hg : X.A.guards = some []) (hu : X.A.units + 64 < cLine) : CallR X (.builtin "repr") (rDn c reprD) := fun pins s σ H xs us Q I rx ⟨G, ds, r, e, hp, q, m⟩ => by
  unfold reprD at q
  split at q
  · rename_i d
    split at q
    · rename_i ok
      cases q
      cases hp with
      | cons p1 t =>
        cases t
        obtain ⟨u, rfl, ru⟩ := Vals.one rx
        have rep := p1.rep e
        have ok' := ok
        unfold reprOk at ok'
        simp only [Bool.and_eq_true, decide_eq_true_eq, Bool.not_eq_true'] at ok'
        obtain ⟨as, rd⟩ := Dp.reads I _ _ _ (hK ▸ Rep.dp ok'.1 rep) ru
        have fits := shown_small ok
        have fin : ∀ (h' : Heap) (t1 t2 : Tok), (∀ b o, s.heap.get? b = some o → h'.get? b = some o) → EP X pins σ Q (.str (py d).shown t1) { s with heap := h', toks := t2 } := fun h' t1 t2 k => ⟨.str (py d).shown, H, I.kept (t' := t2) k, ⟨t1, rfl⟩, m.flat e (.str _)⟩
        have hs := ok'.2.1
        have hn := ok'.2.2.2.2
        have hdp := ok'.2.2.1
        clear ok ok' m rep
        generalize py d = pd at rd fits fin hs hn hdp
        have refs : ∀ {a : Addr}, Reads s.heap (.ref a) pd as → wpAny (model X.prog X.w) X.A (call (.builtin "repr") [.ref a]) (EP X pins σ Q) X.xe s := fun {a} rd => PySem.repr_of_reads' rd hs (fun z => by rw [hn] at z; cases z) hg (by omega) (fun _ _ z => z) (fun h' u tk k => fin h' u tk k) fits
        have calm : ∀ t1 t2, EP X pins σ Q (.str pd.shown t1) { s with toks := t2 } := fun t1 t2 => fin s.heap t1 t2 fun _ _ z => z
        cases rd with
        | none => exact PySem.P.repr_of_none (by simpa only [PyData.shown] using calm _ _)
        | bool b => exact PySem.P.repr_of_bool (by simpa only [PyData.shown] using calm _ _)
        | int i t => exact PySem.P.repr_of_int (by simpa [PyData.showable] using hs) (by simpa only [PyData.shown] using calm _ _)
        | str x t => exact PySem.P.repr_of_str (by simpa only [PyData.shown] using calm _ _) (by simpa only [PyData.shown] using fits)
        | list h1 h2 h3 h4 => exact refs (.list h1 h2 h3 h4)
        | tuple h1 h2 h3 h4 => exact refs (.tuple h1 h2 h3 h4)
        | dict _ _ _ _ _ => exact absurd hn (by simp [PyData.hasDict])
    · cases q
  · cases q
end M

/-! defs called at a place: by position, with keywords, as values; the head with further tests -/
namespace M
open PySem PySem.Spec PyProof.Rows L2
/-- a def's promise, around A alone -/
structure FnAt (P : Program) (w : World) (K : PySem.W.Frag) (mg : Str → Option Value) (base : Heap) (CX : CXT) (A : Around) (f : Addr) (fd : FuncData) (ps : List Str) (sp : Sp) : Prop where
  len : ∀ vs H Q E, sp vs H Q E → vs.length = ps.length
  run : ∀ (outer : List Env) (s : Shared) (H : Hp) (args : Args) (us : List Value) (vs : List V) (Q : VK) (E : XK), Env0 P w K mg base A outer s H → BindsTo s fd args (ps.zip us) → Vals vs us → sp vs H Q E →
    codeAny (model P w) A (.call (.ref f) args) (CR CX outer P w H s Q E) s
/-- the keywords' values behind the positional ones, in the parameters' order -/
def permL {α : Type} (pi : List Nat) (l : List α) : List α := pi.filterMap fun i => l[i]?
def KB (fd : FuncData) (ps : List Str) (n : Nat) (ks : List Str) (pi : List Nat) : Prop := ∀ (s : Shared) (us ws : List Value), us.length = n → ws.length = ks.length → BindsTo s fd ⟨us, ks.zip ws⟩ (ps.zip (permL pi (us ++ ws)))
structure CalA (X : Cx) (c : Cfg) (x : Str) (ps : List Str) (n : Nat) (F : FM) (dds : List D) : Prop where
  ex : ∃ (f : Addr) (fd : FuncData) (ds : List Value) (dvs : List V), X.mg x = some (.ref f) ∧ PySem.W.keepIn X.K (.ref f) = true ∧ FnAt X.prog X.w X.K X.mg X.base (L2.CX X.prog X.w) X.A f fd ps (spM c n F) ∧ Binds X.K fd ps ds ∧ Vals dvs ds ∧ ∀ G, Reps c G dvs dds
section
variable {P : Program} {w : World} {K : PySem.W.Frag} {mg : Str → Option Value} {base : Heap} {CX : CXT} {k : Nat} {A : Around} {f : Addr} {fd : FuncData} {ps : List Str} {sp : Sp}
theorem FnAt.of (F : FnOk P w K mg base CX k f fd ps sp) (hr : Room k A) : FnAt P w K mg base CX A f fd ps sp := ⟨F.len, fun o s H args us vs Q E => F.run A o s H args us vs Q E hr⟩
theorem FnAt.ofG (F : FnG P w K mg base CX k f fd ps sp) (hr : Room k A) (hg : A.guards = some []) : FnAt P w K mg base CX A f fd ps sp := ⟨F.len, fun o s H args us vs Q E => F.run A o s H args us vs Q E hr hg⟩
end
section
variable {X : Cx} {c : Cfg} {x : Str} {k kX n : Nat} {ps : List Str} {F : FM} {dds : List D}
theorem Cal.at (C : Cal X.prog X.w X.K X.mg X.base c x k ps n F dds) (hr : Room kX X.A) (hk : k ≤ kX) : CalA X c x ps n F dds := by
  obtain ⟨f, fd, ds, dvs, a, b, d, e⟩ := C.ex
  exact ⟨f, fd, ds, dvs, a, b, .of d (hr.mono hk), e⟩
theorem CalG.at (C : CalG X.prog X.w X.K X.mg X.base c x k ps n F dds) (hr : Room kX X.A) (hg : X.A.guards = some []) (hk : k ≤ kX) : CalA X c x ps n F dds := by
  obtain ⟨f, fd, ds, dvs, a, b, d, e⟩ := C.ex
  exact ⟨f, fd, ds, dvs, a, b, .ofG d (hr.mono hk) hg, e⟩
variable {pins : List (Addr × Obj)} {σ : L2.St} {H : Hp} {s : Shared} {f : Addr} {fd : FuncData} {sp : Sp} {E : L2.St → XK} {Q : VK}
theorem runA {args : Args} {us : List Value} {vs : List V} (F : FnAt X.prog X.w X.K X.mg X.base (L2.CX X.prog X.w) X.A f fd ps sp) (hb : BindsTo s fd args (ps.zip us)) (hx : PassesAt (L2.CX X.prog X.w) X σ (E σ))
    (I : Inv X pins σ H s) (r : Vals vs us) (h : sp vs H Q (E σ)) : wpAny (model X.prog X.w) X.A (call (.ref f) args.pos args.kw) (EP X pins σ Q) X.xe s := by
  refine wpAny_call (codeAny_mono (F.run X.stack s H args _ _ Q (E σ) I.env0 hb r h) fun r s' out => ?_)
  match r, out with
  | .error e, out => exact hx pins H s e s' I out
  | .ok (.ret u), out => exact I.after out
  | .ok .next, out => exact False.elim out
  | .ok .brk, out => exact False.elim out
  | .ok .cont, out => exact False.elim out
variable {W : WX} {e o : Expr} {es : List Expr} {mr mk : AM} {p p0 pos : Pos}
theorem de_callA (C : CalA X c x ps n F dds) (hg : Gl X x) (tk : Takes X W) (ha : PA X (e :: es) (tA c W mr)) (hn : ∀ {E E1 : Ev} {rs}, mr E = .ok rs E1 → rs.length + dds.length = n) (hdb : (x == ("__debug__" : Str)) = false := by decide)
    (he : starEach (e :: es) X.env = (false, eval e X.env) :: starEach es X.env := by rfl) (hpl : (backTo pos (starEach es X.env)).any (·.1) = false := by rfl) : PE X (.Call (.Name x p) (e :: es) [] pos) (tE c W (mFnD F dds mr)) := by
  obtain ⟨f, fd, ds, dvs, h1, h2, h3, h4, h5, h6⟩ := C.ex
  refine pe_imp (t := tCallSD (spM c n F) dvs (WE W) (tA c W mr)) ⟨fun pins s σ H Q I h => ?_⟩ fun _ _ _ q => fnD_read h6 hn q
  refine wpAny_Call_Name_kw (ld_glob I hg h1 (PySem.W.callWith_K (h₀ := X.base) I.ok.mod.kin h2 (thn (ha.run pos pins s σ H _ I h) fun us s1 ⟨vs, H1, I1, r, q⟩ => ⟨I1.kIn, ?_⟩) he hpl) hdb)
  have rr := r.append h5
  have many : (us ++ ds).length = ps.length := rr.length.symm.trans (h3.len _ _ _ _ q)
  exact runA (args := ⟨us, []⟩) h3 (h4 s1 us I1.kIn many) (passAt tk σ) I1 rr q
theorem de_callAB {j : Nat} (C : CalA X c x ps (n + 1) F []) (hg : Gl X x) (tk : Takes X W) (hv : PE X o (tVar j)) {y : Str} (ho : o = .Name y p0) (ha : PA X es (tA c W mr)) (hn : ∀ {E E1 : Ev} {rs}, mr E = .ok rs E1 → rs.length = n) (hdb : (x == ("__debug__" : Str)) = false := by decide)
    (he : starEach (o :: es) X.env = (false, eval o X.env) :: starEach es X.env := by rfl) (hpl : (backTo pos (starEach es X.env)).any (·.1) = false := by rfl) : PE X (.Call (.Name x p) (o :: es) [] pos) (tE c W (mFnB F j mr)) := by
  subst ho
  obtain ⟨f, fd, ds, dvs, h1, h2, h3, h4, h5, h6⟩ := C.ex
  obtain rfl : dvs = [] := by simpa using (h6 (fun _ => none)).length
  cases h5
  refine pe_imp (t := tCallS (spM c (n + 1) F) (WE W) (tCons (tVar j) (tA c W mr))) ⟨fun pins s σ H Q I h => ?_⟩ fun _ _ _ q => fnB_read (x := y) (p0 := p0) hn q
  refine wpAny_Call_Name_kw (ld_glob I hg h1 (PySem.W.callWith_K (h₀ := X.base) I.ok.mod.kin h2 (thn ((pa_cons hv ha he).run pos pins s σ H _ I h) fun us s1 ⟨vs, H1, I1, r, q⟩ => ⟨I1.kIn, ?_⟩) he hpl) hdb)
  have many : (us ++ []).length = ps.length := by rw [List.append_nil]; exact r.length.symm.trans (h3.len _ _ _ _ q)
  have b := h4 s1 us I1.kIn many
  rw [List.append_nil] at b
  exact runA (args := ⟨us, []⟩) h3 b (passAt tk σ) I1 r q

/-! ### keywords -/
theorem filt_len {α β : Type} {pi : List Nat} {l : List α} {m : List β} (h : l.length = m.length) : (permL pi l).length = (permL pi m).length := by
  unfold permL
  induction pi with
  | nil => rfl
  | cons i pi ih =>
    rw [List.filterMap_cons, List.filterMap_cons]
    by_cases z : i < l.length
    · rw [List.getElem?_eq_getElem z, List.getElem?_eq_getElem (h ▸ z)]
      simp [ih]
    · rw [List.getElem?_eq_none (by omega), List.getElem?_eq_none (by omega)]
      exact ih
theorem valsPerm {vs : List V} {us : List Value} (r : Vals vs us) (pi : List Nat) : Vals (permL pi vs) (permL pi us) := by
  unfold permL
  induction pi with
  | nil => exact .nil
  | cons i pi ih =>
    rw [List.filterMap_cons, List.filterMap_cons]
    cases q : vs[i]? with
    | none =>
      have : us[i]? = none := by rw [List.getElem?_eq_none_iff] at q ⊢; rw [← r.length]; exact q
      rw [this]
      exact ih
    | some v =>
      obtain ⟨u, hu, ru⟩ := r.get q
      rw [hu]
      exact .cons ru ih
theorem Reps.perm {G : Hp} {vs : List V} {ds : List D} (r : Reps c G vs ds) (pi : List Nat) : Reps c G (permL pi vs) (permL pi ds) := by
  unfold permL
  induction pi with
  | nil => exact .nil
  | cons i pi ih =>
    rw [List.filterMap_cons, List.filterMap_cons]
    cases q : ds[i]? with
    | none =>
      have : vs[i]? = none := by rw [List.getElem?_eq_none_iff] at q ⊢; rw [r.length]; exact q
      rw [this]
      exact ih
    | some v =>
      obtain ⟨u, hu, ru⟩ := r.get q
      rw [hu]
      exact .cons ru ih
def mFnK (F : FM) (pi : List Nat) (ma mk : AM) : EM := fun E => (ma E).bind fun rs E1 => (mk E1).bind fun ks E2 => match fzs E2 (rs ++ ks) with
  | some (ds, E3) => match (F ((permL pi ds).map .fz)).rx with
    | .ok (.fz d) => .ok (.fz d) E3
    | .ok (.ow m) => .ok (.ow m) E3
    | .ex x => .ex x E3
    | _ => .bad
  | none => .bad
theorem fzs_len : ∀ {rs : List RV} {E1 E2 : Ev} {ds : List D}, fzs E1 rs = some (ds, E2) → ds.length = rs.length := by
  intro rs
  induction rs with
  | nil => intro E1 E2 ds q; cases q; rfl
  | cons r rs ih =>
    intro E1 E2 ds q
    simp only [fzs] at q
    split at q
    · split at q
      · rename_i h2
        cases q
        simp [ih h2]
      · cases q
    · cases q
theorem RelRs.append {f : Fr} {G : Hp} {E : Ev} {σ : L2.St} {H : Hp} : ∀ {vs ws : List V} {rs ts : List RV}, RelRs c f G E σ H vs rs → RelRs c f G E σ H ws ts → RelRs c f G E σ H (vs ++ ws) (rs ++ ts)
  | _, _, _, _, .nil, h => h
  | _, _, _, _, .cons a b t, h => .cons a b (RelRs.append t h)
structure CalK (X : Cx) (c : Cfg) (x : Str) (ps : List Str) (n m : Nat) (F : FM) (ks : List Str) (pi : List Nat) : Prop where
  ex : ∃ (f : Addr) (fd : FuncData), X.mg x = some (.ref f) ∧ PySem.W.keepIn X.K (.ref f) = true ∧ FnAt X.prog X.w X.K X.mg X.base (L2.CX X.prog X.w) X.A f fd ps (spM c m F) ∧ KB fd ps n ks pi
theorem callK_read {σ : L2.St} {H : Hp} {Q : VK} {m : Nat} {pi : List Nat} (hn : ∀ {E E1 E2 : Ev} {rs ts ds E3}, mr E = .ok rs E1 → mk E1 = .ok ts E2 → fzs E2 (rs ++ ts) = some (ds, E3) → (permL pi ds).length = m) (h : tE c W (mFnK F pi mr mk) σ H Q) :
    tA c W mr σ H fun vs H1 => tA c W mk σ H1 fun zs H2 => spM c m F (permL pi (vs ++ zs)) H2 Q (WE W σ) := by
  obtain ⟨f, G, E, R, h⟩ := h
  refine ⟨f, G, E, R, ?_⟩
  have h1 := postE_bind h
  cases q : mr E with
  | bad => rw [q] at h1; exact h1
  | ex x E1 => rw [q] at h1; exact h1
  | ok rs E1 =>
    rw [q] at h1
    intro G1 vs H1 e1 R1 r1
    refine ⟨f, G1, E1, R1, ?_⟩
    have h2 := postE_bind (postE_mono e1 h1)
    cases q2 : mk E1 with
    | bad => rw [q2] at h2; exact h2
    | ex x E2 => rw [q2] at h2; exact h2
    | ok ts E2 =>
      rw [q2] at h2
      intro G2 zs H2 e2 R2 r2
      have h3 := postE_mono e2 h2
      cases q3 : fzs E2 (rs ++ ts) with
      | none => simp only [q3] at h3; exact h3.elim
      | some pr =>
        obtain ⟨ds, E3⟩ := pr
        simp only [q3] at h3
        obtain ⟨G3, e3, R3, rep⟩ := fzs_rep R2 ((r1.mono e2).append r2) q3
        have rp := rep.perm pi
        refine ⟨by rw [rp.length]; exact hn q q2 q3, G3, (permL pi ds).map .fz, ?_, R3.callee rp, ?_⟩
        · rw [List.all_map]
          exact List.all_eq_true.mpr fun _ _ => rfl
        cases q4 : F ((permL pi ds).map .fz) with
        | bad => simp only [q4, Res.rx] at h3; exact h3.elim
        | ex x E4 =>
          simp only [q4, Res.rx] at h3
          intro G4 σ4 cls d H4 e4 R4 rel
          exact h3 G4 cls d H4 (e3.trans e4) (R3.gro (R3.back boOf_fz R4)) rel
        | ok r E4 =>
          simp only [q4, Res.rx] at h3
          intro G4 σ4 v H4 e4 R4 rel
          have g := R3.back boOf_fz R4
          cases r with
          | sl j => exact h3.elim
          | fz d => exact h3 G4 v H4 (e3.trans e4) (R3.gro g) rel
          | ow m => exact h3 G4 v H4 (e3.trans e4) (R3.gro g) (RelN.rel R3 (RelR.back R3 rel (fun j z => by cases z)))
theorem tA_len {σ : L2.St} {H : Hp} {Q : List V → Hp → Prop} {n : Nat} (hl : ∀ {E E1 : Ev} {rs}, mr E = .ok rs E1 → rs.length = n) (h : tA c W mr σ H Q) : tA c W mr σ H fun vs H1 => vs.length = n ∧ Q vs H1 := by
  obtain ⟨f, G, E, R, h⟩ := h
  refine ⟨f, G, E, R, ?_⟩
  cases q : mr E with
  | bad => rw [q] at h; exact h
  | ex x E1 => rw [q] at h; exact h
  | ok rs E1 =>
    rw [q] at h
    intro G1 vs H1 e1 R1 r1
    have hlen : ∀ {vs : List V} {rs : List RV}, RelRs c f G1 E1 σ H1 vs rs → vs.length = rs.length := by
      intro vs rs r
      induction r with
      | nil => rfl
      | cons _ _ _ ih => simp [ih]
    exact ⟨(hlen r1).trans (hl q), h G1 vs H1 e1 R1 r1⟩
theorem de_callK {m : Nat} {ks : List Str} {pi : List Nat} {kws : List Keyword} {tk' : TA} (C : CalK X c x ps n m F ks pi) (hg : Gl X x) (tk : Takes X W) (ha : PA X (e :: es) (tA c W mr)) (hkw : PK X kws (tA c W mk)) (hn : ∀ {E E1 : Ev} {rs}, mr E = .ok rs E1 → rs.length = n) (hm : ∀ {E E1 : Ev} {rs}, mk E = .ok rs E1 → rs.length = ks.length)
    (hp : ∀ l : List D, l.length = n + ks.length → (permL pi l).length = m)
    (hall : (backToKw pos (keywordEach kws X.env)).all (·.1.isSome) = true := by rfl) (hks : (backToKw pos (keywordEach kws X.env)).filterMap (·.1) = ks := by rfl)
    (hdb : (x == ("__debug__" : Str)) = false := by decide) (he : starEach (e :: es) X.env = (false, eval e X.env) :: starEach es X.env := by rfl)
    (hpl : ((backTo pos (starEach (e :: es) X.env)).any (·.1) || (backToKw pos (keywordEach kws X.env)).any (·.1.isNone)) = false := by rfl) :
    PE X (.Call (.Name x p) (e :: es) kws pos) (tE c W (mFnK F pi mr mk)) := by
  obtain ⟨f, fd, h1, h2, h3, h4⟩ := C.ex
  constructor
  intro pins s σ H Q I h
  have h := tA_len hn (callK_read (m := m) (pi := pi) (fun {E E1 E2 rs ts ds E3} a b z => hp ds (by rw [fzs_len z, List.length_append, hn a, hm b])) h)
  refine wpAny_Call_Name_kw (ld_glob I hg h1 (PySem.W.callWith_KW (h₀ := X.base) I.ok.mod.kin h2 hall (thn (ha.run pos pins s σ H _ I h) fun us s1 hh => ?_) hpl he) hdb)
  obtain ⟨vs, H1, I1, r, ln, q⟩ := hh
  refine thn (hkw.run pos pins s1 σ H1 _ I1 (tA_len hm q)) fun ws s2 hh => ?_
  obtain ⟨zs, H2, I2, rz, lk, q2⟩ := hh
  refine ⟨I2.kIn, ?_⟩
  rw [hks]
  exact runA (args := ⟨us, ks.zip ws⟩) h3 (h4 s2 us ws (r.length.symm.trans ln) (rz.length.symm.trans lk)) (passAt tk σ) I2 (valsPerm (r.append rz) pi) q2
theorem dk_nil : PK X [] (tA c W aNil) := ⟨fun pos pins s σ H Q I ⟨f, G, E, R, h⟩ => pk_nil.run pos pins s σ H Q I (h G [] H (.refl _) R .nil)⟩
theorem dk_cons {kws : List Keyword} {nm : Option Str} {kpos : Pos} {ma : EM} (ha : PE X e (tE c W ma)) (hr : PK X kws (tA c W mr)) : PK X (⟨nm, e, kpos⟩ :: kws) (tA c W (aCons ma mr)) :=
  ⟨fun pos pins s σ H Q I h => (pk_cons (nm := nm) (kpos := kpos) ha hr).run pos pins s σ H Q I (by
    obtain ⟨f, G, E, R, h⟩ := h
    refine tE_bindA R h fun ra E1 G1 v H1 e1 R1 r1 h1 => ?_
    refine tA_bindA R1 h1 fun rs E2 G2 vs H2 e2 R2 r2 h2 => ?_
    exact h2 G2 _ H2 (.refl _) R2 (.cons (settle_settle _) (r1.mono_settled e2) r2))⟩

/-! ### defs as values -/
/-- the defs that a value may name -/
def mFnV (tab : List (Str × FM)) (mf : EM) (ma : AM) : EM := fun E => (mf E).bind fun r E1 => match pk E1 r.settle with
  | some (.gl x) => match tab.lookup x with
    | some F => mFn F ma E1
    | none => .bad
  | _ => .bad
theorem de_gl (hg : Gl X x) (hm : X.mg x = some (.ref (c.ga x))) (hd : (x == ("__debug__" : Str)) = false := by decide) : PE X (.Name x pos) (tE c W (mC (.gl x))) := de_c (pe_glob (v := .ref (c.ga x)) hg hm rfl hd) fun _ => .gl _
theorem de_callV {tab : List (Str × FM)} {mf : EM} {fe : Expr} {ps : Str → List Str} (C : ∀ y F, tab.lookup y = some F → CalA X c y (ps y) n F [] ∧ X.mg y = some (.ref (c.ga y))) (tk : Takes X W) (hf : PE X fe (tE c W mf)) (ha : PA X (e :: es) (tA c W mr)) (hn : ∀ {E E1 : Ev} {rs}, mr E = .ok rs E1 → rs.length = n)
    (ht : eval (.Call fe (e :: es) [] pos) X.env = (do callWith pos (← eval fe X.env) [] (backTo pos (starEach (e :: es) X.env)) (backToKw pos (keywordEach [] X.env))) := by rfl)
    (he : starEach (e :: es) X.env = (false, eval e X.env) :: starEach es X.env := by rfl) (hpl : (backTo pos (starEach es X.env)).any (·.1) = false := by rfl) : PE X (.Call fe (e :: es) [] pos) (tE c W (mFnV tab mf mr)) := by
  constructor
  intro pins s σ H Q I ⟨f0, G, E, R, h⟩
  have h2 : tE c W mf σ H fun v H1 => ∃ (y : Str) (F : FM), tab.lookup y = some F ∧ v = .ref (c.ga y) ∧ tE c W (mFn F mr) σ H1 Q := by
    refine tE_bindE R h fun r E1 G1 v H1 e1 R1 r1 h1 => ?_
    split at h1
    · rename_i y py
      split at h1
      · rename_i F hF
        have rep := R1.pk r1 py
        cases rep
        exact ⟨y, F, hF, rfl, f0, G1, E1, R1, h1⟩
      · exact h1.elim
    · exact h1.elim
  refine Call_ (thn (hf.run pins s σ H _ I h2) fun u s1 hh => ?_) ht
  obtain ⟨v, H1, I1, rv, y, F, hF, rfl, q⟩ := hh
  cases rv
  obtain ⟨⟨f, fd, ds, dvs, k1, k2, k3, k4, k5, k6⟩, hm⟩ := C y F hF
  rw [hm] at k1
  cases k1
  obtain rfl : dvs = [] := by simpa using (k6 (fun _ => none)).length
  cases k5
  have q := fn_read hn q
  refine PySem.W.callWith_K (h₀ := X.base) I1.ok.mod.kin k2 (thn (ha.run pos pins s1 σ H1 _ I1 q) fun us s2 hh => ?_) he hpl
  obtain ⟨vs, H2, I2, r, q⟩ := hh
  refine ⟨I2.kIn, ?_⟩
  have many : (us ++ []).length = (ps y).length := by rw [List.append_nil]; exact r.length.symm.trans (k3.len _ _ _ _ q)
  have b := k4 s2 us I2.kIn many
  rw [List.append_nil] at b
  exact runA (args := ⟨us, []⟩) k3 b (passAt tk σ) I2 r q

/-! ### a star in a display or a call -/
def aStar (m : EM) (mr : AM) : AM := fun E => (m E).bind fun r E1 => match fzn E1 r with
  | some (.tup ds, E2) => (mr E2).bind fun rs E3 => .ok (ds.map .fz ++ rs) E3
  | some (.tux ds, E2) => (mr E2).bind fun rs E3 => .ok (ds.map .fz ++ rs) E3
  | some (.lst ds, E2) => (mr E2).bind fun rs E3 => .ok (ds.map .fz ++ rs) E3
  | some (.frl ds, E2) => (mr E2).bind fun rs E3 => .ok (ds.map .fz ++ rs) E3
  | _ => .bad
theorem relRs_fz {f : Fr} {G : Hp} {E : Ev} {σ : L2.St} {H : Hp} : ∀ {vs : List V} {ds : List D}, Reps c G vs ds → RelRs c f G E σ H vs (ds.map .fz)
  | _, _, .nil => .nil
  | _, _, .cons a t => .cons rfl a (relRs_fz t)
theorem da_star {m : EM} (hK : c.K = X.K) (ha : PE X e (tE c W m)) (hr : PA X es (tA c W mr)) (hs : starEach (.Starred e p :: es) X.env = (true, eval e X.env) :: starEach es X.env := by rfl) : PA X (.Starred e p :: es) (tA c W (aStar m mr)) :=
  pa_imp (StX.pa_star ha hr hs) fun σ H Q h => by
    obtain ⟨f, G, E, R, h⟩ := h
    refine tE_bindA R h fun r E1 G1 v H1 e1 R1 r1 h1 => ?_
    cases q : fzn E1 r with
    | none => simp only [q] at h1; exact h1.elim
    | some pr =>
      obtain ⟨d, E2⟩ := pr
      obtain ⟨G2, e2, R2, rep⟩ := R1.frz r1 ((fzn_settle _ _).trans q)
      have go : ∀ {vs : List V} {ds : List D}, Reps c G2 vs ds → postA c W f G1 σ ((mr E2).bind fun rs E3 => .ok (ds.map .fz ++ rs) E3) Q → tA c W mr σ H1 fun ys H2 => Q (vs ++ ys) H2 := fun {vs ds} reps h1 => by
        refine tA_bindA R2 (postA_mono e2 h1) fun rs E3 G3 ys H3 e3 R3 r3 h3 => ?_
        exact h3 G3 _ H3 (.refl _) R3 ((relRs_fz (reps.mono e3)).append r3)
      cases d with
      | tup ds =>
        simp only [q] at h1
        cases rep with
        | tup k1 reps => exact ⟨_, _, rfl, .inl (hK ▸ sqt_mono R2.gh k1), go reps h1⟩
      | tux ds =>
        simp only [q] at h1
        cases rep with
        | tux k1 reps => exact ⟨_, _, rfl, .inl (hK ▸ sqt_mono R2.gh k1.sqt), go reps h1⟩
      | lst ds =>
        simp only [q] at h1
        cases rep with
        | lst k1 reps => exact ⟨_, _, rfl, .inr (.of (R2.gh _ _ k1)), go reps h1⟩
      | frl ds =>
        simp only [q] at h1
        cases rep with
        | frl k1 reps => exact ⟨_, _, rfl, .inr (hK ▸ sql_mono R2.gh k1), go reps h1⟩
      | _ => simp only [q] at h1; exact h1.elim
end

/-! ### the head with further tests -/
def asM (g : Addr → Option Obj) (n : Nat) : List Addr := He.asD g n ++ [cStatics]
abbrev AlM : Type := He.AlD × Bool
def obM (n : Nat) (fa : List He.Fa) (fn : List He.DefD) (ex : List (PySem.W.Frag → Bool)) (g : Addr → Option Obj) : AlM := (He.obsD fa fn (He.frG g (asM g n)), ex.all fun t => t (He.frG g (asM g n)))
def hookM (n : Nat) (fa : List He.Fa) (fn : List He.DefD) (ex : List (PySem.W.Frag → Bool)) : PySem.W.Hook where
  α := AlM
  obs := fun s => obM n fa fn ex s.heap.get?
  val := fun _ => (He.valD fn, true)
  says := fun _ h => ∃ K : PySem.W.Frag, K.In h ∧ He.SaysD fa fn K ∧ ex.all (fun t => t K) = true
  of := fun _ s e => ⟨He.frG s.heap.get? (asM s.heap.get? n), He.frG_in, congrArg (fun z : AlM => z.1) e, congrArg (fun z : AlM => z.2) e⟩
  keeps := fun _ _ _ ⟨K, hK, c⟩ k => ⟨K, PySem.W.Frag.In.keeps hK k, c⟩
theorem obM_eq {n : Nat} {fa : List He.Fa} {fn : List He.DefD} {ex : List (PySem.W.Frag → Bool)} {g : Addr → Option Obj} {s : Shared} (h : ∀ a, g a = s.heap.get? a) : obM n fa fn ex g = (hookM n fa fn ex).obs s := by
  have e : g = s.heap.get? := funext h
  rw [e]
  rfl
theorem ex_at {ex : List (PySem.W.Frag → Bool)} {K : PySem.W.Frag} (h : ex.all (fun t => t K) = true) (i : Nat) {t : PySem.W.Frag → Bool} (e : ex[i]? = some t := by rfl) : t K = true := List.all_eq_true.mp h t (List.mem_of_getElem? e)
end M

/-! the tests of an own class of errors, its __init__; binding by keywords; tables of defs -/
namespace M
open PySem PySem.Spec PyProof.Rows L2
def eqOO (a b : Option (Option Value)) : Bool := decide (a = b)
def xcB (K : PySem.W.Frag) (C : Addr) (bmB : List Value) (newId : String) : Bool :=
  PySem.W.excInitIn K C bmB newId && (PySem.W.excOver K C bmB && ((match PySem.W.clsIn K C with | some cd => cd.hasDict | none => false) && (eqOO (PySem.W.findIn K (.ref C) "__setattr__") (some (some (.builtin "object.__setattr__"))) &&
    (decide (PySem.W.subIn K (.ref C) (.type "BaseException") = some true) && (decide (PySem.W.typeIn K (.ref C) = some (.type "type")) && PySem.W.keepIn K (.ref C))))))
theorem xcB_ok {K : PySem.W.Frag} {C : Addr} {B newId initId : String} {bmB : List Value} (bf : ExcBaseFacts B newId initId bmB) (sf : StoreFacts B bmB "object.__setattr__" "object") (h : xcB K C bmB newId = true) : XC K B newId initId bmB C := by
  unfold xcB eqOO at h
  simp only [Bool.and_eq_true, decide_eq_true_eq] at h
  exact ⟨bf, sf, h.1, h.2.1, h.2.2.1, h.2.2.2.1, h.2.2.2.2.1, h.2.2.2.2.2.1, h.2.2.2.2.2.2⟩
/-- C has the field f of its own, and its own __init__ -/
def xiB (K : PySem.W.Frag) (C fI : Addr) (f : Str) : Bool := eqOO (PySem.W.findIn K (.ref C) f) (some none) && (eqOO (PySem.W.findIn K (.ref C) "__init__") (some (some (.ref fI))) && decide (PySem.W.typeIn K (.ref fI) = some (.type "function")))
theorem xiB_ok {K : PySem.W.Frag} {C fI : Addr} {f : Str} (h : xiB K C fI f = true) : PySem.W.findIn K (.ref C) f = some none ∧ PySem.W.findIn K (.ref C) "__init__" = some (some (.ref fI)) ∧ PySem.W.typeIn K (.ref fI) = some (.type "function") := by
  unfold xiB eqOO at h
  simp only [Bool.and_eq_true, decide_eq_true_eq] at h
  exact h
/-- the base's __init__, read off a class -/
def fcB (K : PySem.W.Frag) (v : Value) (id : String) : Bool := match PySem.W.findCls K v (.type "type") "__init__" with
  | some (.val (.builtin j)) => j == id
  | _ => false
theorem fcB_ok {K : PySem.W.Frag} {v : Value} {id : String} (h : fcB K v id = true) : PySem.W.findCls K v (.type "type") "__init__" = some (.val (.builtin id)) := by
  unfold fcB at h
  split at h
  · rename_i j e
    rw [e, beq_iff_eq.mp h]
  · cases h
def rdB (K : PySem.W.Frag) (C : Addr) : Bool := PySem.W.readsIn K C (.type "type") && eqOO (PySem.W.specialIn K (.ref C) "__getattribute__") (some (some (.builtin "type.__getattribute__")))
theorem rdB_ok {K : PySem.W.Frag} {C : Addr} (h : rdB K C = true) : PySem.W.readsIn K C (.type "type") = true ∧ PySem.W.specialIn K (.ref C) "__getattribute__" = some (some (.builtin "type.__getattribute__")) := by
  unfold rdB eqOO at h
  simp only [Bool.and_eq_true, decide_eq_true_eq] at h
  exact h
def exB (K : PySem.W.Frag) (a b : Addr) (r : Bool) : Bool := decide (PySem.W.exmOne K (.ref a) (.ref b) = some r)
theorem exB_ok {K : PySem.W.Frag} {a b : Addr} {r : Bool} (h : exB K a b r = true) : PySem.W.exmOne K (.ref a) (.ref b) = some r := of_decide_eq_true h
section
variable {P : Program} {w : World} {K : PySem.W.Frag} {mg : Str → Option Value} {base : Heap} {k : Nat} {fI C : Addr} {fd : FuncData} {f b : Str} {B newId initId : String} {bmB : List Value}
/-- an error's __init__ -/
theorem init_fn {x qual t : Str} {params : Arguments} {body : List Stmt} {scope : Scope} (F : FunD K x qual params body scope [] [] fI fd) (S : FnScope ["self", f] ["self", f] scope)
    (walk : ∀ (cdv : Value) (A : Around) (outer : List Env) (s : Shared) (H : Hp) (E : XK), PSs (cxOf (L2.CX P w) P w K mg base ["self", f] qual scope fI cdv A outer s H E) body (tSeq (tDrop (tXi C (tCons (tVar 0) (tCons (tC (.str t)) tNil)))) (tXst C f (tVar 0) (tVar 1)))) :
    FnOk P w K mg base (L2.CX P w) 1 fI fd ["self", f] (spI C f) := by
  refine F.ok S (fun vs H Q E h => by obtain ⟨a, v, rfl, _⟩ := h; rfl) fun cdv A outer s H vs Q E hr h => ⟨_, walk cdv A outer s H E, ?_⟩
  obtain ⟨a, v, rfl, ea, q⟩ := h
  exact ⟨_, rfl, a, _, rfl, (by decide : 1 ≤ 1000), ea, _, rfl, _, rfl, a, rfl, ea, q⟩
end
/-- a call with keywords that gives all parameters -/
theorem kb_of {K : PySem.W.Frag} {x qual : Str} {params : Arguments} {body : List Stmt} {scope : Scope} {kws : List (Str × V)} {f : Addr} {fd : FuncData} {ps ks : List Str} {n : Nat} {pi : List Nat} (F : FunD K x qual params body scope [] kws f fd)
    (h : ∀ (kV doc pm : Value) (an : Option Addr) (cdv ct : Value) (us ws : List Value), us.length = n → ws.length = ks.length → bindArgs (PySem.W.fnOf x qual params body scope .none kV doc pm an cdv ct) ⟨us, ks.zip ws⟩ = pure (ps.zip (permL pi (us ++ ws)))) : KB fd ps n ks pi := by
  obtain ⟨oc, od, dV, kV, doc, pm, an, cdv, ct, osl, rfl, _, _, hD, _⟩ := F.ex
  rcases hD with ⟨_, rfl⟩ | ⟨e, _⟩
  · exact fun s us ws h1 h2 => BindsTo.of_looks fun M => .of_pure (h kV doc pm an cdv ct us ws h1 h2)
  · exact absurd rfl e
theorem tab_nil {Pr : Str → FM → Prop} : ∀ y F, ([] : List (Str × FM)).lookup y = some F → Pr y F := fun _ _ h => by cases h
theorem tab_cons {Pr : Str → FM → Prop} {a : Str} {Fa : FM} {tab : List (Str × FM)} (h : Pr a Fa) (t : ∀ y F, tab.lookup y = some F → Pr y F) : ∀ y F, ((a, Fa) :: tab).lookup y = some F → Pr y F := fun y F e => by
  rw [List.lookup] at e
  split at e
  · rename_i z
    cases e
    rw [beq_iff_eq.mp z]
    exact h
  · exact t y F e
end M
namespace M
theorem permLen {pi : List Nat} {n m : Nat} (h1 : pi.length = m) (h2 : pi.all (fun i => decide (i < n)) = true) : ∀ l : List D, l.length = n → (permL pi l).length = m := by
  intro l hl
  subst hl
  rw [← h1]
  clear h1
  unfold permL
  induction pi with
  | nil => rfl
  | cons i pi ih =>
    rw [List.all_cons, Bool.and_eq_true, decide_eq_true_eq] at h2
    rw [List.filterMap_cons, List.getElem?_eq_getElem h2.1]
    simp [ih h2.2]
end M

/-! evaluation of the further mirrors by simp -/
namespace M
open PySem PySem.Spec PyProof.Rows L2
@[simp] theorem sRaise_eq (n : Nat) (f : Str) (m : EM) (E : Ev) : sRaise n f m E = (m E).ot fun r E1 => match fzn E1 r with
  | some (d, E2) => .ex ⟨n, [(f, d)]⟩ E2
  | none => .bad := rfl
def Out.tr (o : Out) (hs : List Hd) (t : Tg hs := .mk) : Out := match o with
  | .ex x E1 => tryHs hs x E1
  | o => o
@[simp] theorem sTry_eq (b : SM) (hs : List Hd) (E : Ev) : sTry b hs E = (b E).tr hs := rfl
@[simp] theorem tr_nx (E : Ev) (hs : List Hd) : (Out.nx E).tr hs = .nx E := rfl
@[simp] theorem tr_rt (r : RV) (E : Ev) (hs : List Hd) : (Out.rt r E).tr hs = .rt r E := rfl
@[simp] theorem tr_bk (E : Ev) (hs : List Hd) : (Out.bk E).tr hs = .bk E := rfl
@[simp] theorem tr_ct (E : Ev) (hs : List Hd) : (Out.ct E).tr hs = .ct E := rfl
@[simp] theorem tr_bad (hs : List Hd) : Out.bad.tr hs = .bad := rfl
@[simp] theorem tr_ex (x : Exn) (E : Ev) (hs : List Hd) : (Out.ex x E).tr hs = tryHs hs x E := rfl
@[simp] theorem tryHs_nil (x : Exn) (E : Ev) : tryHs [] x E = .ex x E := rfl
@[simp] theorem tryHs_cons (h : Hd) (r : List Hd) (x : Exn) (E : Ev) : tryHs (h :: r) x E = match h.cat x.cls with
    | some true => if notBo E h.slot && noXv E && decide (h.slot < E.length) then unO h.slot (h.su x (E.set h.slot .xv)) else .bad
    | some false => tryHs r x E
    | none => .bad := rfl
@[simp] theorem unO_nx (i : Nat) (E : Ev) : unO i (.nx E) = if notBo E i && noXv (E.set i .un) then .nx (E.set i .un) else .bad := rfl
@[simp] theorem unO_bk (i : Nat) (E : Ev) : unO i (.bk E) = if notBo E i && noXv (E.set i .un) then .bk (E.set i .un) else .bad := rfl
@[simp] theorem unO_ct (i : Nat) (E : Ev) : unO i (.ct E) = if notBo E i && noXv (E.set i .un) then .ct (E.set i .un) else .bad := rfl
@[simp] theorem unO_rt (i : Nat) (r : RV) (E : Ev) : unO i (.rt r E) = if notSl r && (notBo E i && noXv (E.set i .un)) then .rt r (E.set i .un) else .bad := rfl
@[simp] theorem notSl_fz (d : D) : notSl (.fz d) = true := rfl
@[simp] theorem notSl_ow (d : MO) : notSl (.ow d) = true := rfl
@[simp] theorem noXv_nil : noXv [] = true := rfl
@[simp] theorem noXv_un (E : Ev) : noXv (.un :: E) = noXv E := rfl
@[simp] theorem noXv_fz (d : D) (E : Ev) : noXv (.fz d :: E) = noXv E := rfl
@[simp] theorem noXv_ow (d : MO) (E : Ev) : noXv (.ow d :: E) = noXv E := rfl
@[simp] theorem noXv_bo (d : MO) (E : Ev) : noXv (.bo d :: E) = noXv E := rfl
@[simp] theorem noXv_xv (E : Ev) : noXv (.xv :: E) = false := rfl
@[simp] theorem mXF_eq (x : Exn) (i : Nat) (f : Str) (E : Ev) : mXF x i f E = match E[i]? with
  | some .xv => match x.fs.lookup f with
    | some d => .ok (.fz d) E
    | none => .bad
  | _ => .bad := rfl
@[simp] theorem mFnK_eq (F : FM) (pi : List Nat) (ma mk : AM) (E : Ev) : mFnK F pi ma mk E = (ma E).bd fun rs E1 => (mk E1).bd fun ks E2 => match fzs E2 (rs ++ ks) with
  | some (ds, E3) => match (F ((permL pi ds).map .fz)).rx with
    | .ok (.fz d) => .ok (.fz d) E3
    | .ok (.ow m) => .ok (.ow m) E3
    | .ex x => .ex x E3
    | _ => .bad
  | none => .bad := rfl
@[simp] theorem mFnV_eq (tab : List (Str × FM)) (mf : EM) (ma : AM) (E : Ev) : mFnV tab mf ma E = (mf E).bd fun r E1 => match pk E1 r.settle with
  | some (.gl x) => match tab.lookup x with
    | some F => mFn F ma E1
    | none => .bad
  | _ => .bad := rfl
@[simp] theorem mFn_eq (F : FM) (ma : AM) (E : Ev) : mFn F ma E = (ma E).bd fun rs E1 => match fzs E1 rs with
  | some (ds, E2) => match (F (ds.map .fz)).rx with
    | .ok (.fz d) => .ok (.fz d) E2
    | .ok (.ow m) => .ok (.ow m) E2
    | .ex x => .ex x E2
    | _ => .bad
  | none => .bad := rfl
@[simp] theorem aStar_eq (m : EM) (mr : AM) (E : Ev) : aStar m mr E = (m E).bd fun r E1 => match fzn E1 r with
  | some (.tup ds, E2) => (mr E2).bd fun rs E3 => .ok (ds.map .fz ++ rs) E3
  | some (.tux ds, E2) => (mr E2).bd fun rs E3 => .ok (ds.map .fz ++ rs) E3
  | some (.lst ds, E2) => (mr E2).bd fun rs E3 => .ok (ds.map .fz ++ rs) E3
  | some (.frl ds, E2) => (mr E2).bd fun rs E3 => .ok (ds.map .fz ++ rs) E3
  | _ => .bad := rfl
@[simp] theorem permL_nil {α : Type} (l : List α) : permL [] l = [] := rfl
@[simp] theorem permL_cons {α : Type} (i : Nat) (pi : List Nat) (l : List α) : permL (i :: pi) l = match l[i]? with
    | some a => a :: permL pi l
    | none => permL pi l := by
  unfold permL
  rw [List.filterMap_cons]
  cases l[i]? <;> rfl
@[simp] theorem mFnB_eq (F : FM) (j : Nat) (ma : AM) (E : Ev) : mFnB F j ma E = match own E j with
  | some _ => (ma E).bd fun rs E1 => match fzs E1 rs with
    | some (ds, E2) => match own E2 j with
      | some m => match (F (.bo m :: ds.map .fz)).rxb with
        | .ok (.fz d) m' => .ok (.fz d) (setOwn E2 j m')
        | .ok (.ow r) m' => .ok (.ow r) (setOwn E2 j m')
        | .ex x m' => .ex x (setOwn E2 j m')
        | _ => .bad
      | none => .bad
    | none => .bad
  | none => .bad := rfl
end M

/-! mirrors, a statement at a time -/
namespace M
open PySem PySem.Spec PyProof.Rows L2
/-- not lent -/
def Nb (s : M.Slot) : Prop := ∀ m, s ≠ .bo m
theorem Nb.fz (d : D) : Nb (.fz d) := fun m z => by cases z
theorem Nb.ow (d : MO) : Nb (.ow d) := fun m z => by cases z
theorem Nb.un : Nb .un := fun m z => by cases z
theorem nbo {E : Ev} {i : Nat} {s : M.Slot} (h : E[i]? = some s) (hs : Nb s) : notBo E i = true := by
  rw [notBo_eq, h]
  cases s <;> first | rfl | exact absurd rfl (hs _)
section
variable {i : Nat} {m : EM} {b a : SM} {E E1 E2 : Ev} {d : D} {mo : MO} {s : M.Slot} {t : BM} {mi : IM} {tg : TgM} {body : SM} {ds : List D} {r : RV}
theorem set_fz (h : m E = .ok (.fz d) E1) (hi : E1[i]? = some s) (hs : Nb s) : sSeq (sSet i m) b E = b (E1.set i (.fz d)) := by
  rw [sSeq_eq, sSet_eq, h, out_ok, asg_eq, nbo hi hs]
  rfl
theorem set_ow (h : m E = .ok (.ow mo) E1) (hi : E1[i]? = some s) (hs : Nb s) : sSeq (sSet i m) b E = b (E1.set i (.ow mo)) := by
  rw [sSeq_eq, sSet_eq, h, out_ok, asg_eq, nbo hi hs]
  rfl
theorem set_sl {j : Nat} (h : m E = .ok (.sl j) E1) (hj : E1[j]? = some (.fz d)) (hi : E1[i]? = some s) (hs : Nb s) : sSeq (sSet i m) b E = b (E1.set i (.fz d)) := by
  rw [sSeq_eq, sSet_eq, h, out_ok, asg_eq, nbo hi hs]
  simp only [fzn_sl, hj]
  rfl
theorem drop_ok (h : m E = .ok r E1) : sSeq (sDrop m) b E = b E1 := by
  rw [sSeq_eq, sDrop_eq, h]
  rfl
theorem if_no (h : t E = .ok false E1) : sSeq (sIf t a sNil) b E = b E1 := by
  rw [sSeq_eq, sIf_eq, h]
  rfl
theorem if_else {a2 : SM} (h : t E = .ok false E1) : sSeq (sIf t a a2) b E = (a2 E1).seq b := by
  rw [sSeq_eq, sIf_eq, h]
  rfl
theorem if_yes {a2 : SM} (h : t E = .ok true E1) : sSeq (sIf t a a2) b E = (a E1).seq b := by
  rw [sSeq_eq, sIf_eq, h]
  rfl
theorem for_nx (hi : mi E = .ok ds E1) (hl : forLoop tg body ds E1 = .nx E2) : sSeq (sFor mi tg body) b E = b E2 := by
  rw [sSeq_eq, sFor_eq, hi, out_ok, hl]
  rfl
theorem ret_fz (h : m E = .ok (.fz d) E1) : sSeq (sRet m) b E = .rt (.fz d) E1 := by
  rw [sSeq_eq, sRet_eq, h]
  rfl
theorem ret_ow (h : m E = .ok (.ow mo) E1) : sSeq (sRet m) b E = .rt (.ow mo) E1 := by
  rw [sSeq_eq, sRet_eq, h]
  rfl
/-- a call of a def: what it hands back -/
theorem fnD_fz {F : FM} {dds : List D} {ma : AM} {rs : List RV} (ha : ma E = .ok rs E1) (hz : fzs E1 rs = some (ds, E2)) (hF : (F (ds.map .fz ++ dds.map .fz)).rx = .ok (.fz d)) : mFnD F dds ma E = .ok (.fz d) E2 := by
  rw [mFnD_eq, ha, bind_ok, hz]
  simp only [hF]
theorem fnD_ow {F : FM} {dds : List D} {ma : AM} {rs : List RV} (ha : ma E = .ok rs E1) (hz : fzs E1 rs = some (ds, E2)) (hF : (F (ds.map .fz ++ dds.map .fz)).rx = .ok (.ow mo)) : mFnD F dds ma E = .ok (.ow mo) E2 := by
  rw [mFnD_eq, ha, bind_ok, hz]
  simp only [hF]
/-- a def's answer, from its body -/
theorem run_rt {n : Nat} {as : Ev} (h : body (as ++ List.replicate (n - as.length) .un) = .rt r E) : runF n body as = .ok r E := by rw [runF_eq, h]
theorem run_nx {n : Nat} {as : Ev} (h : body (as ++ List.replicate (n - as.length) .un) = .nx E) : runF n body as = .ok (.fz .non) E := by rw [runF_eq, h]
theorem run_ex {n : Nat} {as : Ev} {x : Exn} (h : body (as ++ List.replicate (n - as.length) .un) = .ex x E) : runF n body as = .ex x E := by rw [runF_eq, h]
/-- each turn of a loop keeps C -/
theorem forLoop_inv {C : Ev → Prop} {t : TgM} {b : SM} : ∀ {ds : List D} {E : Ev}, (∀ d ∈ ds, ∀ E, C E → ∃ E1 E2, t d E = some E1 ∧ (b E1 = .nx E2 ∨ b E1 = .ct E2) ∧ C E2) → C E → ∃ E', forLoop t b ds E = .nx E' ∧ C E'
  | [], E, _, h => ⟨E, rfl, h⟩
  | d :: ds, E, hs, h => by
    obtain ⟨E1, E2, h1, h2, h3⟩ := hs d List.mem_cons_self E h
    obtain ⟨E', h4, h5⟩ := forLoop_inv (fun d hd => hs d (List.mem_cons_of_mem _ hd)) h3
    refine ⟨E', ?_, h5⟩
    rw [forLoop_cons, h1]
    rcases h2 with h2 | h2 <;> simp only [h2, h4]
/-- .. with what has been walked -/
theorem forLoop_pre {C : List D → Ev → Prop} {t : TgM} {b : SM} : ∀ {ds pre : List D} {E : Ev}, (∀ (pre : List D) (d : D) (E : Ev), C pre E → ∃ E1 E2, t d E = some E1 ∧ (b E1 = .nx E2 ∨ b E1 = .ct E2) ∧ C (pre ++ [d]) E2) → C pre E → ∃ E', forLoop t b ds E = .nx E' ∧ C (pre ++ ds) E'
  | [], pre, E, _, h => ⟨E, rfl, by rwa [List.append_nil]⟩
  | d :: ds, pre, E, hs, h => by
    obtain ⟨E1, E2, h1, h2, h3⟩ := hs pre d E h
    obtain ⟨E', h4, h5⟩ := forLoop_pre (ds := ds) (pre := pre ++ [d]) hs h3
    refine ⟨E', ?_, by simpa using h5⟩
    rw [forLoop_cons, h1]
    rcases h2 with h2 | h2 <;> simp only [h2, h4]
end
end M
namespace M
open PySem PySem.Spec PyProof.Rows L2
/-- a comprehension with a test, whose turns leave the slots as they were -/
theorem lc_fm {α : Type} {t : TgM} {cond : BM} {elt : EM} {vs : List Nat} {E : Ev} {g f : α → D} {P : α → Bool} : ∀ {l : List α} {acc : List D},
    (∀ a ∈ l, ∃ E1 E2, t (g a) E = some E1 ∧ cond E1 = .ok (P a) E2 ∧ (P a = false → allNotBo E2 vs = true ∧ wipeE E2 vs = E) ∧ (P a = true → ∃ r E3 E4, elt E2 = .ok r E3 ∧ fzn E3 r = some (f a, E4) ∧ allNotBo E4 vs = true ∧ wipeE E4 vs = E)) →
    acc.length + l.length ≤ maxLen → lcLoop t cond elt vs (l.map g) acc E = .ok (.ow (.lst (acc ++ (l.filter P).map f))) E
  | [], acc, _, _ => by simp [lcLoop]
  | d :: ds, acc, h, hl => by
    obtain ⟨E1, E2, h1, h2, h3, h4⟩ := h d List.mem_cons_self
    have hl' : acc.length < maxLen := by simp only [List.length_cons] at hl; omega
    have next := fun a ha => h a (List.mem_cons_of_mem d ha)
    rw [List.map_cons]
    cases p : P d with
    | false =>
      obtain ⟨k1, k2⟩ := h3 p
      rw [p] at h2
      simp only [lcLoop, h1, h2, k1, k2, if_true]
      rw [lc_fm next (by simp only [List.length_cons] at hl; omega), List.filter_cons_of_neg (by rw [p]; decide)]
    | true =>
      obtain ⟨r, E3, E4, k1, k2, k3, k4⟩ := h4 p
      rw [p] at h2
      simp only [lcLoop, h1, h2, k1, k2, k3, k4, hl', and_self, if_true]
      rw [lc_fm next (by simp only [List.length_append, List.length_cons, List.length_nil] at hl ⊢; omega), List.filter_cons_of_pos p]
      simp
/-- .. without a test -/
theorem lc_m {α : Type} {t : TgM} {elt : EM} {vs : List Nat} {E : Ev} {g f : α → D} {l : List α} (h : ∀ a ∈ l, ∃ E1 r E3 E4, t (g a) E = some E1 ∧ elt E1 = .ok r E3 ∧ fzn E3 r = some (f a, E4) ∧ allNotBo E4 vs = true ∧ wipeE E4 vs = E) (hl : l.length ≤ maxLen) :
    lcLoop t tYesM elt vs (l.map g) [] E = .ok (.ow (.lst (l.map f))) E := by
  have := lc_fm (t := t) (cond := tYesM) (elt := elt) (vs := vs) (E := E) (g := g) (f := f) (P := fun _ => true) (l := l) (acc := []) (fun a ha => by
    obtain ⟨E1, r, E3, E4, h1, h2, h3, h4, h5⟩ := h a ha
    exact ⟨E1, E1, h1, rfl, fun z => Bool.noConfusion z, fun _ => ⟨r, E3, E4, h2, h3, h4, h5⟩⟩) (by simpa using hl)
  rw [List.nil_append, List.filter_eq_self.mpr (fun _ _ => rfl)] at this
  exact this
end M

/-! what operations give, by kinds -/
namespace M
open PySem PySem.Spec PyProof.Rows L2
theorem ixT_of {l : List D} {j : Nat} {d : D} (h : l[j]? = some d) : ixD (.tup l) (.int (j : Nat)) = some (.fz d) := by
  show (atI l (j : Int)).map RV.fz = _
  rw [atI_nat h]
  rfl
theorem ixL_of {l : List D} {j : Nat} {d : D} (h : l[j]? = some d) : ixD (.lst l) (.int (j : Nat)) = some (.fz d) := by
  show (atI l (j : Int)).map RV.fz = _
  rw [atI_nat h]
  rfl
theorem ixF_of {l : List D} {j : Nat} {d : D} (h : l[j]? = some d) : ixD (.frl l) (.int (j : Nat)) = some (.fz d) := by
  show (atI l (j : Int)).map RV.fz = _
  rw [atI_nat h]
  rfl
theorem lx0 (x : D) (l : List D) : ixD (.lst (x :: l)) (.int 0) = some (.fz x) := ixL_of (j := 0) rfl
theorem lx1 (x y : D) (l : List D) : ixD (.lst (x :: y :: l)) (.int 1) = some (.fz y) := ixL_of (j := 1) rfl
theorem fx0 (x : D) (l : List D) : ixD (.frl (x :: l)) (.int 0) = some (.fz x) := ixF_of (j := 0) rfl
theorem gt_ii (i j : Int) : gtI (.int i) (.int j) = some (.fz (.bl (decide (j < i)))) := rfl
theorem lt_ii (i j : Int) : ltI (.int i) (.int j) = some (.fz (.bl (decide (i < j)))) := rfl
theorem ge_ii (i j : Int) : geI (.int i) (.int j) = some (.fz (.bl (decide (j ≤ i)))) := rfl
theorem le_ii (i j : Int) : leI (.int i) (.int j) = some (.fz (.bl (decide (i ≤ j)))) := rfl
theorem add_ii (i j : Int) : addD (.int i) (.int j) = some (.fz (.int (i + j))) := rfl
theorem sub_ii (i j : Int) : subI (.int i) (.int j) = some (.fz (.int (i - j))) := rfl
theorem mul_ii {i j : Int} (h : mulOk i j = true) : mulD (.int i) (.int j) = some (.fz (.int (i * j))) := by
  simp [mulD, orO2, mulI, oI, h]
theorem mulOk_l {i j : Int} (h : i.natAbs < 2 ^ 64) : mulOk i j = true := by simp [mulOk, h]
theorem mulOk_r {i j : Int} (h : j.natAbs < 2 ^ 64) : mulOk i j = true := by simp [mulOk, h]
theorem mod_ii {i j : Int} (h : 0 < j) : modI (.int i) (.int j) = some (.fz (.int (i % j))) := by simp [modI, oI, h]
theorem div_ii {i j : Int} (h : 0 < j) (h2 : j.natAbs < 2 ^ 8000) : divI (.int i) (.int j) = some (.fz (.int (i / j))) := by
  have hl : j.natAbs.log2 < 9000 := by
    have := (Nat.log2_lt (show j.natAbs ≠ 0 by omega)).mpr h2
    omega
  simp [divI, oI, divOk, h, hl]
theorem int_bl (k : Bool) : M.intD [.bl k] = some (.fz (.int (if k = true then 1 else 0))) := rfl
set_option exponentiation.threshold 9000 in
theorem big_of {n k : Nat} (h : n < 2 ^ k) (hk : k ≤ 8000) : n < 2 ^ 8000 := Nat.lt_of_lt_of_le h (Nat.pow_le_pow_right (by decide) hk)
theorem mul_if (x : Int) (c : Prop) [Decidable c] : mulD (.int x) (.int (if c then 1 else 0)) = some (.fz (.int (x * (if c then 1 else 0)))) := mul_ii (mulOk_r (by split <;> decide))
theorem eq_ii (a b : Int) : eqD (.int a) (.int b) = some (.fz (.bl (decide (a = b)))) := by
  simp [eqD, plainD, SeqAt.shaped, py, PyData.canLay0, PyData.depth, PyData.eqv]
  rw [Bool.eq_iff_iff]; simp
theorem ne_ii (a b : Int) : neD (.int a) (.int b) = some (.fz (.bl (!decide (a = b)))) := by
  simp [neD, plainD, SeqAt.shaped, py, PyData.canLay0, PyData.depth, PyData.eqv]
  rw [Bool.eq_iff_iff]; simp
theorem eqv_same {d : D} (h : plainD d = true) : PyData.eqv (py d) (py d) = true := SeqAt.eqv_refl (py d) (SeqAt.canLay_of_shaped h)
theorem ne_same {d : D} (h : plainD d = true) : neD d d = some (.fz (.bl false)) := by
  unfold neD
  rw [h, eqv_same h]
  rfl
theorem eq_same {d : D} (h : plainD d = true) : eqD d d = some (.fz (.bl true)) := by
  unfold eqD
  rw [h, eqv_same h]
  rfl
theorem cut_hi (l : List D) (a : Nat) : M.cutD l none (some (a : Nat)) = l.take a := by
  unfold M.cutD
  rw [HT.sIx_none, HT.sIx_nat, List.drop_zero, Nat.sub_zero]
  rcases Nat.le_total a l.length with h | h
  · rw [Nat.min_eq_left h]
  · rw [Nat.min_eq_right h, List.take_of_length_le (Nat.le_refl _), List.take_of_length_le h]
theorem cut_lo (l : List D) (a : Nat) : M.cutD l (some (a : Nat)) none = l.drop a := by
  unfold M.cutD
  rw [HT.sIx_none, HT.sIx_nat]
  rcases Nat.le_total a l.length with h | h
  · rw [Nat.min_eq_left h, List.take_of_length_le (by rw [List.length_drop]; omega)]
  · rw [Nat.min_eq_right h, List.drop_of_length_le (Nat.le_refl _), List.drop_of_length_le h, List.take_nil]
theorem intsD_of (l : List Int) : intsD (l.map D.int) = some l := by
  induction l with
  | nil => rfl
  | cons i l ih => simp [intsD, ih]
theorem maxLen1 : 1 ≤ maxLen := by decide
theorem maxLen2 : 2 ≤ maxLen := by decide
theorem maxLen3 : 3 ≤ maxLen := by decide
theorem maxLen4 : 4 ≤ maxLen := by decide
theorem maxLen5 : 5 ≤ maxLen := by decide
theorem maxLen6 : 6 ≤ maxLen := by decide
end M
namespace M
open PySem PySem.Spec PyProof.Rows L2
theorem text_plain (s : String) : plainD (.str (Str.ofString s)) = true := by
  have h : (Str.ofString s).cps.all (fun c => decide (c < 0x110000)) = true := by
    rw [← Array.all_toList, PyProof.Rows.signs_ofString, List.all_map, List.all_eq_true]
    intro c _
    simp only [Function.comp, decide_eq_true_eq]
    have := c.valid
    simp only [Char.toNat, UInt32.isValidChar, Nat.isValidChar] at this ⊢
    omega
  simp only [plainD, SeqAt.shaped, py, PyData.canLay0, PyData.depth, Bool.and_eq_true, decide_eq_true_eq]
  exact ⟨h, by decide⟩
theorem shown_int_plain (i : Int) : plainD (.str (py (.int i)).shown) = true := by
  rw [py, PyData.shown_int]
  exact text_plain _
theorem repr_int {i : Int} (h : i.natAbs < 2 ^ 1900) : reprOk (py (.int i)) = true := by
  have hl : i.natAbs.log2 < 1920 := by
    by_cases z : i.natAbs = 0
    · rw [z]; decide
    · have := (Nat.log2_lt z).mpr h
      omega
  simp [reprOk, py, PyData.canLay0, PyData.showable, hl, PyData.depth, PyData.bulk, PyData.hasDict]
end M
namespace M
open PySem PySem.Spec PyProof.Rows L2
theorem range1_int {m : EM} {E E1 : Ev} {r : RV} {j : Int} (h : m E = .ok r E1) (hp : pk E1 r = some (.int j)) (h0 : 0 ≤ j) (h1 : j ≤ 1000000000) : iRange1 m E = .ok ((List.range j.toNat).map fun i => .int (i : Nat)) E1 := by
  have b : (decide (-(2 ^ 62) ≤ j) && decide (j < 2 ^ 62)) = true := by
    rw [Bool.and_eq_true, decide_eq_true_eq, decide_eq_true_eq]
    omega
  rw [iRange1_eq, h, bind_ok]
  simp only [hp, b, if_true]
theorem range1_nat {m : EM} {E E1 : Ev} {r : RV} {n : Nat} (h : m E = .ok r E1) (hp : pk E1 r = some (.int (n : Nat))) (h1 : n ≤ 1000000000) : iRange1 m E = .ok ((List.range n).map fun i => .int (i : Nat)) E1 :=
  range1_int h hp (by omega) (by omega)
end M

set_option maxHeartbeats 4000000
/-! tuple * int, for every int -/
namespace L2
open PySem PySem.Spec PyProof.Rows
theorem tuple_mul0 (l : Addr) (items : Array Value) (n : Nat) (dd : Option Addr) (sl : Array (Option Value)) (x : Int) (u : Tok) (c0 : (decide (x < -(2 ^ 63)) || decide (x ≥ 2 ^ 63)) = false) (c1 : (items.isEmpty || x == 1) = false) (c2 : (decide (x ≤ 0) || items.isEmpty) = true) :
    Meets (Builtin.«tuple.__mul__» ⟨[.ref l, .int x u], []⟩) (fun _ R s => s.heap.get? l = some { cls := .type "tuple", dict := dd, data := .seq items n, slots := sl } ∧
      R (.ok (.ret (Value.ref s.heap.objs.size))) { s with heap := s.heap.push { cls := Value.type "tuple", data := Data.seq #[] }, toks := s.toks }) :=
  .of_wp fun prog w A R s h => by
    obtain ⟨hp, g, d, tk, os⟩ := s
    obtain ⟨hl, h⟩ := h
    have f1 := AutoSeq1.idx_int
    wp_walk using wpAny_loadPart' hl
    repeat (first
      | (refine wpAny_ite_false (decide_eq_false (by rw [c0]; exact Bool.false_ne_true)) ?_; wp_walk using wpAny_loadPart' hl)
      | (refine wpAny_ite_false (decide_eq_false (by rw [c1]; exact Bool.false_ne_true)) ?_; wp_walk using wpAny_loadPart' hl)
      | (refine wpAny_ite_true (decide_eq_true c2) ?_; wp_walk using wpAny_loadPart' hl))
    exact ⟨_, rfl, h⟩
theorem tuple_mul1 (l : Addr) (items : Array Value) (n : Nat) (dd : Option Addr) (sl : Array (Option Value)) (x : Int) (u : Tok) (c0 : (decide (x < -(2 ^ 63)) || decide (x ≥ 2 ^ 63)) = false) (c1 : (items.isEmpty || x == 1) = true) :
    Meets (Builtin.«tuple.__mul__» ⟨[.ref l, .int x u], []⟩) (fun _ R s => s.heap.get? l = some { cls := .type "tuple", dict := dd, data := .seq items n, slots := sl } ∧
      R (.ok (.ret (Value.ref l))) s) :=
  .of_wp fun prog w A R s h => by
    obtain ⟨hp, g, d, tk, os⟩ := s
    obtain ⟨hl, h⟩ := h
    have f1 := AutoSeq1.idx_int
    wp_walk using wpAny_loadPart' hl
    repeat (first
      | (refine wpAny_ite_false (decide_eq_false (by rw [c0]; exact Bool.false_ne_true)) ?_; wp_walk using wpAny_loadPart' hl)
      | (refine wpAny_ite_true (decide_eq_true c1) ?_; wp_walk using wpAny_loadPart' hl))
    exact ⟨_, rfl, h⟩
/-- t * k -/
def rRepA (K : PySem.W.Frag) : R2 := fun x y H Q => ∃ l k xs, x = .ref l ∧ y = .int k ∧ SqT K H l xs ∧ k ≤ 1000 ∧ -1000 ≤ k ∧ xs.length ≤ 1000 ∧
  (xs = [] ∨ k = 1 → Q (.ref l) H) ∧ (xs ≠ [] → k ≠ 1 → ∀ p, H p = none → Q (.ref p) (upd H p (.tup (List.replicate k.toNat xs).flatten)))
section
variable {X : Cx}
theorem op_repA : OpR X (binaryOp .Mult) (rRepA X.K) := by
  intro pins s σ H x y v u Q I rx ry h
  obtain ⟨l, k, xs, rfl, rfl, hT, hk, hk0, hz, q1, q2⟩ := h
  by_cases h2 : xs ≠ [] ∧ 2 ≤ k
  · exact op_repT pins s σ H _ _ v u Q I rx ry ⟨l, k, xs, rfl, rfl, hT, h2.1, h2.2, hk, hz, q2 h2.1 (by omega)⟩
  cases rx
  obtain ⟨t, rfl⟩ := ry
  obtain ⟨its, r, ⟨⟨cls, dd, data, sl⟩, ho, hc, n, hd⟩, hs⟩ := I.tuple hT
  simp only at hc hd
  subst hc hd
  have hle : its.length = xs.length := r.length.symm
  have hi : its.toArray.isEmpty = decide (xs = []) := by
    cases its with
    | nil =>
      have : xs = [] := List.eq_nil_of_length_eq_zero hle.symm
      rw [this]
      rfl
    | cons a b =>
      have : xs ≠ [] := fun e => by rw [e] at hle; exact absurd hle (by simp)
      rw [decide_eq_false this]
      rfl
  have c0 : (decide (k < -(2 ^ 63)) || decide (k ≥ 2 ^ 63)) = false := by
    rw [decide_eq_false (by omega), decide_eq_false (by omega)] <;> rfl
  by_cases h1 : xs = [] ∨ k = 1
  · have c1 : (its.toArray.isEmpty || k == 1) = true := by
      rw [hi, Bool.or_eq_true]
      rcases h1 with h | h
      · exact .inl (decide_eq_true h)
      · exact .inr (beq_iff_eq.mpr h)
    exact wpAny_binaryOp_repeat_ref (T := "tuple") (U := "int") (by decide) ⟨_, ho, rfl⟩ (fun s' => typeIs_int s' k t) noFill_tuple_mul F.fills_int_mul F.slot_int_rmul repeat_tuple F.slot_int_index.lookup
      (call_meets F.slot_int_rmul (typeIs_int s k t) F.entry_int_rmul (F.args_int_rmul_2 _ _) (int_rmul_tuple k t l its.toArray n dd sl)
        ⟨ho, rfl, ⟨_, ho, rfl⟩, call_meets F.slot_tuple_mul ⟨_, ho, rfl⟩ F.entry_tuple_mul (F.args_tuple_mul_2 _ _) (tuple_mul1 l its.toArray n dd sl k t c0 c1) ⟨ho, ⟨.ref l, H, I, rfl, q1 h1⟩⟩⟩)
  · have hx : xs ≠ [] := fun e => h1 (.inl e)
    have k1 : k ≠ 1 := fun e => h1 (.inr e)
    have k0 : k ≤ 0 := by
      rcases Int.lt_or_le 0 k with h | h
      · exact absurd ⟨hx, by omega⟩ h2
      · exact h
    have c1 : (its.toArray.isEmpty || k == 1) = false := by
      rw [hi, decide_eq_false hx, Bool.false_or]
      exact beq_eq_false_iff_ne.mpr k1
    have c2 : (decide (k ≤ 0) || its.toArray.isEmpty) = true := by
      rw [decide_eq_true k0, Bool.true_or]
    have e0 : (List.replicate k.toNat xs).flatten = [] := by
      have : k.toNat = 0 := by omega
      rw [this]
      rfl
    have q := q2 hx k1
    rw [e0] at q
    refine wpAny_binaryOp_repeat_ref (T := "tuple") (U := "int") (by decide) ⟨_, ho, rfl⟩ (fun s' => typeIs_int s' k t) noFill_tuple_mul F.fills_int_mul F.slot_int_rmul repeat_tuple F.slot_int_index.lookup
      (call_meets F.slot_int_rmul (typeIs_int s k t) F.entry_int_rmul (F.args_int_rmul_2 _ _) (int_rmul_tuple k t l its.toArray n dd sl)
        ⟨ho, rfl, ⟨_, ho, rfl⟩, call_meets F.slot_tuple_mul ⟨_, ho, rfl⟩ F.entry_tuple_mul (F.args_tuple_mul_2 _ _) (tuple_mul0 l its.toArray n dd sl k t c0 c1 c2) ⟨ho, ?_⟩⟩)
    refine ⟨.ref s.heap.objs.size, _, I.laid (t' := s.toks) (o := .tup []) (fun b ob q => Heap.get?_push_of_some _ q) (Nat.le_refl _) ?_, rfl, q _ (I.hok.fresh (Nat.le_refl _))⟩
    exact ⟨by rw [sizeLine_eq]; exact Nat.zero_le _, _, (.nil : Vals [] []), IsTup.new _ _⟩
end
end L2
namespace M
open PySem PySem.Spec PyProof.Rows L2
variable {X : Cx} {c : Cfg}
def mulT : D → D → Option RV
  | .tup x, .int k => if decide (-1000 ≤ k) && decide (k ≤ 1000) && decide (x.length ≤ 1000) then some (.fz (.tup (if x.isEmpty || k == 1 then x else (List.replicate k.toNat x).flatten))) else none
  | _, _ => none
theorem d_mulT (hc : c.K = X.K) : OpR X (binaryOp .Mult) (rD c mulT) := opr_imp op_repA fun x y H Q ⟨G, a, b, r, e, ha, hb, q, m⟩ => by
  cases a with
  | tup xs =>
    cases b with
    | int k =>
      simp only [mulT] at q
      split at q
      · rename_i hl
        cases q
        simp only [Bool.and_eq_true, decide_eq_true_eq] at hl
        cases ha with
        | tup h1 r1 =>
          cases hb
          refine ⟨_, _, _, rfl, rfl, hc ▸ sqt_mono e h1, hl.1.2, hl.1.1, by rw [r1.length]; exact hl.2, ?_, ?_⟩
          · intro z
            have z2 : (xs.isEmpty || k == 1) = true := by
              rw [Bool.or_eq_true]
              rcases z with z | z
              · subst z
                cases r1
                exact .inl rfl
              · exact .inr (beq_iff_eq.mpr z)
            rw [if_pos z2] at m
            exact m.flat e (.tup h1 r1)
          · intro z1 z2 p hp
            have z3 : ¬ (xs.isEmpty || k == 1) = true := by
              rw [Bool.or_eq_true]
              rintro (z | z)
              · rw [List.isEmpty_iff] at z
                subst z
                cases r1
                exact z1 rfl
              · exact z2 (beq_iff_eq.mp z)
            rw [if_neg z3] at m
            exact m.tup e (r1.flat _) hp
      · cases q
    | _ => cases q
  | _ => cases b <;> cases q
/-- * of numbers, lists and tuples -/
def mulE := orO2 mulD mulT
theorem d_mulE (hc : c.K = X.K) : OpR X (binaryOp .Mult) (rD c mulE) := opd_or d_mul (d_mulT hc)
end M

/-! zip -/
namespace M
open PySem PySem.Spec PyProof.Rows L2 RZ
variable {X : Cx} {c : Cfg} {W : WX} {a b tg iter : Expr} {ma : AM}
theorem Reps.bare {G : Hp} : ∀ {vs : List V} {ds : List D}, Reps c G vs ds → Reps c G vs (ds.map M.bare)
  | _, _, .nil => .nil
  | _, _, .cons r t => .cons (Rep.bare r) (Reps.bare t)
def fzsB (E : Ev) (rs : List RV) : Option (List D × Ev) := match fzs E rs with
  | some (ds, E2) => some (ds.map bare, E2)
  | none => none
/-- over zip of two tuples or of two lists -/
def iZipM (ma : AM) : IM := fun E => (ma E).bind fun rs E1 => match fzsB E1 rs with
  | some ([.tup xs, .tup ys], E2) => .ok (zipD xs ys) E2
  | some ([.lst xs, .lst ys], E2) => .ok (zipD xs ys) E2
  | _ => .bad
theorem di_zip (hK : c.K = X.K) (h : ∀ {ta : TA}, PA X [a, b] ta → PI X tg iter (iZipA X.K ta)) (ha : PA X [a, b] (tA c W ma)) : PI X tg iter (tI c W (iZipM ma)) :=
  pi_imp (h ha) fun σ H R ⟨f, G, E, Rr, h⟩ => by
    refine ⟨f, G, E, Rr, ?_⟩
    unfold iZipM at h
    cases q : ma E with
    | bad => rw [q] at h; exact h
    | ex x E' => rw [q] at h; exact h
    | ok rs E1 =>
      rw [q] at h
      intro G1 vs H1 e1 R1 r1
      simp only [Res.bind] at h
      cases q2 : fzs E1 rs with
      | none =>
        have qb : fzsB E1 rs = none := by unfold fzsB; rw [q2]
        rw [qb] at h; exact h.elim
      | some p =>
        obtain ⟨ds, E2⟩ := p
        obtain ⟨G2, e2, R2, rep⟩ := fzs_rep R1 r1 q2
        have rep := Reps.bare rep
        have qb : fzsB E1 rs = some (ds.map bare, E2) := by unfold fzsB; rw [q2]
        rw [qb] at h
        generalize ds.map bare = ds at h rep
        match ds, h, rep with
        | [.tup xs, .tup ys], h, .cons (.tup h1 s1) (.cons (.tup h2 s2) .nil) =>
          exact ⟨_, _, _, _, rfl, .inr ⟨hK ▸ sqt_mono R2.gh h1, hK ▸ sqt_mono R2.gh h2, h G2 H1 _ (e1.trans e2) R2 (hK ▸ yields_zipT h1 s1 h2 s2)⟩⟩
        | [.lst xs, .lst ys], h, .cons (.lst h1 s1) (.cons (.lst h2 s2) .nil) =>
          exact ⟨_, _, _, _, rfl, .inl ⟨by rw [← hK]; exact sql_mono R2.gh (.inl (.inl h1)), by rw [← hK]; exact sql_mono R2.gh (.inl (.inl h2)), h G2 H1 _ (e1.trans e2) R2 (hK ▸ yields_zipL (.inl (.inl h1)) s1 (.inl (.inl h2)) s2)⟩⟩
end M

/-! dicts that others may hold; own dicts made of pairs -/
namespace L2
open PySem PySem.Spec PyProof.Rows
theorem ix_dct {X : Cx} (hu : X.A.units + 1 < cLine) : IxR X (fun x y H Q => ∃ a v, x = .ref a ∧ DGet H a y (some v) ∧ Q v H) := by
  intro value slice pins s σ H x y v u Q I rx ry h hs
  obtain ⟨a, z, rfl, g, q⟩ := h
  cases rx
  exact tail_any (dict_typeIs I g) PySem.F.slot_dict_getitem.lookup (d_getItem hu I g ry fun w' s' I' r' => ⟨z, H, I', r', q⟩) hs
end L2
namespace M
open PySem PySem.Spec PyProof.Rows L2
variable {X : Cx} {c : Cfg}
/-- d[k] -/
def ixK : D → D → Option RV
  | .dct ds, d => match keyD d with
    | some k => (vD ds k).map .fz
    | none => none
  | _, _ => none
theorem d_ixK (hu : X.A.units + 64 < cLine) : IxR X (rD c ixK) := ixr_imp (ix_dct (by omega)) fun x y H Q ⟨G, a, b, r, e, ha, hb, q, m⟩ => by
  cases a with
  | dct ds =>
    simp only [ixK] at q
    split at q
    · rename_i k hk
      cases z : vD ds k with
      | none => rw [z] at q; cases q
      | some d =>
        rw [z] at q
        cases q
        obtain ⟨a, kvs, rfl, h1, h2, h3⟩ := Pk.dctAt e ha
        obtain ⟨w, hw, rw'⟩ := (vD_rel (k := k) h2 h3).1 d z
        have ev := keyD_rep hk hb
        subst ev
        refine ⟨a, w, rfl, ?_, m.flat e ?_⟩
        · rw [← hw]
          exact .inl ⟨_, _, h1, rfl, rfl⟩
        · exact rw'
    · cases q
  | _ => cases q
end M

set_option maxHeartbeats 4000000
/-! sorted of a list of ints; sorted(set(..)) of one -/
namespace L2
open PySem PySem.Spec PyProof PyProof.Rows
section
variable {P : Program} {w : World} {A : Around} {E : Value → Shared → Prop} {s : Shared}
/-- T(args): __new__, then __init__, each by its code -/
theorem type_call {T nI iI : String} {args : List Value} {Q Q₁ : Value → Shared → Prop} (ft : TypeCalled T nI iI) (ct : checkTypeCall T ⟨args, []⟩ = pure ())
    (hn : codeAny (model P w) A.in1 (.call (.builtin nI) ⟨.type T :: args, []⟩) (wants Q₁ E) s)
    (hi : ∀ x t, Q₁ x t → t.TypeIs x T ∧ codeAny (model P w) A.in1 (.call (.builtin iI) ⟨x :: args, []⟩) (wants (fun r u => r = .none ∧ Q x u) E) t) : wpAny (model P w) A (call (.type T) args) Q E s := by
  obtain ⟨c, tl, b0⟩ := ft.mro
  have b1 := ft.made
  have b2 := ft.sub
  have b3 := ft.notType
  have b4 := ft.canCreate
  refine wpAny_call (codeAny_of_tree (show wpAny _ _ (callAny (.type T) _) _ _ _ from wpAny_pure ⟨Code.quiet_builtin _ (by decide +kernel), codeAny_builtin F.entry_type_call ?_⟩))
  rw [Around.under_plain (weight_type_call_type T args []) rfl]
  repeat (any_goals (first | assumption | wp_step))
  refine codeAny_mono hn fun r t hr => ?_
  match r, hr with
  | .error e, hr => exact hr
  | .ok (.ret x), hr =>
    obtain ⟨hT, h2⟩ := hi _ _ hr
    have b5 := ft.init.lookup
    have b6 := ft.init.bind x
    repeat (any_goals (first | assumption | wp_step))
    refine codeAny_mono h2 fun r2 u hr2 => ?_
    match r2, hr2 with
    | .error e, hr2 => exact hr2
    | .ok (.ret y), hr2 =>
      obtain ⟨rfl, q⟩ := hr2
      repeat (any_goals (first | assumption | wp_step))
/-- the set that set(..) starts with -/
abbrev eS (w : World) : Obj := { cls := .type "set", dict := none, data := .set #[] 0 (.fresh 0 0 (!w.params.followText "set-order")) }
theorem set_listI {l : Addr} {items : Array Value} (ns : List Int) {Q : Value → Shared → Prop} (hh : A.handled = none) (hl : s.heap.IsList l items) (hit : IntsAre items.toList ns) (hb : ns.length + 1 < scanBound)
    (h : ∀ (h' : Heap) (tk c : Nat), SetR w h' s.heap.objs.size (fun j => decide (j ∈ ns)) c → c ≤ ns.length → (∀ b o, s.heap.get? b = some o → h'.get? b = some o) → Q (.ref s.heap.objs.size) { s with heap := h', toks := tk }) :
    wpAny (model P w) A (call (.type "set") [.ref l]) Q E s := by
  refine type_call (Q₁ := fun x t => x = .ref s.heap.objs.size ∧ t = { s with heap := s.heap.push (eS w) }) F.called_set (F.typeCall_set_1 (.ref l)) (code_set_led1 _ ⟨rfl, rfl⟩) ?_
  rintro x t ⟨rfl, rfl⟩
  have new : (s.heap.push (eS w)).get? s.heap.objs.size = some (eS w) := Heap.get?_push_size _ rfl
  have sz : items.size = ns.length := by
    have := IntsAre.length hit
    rwa [Array.length_toList] at this
  refine ⟨⟨_, new, rfl⟩, codeAny_call_builtin F.called_set.init.plain F.entry_set_init (check_set_init_1 ⟨_, new, rfl⟩ ?_)⟩
  obtain ⟨⟨cl, di, da, sl⟩, g, hc, k, hd⟩ := hl
  simp only at hc hd
  subst hc hd
  have lt : l < s.heap.objs.size := Heap.lt_size g
  have g1 : (s.heap.push (eS w)).get? l = some { cls := .type "list", dict := di, data := .seq items k, slots := sl } := Heap.get?_push_of_some _ g
  have l1 : (s.heap.push (eS w)).IsList l items := ⟨_, g1, rfl, k, rfl⟩
  have a1 := F.sub_list_set
  have a2 := F.sub_list_frozenset
  have a3 : (Value.type "list" == Value.type "dict") = false := by decide
  unfold Builtin.«set.__init__» noKeywords Builtin.Frozenset.updateFrom
  generalize hI : pyIter = it
  wp_walk
  subst hI
  refine wpAny_pyIter_list l1 (wpAny_bind (wpAny_runValue ?_))
  have zz : (s.heap.push (eS w)).objs.size = s.heap.objs.size + 1 := Heap.size_push ..
  have ne1 : l ≠ (s.heap.push (eS w)).objs.size := by rw [zz]; exact Nat.ne_of_lt (Nat.lt_succ_of_lt lt)
  have ne2 : s.heap.objs.size ∉ [(s.heap.push (eS w)).objs.size, l] := by
    rw [zz]
    simp only [List.mem_cons, List.not_mem_nil, or_false, not_or]
    exact ⟨Nat.ne_of_lt (Nat.lt_succ_self _), Nat.ne_of_gt lt⟩
  have val : ∀ (i : Nat) (v : Value), items[i]? = some v → ∃ k t, ns[i]? = some k ∧ v = .int k t := fun i v hv => by
    have hi : i < ns.length := by rw [← sz]; exact (Array.getElem?_eq_some_iff.mp hv).1
    obtain ⟨t, e⟩ := IntsAre.int_at hit i v (by rw [Array.getElem?_toList]; exact hv)
    refine ⟨ns[i], t, List.getElem?_eq_getElem hi, e.trans ?_⟩
    simp [List.getD_eq_getElem?_getD, hi]
  have last : ((s.heap.push (eS w)).push { cls := .type "list_iterator", data := .fields #[.ref l, .int 0 0] }).get? s.heap.objs.size = some (eS w) := Heap.get?_push_of_some _ new
  refine set_update_ints ((Walks.list (by simp [hh]) _ l ne1 items).toS) _ ne2 ns sz hb val (items.size - 0) 0 _ (by omega) (Nat.zero_le _) ⟨⟨_, Heap.get?_push_size _ rfl, rfl, rfl⟩, l1.push _⟩ ⟨0, Nat.le_refl 0, setR_new_at last⟩ ?_
  intro s' c hm hc hS
  obtain ⟨h', g2, d', tk', os'⟩ := s'
  obtain rfl : g2 = s.gens := hm.gens
  obtain rfl : d' = s.drawn := hm.drawn
  obtain rfl : os' = s.os := hm.os
  refine wpAny_pure (wpAny_pure ⟨rfl, h h' tk' c hS (by omega) fun b o e => ?_⟩)
  have b0 : b < s.heap.objs.size := Heap.lt_size e
  refine hm.heap b o ?_ (Heap.get?_push_of_some _ (Heap.get?_push_of_some _ e))
  rw [zz]
  simp only [List.mem_cons, List.not_mem_nil, or_false, not_or]
  exact ⟨Nat.ne_of_lt b0, Nat.ne_of_lt (Nat.lt_succ_of_lt b0)⟩
end
theorem nodup_le : ∀ {l m : List Int}, l.Nodup → (∀ k ∈ l, k ∈ m) → l.length ≤ m.length
  | [], _, _, _ => Nat.zero_le _
  | a :: l, m, nd, h => by
    rw [List.nodup_cons] at nd
    have ha : a ∈ m := h a List.mem_cons_self
    have := nodup_le (l := l) (m := m.erase a) nd.2 fun k hk => (List.mem_erase_of_ne (fun e => nd.1 (by rw [← e]; exact hk))).mpr (h k (List.mem_cons_of_mem _ hk))
    rw [List.length_erase_of_mem ha] at this
    have := List.length_pos_of_mem ha
    rw [List.length_cons]
    omega
/-- a set's size is at most that of a list that holds all its ints -/
theorem setR_card {w : World} {h : Heap} {a : Addr} {S : Int → Bool} {n : Nat} {m : List Int} (R : SetR w h a S n) (hm : ∀ k, S k = true → k ∈ m) : n ≤ m.length := by
  obtain ⟨o, es, ep, t, ho, hex, hd, g, nd, hS, hb, hf, hn, hr, hl⟩ := R
  have := nodup_le nd fun k hk => hm k ((hS k).mpr hk)
  rw [List.length_map, Array.length_toList] at this
  omega
/-- sorted(set(xs)) of a list of ints, fewer than 64 different ones -/
def tSortSet (K : PySem.W.Frag) (ta : TE) : TE := fun σ H Q => ta σ H fun x H1 => ∃ (l : Addr) (ns : List Int), x = .ref l ∧ SqL K H1 l (ns.map V.int) ∧ (ns.length < 4000 ∧ ∃ ds : List Int, (∀ k ∈ ns, k ∈ ds) ∧ ds.length < 64) ∧
  ∀ (ys : List Int) (p : Addr), ys.Pairwise (· < ·) → (∀ k : Int, k ∈ ys ↔ k ∈ ns) → H1 p = none → Q (.ref p) (upd H1 p (.lst (ys.map V.int)))
theorem pe_sortSet {X : Cx} {a : Expr} {ta : TE} {p p2 q pos : Pos} (hg : Gl X "sorted") (hm : X.mg "sorted" = none) (hv : bootBuiltins "sorted" = some (.builtin "sorted")) (hg2 : Gl X "set") (hm2 : X.mg "set" = none) (ha : PE X a ta) (hc : X.calm = true := by rfl)
    (na : starEach [a] X.env = (false, eval a X.env) :: starEach [] X.env := by rfl) : PE X (.Call (.Name "sorted" p) [.Call (.Name "set" p2) [a] [] q] [] pos) (tSortSet X.K ta) := by
  refine ⟨fun pins s σ H Q I h => Call_ (ld_blt I hg hm hv (PyProof.Rows.callWith_builtin1 (PyProof.Rows.args_cons (Call_ (ld_blt I hg2 hm2 boot_set ?_)) rfl) rfl rfl))⟩
  refine PyProof.Rows.callWith_type1 (PyProof.Rows.args_cons (thn (ha.run pins s σ H _ I h) fun v s1 ⟨x, H1, I1, r1, l, ns, ex, hq, ⟨h4k, ds, hds, h64⟩, q1⟩ => PyProof.Rows.args_nil ?_) na) na rfl
  subst ex
  cases r1
  obtain ⟨its, r, pl, hz⟩ := I1.list hq
  refine set_listI ns (I1.ok.hd hc) pl.isList (by simpa using r.ints) (by unfold scanBound; omega) fun h' tk c R hc2 hk => PyProof.Rows.args_nil ?_
  have I2 : Inv X pins σ H1 { s1 with heap := h', toks := tk } := I1.kept hk
  generalize hs2 : ({ s1 with heap := h', toks := tk } : Shared) = s2 at I2 ⊢
  have R2 : SetR X.w s2.heap s1.heap.objs.size (fun j => decide (j ∈ ns)) c := by rw [← hs2]; exact R
  have c64 := setR_card (m := ds) R2 fun k hk => hds k (of_decide_eq_true hk)
  refine sorted_set R2 (I2.ok.hd hc) (by omega) fun s' p out c' ys k g o hp hgt hi hs hm' hl => ?_
  have hn : H1 p = none := I2.hok.fresh hp
  have hlen : (ys.map V.int).length ≤ sizeLine := by rw [List.length_map, hl, sizeLine_eq]; omega
  have J : Inv X pins σ (upd H1 p (.lst (ys.map V.int))) { s2 with heap := s'.heap, gens := s'.gens, drawn := s'.drawn, toks := s'.toks } :=
    I2.call (ch := []) (Un.laid k hp hn) (I2.hok.laid k hp ⟨hlen, out.toList, c', vals_of_ints hi, hgt⟩) (by rw [g]; exact I2.bare) (fun _ z => nomatch z)
  have e : s' = { s2 with heap := s'.heap, gens := s'.gens, drawn := s'.drawn, toks := s'.toks } := by
    clear J
    cases s'
    cases s2
    cases o
    rfl
  rw [e]
  exact ⟨.ref p, _, J, rfl, q1 ys p hs (fun k => by rw [hm' k]; simp) hn⟩
end L2
namespace M
open PySem PySem.Spec PyProof.Rows L2
def insS (x : Int) : List Int → List Int
  | [] => [x]
  | y :: l => if x < y then x :: y :: l else if x = y then y :: l else y :: insS x l
def setI : List Int → List Int
  | [] => []
  | x :: l => insS x (setI l)
theorem mem_insS {x k : Int} : ∀ {l : List Int}, k ∈ insS x l ↔ k = x ∨ k ∈ l
  | [] => by simp [insS]
  | y :: l => by
    rw [insS]
    split
    · simp
    · split
      · rename_i h
        subst h
        simp
      · simp [mem_insS (x := x) (l := l)]
        constructor <;> (intro h; rcases h with h | h | h <;> simp [h])
theorem mem_setI {k : Int} : ∀ {l : List Int}, k ∈ setI l ↔ k ∈ l
  | [] => Iff.rfl
  | x :: l => by rw [setI, mem_insS, mem_setI, List.mem_cons]
theorem insS_sorted (x : Int) : ∀ {l : List Int}, l.Pairwise (· < ·) → (insS x l).Pairwise (· < ·)
  | [], _ => by simp [insS]
  | y :: l, h => by
    have h' := List.pairwise_cons.mp h
    rw [insS]
    split
    · rename_i hl
      rw [List.pairwise_cons]
      refine ⟨fun z hz => ?_, h⟩
      rcases List.mem_cons.mp hz with rfl | hz
      · exact hl
      · exact Int.lt_trans hl (h'.1 z hz)
    · split
      · exact h
      · rw [List.pairwise_cons]
        refine ⟨fun z hz => ?_, insS_sorted x h'.2⟩
        rcases mem_insS.mp hz with rfl | hz
        · omega
        · exact h'.1 z hz
theorem insS_len (x : Int) : ∀ l : List Int, (insS x l).length ≤ l.length + 1
  | [] => Nat.le_refl _
  | y :: l => by
    rw [insS]
    split
    · simp
    · split
      · simp
      · have := insS_len x l
        simp only [List.length_cons]
        omega
theorem setI_le : ∀ l : List Int, (setI l).length ≤ l.length
  | [] => Nat.le_refl _
  | x :: l => by
    have := setI_le l
    have := insS_len x (setI l)
    rw [setI, List.length_cons]
    omega
theorem setI_sorted : ∀ l : List Int, (setI l).Pairwise (· < ·)
  | [] => .nil
  | x :: l => insS_sorted x (setI_sorted l)
theorem strict_eq : ∀ {a b : List Int}, a.Pairwise (· < ·) → b.Pairwise (· < ·) → (∀ k, k ∈ a ↔ k ∈ b) → a = b
  | [], [], _, _, _ => rfl
  | [], y :: b, _, _, h => by have := (h y).mpr List.mem_cons_self; cases this
  | x :: a, [], _, _, h => by have := (h x).mp List.mem_cons_self; cases this
  | x :: a, y :: b, h1, h2, h => by
    have p1 := List.pairwise_cons.mp h1
    have p2 := List.pairwise_cons.mp h2
    have e : x = y := by
      rcases List.mem_cons.mp ((h x).mp List.mem_cons_self) with e | m1
      · exact e
      · rcases List.mem_cons.mp ((h y).mpr List.mem_cons_self) with e | m2
        · exact e.symm
        · have := p1.1 y m2
          have := p2.1 x m1
          omega
    subst e
    rw [strict_eq p1.2 p2.2 fun k => ?_]
    constructor
    · intro hk
      rcases List.mem_cons.mp ((h k).mp (List.mem_cons_of_mem _ hk)) with e | m
      · have := p1.1 k hk
        omega
      · exact m
    · intro hk
      rcases List.mem_cons.mp ((h k).mpr (List.mem_cons_of_mem _ hk)) with e | m
      · have := p2.1 k hk
        omega
      · exact m
section
variable {X : Cx} {c : Cfg} {W : WX} {a : Expr} {m : EM} {p p2 q pos : Pos}
/-- sorted(set(..)) -/
def mSortSet (m : EM) : EM := fun E => (m E).bind fun r E1 => match pk E1 r with
  | some (.lst l) => match intsD l with
    | some ns => if ns.length < 64 ∨ ((setI ns).length < 64 ∧ ns.length < 4000) then .ok (.ow (.lst ((setI ns).map D.int))) E1 else .bad
    | none => .bad
  | _ => .bad
theorem de_sortSet (hg : Gl X "sorted") (hm : X.mg "sorted" = none) (hg2 : Gl X "set") (hm2 : X.mg "set" = none) (hc : X.calm = true) (hv : bootBuiltins "sorted" = some (.builtin "sorted")) (ha : PE X a (tE c W m)) (hK : c.K = X.K := by rfl)
    (na : starEach [a] X.env = (false, eval a X.env) :: starEach [] X.env := by rfl) : PE X (.Call (.Name "sorted" p) [.Call (.Name "set" p2) [a] [] q] [] pos) (tE c W (mSortSet m)) :=
  pe_imp (pe_sortSet hg hm hv hg2 hm2 ha hc na) fun σ H Q ⟨f, G, E, R, h⟩ => by
    refine tE_bindE R h fun r E1 G1 v H1 e1 R1 r1 h1 => ?_
    split at h1
    · rename_i l q1
      split at h1
      · rename_i ns z
        split at h1
        · rename_i hl
          obtain ⟨b, vs, rfl, g1, s1⟩ := R1.pk r1 ((pk_settle _ _).trans q1)
          rw [intsD_map z] at s1
          rw [s1.of_ints] at g1
          have hl2 : ns.length < 4000 ∧ ∃ ds : List Int, (∀ k ∈ ns, k ∈ ds) ∧ ds.length < 64 := by
            have := setI_le ns
            refine ⟨by omega, setI ns, fun k hk => mem_setI.mpr hk, by omega⟩
          refine ⟨b, ns, rfl, .inl (.inl g1), hl2, fun ys p0 hy hk hp => ?_⟩
          have ey : ys = setI ns := strict_eq hy (setI_sorted ns) fun k => (hk k).trans mem_setI.symm
          subst ey
          have g := Gro.newH (o := HO.lst ((setI ns).map V.int)) R1.gh hp
          exact h1 _ _ _ g.gg (R1.gro g) (RelN.rel (r := .ow (.lst ((setI ns).map D.int))) R1 ⟨p0, rfl, ⟨_, upd_same, Reps.ints _⟩, none_of R1.gh hp, hp⟩)
        · exact h1.elim
      · exact h1.elim
    · exact h1.elim
@[simp] theorem mSortSet_eq (m : EM) (E : Ev) : mSortSet m E = (m E).bd fun r E1 => match pk E1 r with
    | some (.lst l) => match intsD l with
      | some ns => if ns.length < 64 ∨ ((setI ns).length < 64 ∧ ns.length < 4000) then .ok (.ow (.lst ((setI ns).map D.int))) E1 else .bad
      | none => .bad
    | _ => .bad := by
  unfold mSortSet
  rfl
/-- sorted of a list of ints -/
def sortedLD : List D → Option RV
  | [.lst l] => (intsD l).map fun ns => .ow (.lst ((sortI ns).map D.int))
  | _ => none
theorem d_sortedLD (hK : c.K = X.K) : CallR X (.builtin "sorted") (rDn c sortedLD) := calld cr_sortedI fun e hp q m => by
  unfold sortedLD at q
  split at q
  · rename_i l
    cases z : intsD l with
    | none => rw [z] at q; cases q
    | some ns =>
      rw [z] at q
      cases q
      cases hp with
      | cons p1 t =>
        cases t
        obtain ⟨a, vs, rfl, h1, r1⟩ := p1
        rw [intsD_map z] at r1
        rw [r1.of_ints] at h1
        refine ⟨a, ns, rfl, .of h1, fun ys p pm ps hp => ?_⟩
        have ey : ys = sortI ns := sorted_eq (pm.trans (sortI_perm ns).symm) ps (sortI_sorted ns)
        subst ey
        exact m.lst e (Reps.ints _) hp
  · cases q
def sortedE := orO sortedDD sortedLD
theorem d_sortedE (hK : c.K = X.K) (hc : X.calm = true) : CallR X (.builtin "sorted") (rDn c sortedE) := calld_or (d_sortedDD hc) (d_sortedLD hK)
end
end M

/-! defs with one parameter *v -/
namespace M
open PySem PySem.Spec PyProof.Rows L2
def unfz : Ev → Option (List D)
  | [] => some []
  | .fz d :: l => (unfz l).map (d :: ·)
  | _ => none
theorem unfz_map : ∀ ds : List D, unfz (ds.map .fz) = some ds
  | [] => rfl
  | d :: ds => by simp [unfz, unfz_map ds]
theorem unfz_eq : ∀ {as : Ev} {ds : List D}, unfz as = some ds → as = ds.map .fz
  | [], ds, h => by cases h; rfl
  | .fz d :: l, ds, h => by
    rw [unfz] at h
    obtain ⟨es, h1, rfl⟩ := Option.map_eq_some_iff.mp h
    rw [unfz_eq h1]
    rfl
  | .un :: _, _, h => by cases h
  | .ow _ :: _, _, h => by cases h
  | .bo _ :: _, _, h => by cases h
  | .xv :: _, _, h => by cases h
/-- F of the tuple of all arguments -/
def starF (F : FM) : FM := fun as => match unfz as with
  | some ds => if ds.length ≤ maxLen then F [.fz (.tup ds)] else .bad
  | none => .bad
section
variable {c : Cfg} {F : FM}
theorem reps_fz {G : Hp} : ∀ {ds : List D} {vs : List V}, vs.length = ds.length → (∀ (i : Nat) d, ds[i]? = some d → ∃ v, vs[i]? = some v ∧ Rep c G v d) → Reps c G vs ds
  | [], [], _, _ => .nil
  | [], _ :: _, h, _ => by cases h
  | _ :: _, [], h, _ => by cases h
  | d :: ds, v :: vs, h, r => by
    obtain ⟨w, h1, h2⟩ := r 0 d rfl
    cases h1
    exact .cons h2 (reps_fz (by simpa using h) fun i e he => by simpa using r (i + 1) e (by simpa using he))
theorem star_sp {n : Nat} {rest : List V} {H : Hp} {Q : VK} {Ee : XK} (h : spM c n (starF F) rest H Q Ee) :
    rest.length ≤ sizeLine ∧ ∀ p, H p = none → spM c 1 F [.ref p] (upd H p (.tup rest)) Q Ee := by
  obtain ⟨hl, G, as, ok, R, h⟩ := h
  cases hu : unfz as with
  | none =>
    unfold starF at h
    rw [hu] at h
    exact h.elim
  | some ds =>
    have ea := unfz_eq hu
    subst ea
    have len : rest.length = ds.length := by have := R.len; simpa using this
    have reps : Reps c G rest ds := reps_fz len fun i d hd => by
      obtain ⟨v, h1, h2⟩ := R.fz i d (by rw [List.getElem?_map, hd]; rfl)
      rw [List.getElem?_map] at h1
      cases q : rest[i]? with
      | none => rw [q] at h1; cases h1
      | some w =>
        rw [q] at h1
        cases h1
        exact ⟨v, rfl, h2⟩
    unfold starF at h
    rw [hu] at h
    dsimp only at h
    by_cases hz : ds.length ≤ maxLen
    · rw [if_pos hz] at h
      refine ⟨by rw [len, maxLen_eq]; exact hz, fun p hp => ?_⟩
      have gr := Gro.newG (o := HO.tup rest) R.gh hp
      have gn : G p = none := none_of R.gh hp
      have b1 : ∀ i, boOf [Slot.fz (.tup ds)] [V.ref p] i = none := fun i => congrFun (boOf_fz (ds := [.tup ds]) (vs := [V.ref p])) i
      have R1 : RS c (startF (upd G p (.tup rest)) (upd H p (.tup rest)) [.fz (.tup ds)] [.ref p]) (upd G p (.tup rest)) [.fz (.tup ds)] ([V.ref p].map some) (upd H p (.tup rest)) := {
        gh := gr.gh
        g0 := .refl _
        new := fun a o e => .inl (by show upd G p (.tup rest) a ≠ none; rw [e]; exact fun z => nomatch z)
        fr := fun a o e _ => e
        len := rfl
        fz := fun i d e => by
          match i, e with
          | 0, e =>
            cases e
            exact ⟨_, rfl, .tup (.inl (.inl upd_same)) (reps.mono gr.gg)⟩
          | i + 1, e => cases e
        ow := fun i m e => by
          match i, e with
          | 0, e => cases e
          | i + 1, e => cases e
        bo := fun i m e => by
          match i, e with
          | 0, e => cases e
          | i + 1, e => cases e
        bos := fun i q e => by
          rw [show (startF (upd G p (.tup rest)) (upd H p (.tup rest)) [.fz (.tup ds)] [.ref p]).bo i = none from b1 i] at e
          cases e
        dis := fun i j q _ o _ => by
          obtain ⟨⟨m, o⟩, _⟩ := o
          match i, o with
          | 0, .inl o => cases o
          | 0, .inr o => cases o
          | i + 1, .inl o => cases o
          | i + 1, .inr o => cases o
        inv := c.mono gr.gg R.inv
        xv := fun i e => by
          match i, e with
          | 0, e => cases e
          | i + 1, e => cases e }
      have back : ∀ {G' : Hp} {E : Ev} {σ' : L2.St} {H' : Hp}, RS c (startF (upd G p (.tup rest)) (upd H p (.tup rest)) [.fz (.tup ds)] [.ref p]) G' E σ' H' → RS c (startF G H (ds.map .fz) rest) G' E σ' H' := fun R' => {
        gh := R'.gh
        g0 := gr.gg.trans R'.g0
        new := fun a o e => by
          rcases R'.new a o e with z | z
          · by_cases ap : a = p
            · subst ap
              exact .inr hp
            · refine .inl fun y => z ?_
              show upd G p (.tup rest) a = none
              rw [upd_ne ap]
              exact y
          · by_cases ap : a = p
            · subst ap
              exact .inr hp
            · have z : upd H p (.tup rest) a = none := z
              rw [upd_ne ap] at z
              exact .inr z
        fr := fun a o e hb => R'.fr a o (by
          show upd H p (.tup rest) a = some o
          rw [upd_ne (ne_of_none e hp)]
          exact e) fun i z => by
            rw [show (startF (upd G p (.tup rest)) (upd H p (.tup rest)) [.fz (.tup ds)] [.ref p]).bo i = none from b1 i] at z
            cases z
        len := R'.len
        fz := R'.fz
        ow := fun i m e => by
          obtain ⟨q, h1, h2, h3, h4⟩ := R'.ow i m e
          refine ⟨q, h1, h2, h3, ?_⟩
          by_cases ap : q = p
          · subst ap
            exact hp
          · have z : upd H p (.tup rest) q = none := h4
            rwa [upd_ne ap] at z
        bo := fun i m e => by
          obtain ⟨q, _, _, _, z⟩ := R'.bo i m e
          rw [show (startF (upd G p (.tup rest)) (upd H p (.tup rest)) [.fz (.tup ds)] [.ref p]).bo i = none from b1 i] at z
          cases z
        bos := fun i q e => by
          rw [show (startF G H (ds.map .fz) rest).bo i = none from congrFun (boOf_fz (ds := ds) (vs := rest)) i] at e
          cases e
        dis := R'.dis
        inv := R'.inv
        xv := R'.xv }
      refine ⟨rfl, _, [.fz (.tup ds)], rfl, R1, ?_⟩
      cases q : F [.fz (.tup ds)] with
      | bad => rw [q] at h; exact h.elim
      | ex x E => rw [q] at h; exact fun G' σ' cls d H' e R' rel => h G' σ' cls d H' (gr.gg.trans e) (back R') rel
      | ok r E =>
        rw [q] at h
        refine fun G' σ' v H' e R' rel => h G' σ' v H' (gr.gg.trans e) (back R') ?_
        cases r with
        | fz d => exact rel
        | sl j => exact rel
        | ow m =>
          obtain ⟨a, h1, h2, h3, h4, h5⟩ := rel
          refine ⟨a, h1, h2, h3, ?_, h5⟩
          by_cases ap : a = p
          · subst ap
            exact hp
          · have z : upd H p (.tup rest) a = none := h4
            rwa [upd_ne ap] at z
    · rw [if_neg hz] at h
      exact h.elim
end
section
variable {P : Program} {w : World} {K : PySem.W.Frag} {mg : Str → Option Value} {base : Heap} {k n : Nat} {c : Cfg} {bm : SM}
theorem body_of {m : Nat} {N : List Str} {vs : List V} {H : Hp} {Q : VK} {E : XK} (hn : N.length = n) (h : spM c m (runF n bm) vs H Q E) : tS c (fun cls d _ H' => E cls d H') bm { nx := fun _ H' => Q .non H', rt := Q } (L2.start N vs) H := by
  obtain ⟨hl, G, as, _, R, h⟩ := h
  refine ⟨_, G, _, R.start (N := N), ?_⟩
  unfold runF at h
  rw [← hn] at h
  cases q : bm (as ++ List.replicate (N.length - as.length) .un) with
  | nx E1 => rw [q] at h; exact fun G' σ' H' e R' => h G' σ' .non H' e R' .non
  | rt r E1 => rw [q] at h; exact fun G' σ' v H' e R' rel => h G' σ' v H' e R' rel
  | ex x E1 => rw [q] at h; exact fun σ' G' cls d H' e R' rel => h G' σ' cls d H' e R' rel
  | _ => rw [q] at h; exact h.elim
/-- def f(*v) -/
theorem mk_star {x qual pv : Str} {params : Arguments} {body : List Stmt} {scope : Scope} {kws : List (Str × V)} {f : Addr} {fd : FuncData} {N : List Str} (F : FunD K x qual params body scope [] kws f fd) (S : FnScope N [pv] scope) (hn : N.length = n)
    (ha0 : ∀ (kV doc pm : Value) (an : Option Addr) (cdv ct : Value), bindArgs (PySem.W.fnOf x qual params body scope .none kV doc pm an cdv ct) ⟨[], []⟩ = (newTuple [] >>= fun t => pure [(pv, t)]))
    (ha1 : ∀ (kV doc pm : Value) (an : Option Addr) (cdv ct r : Value) (rest : List Value), bindArgs (PySem.W.fnOf x qual params body scope .none kV doc pm an cdv ct) ⟨r :: rest, []⟩ = (newTuple (r :: rest) >>= fun t => pure [(pv, t)]))
    (hb : ∀ (cdv : Value) (A : Around) (outer : List Env) (s : Shared) (H : Hp) (E : XK), Room k (A.deeper (envOfC qual scope s.heap.objs.size f cdv)) →
      PSs (cxOf (L2.CX P w) P w K mg base N qual scope f cdv A outer s H E) body (tS c (fun cls d _ H' => E cls d H') bm)) :
    FnR P w K mg base (L2.CX P w) (k + 1) f (fun vs H Q E => ∃ m, spM c m (starF (runF n bm)) vs H Q E) := by
  obtain ⟨oc, od, dV, kV, doc, pm, an, cdv, ct, osl, rfl, lk, hcd, hD, _⟩ := F.ex
  obtain rfl : dV = .none := by
    rcases hD with ⟨_, e⟩ | ⟨e, _⟩
    · exact e
    · exact absurd rfl e
  have r := StX.fn_star (P := P) (w := w) (mg := mg) (base := base) (k := k) (ps := []) (pv := pv) (sp := spM c 1 (runF n bm)) lk hcd S StX.cxUp (fun us rest h => by
    have : us = [] := List.eq_nil_of_length_eq_zero h
    subst this
    match rest with
    | [] => exact ha0 kV doc pm an cdv ct
    | r :: rest => exact ha1 kV doc pm an cdv ct r rest) fun A outer s H vs Q E hr h => ⟨_, hb cdv A outer s H E hr, body_of hn h⟩
  refine r.imp fun vs H Q E ⟨m, h⟩ => ?_
  obtain ⟨h1, h2⟩ := star_sp h
  exact ⟨[], vs, rfl, rfl, h1, h2⟩
structure CalS (P : Program) (w : World) (K : PySem.W.Frag) (mg : Str → Option Value) (base : Heap) (c : Cfg) (x : Str) (k : Nat) (F : FM) : Prop where
  ex : ∃ f : Addr, mg x = some (.ref f) ∧ PySem.W.keepIn K (.ref f) = true ∧ FnR P w K mg base (L2.CX P w) k f (fun vs H Q E => ∃ m, spM c m (starF F) vs H Q E)
end
section
variable {X : Cx} {c : Cfg} {W : WX} {e : Expr} {es : List Expr} {mr : AM} {F : FM} {n k kX : Nat} {x : Str} {p pos : Pos}
theorem de_callS (C : CalS X.prog X.w X.K X.mg X.base c x k F) (hr : Room kX X.A) (hk : k ≤ kX) (hg : Gl X x) (tk : Takes X W) (ha : PA X (e :: es) (tA c W mr)) (hn : ∀ {E E1 : Ev} {rs}, mr E = .ok rs E1 → rs.length = n) (hdb : (x == ("__debug__" : Str)) = false := by decide)
    (he : starEach (e :: es) X.env = (false, eval e X.env) :: starEach es X.env := by rfl) (hpl : (backTo pos (starEach es X.env)).any (·.1) = false := by rfl) : PE X (.Call (.Name x p) (e :: es) [] pos) (tE c W (mFnD (starF F) [] mr)) := by
  obtain ⟨f, h1, h2, h3⟩ := C.ex
  refine pe_imp (t := tCallSD (spM c n (starF F)) [] (WE W) (tA c W mr)) ⟨fun pins s σ H Q I h => ?_⟩ fun _ _ _ q => fnD_read (fun _ => .nil) (fun h => by rw [List.length_nil, Nat.add_zero]; exact hn h) q
  refine wpAny_Call_Name_kw (ld_glob I hg h1 (PySem.W.callWith_K (h₀ := X.base) I.ok.mod.kin h2 (thn (ha.run pos pins s σ H _ I h) fun us s1 ⟨vs, H1, I1, r, q⟩ => ⟨I1.kIn, ?_⟩) he hpl) hdb)
  have q : spM c n (starF F) (vs ++ []) H1 Q (WE W σ) := q
  rw [List.append_nil] at q
  refine wpAny_call (codeAny_mono (h3 X.A X.stack s1 H1 us vs Q (WE W σ) (hr.mono hk) I1.env0 r ⟨n, q⟩) fun r s' out => ?_)
  match r, out with
  | .error e, out => exact passAt tk σ pins H1 s1 e s' I1 out
  | .ok (.ret u), out => exact I1.after out
  | .ok .next, out => exact False.elim out
  | .ok .brk, out => exact False.elim out
  | .ok .cont, out => exact False.elim out
end
end M

/-! list.count, list.remove of ints -/
namespace M
open PySem PySem.Spec PyProof.Rows L2
variable {X : Cx} {c : Cfg} {W : WX} {e o oo : Expr} {mo m : EM}
def mCount (mo m : EM) : EM := fun E => (mo E).bind fun ra E1 => match pk E1 ra.settle with
  | some (.lst _) => (m E1).bind fun rb E2 => match pk E2 ra.settle, pk E2 rb with
    | some (.lst l), some (.int k) => match intsD l with
      | some ns => .ok (.fz (.int (ns.count k : Nat))) E2
      | none => .bad
    | _, _ => .bad
  | _ => .bad
theorem de_count (ho : PE X o (tE c W mo)) (ha : PE X e (tE c W m)) (hp : ∀ {to : TE} {t : TA}, PE X o to → PA X [e] t → PE X oo (tBM X.K "list" (rCntI X.K) to t)) (hK : c.K = X.K := by rfl)
    (hs : starEach [e] X.env = (false, eval e X.env) :: starEach [] X.env := by rfl) : PE X oo (tE c W (mCount mo m)) := pe_imp (hp ho (pa_cons ha pa_nil hs)) fun σ H Q ⟨f, G, E, R, h⟩ => by
  refine tE_bindE R h fun ra E1 G1 v H1 e1 R1 r1 h1 => ?_
  split at h1
  · rename_i l0 q0
    obtain ⟨a, vs, rfl, g0, s0⟩ := R1.pk r1 q0
    refine ⟨.inl ⟨rfl, vs, .of g0⟩, ?_⟩
    refine tE_bindE R1 h1 fun rb E2 G2 v2 H2 e2 R2 r2 h2 => ?_
    split at h2
    · rename_i l k q1 q2
      split at h2
      · rename_i ns z
        have p1 := R2.pk (r1.mono_settled e2) q1
        obtain ⟨b, ws, eb, g1, s1⟩ := p1
        cases eb
        have ev := R2.pk r2 ((pk_settle _ _).trans q2)
        cases ev
        rw [intsD_map z] at s1
        rw [s1.of_ints] at g1
        exact ⟨_, ns, k, rfl, rfl, .inl (.inl g1), h2 G2 _ _ (.refl _) R2 (.int _)⟩
      · exact h2.elim
    · exact h2.elim
  · exact h1.elim
/-- where k stands first -/
theorem erase_at : ∀ {ns : List Int} {k : Int}, k ∈ ns → ∃ j : Nat, ns[j]? = some k ∧ (∀ m : Nat, m < j → ns[m]? ≠ some k) ∧ ns.eraseIdx j = ns.erase k
  | x :: ns, k, h => by
    by_cases e : x = k
    · exact ⟨0, by rw [e]; rfl, fun m hm => absurd hm (Nat.not_lt_zero _), by rw [e]; simp⟩
    · rcases List.mem_cons.mp h with z | z
      · exact absurd z.symm e
      · obtain ⟨j, h1, h2, h3⟩ := erase_at z
        refine ⟨j + 1, by simpa using h1, fun m hm => ?_, ?_⟩
        · cases m with
          | zero => intro z; exact e (by simpa using z)
          | succ m => simpa using h2 m (by omega)
        · rw [List.eraseIdx_cons_succ, h3, List.erase_cons_tail (by simpa using e)]
/-- x.remove(k) of an own list of ints -/
def mRemove (j : Nat) (m : EM) : EM := fun E => match own E j with
  | some (.lst _) => (m E).bind fun r E1 => match pk E1 r, own E1 j with
    | some (.int k), some (.lst ds) => match intsD ds with
      | some ns => if k ∈ ns then .ok (.fz .non) (setOwn E1 j (.lst ((ns.erase k).map D.int))) else .bad
      | none => .bad
    | _, _ => .bad
  | _ => .bad
theorem de_remove {x : Str} {j : Nat} {p0 : Pos} (hv : PE X (.Name x p0) (tVar j)) (ha : PE X e (tE c W m))
    (hp : ∀ {to : TE} {t : TA}, PE X (.Name x p0) to → PA X [e] t → PE X o (tBM X.K "list" rRemI to t)) (hs : starEach [e] X.env = (false, eval e X.env) :: starEach [] X.env := by rfl) :
    PE X o (tE c W (mRemove j m)) := pe_imp (hp hv (pa_cons ha pa_nil hs)) fun σ H Q ⟨f, G, E, R, h⟩ => by
  unfold mRemove at h
  split at h
  · rename_i ds0 q0
    obtain ⟨p, hs0, ho0, _⟩ := R.own q0
    refine ⟨_, hs0, own_tyV ho0, ?_⟩
    refine tE_bindE R h fun r E1 G1 v H1 e1 R1 r1 h1 => ?_
    split at h1
    · rename_i k ds q q2
      split at h1
      · rename_i ns z
        split at h1
        · rename_i hk
          obtain ⟨p2, hs2, ho2, he2, _⟩ := R1.own q2
          rw [hs0] at hs2
          cases hs2
          obtain ⟨vs, hH, reps⟩ := ho2
          have ev := R1.pk r1 ((pk_settle _ _).trans q)
          cases ev
          rw [intsD_map z] at reps
          rw [reps.of_ints] at hH
          obtain ⟨i, h2, h3, h4⟩ := erase_at hk
          refine ⟨p, ns, k, i, rfl, rfl, hH, h2, h3, ?_⟩
          rw [h4]
          exact h1 G1 _ _ (.refl _) (R1.setOwn hs0 he2 ⟨_, upd_same, Reps.ints _⟩) .non
        · exact h1.elim
      · exact h1.elim
    · exact h1.elim
  · exact h.elim
end M

/-! @[simp] of the mirrors of Core13, 24-28; a step of a loop over values -/
namespace M
open PySem PySem.Spec PyProof.Rows L2
@[simp] theorem mDict0_eq (E : Ev) : mDict0 E = .ok (.ow (.dct [])) E := rfl
@[simp] theorem mGet2_eq (j : Nat) (mi mz : EM) (E : Ev) : mGet2 j mi mz E = match own E j with
  | some (.dct _) => (mi E).bd fun ri E1 => (mz E1).bd fun rz E2 => match pk E2 ri.settle, pk E2 rz, own E2 j with
    | some d, some (.int z), some (.dct ds) => match keyD d with
      | some k => .ok (.fz ((vD ds k).getD (.int z))) E2
      | none => .bad
    | _, _, _ => .bad
  | _ => .bad := rfl
@[simp] theorem sDPutM_eq (j : Nat) (mi m : EM) (E : Ev) : sDPutM j mi m E = (m E).ot fun r E1 => match fzn E1 r with
  | some (d, E2) => match own E2 j with
    | some (.dct _) => (mi E2).ot fun ri E3 => match pk E3 ri, own E3 j with
      | some dk, some (.dct ds) => match keyD dk with
        | some k => if ds.length < maxLen then .nx (setOwn E3 j (.dct (putD ds k d))) else .bad
        | none => .bad
      | _, _ => .bad
    | _ => .bad
  | none => .bad := rfl
@[simp] theorem fzsB_eq (E : Ev) (rs : List RV) : fzsB E rs = match fzs E rs with
  | some (ds, E2) => some (ds.map bare, E2)
  | none => none := rfl
@[simp] theorem iZipM_eq (ma : AM) (E : Ev) : iZipM ma E = (ma E).bd fun rs E1 => match fzsB E1 rs with
  | some ([.tup xs, .tup ys], E2) => .ok (zipD xs ys) E2
  | some ([.lst xs, .lst ys], E2) => .ok (zipD xs ys) E2
  | _ => .bad := rfl
@[simp] theorem mCount_eq (mo m : EM) (E : Ev) : mCount mo m E = (mo E).bd fun ra E1 => match pk E1 ra.settle with
  | some (.lst _) => (m E1).bd fun rb E2 => match pk E2 ra.settle, pk E2 rb with
    | some (.lst l), some (.int k) => match intsD l with
      | some ns => .ok (.fz (.int (ns.count k : Nat))) E2
      | none => .bad
    | _, _ => .bad
  | _ => .bad := rfl
@[simp] theorem mRemove_eq (j : Nat) (m : EM) (E : Ev) : mRemove j m E = match own E j with
  | some (.lst _) => (m E).bd fun r E1 => match pk E1 r, own E1 j with
    | some (.int k), some (.lst ds) => match intsD ds with
      | some ns => if k ∈ ns then .ok (.fz .non) (setOwn E1 j (.lst ((ns.erase k).map D.int))) else .bad
      | none => .bad
    | _, _ => .bad
  | _ => .bad := rfl
/-- neighbours -/
theorem zip_tail : ∀ l : List D, zipD l (l.drop 1) = (List.range (l.length - 1)).map fun i => .tup [(l[i]?).getD .non, (l[i + 1]?).getD .non] := fun l => by
  unfold zipD
  have e : min l.length (l.drop 1).length = l.length - 1 := by rw [List.length_drop]; omega
  rw [e]
  apply List.map_congr_left
  intro i _
  rw [List.getElem?_drop, Nat.add_comm 1 i]
end M

/-! isinstance of the error in hand -/
namespace L2
open PySem PySem.Spec PyProof.Rows
/-- what the text says of the class C and of the class D -/
structure IsC (K : PySem.W.Frag) (C D : Addr) (b : Bool) : Prop where
  xf : XfC K C
  cl : (PySem.W.clsIn K C).isSome = true
  ca : PySem.W.findIn K (.ref C) "__class__" = some (some (.builtin "object.__class__"))
  gt : PySem.W.specialIn K (.builtin "object.__class__") "__get__" = some (some (.builtin "getset_descriptor.__get__"))
  tk : PySem.W.takesIn K (.builtin "object.__class__") = some true
  mo : PySem.W.mroIn K C (.type "object") = some true
  is : PySem.W.kitOne K (.ref C) (.ref D) = some b
def isCB (K : PySem.W.Frag) (C D : Addr) (b : Bool) : Bool :=
  xfB K C && (PySem.W.clsIn K C).isSome && decide (PySem.W.findIn K (.ref C) "__class__" = some (some (.builtin "object.__class__"))) &&
  decide (PySem.W.specialIn K (.builtin "object.__class__") "__get__" = some (some (.builtin "getset_descriptor.__get__"))) &&
  decide (PySem.W.takesIn K (.builtin "object.__class__") = some true) && decide (PySem.W.mroIn K C (.type "object") = some true) && decide (PySem.W.kitOne K (.ref C) (.ref D) = some b)
theorem isCB_ok {K : PySem.W.Frag} {C D : Addr} {b : Bool} (h : isCB K C D b = true) : IsC K C D b := by
  unfold isCB at h
  simp only [Bool.and_eq_true, decide_eq_true_eq] at h
  obtain ⟨⟨⟨⟨⟨⟨h1, h2⟩, h3⟩, h4⟩, h5⟩, h6⟩, h7⟩ := h
  exact ⟨xfB_ok h1, h2, h3, h4, h5, h6, h7⟩
def tIsx (a : Addr) (cls : Value) (d : Option Addr) (C D : Addr) (b : Bool) (ta : TA) : TE := fun σ H Q => ta σ H fun vs H1 => vs = [.ref a, .ref D] ∧ cls = .ref C ∧ ∃ dd fs, d = some dd ∧ H1 dd = some (.xd fs) ∧ Q (.bl b) H1
theorem pe_isx {X : Cx} {a C D : Addr} {b : Bool} {oe : Obj} {cls : Value} {d : Option Addr} {pn : List (Addr × Obj)} {e e2 : Expr} {ta : TA} {p pos : Pos} (T : IsC X.K C D b) (hz : Zc cls d oe) (hf : ∃ vs, oe.data = .fields vs)
    (hg : Gl (X.suite a ((a, oe) :: pn)) "isinstance") (hm : (X.suite a ((a, oe) :: pn)).mg "isinstance" = none) (hv : bootBuiltins "isinstance" = some (.builtin "isinstance")) (ha : PA (X.suite a ((a, oe) :: pn)) [e, e2] ta)
    (he : starEach [e, e2] X.env = (false, eval e X.env) :: starEach [e2] X.env := by rfl) (hpl : (backTo pos (starEach [e2] X.env)).any (·.1) = false := by rfl) :
    PE (X.suite a ((a, oe) :: pn)) (.Call (.Name "isinstance" p) [e, e2] [] pos) (tIsx a cls d C D b ta) := by
  refine ⟨fun pins s σ H Q I h => ?_⟩
  refine wpAny_Call_Name_kw (ld_blt I hg hm hv ?_ (by decide) (by decide))
  refine PyProof.Rows.callWith_builtin1 (thn (ha.run pos pins s σ H _ I h) fun us s1 ⟨vs, H1, I1, r1, ev, ec, dd, fs, ed, ea, q⟩ => ?_) he hpl
  subst ev ec ed
  obtain ⟨u, w, rfl, ru, rw'⟩ := vals2 r1
  obtain rfl : u = Value.ref a := ru
  obtain rfl : w = Value.ref D := rw'
  obtain ⟨hp, _⟩ := I1.pin (a, oe) (List.mem_append_left _ List.mem_cons_self)
  obtain ⟨vs, hd⟩ := hf
  have hx : ObjOk X.prog X.w H1 s1.heap dd (.xd fs) := I1.hok dd _ ea
  obtain ⟨mA, hns, hr⟩ := hx
  obtain ⟨od, ho, hl⟩ := lookIn_ns hns
  have J : PySem.W.InstAt s1.heap a oe C (some od) := ⟨hp, hz.1, by unfold PySem.W.notCls; rw [hd] <;> rfl, by rw [hz.2]; exact ho⟩
  exact PySem.W.kia_one (PySem.W.kitx_exc T.cl T.xf.ga T.xf.gg T.xf.exC T.ca T.gt T.tk T.mo) I1.kIn J T.is (fun z => nomatch z) fun tk => ⟨.bl b, H1, I1.tok _, rfl, q⟩
end L2
namespace M
open PySem PySem.Spec PyProof.Rows L2
/-- isinstance(e, D) of the error in hand -/
def mIsX (x : Exn) (i : Nat) (b : Bool) : EM := fun E => match E[i]? with
  | some .xv => if x.fs.isEmpty then .bad else .ok (.fz (.bl b)) E
  | _ => .bad
@[simp] theorem mIsX_eq (x : Exn) (i : Nat) (b : Bool) (E : Ev) : mIsX x i b E = match E[i]? with
  | some .xv => if x.fs.isEmpty then .bad else .ok (.fz (.bl b)) E
  | _ => .bad := rfl
theorem de_isx {X : Cx} {c : Cfg} {a C D : Addr} {b : Bool} {oe : Obj} {cls : Value} {d : Option Addr} {pn : List (Addr × Obj)} {e : Expr} {y : Str} {p q pos : Pos} {x : Exn} {i : Nat} {W : WX} (T : IsC X.K C D b) (hC : cls = .ref C) (hz : Zc cls d oe) (hf : ∃ vs, oe.data = .fields vs)
    (he : PE (X.suite a ((a, oe) :: pn)) e (tVar i)) (hg : Gl (X.suite a ((a, oe) :: pn)) "isinstance") (hm : X.mg "isinstance" = none) (hv : bootBuiltins "isinstance" = some (.builtin "isinstance"))
    (hg2 : Gl (X.suite a ((a, oe) :: pn)) y) (hm2 : X.mg y = some (.ref D)) (hd : (y == ("__debug__" : Str)) = false := by decide)
    (hs : starEach [e, .Name y q] X.env = (false, eval e X.env) :: starEach [.Name y q] X.env := by rfl) (hs2 : starEach [.Name y q] X.env = (false, eval (.Name y q) X.env) :: starEach [] X.env := by rfl) (hpl : (backTo pos (starEach [.Name y q] X.env)).any (·.1) = false := by rfl) :
    PE (X.suite a ((a, oe) :: pn)) (.Call (.Name "isinstance" p) [e, .Name y q] [] pos) (tE (c.held a d x) W (mIsX x i b)) :=
  pe_imp (pe_isx (X := X) T hz hf hg hm hv (pa_cons he (pa_cons (pe_glob (v := .ref D) hg2 hm2 rfl hd) pa_nil hs2) hs) hs hpl) fun σ H Q ⟨f, G, E, R, h⟩ => by
    unfold mIsX at h
    split at h
    · rename_i hx
      split at h
      · exact h.elim
      · rename_i ne
        obtain ⟨v, e1, e2⟩ := R.xv i hx
        cases e1
        rcases R.inv.2 with z | ⟨dx, fs, e3, e4, ek, reps⟩
        · exact absurd (by rw [z]; rfl) ne
        refine ⟨_, e2, rfl, hC, dx, fs, e3, R.gh _ _ e4, ?_⟩
        exact h G _ H (.refl _) R (.bl b)
    · exact h.elim
end M

/-! xs[::-1] of a list -/
namespace M
open PySem PySem.Spec PyProof.Rows L2
variable {X : Cx} {c : Cfg} {W : WX} {e : Expr} {m : EM} {k : Nat} {p1 p2 p3 pos : Pos}
def mRev (m : EM) : EM := fun E => (m E).bind fun r E1 => match pk E1 r with
  | some (.lst l) => .ok (.ow (.lst l.reverse)) E1
  | _ => .bad
@[simp] theorem mRev_eq (m : EM) (E : Ev) : mRev m E = (m E).bd fun r E1 => match pk E1 r with
  | some (.lst l) => .ok (.ow (.lst l.reverse)) E1
  | _ => .bad := rfl
theorem de_rev (ha : PE X e (tE c W m)) : PE X (.Subscript e (.Slice none none (some (.UnaryOp .USub (.Constant (.int 1) k p1) p2)) p3) pos) (tE c W (mRev m)) := pe_imp (pe_revL ha) fun σ H Q ⟨f, G, E, R, h⟩ => by
  refine tE_bindE R h fun r E1 G1 v H1 e1 R1 r1 h1 => ?_
  split at h1
  · rename_i l q1
    obtain ⟨b, vs, rfl, g1, s1⟩ := R1.pk r1 ((pk_settle _ _).trans q1)
    refine ⟨b, vs, rfl, .inl (.inl g1), fun p hp => ?_⟩
    have g := Gro.newH (o := HO.lst vs.reverse) R1.gh hp
    exact h1 _ _ _ g.gg (R1.gro g) (RelN.rel (r := .ow (.lst l.reverse)) R1 ⟨p, rfl, ⟨_, upd_same, s1.rev⟩, none_of R1.gh hp, hp⟩)
  · exact h1.elim
end M

/-! repr of data with empty dicts, without lists -/
namespace M
open PySem PySem.Spec PyProof.Rows L2
mutual
def sh : D → Bool
  | .non => true
  | .bl _ => true
  | .int _ => true
  | .str _ => true
  | .tup l => shs l
  | .dct l => l.isEmpty
  | _ => false
def shs : List D → Bool
  | [] => true
  | d :: l => sh d && shs l
end
section
variable {X : Cx} {c : Cfg} {pins : List (Addr × Obj)} {σ : L2.St} {H : Hp} {s : Shared}
mutual
theorem sh_reads (I : L2.Inv X pins σ H s) (hK : c.K = X.K) : ∀ {d : D} {v : V} {u : Value}, sh d = true → Rep c H v d → RelV v u → ∃ as, Reads s.heap u (py d) as ∧ sysModules ∉ as
  | .non, _, _, _, .non, r => by
    cases r
    exact ⟨_, by rw [py]; exact .none, by simp⟩
  | .bl b, _, _, _, .bl _, r => by
    cases r
    exact ⟨_, by rw [py]; exact .bool b, by simp⟩
  | .int i, _, _, _, .int _, r => by
    obtain ⟨t, rfl⟩ := r
    exact ⟨_, by rw [py]; exact .int i t, by simp⟩
  | .str x, _, _, _, .str _, r => by
    obtain ⟨t, rfl⟩ := r
    exact ⟨_, by rw [py]; exact .str x t, by simp⟩
  | .tup l, _, _, h, .tup a q, r => by
    cases r
    obtain ⟨its, rv, ⟨o, ho, hc, n, hd⟩, hz⟩ := I.tuple (hK ▸ a)
    obtain ⟨as, h1, h2⟩ := shs_reads I hK (by rw [sh] at h; exact h) q rv
    exact ⟨as, by rw [py]; exact .tuple ho hc hd h1, h2⟩
  | .dct l, _, _, h, .dct (a := a) (kvs := kvs) g k q, r => by
    cases r
    rw [sh, List.isEmpty_iff] at h
    subst h
    have k0 : kvs = [] := by simpa using k
    subst k0
    obtain ⟨_, hs, vs, kv, o, es, ep, ho, hx, hd, hes⟩ := (show ObjOk X.prog X.w H s.heap a (.dK []) from g.ok I.hok)
    cases kv
    obtain ⟨_, pr, _⟩ := hes
    have e0 : es.toList = [] := by
      cases q0 : es.toList with
      | nil => rfl
      | cons e l =>
        rw [q0] at pr
        cases pr
    refine ⟨[a], ?_, ?_⟩
    · rw [py]
      exact .dict (kvs := []) (as := []) (bs := []) ho hx.1 hd (by rw [e0]; exact .nil) (by rw [e0]; exact .nil)
    · intro z
      rw [List.mem_singleton] at z
      rw [← z] at hs
      simp at hs
theorem shs_reads (I : L2.Inv X pins σ H s) (hK : c.K = X.K) : ∀ {ds : List D} {vs : List V} {us : List Value}, shs ds = true → Reps c H vs ds → Vals vs us → ∃ as, ReadsAll s.heap us (pys ds) as ∧ sysModules ∉ as
  | [], _, _, _, .nil, r => by
    cases r
    exact ⟨[], by rw [pys]; exact .nil, by simp⟩
  | d :: ds, _, _, h, .cons q q2, r => by
    rw [shs, Bool.and_eq_true] at h
    cases r with
    | cons r1 r2 =>
      obtain ⟨as, h1, h2⟩ := sh_reads I hK h.1 q r1
      obtain ⟨bs, h3, h4⟩ := shs_reads I hK h.2 q2 r2
      exact ⟨as ++ bs, by rw [pys]; exact .cons h1 h3, by simp [h2, h4]⟩
end
end
def reprOk2 (d : D) : Bool := sh d && ((py d).showable && (decide ((py d).depth ≤ 60) && (decide ((py d).bulk ≤ 4000) && (py d).leavesShort 1921)))
def reprX : List D → Option RV
  | [d] => if reprOk2 d then some (.fz (.str (py d).shown)) else none
  | _ => none
theorem shown_small2 {d : D} (h : reprOk2 d = true) : (py d).shown.length ≤ sizeLine := by
  unfold reprOk2 at h
  simp only [Bool.and_eq_true, decide_eq_true_eq] at h
  have e := PyData.shown_le_bulk 1921 (by decide) (py d) h.2.2.2.2
  have e2 : (1921 + 2) * (py d).bulk ≤ 1923 * 4000 := Nat.mul_le_mul_left 1923 h.2.2.2.1
  rw [sizeLine_eq]
  omega
theorem d_reprX {X : Cx} {c : Cfg} (hK : c.K = X.K) (hg : X.A.guards = some []) (hu : X.A.units + 64 < cLine) : CallR X (.builtin "repr") (rDn c reprX) := fun pins s σ H xs us Q I rx ⟨G, ds, r, e, hp, q, m⟩ => by
  unfold reprX at q
  split at q
  · rename_i d
    split at q
    · rename_i ok
      cases q
      cases hp with
      | cons p1 t =>
        cases t
        obtain ⟨u, rfl, ru⟩ := Vals.one rx
        have rep := p1.rep e
        have ok' := ok
        unfold reprOk2 at ok'
        simp only [Bool.and_eq_true, decide_eq_true_eq] at ok'
        obtain ⟨as, rd, nsys⟩ := sh_reads I hK ok'.1 rep ru
        have fits := shown_small2 ok
        have fin : ∀ (h' : Heap) (t1 t2 : Tok), (∀ b o, s.heap.get? b = some o → h'.get? b = some o) → EP X pins σ Q (.str (py d).shown t1) { s with heap := h', toks := t2 } := fun h' t1 t2 k => ⟨.str (py d).shown, H, I.kept (t' := t2) k, ⟨t1, rfl⟩, m.flat e (.str _)⟩
        have hs := ok'.2.1
        have hdp := ok'.2.2.1
        clear ok ok' m rep
        generalize py d = pd at rd fits fin hs hdp
        have refs : ∀ {a : Addr}, Reads s.heap (.ref a) pd as → wpAny (model X.prog X.w) X.A (call (.builtin "repr") [.ref a]) (EP X pins σ Q) X.xe s := fun {a} rd => PySem.repr_of_reads' rd hs (fun _ => nsys) hg (by omega) (fun _ _ z => z) (fun h' u tk k => fin h' u tk k) fits
        have calm : ∀ t1 t2, EP X pins σ Q (.str pd.shown t1) { s with toks := t2 } := fun t1 t2 => fin s.heap t1 t2 fun _ _ z => z
        match rd with
        | .none => exact PySem.P.repr_of_none (by simpa only [PyData.shown] using calm _ _)
        | .bool b => exact PySem.P.repr_of_bool (by simpa only [PyData.shown] using calm _ _)
        | .int i t => exact PySem.P.repr_of_int (by simpa [PyData.showable] using hs) (by simpa only [PyData.shown] using calm _ _)
        | .str x t => exact PySem.P.repr_of_str (by simpa only [PyData.shown] using calm _ _) (by simpa only [PyData.shown] using fits)
        | .list h1 h2 h3 h4 => exact refs (.list h1 h2 h3 h4)
        | .tuple h1 h2 h3 h4 => exact refs (.tuple h1 h2 h3 h4)
        | .dict h1 h2 h3 h4 h5 => exact refs (.dict h1 h2 h3 h4 h5)
    · cases q
  · cases q
/-- repr of data: without dicts, or without lists -/
def reprE := orO reprD reprX
theorem d_reprE {X : Cx} {c : Cfg} (hK : c.K = X.K) (hg : X.A.guards = some []) (hu : X.A.units + 64 < cLine) : CallR X (.builtin "repr") (rDn c reprE) := calld_or (d_repr hK hg hu) (d_reprX hK hg hu)
end M

/-! the signs of a shown text -/
namespace M
open PySem PySem.Spec PyProof.Rows L2
def okT (t : Str) : Bool := t.cps.all fun c => decide (c < 0x110000)
theorem okT_app {a b : Str} (ha : okT a = true) (hb : okT b = true) : okT (a ++ b) = true := by
  unfold okT at *
  show (a.cps ++ b.cps).all _ = true
  rw [Array.all_append, ha, hb]
  rfl
theorem okT_of (s : String) : okT (Str.ofString s) = true := by
  have := text_plain s
  simp only [plainD, SeqAt.shaped, py, PyData.canLay0, Bool.and_eq_true] at this
  exact this.1
theorem okT_plain {t : Str} (h : okT t = true) : plainD (.str t) = true := by
  simp only [plainD, SeqAt.shaped, py, PyData.canLay0, PyData.depth, Bool.and_eq_true, decide_eq_true_eq]
  exact ⟨h, by decide⟩
theorem okT_join {sep : Str} (hs : okT sep = true) : ∀ {ts : List Str}, (∀ t ∈ ts, okT t = true) → okT (Str.join sep ts) = true
  | [], _ => by
    show okT Str.empty = true
    decide +kernel
  | [x], h => h x List.mem_cons_self
  | x :: y :: r, h => okT_app (okT_app (h x List.mem_cons_self) hs) (okT_join hs fun t ht => h t (List.mem_cons_of_mem _ ht))
theorem okT_from : ∀ (ts : List Str) (k : Nat) (acc : Str), okT acc = true → (∀ t ∈ ts, okT t = true) → okT (textFrom k acc ts) = true
  | [], k, acc, h, _ => h
  | t :: r, k, acc, h, ht => by
    refine okT_from r (k + 1) _ (okT_app (okT_app h ?_) (ht t List.mem_cons_self)) fun u hu => ht u (List.mem_cons_of_mem _ hu)
    exact okT_of _
mutual
/-- every text inside is fit to be shown; dicts are empty -/
def txts : PyData → Bool
  | .str x => okT (reprText x)
  | .list xs => txtsAll xs
  | .tuple xs => txtsAll xs
  | .dict kvs => kvs.isEmpty
  | .none => true
  | .bool _ => true
  | .int _ => true
def txtsAll : List PyData → Bool
  | [] => true
  | x :: xs => txts x && txtsAll xs
end
mutual
theorem shown_okT : ∀ p : PyData, txts p = true → okT p.shown = true
  | .none, _ => by rw [PyData.shown]; exact okT_of _
  | .bool b, _ => by rw [PyData.shown]; cases b <;> exact okT_of _
  | .int i, _ => by rw [PyData.shown]; exact okT_of _
  | .str x, h => by rw [PyData.shown]; rw [txts] at h; exact h
  | .list xs, h => by
    rw [PyData.shown]
    rw [txts] at h
    exact okT_app (okT_from _ 0 _ (okT_of _) (shown_okAll xs h)) (okT_of _)
  | .tuple xs, h => by
    rw [PyData.shown]
    rw [txts] at h
    exact okT_app (okT_app (okT_of _) (okT_join (okT_of _) (shown_okAll xs h))) (okT_of _)
  | .dict kvs, h => by
    rw [txts, List.isEmpty_iff] at h
    subst h
    rw [PyData.shown, PyData.shownKv]
    exact okT_app (okT_app (okT_of _) (okT_join (okT_of _) fun t ht => nomatch ht)) (okT_of _)
theorem shown_okAll : ∀ xs : List PyData, txtsAll xs = true → ∀ t ∈ PyData.shownAll xs, okT t = true
  | [], _, t, ht => by rw [PyData.shownAll] at ht; cases ht
  | x :: xs, h, t, ht => by
    rw [txtsAll, Bool.and_eq_true] at h
    rw [PyData.shownAll] at ht
    rcases List.mem_cons.mp ht with rfl | ht
    · exact shown_okT x h.1
    · exact shown_okAll xs h.2 t ht
end
theorem shown_plain {p : PyData} (h : txts p = true) : plainD (.str p.shown) = true := okT_plain (shown_okT p h)
end M

/-! an own error made by names: C(f = v) -/
namespace M
open PySem PySem.HandSPX PySem.Builtin PySem.Builtin.ObjectAttr
section
variable {prog : Program} {w : World} {A : Around} {E : Value → Shared → Prop} {R : Result → Shared → Prop} {h : Heap} {g : Array GenState} {d : Drawn} {t : Nat} {os : OsState}
variable {nm q : Str} {C N : Addr} {bs bm bmB : List Value} {hd : Bool} {sn : List Str} {sub : List Value} {ab : Bool} {col : Option Bool} {dd : Option Addr} {k0 k1 k2 k3 k5 : Option Value} {B newId initId : String} {kw : List (Str × Value)}
theorem k_check {M0 : Model} (F : ExcBaseFacts B newId initId bmB) (hT : ∀ X : String, bm.contains (.type X) = bmB.contains (.type X)) {us : List Value} {Q : Unit → Shared → Prop}
    (there : h.get? C = some (excClassObj nm q C N bs bm hd sn sub ab col dd k0 k1 k2 k3 k5 newId)) (yes : Q () ⟨h, g, d, t, os⟩) : wpAny M0 A (checkBuiltinCall newId ⟨.ref C :: us, kw⟩) Q E ⟨h, g, d, t, os⟩ := by
  have in1 : (Value.ref C :: bm).contains (.type B) = true := by rw [List.contains_cons, hT, F.hasB, Bool.or_true]
  have st := F.noStar
  simp only [checkBuiltinCall, F.newKind, F.newSplit, F.newRow]
  repeat (first | (refine wpAny_isSubtype_exc there ?_; rw [in1]) | refine wpAny_loadPart_at there ?_ | refine wpAny_staticBase_exc there ?_ | refine wpAny_madeBy_exc there ?_ | simp only [bne_self_eq_false, Bool.false_eq_true, if_false] | wp_step)
  exact yes
theorem k_new (F : ExcBaseFacts B newId initId bmB) (hT : ∀ X : String, bm.contains (.type X) = bmB.contains (.type X)) {us : List Value}
    (there : h.get? C = some (excClassObj nm q C N bs bm hd sn sub ab col dd k0 k1 k2 k3 k5 newId)) (small : us.length ≤ sizeLine)
    (yes : R (.ok (.ret (.ref (h.objs.size + 1)))) ⟨(h.push (W.kdv_tup us)).push (excO C h.objs.size), g, d, t, os⟩) :
    codeAny (model prog w) A (.builtin newId ⟨.ref C :: us, kw⟩) R ⟨h, g, d, t, os⟩ := by
  have ends := F.ends
  have in1 : (Value.ref C :: bm).contains (.type B) = true := by rw [List.contains_cons, hT, F.hasB, Bool.or_true]
  have in2 : (Value.ref C :: bm).contains (.type "AttributeError") = false := by rw [List.contains_cons, hT, F.noAttr]; rfl
  have in3 : (Value.ref C :: bm).contains (.type "NameError") = false := by rw [List.contains_cons, hT, F.noName]; rfl
  refine codeAny_builtinAt F.entry ?_
  unfold Builtin.«BaseException.__new__»
  refine wpAt_bind ?_
  show wpAt _ _ _ (stack >>= _) _ _ _
  refine wpAt_bind (wpAt_stack fun p below => wpAt_of_wpAny ?_)
  wp_walk
  refine wpAt_of_wpAny ?_
  rw [F.owner]
  repeat (first | (with_reducible refine wpAny_isSubtype_exc there ?_; first | rw [in1] | rw [in2] | rw [in3]) | with_reducible refine wpAny_madeHere_exc F.canon there ?_ | with_reducible refine wpAny_loadPart_at there ?_ | wp_step)
  show R _ _
  rw [Heap.size_push]
  exact yes
theorem k_type (F : ExcBaseFacts B newId initId bmB) (hT : ∀ X : String, bm.contains (.type X) = bmB.contains (.type X)) {us : List Value} {fI : Addr} {Q : Fin → Shared → Prop}
    (there : h.get? C = some (excClassObj nm q C N bs bm hd sn sub ab col dd k0 k1 k2 k3 k5 newId))
    (hi : W.Looks (model prog w) h (typeLookup (.ref C) "__init__") (some (.ref fI))) (hb : ∀ self, W.Looks (model prog w) h (bindSpecial (.ref fI) self) (.ref fI, [self])) (small : us.length ≤ sizeLine)
    (yes : codeAny (model prog w) A (.call (.ref fI) ⟨.ref (h.objs.size + 1) :: us, kw⟩)
      (fun r s1 => match r with | .ok (.ret v) => v = .none ∧ Q (.done (.ret (.ref (h.objs.size + 1)))) s1 | .ok _ => False | .error e => E e s1)
      ⟨(h.push (W.kdv_tup us)).push (excO C h.objs.size), g, d, t, os⟩) :
    wpAny (model prog w) A (Builtin.«type.__call__» ⟨.ref C :: us, kw⟩) Q E ⟨h, g, d, t, os⟩ := by
  repeat (first | with_reducible refine wpAny_madeBy_exc there ?_ | with_reducible refine wpAny_loadPart_at there ?_ | wp_step)
  refine codeAny_call_builtin_code (Code.quiet_builtin _ F.quiet) (k_check F hT there ?_)
  refine k_new F hT there small ?_
  show wpAny _ _ _ _ _ _
  have k : ∀ b o, h.get? b = some o → ((h.push (W.kdv_tup us)).push (excO C h.objs.size)).get? b = some o := fun b o z => Heap.get?_push_of_some _ (Heap.get?_push_of_some _ z)
  have there1 := k _ _ there
  have laid : ((h.push (W.kdv_tup us)).push (excO C h.objs.size)).get? (h.objs.size + 1) = some (excO C h.objs.size) := by heap_get
  have inC : (Value.ref C :: bm).contains (.ref C) = true := by simp
  have i1 := hi.keeps k
  have b1 := (hb (.ref (h.objs.size + 1))).keeps k
  unfold isInstance
  repeat (first | (with_reducible refine wpAny_isSubtype_exc there1 ?_; rw [inC]) | with_reducible refine wpAny_loadPart_at laid ?_ | wp_step)
  show wpAny _ _ (typeLookup (.ref C) _) _ _ _
  refine i1.at ?_
  refine wpAny_holding (wpAny_bind (b1.at ?_))
  refine wpAny_bind (wpAny_call (codeAny_mono yes fun r s1 z => ?_))
  rcases r with e | (v | _ | _ | _) <;> (first | exact z.elim | exact z | skip)
  have hv := z.1
  subst hv
  have z := z.2
  first
    | exact wpAny_pure (wpAny_pure z)
    | (wp_walk; exact z)
    | wp_walk
theorem k_own (F : ExcBaseFacts B newId initId bmB) (hT : ∀ X : String, bm.contains (.type X) = bmB.contains (.type X)) {us : List Value} {fI : Addr}
    (there : h.get? C = some (excClassObj nm q C N bs bm hd sn sub ab col dd k0 k1 k2 k3 k5 newId))
    (hi : W.Looks (model prog w) h (typeLookup (.ref C) "__init__") (some (.ref fI))) (hb : ∀ self, W.Looks (model prog w) h (bindSpecial (.ref fI) self) (.ref fI, [self])) (small : us.length ≤ sizeLine)
    (yes : codeAny (model prog w) (A.under (.builtin "type.__call__" ⟨.ref C :: us, kw⟩)) (.call (.ref fI) ⟨.ref (h.objs.size + 1) :: us, kw⟩) (W.InitBack (h.objs.size + 1) R)
      ⟨(h.push (W.kdv_tup us)).push (excO C h.objs.size), g, d, t, os⟩) :
    codeAny (model prog w) A (.call (.ref C) ⟨us, kw⟩) R ⟨h, g, d, t, os⟩ := by
  have f1 := tc_lookup
  have f2 := tc_bind (.ref C)
  have ty : (⟨h, g, d, t, os⟩ : Shared).TypeIs (.ref C) "type" := ⟨_, there, rfl⟩
  refine codeAny_of_tree ?_
  show wpAny _ _ (callAny (.ref C) _) _ _ _
  repeat (any_goals (first | with_reducible refine wpAny_loadPart_at there ?_ | assumption | wp_step))
  refine ⟨rfl, ?_⟩
  refine codeAny_call_builtin_at (Code.quiet_builtin _ (by decide +kernel)) entry_typeCall (wpAny_check_type_call_sub there (k_type F hT there hi hb small ?_))
  refine codeAny_mono yes fun r s1 z => ?_
  rcases r with e | (v | _ | _ | _) <;> exact z
end
end M
namespace M
open PySem PySem.Spec PyProof.Rows L2
theorem made2_eq {H1 : Hp} {a d C : Addr} {f : Str} {v : V} (ne : d ≠ a) : upd (upd (upd H1 a (exo a C none)) d (exd d [(f, v)])) a (exo a C (some d)) = upd (upd H1 d (exd d [(f, v)])) a (exo a C (some d)) := by
  funext b
  rcases Decidable.em (b = a) with rfl | hb
  · rw [upd_same, upd_same]
  rw [upd_ne hb, upd_ne hb]
  rcases Decidable.em (b = d) with rfl | hd
  · rw [upd_same, upd_same]
  rw [upd_ne hd, upd_ne hd, upd_ne hb]
section
variable {B newId initId : String} {bmB : List Value} {X : Cx} {pins : List (Addr × Obj)} {σ : L2.St} {H : Hp} {s : Shared} {C fI : Addr} {k : Nat} {fd : FuncData} {CX : CXT} {f : Str} {Q : VK}
/-- an error is made: behind its __init__ -/
theorem x_core {us : List Value} {kw : List (Str × Value)} {u : Value} {v : V} (T : XC X.K B newId initId bmB C) (iC : PySem.W.findIn X.K (.ref C) "__init__" = some (some (.ref fI))) (tI : PySem.W.typeIn X.K (.ref fI) = some (.type "function"))
    (F1 : FnOk X.prog X.w X.K X.mg X.base CX k fI fd ["self", f] (spI C f)) (hr : Room (k + 1) X.A) (hx : Passes CX X (fun _ _ _ => False))
    (bt : ∀ (s : Shared) (e : Value), X.K.In s.heap → BindsTo s fd ⟨e :: us, kw⟩ ([("self" : Str), f].zip [e, u])) (small : us.length ≤ sizeLine) (I : Inv X pins σ H s) (rv : RelV v u)
    (h : ∀ a d, H a = none → H d = none → d ≠ a → Q (.ref a) (upd (upd H d (exd d [(f, v)])) a (exo a C (some d)))) : wpAny (model X.prog X.w) X.A (call (.ref C) us kw) (EP X pins σ Q) X.xe s := by
  obtain ⟨nm, N, qn, bs, bm, hd, sn, sub, ab, col, dd, k0, k1, k2, k3, k5, there, hT⟩ := PySem.W.excInit_of I.kIn T.inn
  obtain ⟨hp, g, dr, tk, os⟩ := s
  have upp : hp.objs.size ≤ hp.objs.size + 1 := Nat.le_succ _
  have fresh : H (hp.objs.size + 1) = none := I.hok.fresh upp
  have older : ∀ b o, hp.get? b = some o → ((hp.push (PySem.W.kdv_tup us)).push (PySem.HandSPX.excO C hp.objs.size)).get? b = some o := fun b o z => Heap.get?_push_of_some _ (Heap.get?_push_of_some _ z)
  have laid : ((hp.push (PySem.W.kdv_tup us)).push (PySem.HandSPX.excO C hp.objs.size)).get? (hp.objs.size + 1) = some (PySem.HandSPX.excO C hp.objs.size) := by heap_get
  have I2 := I.laid (t' := tk) (a := hp.objs.size + 1) (o := exo (hp.objs.size + 1) C none) older upp (exo_ok laid)
  have rs : Vals [V.ref (hp.objs.size + 1), v] [Value.ref (hp.objs.size + 1), u] := .cons rfl (.cons rv .nil)
  refine wpAny_call (k_own T.bf hT there (PySem.W.looks_findIn I.kIn iC) (fun self => PySem.W.bind_fn I.kIn self tI) small ?_)
  refine codeAny_mono (F1.run _ X.stack _ _ ⟨Value.ref (hp.objs.size + 1) :: us, kw⟩ [Value.ref (hp.objs.size + 1), u] _ _ (fun _ _ _ => False) (hr.make C us kw) (I2.env0.make C us kw) (bt _ _ I2.kIn) rs
    ⟨_, v, rfl, upd_same, fun d nd ne => ⟨rfl, d, ne, nd, rfl⟩⟩ : codeAny _ _ _ (CR CX X.stack X.prog X.w _ _ (fun w H2 => w = .non ∧ ∃ d, d ≠ hp.objs.size + 1 ∧ (upd H (hp.objs.size + 1) (exo (hp.objs.size + 1) C none)) d = none ∧ H2 = upd (upd (upd H (hp.objs.size + 1) (exo (hp.objs.size + 1) C none)) d (exd d [(f, v)])) (hp.objs.size + 1) (exo (hp.objs.size + 1) C (some d))) _) _) fun r s1 back => ?_
  cases r with
  | error er => exact hx pins σ _ _ er s1 I2 back
  | ok fl =>
    cases fl with
    | ret z =>
      obtain ⟨w, H2, I3, rw2, rfl, d, ne, nd, rfl⟩ := I2.after back
      have nd1 : H d = none := by rw [upd_ne ne] at nd; exact nd
      refine ⟨rw2, .ref (hp.objs.size + 1), _, I3, rfl, ?_⟩
      rw [made2_eq ne]
      exact h _ d fresh nd1 ne
    | next => exact False.elim back
    | brk => exact False.elim back
    | cont => exact False.elim back
/-- what __init__ does that keeps nothing -/
def spI0 (C : Addr) : Sp := fun vs H Q _ => ∃ a, vs = [.ref a] ∧ H a = some (exo a C none) ∧ Q .non H
theorem x_core0 (T : XC X.K B newId initId bmB C) (iC : PySem.W.findIn X.K (.ref C) "__init__" = some (some (.ref fI))) (tI : PySem.W.typeIn X.K (.ref fI) = some (.type "function"))
    (F1 : FnOk X.prog X.w X.K X.mg X.base CX k fI fd ["self"] (spI0 C)) (hr : Room (k + 1) X.A) (hx : Passes CX X (fun _ _ _ => False))
    (bt : ∀ (s : Shared) (e : Value), X.K.In s.heap → BindsTo s fd ⟨[e], []⟩ ([("self" : Str)].zip [e])) (I : Inv X pins σ H s)
    (h : ∀ a, H a = none → Q (.ref a) (upd H a (exo a C none))) : wpAny (model X.prog X.w) X.A (call (.ref C) [] []) (EP X pins σ Q) X.xe s := by
  obtain ⟨nm, N, qn, bs, bm, hd, sn, sub, ab, col, dd, k0, k1, k2, k3, k5, there, hT⟩ := PySem.W.excInit_of I.kIn T.inn
  obtain ⟨hp, g, dr, tk, os⟩ := s
  have upp : hp.objs.size ≤ hp.objs.size + 1 := Nat.le_succ _
  have fresh : H (hp.objs.size + 1) = none := I.hok.fresh upp
  have older : ∀ b o, hp.get? b = some o → ((hp.push (PySem.W.kdv_tup [])).push (PySem.HandSPX.excO C hp.objs.size)).get? b = some o := fun b o z => Heap.get?_push_of_some _ (Heap.get?_push_of_some _ z)
  have laid : ((hp.push (PySem.W.kdv_tup [])).push (PySem.HandSPX.excO C hp.objs.size)).get? (hp.objs.size + 1) = some (PySem.HandSPX.excO C hp.objs.size) := by heap_get
  have I2 := I.laid (t' := tk) (a := hp.objs.size + 1) (o := exo (hp.objs.size + 1) C none) older upp (exo_ok laid)
  have rs : Vals [V.ref (hp.objs.size + 1)] [Value.ref (hp.objs.size + 1)] := .cons rfl .nil
  refine wpAny_call (k_own T.bf hT there (PySem.W.looks_findIn I.kIn iC) (fun self => PySem.W.bind_fn I.kIn self tI) (Nat.zero_le _) ?_)
  refine codeAny_mono (F1.run _ X.stack _ _ ⟨[Value.ref (hp.objs.size + 1)], []⟩ [Value.ref (hp.objs.size + 1)] _ _ (fun _ _ _ => False) (hr.make C [] []) (I2.env0.make C [] []) (bt _ _ I2.kIn) rs
    ⟨_, rfl, upd_same, ⟨rfl, rfl⟩⟩ : codeAny _ _ _ (CR CX X.stack X.prog X.w _ _ (fun w H2 => w = .non ∧ H2 = upd H (hp.objs.size + 1) (exo (hp.objs.size + 1) C none)) _) _) fun r s1 back => ?_
  cases r with
  | error er => exact hx pins σ _ _ er s1 I2 back
  | ok fl =>
    cases fl with
    | ret z =>
      obtain ⟨w, H2, I3, rw2, rfl, rfl⟩ := I2.after back
      exact ⟨rw2, .ref (hp.objs.size + 1), _, I3, rfl, h _ fresh⟩
    | next => exact False.elim back
    | brk => exact False.elim back
    | cont => exact False.elim back
variable {e : Expr} {es : List Expr} {ta : TA} {p pos : Pos} {x : Str} {kws : List Keyword}
def tXn (C : Addr) (f : Str) (ta : TA) : TE := fun σ H Q => ta σ H fun vs H1 => ∃ v, vs = [v] ∧ ∀ a d, H1 a = none → H1 d = none → d ≠ a → Q (.ref a) (upd (upd H1 d (exd d [(f, v)])) a (exo a C (some d)))
/-- C(e), kept as a value -/
theorem pe_xn (T : XC X.K B newId initId bmB C) (iC : PySem.W.findIn X.K (.ref C) "__init__" = some (some (.ref fI))) (tI : PySem.W.typeIn X.K (.ref fI) = some (.type "function"))
    (F1 : FnOk X.prog X.w X.K X.mg X.base CX k fI fd ["self", f] (spI C f)) (hr : Room (k + 1) X.A) (hb : Binds X.K fd ["self", f] []) (hx : Passes CX X (fun _ _ _ => False)) (hg : Gl X x) (hm : X.mg x = some (.ref C)) (ha : PA X (e :: es) ta)
    (hdb : (x == ("__debug__" : Str)) = false := by decide) (he : starEach (e :: es) X.env = (false, eval e X.env) :: starEach es X.env := by rfl) (hpl : (backTo pos (starEach es X.env)).any (·.1) = false := by rfl) :
    PE X (.Call (.Name x p) (e :: es) [] pos) (tXn C f ta) := by
  refine ⟨fun pins s σ H Q I h => ?_⟩
  refine wpAny_Call_Name_kw (ld_glob I hg hm ?_ hdb)
  refine PySem.W.callWith_K (h₀ := X.base) I.ok.mod.kin T.kC (thn (ha.run pos pins s σ H _ I h) fun us s1 ⟨vs, H1, I1, r, v, ev, q⟩ => ⟨I1.kIn, ?_⟩) he hpl
  subst ev
  obtain ⟨u, rfl, rv⟩ := Vals.one r
  exact x_core T iC tI F1 hr hx (fun s1 e1 kin => hb s1 [e1, u] kin rfl) (by rw [sizeLine_eq]; exact (by decide : 1 ≤ 16777216)) I1 rv q
/-- C(f = e) -/
theorem pe_xnK (T : XC X.K B newId initId bmB C) (iC : PySem.W.findIn X.K (.ref C) "__init__" = some (some (.ref fI))) (tI : PySem.W.typeIn X.K (.ref fI) = some (.type "function"))
    (F1 : FnOk X.prog X.w X.K X.mg X.base CX k fI fd ["self", f] (spI C f)) (hr : Room (k + 1) X.A) (hb : ∀ (s : Shared) (us ws : List Value), us.length = 1 → ws.length = 1 → BindsTo s fd ⟨us, [f].zip ws⟩ ([("self" : Str), f].zip (permL [0, 1] (us ++ ws)))) (hx : Passes CX X (fun _ _ _ => False)) (hg : Gl X x) (hm : X.mg x = some (.ref C))
    (hkw : PK X kws ta) (hall : (backToKw pos (keywordEach kws X.env)).all (·.1.isSome) = true := by rfl) (hks : (backToKw pos (keywordEach kws X.env)).filterMap (·.1) = [f] := by rfl)
    (hdb : (x == ("__debug__" : Str)) = false := by decide) (hpl : ((backTo pos (starEach [] X.env)).any (·.1) || (backToKw pos (keywordEach kws X.env)).any (·.1.isNone)) = false := by rfl) :
    PE X (.Call (.Name x p) [] kws pos) (tXn C f ta) := by
  refine ⟨fun pins s σ H Q I h => ?_⟩
  refine wpAny_Call_Name_kw (ld_glob I hg hm ?_ hdb)
  refine PySem.W.callWith_KW0 (h₀ := X.base) I.ok.mod.kin T.kC hall (thn (hkw.run pos pins s σ H _ I h) fun ws s1 ⟨vs, H1, I1, r, v, ev, q⟩ => ⟨I1.kIn, ?_⟩) hpl
  subst ev
  obtain ⟨u, rfl, rv⟩ := Vals.one r
  rw [hks]
  exact x_core (us := []) (kw := [(f, u)]) T iC tI F1 hr hx (fun s1 e1 kin => hb s1 [e1] [u] rfl rfl) (Nat.zero_le _) I1 rv q
/-- C() -/
theorem pe_xn0 {Q0 : Unit} (T : XC X.K B newId initId bmB C) (iC : PySem.W.findIn X.K (.ref C) "__init__" = some (some (.ref fI))) (tI : PySem.W.typeIn X.K (.ref fI) = some (.type "function"))
    (F1 : FnOk X.prog X.w X.K X.mg X.base CX k fI fd ["self"] (spI0 C)) (hr : Room (k + 1) X.A) (hb : Binds X.K fd ["self"] []) (hx : Passes CX X (fun _ _ _ => False)) (hg : Gl X x) (hm : X.mg x = some (.ref C))
    (hdb : (x == ("__debug__" : Str)) = false := by decide) :
    PE X (.Call (.Name x p) [] [] pos) (fun _ H Q => ∀ a, H a = none → Q (.ref a) (upd H a (exo a C none))) := by
  refine ⟨fun pins s σ H Q I h => ?_⟩
  refine wpAny_Call_Name_kw (ld_glob I hg hm ?_ hdb)
  exact PySem.W.callWith_K0 I.kIn T.kC (x_core0 T iC tI F1 hr hx (fun s1 e1 kin => hb s1 [e1] kin rfl) I h)
end
section
variable {X : Cx} {C : Addr} {e : Expr} {te : TE} {pos : Pos} {n : Str}
/-- e.f of an error that is a value -/
def tXg (C : Addr) (f : Str) (te : TE) : TE := fun σ H Q => te σ H fun x H1 => ∃ a d fs v, x = .ref a ∧ H1 a = some (exo a C (some d)) ∧ H1 d = some (exd d fs) ∧ fs.lookup f = some v ∧ Q v H1
theorem pe_xg (T : XfC X.K C) (hno : PySem.W.findIn X.K (.ref C) n = some none) (he : PE X e te) (hb : attributeBase e n X.env (eval e X.env) = eval e X.env := by rfl) : PE X (.Attribute e n pos) (tXg C n te) := by
  refine ⟨fun pins s σ H Q I h => ?_⟩
  refine attr_of hb (thn (he.run pins s σ H _ I h) fun u s1 hh => ?_)
  obtain ⟨x, H1, I1, rx, a, d, fs, v, rfl, ea, ed, l, q⟩ := hh
  obtain rfl : u = Value.ref a := rx
  obtain ⟨t1, ho⟩ := exo_at I1.hok ea
  obtain ⟨mA, hns, hr⟩ := exd_at I1.hok ed
  obtain ⟨od, hod, hl⟩ := lookIn_ns hns
  obtain ⟨u, hu, ru⟩ := RelO.some_of (v := v) (o := mA n) (by rw [← l]; exact hr n)
  have J : PySem.W.InstAt s1.heap a _ C (some od) := ⟨ho, rfl, rfl, hod⟩
  exact HandSPX.exc_get I1.kIn J T.ga T.gg T.exC (PySem.W.findObj_own T.hdC hno rfl (by rw [hl, hu])) (handed_of ru) ⟨v, H1, I1.tok _, ru, q⟩
end
end M

/-! errors as values: isinstance of them -/
namespace L2
open PySem PySem.Spec PyProof.Rows
/-- what the text says of a class of errors -/
structure IsC0 (K : PySem.W.Frag) (C : Addr) : Prop where
  xf : XfC K C
  cl : (PySem.W.clsIn K C).isSome = true
  ca : PySem.W.findIn K (.ref C) "__class__" = some (some (.builtin "object.__class__"))
  gt : PySem.W.specialIn K (.builtin "object.__class__") "__get__" = some (some (.builtin "getset_descriptor.__get__"))
  tk : PySem.W.takesIn K (.builtin "object.__class__") = some true
  mo : PySem.W.mroIn K C (.type "object") = some true
def isC0B (K : PySem.W.Frag) (C : Addr) : Bool :=
  xfB K C && ((PySem.W.clsIn K C).isSome && (decide (PySem.W.findIn K (.ref C) "__class__" = some (some (.builtin "object.__class__"))) &&
  (decide (PySem.W.specialIn K (.builtin "object.__class__") "__get__" = some (some (.builtin "getset_descriptor.__get__"))) &&
  (decide (PySem.W.takesIn K (.builtin "object.__class__") = some true) && decide (PySem.W.mroIn K C (.type "object") = some true)))))
theorem isC0B_ok {K : PySem.W.Frag} {C : Addr} (h : isC0B K C = true) : IsC0 K C := by
  unfold isC0B at h
  simp only [Bool.and_eq_true, decide_eq_true_eq] at h
  exact ⟨xfB_ok h.1, h.2.1, h.2.2.1, h.2.2.2.1, h.2.2.2.2.1, h.2.2.2.2.2⟩
/-- which of the classes Cs are below cv -/
def kitRow (K : PySem.W.Frag) (cv : Value) : List Addr → List Bool → Bool
  | [], [] => true
  | C :: Cs, b :: bs => decide (PySem.W.kitOne K (.ref C) cv = some b) && kitRow K cv Cs bs
  | _, _ => false
theorem kitRow_ok {K : PySem.W.Frag} {cv : Value} : ∀ {Cs : List Addr} {bs : List Bool} {n : Nat} {b : Bool}, kitRow K cv Cs bs = true → bs[n]? = some b → ∃ C, Cs[n]? = some C ∧ PySem.W.kitOne K (.ref C) cv = some b
  | [], [], _, _, _, e => by simp at e
  | [], _ :: _, _, _, h, _ => by cases h
  | _ :: _, [], _, _, _, e => by simp at e
  | C :: Cs, b' :: bs, 0, b, h, e => by
    unfold kitRow at h
    simp only [Bool.and_eq_true, decide_eq_true_eq] at h
    simp at e
    exact ⟨C, rfl, e ▸ h.1⟩
  | C :: Cs, b' :: bs, n + 1, b, h, e => by
    unfold kitRow at h
    simp only [Bool.and_eq_true, decide_eq_true_eq] at h
    obtain ⟨D, h1, h2⟩ := kitRow_ok (n := n) h.2 (by simpa using e)
    exact ⟨D, by simpa using h1, h2⟩
section
variable {X : Cx} {pins : List (Addr × Obj)} {σ : St} {H : Hp} {s : Shared} {a C : Addr} {d : Option Addr}
theorem inst_exo (I : Inv X pins σ H s) (ea : H a = some (exo a C d)) (ed : ∀ dd, d = some dd → ∃ fs, H dd = some (exd dd fs)) : ∃ ox od, PySem.W.InstAt s.heap a ox C od := by
  obtain ⟨t1, ho⟩ := exo_at I.hok ea
  cases d with
  | none => exact ⟨_, none, ho, rfl, rfl, trivial⟩
  | some dd =>
    obtain ⟨fs, e2⟩ := ed dd rfl
    obtain ⟨mA, hns, hr⟩ := exd_at I.hok e2
    obtain ⟨od, hod, hl⟩ := lookIn_ns hns
    exact ⟨_, some od, ho, rfl, rfl, hod⟩
def kpE (K : PySem.W.Frag) (v2 : V) (cv : Value) (Q : VK) (vs : List V) (H1 : Hp) : Prop := ∃ a C d b, vs = [.ref a, v2] ∧ H1 a = some (exo a C d) ∧ (∀ dd, d = some dd → ∃ fs, H1 dd = some (exd dd fs)) ∧ IsC0 K C ∧ PySem.W.kitOne K (.ref C) cv = some b ∧ Q (.bl b) H1
theorem pe_isE {e e2 : Expr} {p pos : Pos} {te : TE} {v2 : V} {cv : Value} (k : ClsV v2 cv)
    (hg : Gl X "isinstance") (hm : X.mg "isinstance" = none) (hv : bootBuiltins "isinstance" = some (.builtin "isinstance")) (he : PE X e te) (h2 : PE X e2 (tC v2))
    (hs : starEach [e, e2] X.env = (false, eval e X.env) :: starEach [e2] X.env := by rfl) (hs2 : starEach [e2] X.env = (false, eval e2 X.env) :: starEach [] X.env := by rfl) (hpl : (backTo pos (starEach [e2] X.env)).any (·.1) = false := by rfl) :
    PE X (.Call (.Name "isinstance" p) [e, e2] [] pos) (fun σ H Q => te σ H fun x H1 => kpE X.K v2 cv Q [x, v2] H1) := by
  refine ⟨fun pins s σ H Q I h => ?_⟩
  refine wpAny_Call_Name_kw (ld_blt I hg hm hv ?_ (by decide) (by decide))
  refine PyProof.Rows.callWith_builtin1 (thn ((pa_cons he (pa_cons h2 pa_nil hs2) hs).run pos pins s σ H (kpE X.K v2 cv Q) I h) fun us s1 ⟨vs, H1, I1, r1, a, C, d, b, ev, ea, ed, T, is_, q⟩ => ?_) hs hpl
  subst ev
  obtain ⟨u, w, rfl, ru, rw'⟩ := vals2 r1
  obtain rfl : u = Value.ref a := ru
  have ew := k.eq rw'
  subst ew
  obtain ⟨ox, od, J⟩ := inst_exo I1 ea ed
  exact PySem.W.kia_one (PySem.W.kitx_exc T.cl T.xf.ga T.xf.gg T.xf.exC T.ca T.gt T.tk T.mo) I1.kIn J is_ (fun z => nomatch z) fun tk => ⟨.bl b, H1, I1.tok _, rfl, q⟩
end
end L2
namespace M
open PySem PySem.Spec PyProof.Rows L2
/-- C(e), an error as a value -/
def mXn (n : Nat) (f : Str) (ma : AM) : EM := fun E => (ma E).bind fun rs E1 => match fzs E1 rs with
  | some ([d], E2) => .ok (.fz (.obj n [(f, d)])) E2
  | _ => .bad
def mXn0 (n : Nat) : EM := fun E => .ok (.fz (.obj n [])) E
/-- e.f of such a value -/
def mXg (n : Nat) (f : Str) (m : EM) : EM := fun E => (m E).bind fun r E1 => match pk E1 r.settle with
  | some (.obj k fs) => if k = n then match fs.lookup f with
    | some d => .ok (.fz d) E1
    | none => .bad
    else .bad
  | _ => .bad
/-- isinstance(e, D) of such a value; bs: which classes are below D -/
def mIsE (bs : List Bool) (m : EM) : EM := fun E => (m E).bind fun r E1 => match pk E1 r.settle with
  | some (.obj k _) => match bs[k]? with
    | some b => .ok (.fz (.bl b)) E1
    | none => .bad
  | _ => .bad
@[simp] theorem mXn_eq (n : Nat) (f : Str) (ma : AM) (E : Ev) : mXn n f ma E = (ma E).bd fun rs E1 => match fzs E1 rs with
  | some ([d], E2) => .ok (.fz (.obj n [(f, d)])) E2
  | _ => .bad := rfl
@[simp] theorem mXn0_eq (n : Nat) (E : Ev) : mXn0 n E = .ok (.fz (.obj n [])) E := rfl
@[simp] theorem mXg_eq (n : Nat) (f : Str) (m : EM) (E : Ev) : mXg n f m E = (m E).bd fun r E1 => match pk E1 r.settle with
  | some (.obj k fs) => if k = n then match fs.lookup f with
    | some d => .ok (.fz d) E1
    | none => .bad
    else .bad
  | _ => .bad := rfl
@[simp] theorem mIsE_eq (bs : List Bool) (m : EM) (E : Ev) : mIsE bs m E = (m E).bd fun r E1 => match pk E1 r.settle with
  | some (.obj k _) => match bs[k]? with
    | some b => .ok (.fz (.bl b)) E1
    | none => .bad
  | _ => .bad := rfl
section
variable {X : Cx} {c : Cfg} {W : WX} {e call : Expr} {pos : Pos} {n : Nat} {f : Str} {m : EM} {ma : AM} {C : Addr}
theorem de_xn (mk : PE X call (tXn C f (tA c W ma))) (hC : c.ct n = C) : PE X call (tE c W (mXn n f ma)) := pe_imp mk fun σ H Q ⟨f', G, E, R, h⟩ => by
  refine tA_bindE R h fun rs E1 G1 vs H1 e1 R1 r1 h1 => ?_
  split at h1
  · rename_i d E2 hf
    obtain ⟨G2, e2, R2, rep⟩ := fzs_rep R1 r1 hf
    cases rep with
    | cons rv t =>
      rename_i v _
      cases t
      refine ⟨v, rfl, fun a dx na nd ne => ?_⟩
      have g1 := Gro.newG (o := exd dx [(f, v)]) R2.gh nd
      have na' : upd H1 dx (exd dx [(f, v)]) a = none := by rw [upd_ne (Ne.symm ne)]; exact na
      have g2 := Gro.newG (o := exo a C (some dx)) (R2.gro g1).gh na'
      exact h1 _ _ _ ((e2.trans g1.gg).trans g2.gg) ((R2.gro g1).gro g2) (.obj (dx := some dx) (fs := [(f, v)]) (by rw [hC]; exact upd_same) (fun d' z => by cases z; rw [upd_ne ne]; exact upd_same) (fun z => nomatch z) rfl (.cons ((rv.mono g1.gg).mono g2.gg) .nil))
  · exact h1.elim
theorem de_xn0 (mk : PE X call (fun _ H Q => ∀ a, H a = none → Q (.ref a) (upd H a (exo a C none)))) (hC : c.ct n = C) : PE X call (tE c W (mXn0 n)) := pe_imp mk fun σ H Q ⟨f', G, E, R, h⟩ a na => by
  have g := Gro.newG (o := exo a C none) R.gh na
  exact h _ _ _ g.gg (R.gro g) (.obj (dx := none) (fs := []) (by rw [hC]; exact upd_same) (fun d' z => nomatch z) (fun _ => rfl) rfl .nil)
theorem de_xg (hC : c.ct n = C) (T : XfC X.K C) (hno : PySem.W.findIn X.K (.ref C) f = some none) (he : PE X e (tE c W m)) (hb : attributeBase e f X.env (eval e X.env) = eval e X.env := by rfl) : PE X (.Attribute e f pos) (tE c W (mXg n f m)) := pe_imp (pe_xg T hno he hb) fun σ H Q ⟨f', G, E, R, h⟩ => by
  refine tE_bindE R h fun r E1 G1 v H1 e1 R1 r1 h1 => ?_
  split at h1
  · rename_i k fs hp
    split at h1
    · rename_i hk
      subst hk
      split at h1
      · rename_i d hl
        have p : Rep c G1 v (.obj k fs) := R1.pk r1 hp
        cases p with
        | @obj a dx _ fs' _ ea ed ez ek reps =>
          obtain ⟨w, l1, i, l2, l3⟩ := lookup_two ek hl
          obtain ⟨u, g1, g2⟩ := reps.get l3
          rw [l2] at g1
          cases g1
          cases dx with
          | none =>
            rw [ez rfl] at l1
            cases l1
          | some dd => exact ⟨a, dd, fs', w, rfl, by rw [← hC]; exact R1.gh _ _ ea, R1.gh _ _ (ed dd rfl), l1, h1 G1 w H1 (.refl _) R1 g2⟩
      · exact h1.elim
    · exact h1.elim
  · exact h1.elim
theorem de_isE {Cs : List Addr} {bs : List Bool} {e2 : Expr} {p : Pos} {v2 : V} {cv : Value} (T0 : Cs.all (isC0B X.K) = true) (T1 : kitRow X.K cv Cs bs = true) (hC : ∀ n C, Cs[n]? = some C → c.ct n = C) (k : ClsV v2 cv)
    (hg : Gl X "isinstance") (hm : X.mg "isinstance" = none) (hv : bootBuiltins "isinstance" = some (.builtin "isinstance")) (he : PE X e (tE c W m)) (h2 : PE X e2 (tC v2))
    (hs : starEach [e, e2] X.env = (false, eval e X.env) :: starEach [e2] X.env := by rfl) (hs2 : starEach [e2] X.env = (false, eval e2 X.env) :: starEach [] X.env := by rfl) (hpl : (backTo pos (starEach [e2] X.env)).any (·.1) = false := by rfl) :
    PE X (.Call (.Name "isinstance" p) [e, e2] [] pos) (tE c W (mIsE bs m)) := pe_imp (pe_isE k hg hm hv he h2 hs hs2 hpl) fun σ H Q ⟨f', G, E, R, h⟩ => by
  refine tE_bindE R h fun r E1 G1 v H1 e1 R1 r1 h1 => ?_
  split at h1
  · rename_i k fs hp
    split at h1
    · rename_i b hb
      have p : Rep c G1 v (.obj k fs) := R1.pk r1 hp
      cases p with
      | @obj a dx _ fs' _ ea ed ez ek reps =>
        obtain ⟨C, h1', h2'⟩ := kitRow_ok T1 hb
        have t0 := isC0B_ok (List.all_eq_true.mp T0 C (List.mem_of_getElem? h1'))
        exact ⟨a, C, dx, b, rfl, by rw [← hC _ _ h1']; exact R1.gh _ _ ea, fun dd z => ⟨fs', R1.gh _ _ (ed dd z)⟩, t0, h2', h1 G1 (.bl b) H1 (.refl _) R1 (.bl b)⟩
    · exact h1.elim
  · exact h1.elim
end
section
variable {P : Program} {w : World} {K : PySem.W.Frag} {mg : Str → Option Value} {base : Heap} {fI C : Addr} {fd : FuncData}
theorem init_fn0 {x qual t : Str} {params : Arguments} {body : List Stmt} {scope : Scope} (F : FunD K x qual params body scope [] [] fI fd) (S : FnScope ["self"] ["self"] scope)
    (walk : ∀ (cdv : Value) (A : Around) (outer : List Env) (s : Shared) (H : Hp) (E : XK), PSs (cxOf (L2.CX P w) P w K mg base ["self"] qual scope fI cdv A outer s H E) body (tDrop (tXi C (tCons (tVar 0) (tCons (tC (.str t)) tNil))))) :
    FnOk P w K mg base (L2.CX P w) 1 fI fd ["self"] (spI0 C) := by
  refine F.ok S (fun vs H Q E h => by obtain ⟨a, rfl, _⟩ := h; rfl) fun cdv A outer s H vs Q E hr h => ⟨_, walk cdv A outer s H E, ?_⟩
  obtain ⟨a, rfl, ea, q⟩ := h
  exact ⟨_, rfl, a, _, rfl, (by decide : 1 ≤ 1000), ea, q⟩
end
end M

/-! enumerate(a list) -/
namespace M
open PySem PySem.Spec PyProof.Rows L2
section
variable {X : Cx} {c : Cfg} {W : WX} {a tg iter : Expr} {m : EM}
theorem yields_enumL {G H : Hp} {p : Addr} {vs : List V} {ds : List D} (h : SqL c.K G p vs) (r : Reps c G vs ds) : Yields c G H (enumD ds) (Ite c.K p) := fun i G1 H1 e1 e2 _ => by
  have hs : SqL c.K H1 p vs := sql_mono (e1.trans e2) h
  have hl : (enumD ds).length = ds.length := by unfold enumD; simp
  rw [hl]
  refine ⟨fun hi => ?_, fun hi => ⟨vs, hs, by rw [r.length]; exact Nat.le_of_eq hi⟩⟩
  have hv : i < vs.length := by rw [r.length]; exact hi
  refine ⟨⟨vs, _, hs, List.getElem?_eq_getElem hv⟩, fun x H' y => ?_⟩
  obtain ⟨T, x', rfl, hT, rfl, y⟩ := y
  obtain ⟨d, hd, rep⟩ := r.getV (y vs hs)
  have g := Gro.newG (o := HO.tup [.int (i : Nat), x']) e2 hT
  refine ⟨.tup [.int (i : Nat), d], ?_, _, g, .tup (.inl (.inl upd_same)) ((Reps.cons (.int _) (.cons (rep.mono e1) .nil)).mono g.gg)⟩
  unfold enumD
  rw [List.getElem?_map, List.getElem?_range hi]
  simp only [Option.map_some, hd, Option.getD_some]
def iEnumL (m : EM) : IM := fun E => (m E).bind fun r E1 => match fzn E1 r with
  | some (.lst ds, E2) => .ok (enumD ds) E2
  | _ => .bad
@[simp] theorem iEnumL_eq (m : EM) (E : Ev) : iEnumL m E = (m E).bd fun r E1 => match fzn E1 r with
  | some (.lst ds, E2) => .ok (enumD ds) E2
  | _ => .bad := rfl
theorem di_enumL (hK : c.K = X.K) (h : ∀ {ta : TA}, PA X [a] ta → PI X tg iter (iEnum X.K ta)) (ha : PE X a (tE c W m)) (hs : starEach [a] X.env = (false, eval a X.env) :: starEach [] X.env := by rfl) : PI X tg iter (tI c W (iEnumL m)) :=
  pi_imp (h (pa_cons ha pa_nil hs)) fun σ H R ⟨f, G, E, Rr, h⟩ => by
    refine tE_sub Rr ?_
    unfold iEnumL at h
    cases q : m E with
    | bad => rw [q] at h; exact h
    | ex x E' => rw [q] at h; exact h
    | ok r E1 =>
      rw [q] at h
      intro G1 v H1 e1 R1 r1
      simp only [Res.bind] at h
      cases q2 : fzn E1 r with
      | none => rw [q2] at h; exact h.elim
      | some p =>
        obtain ⟨d, E2⟩ := p
        rw [q2] at h
        obtain ⟨G2, e2, R2, rep⟩ := R1.frz r1 ((fzn_settle _ _).trans q2)
        cases d with
        | lst ds =>
          cases rep with
          | @lst p vs _ h1 reps => exact ⟨p, vs, rfl, .inl (.inl (R2.gh _ _ h1)), h G2 H1 _ (e1.trans e2) R2 (hK ▸ yields_enumL (.inl (.inl h1)) reps)⟩
        | _ => exact h.elim
end
end M

/-! exact tuples: tuple(a list); dict(such a tuple of pairs); d.values() -/
namespace L2
open PySem PySem.Spec PyProof.Rows
theorem call_tuple_x {X : Cx} : CallR X (.type "tuple") (fun xs H Q => ∃ p ys, xs = [.ref p] ∧ SqL X.K H p ys ∧ ∀ l o, H l = none → o.dict = none → Q (.ref l) (upd H l (.frz o (.tup ys)))) := by
  intro pins s σ H xs us Q I r h
  obtain ⟨p, ys, rfl, hq, q⟩ := h
  obtain ⟨u, rfl, rx⟩ := vals1 r
  cases rx
  obtain ⟨its, r1, pl, hz⟩ := I.list hq
  have many := r1.length
  refine call_tuple_list pl.isList (fun h1 kp => ?_) (by rw [List.size_toArray, ← many]; exact hz)
  have I1 : Inv X pins σ H { s with heap := h1 } := I.kept (t' := s.toks) kp
  have I2 : Inv X pins σ (upd H h1.objs.size (.frz { cls := .type "tuple", data := .seq its.toArray } (.tup ys))) { s with heap := h1.push { cls := .type "tuple", data := .seq its.toArray } } :=
    I1.laid (t' := s.toks) (fun b o e => Heap.get?_push_of_some _ e) (Nat.le_refl _) (show ObjOk X.prog X.w _ _ _ (.frz _ (.tup ys)) from ⟨Heap.get?_push_size _ rfl, hz, its, r1, IsTup.new _ _⟩)
  exact ⟨.ref h1.objs.size, _, I2, rfl, q _ _ (I1.hok.fresh (Nat.le_refl _)) rfl⟩
theorem pairs_vals {h : Heap} : ∀ {prs : List (Key × Value)} {ps : List Addr}, prs.length = ps.length → (∀ (j : Nat) (q : Key × Value), prs[j]? = some q → ∃ (b : Addr) (u : Value), ps[j]? = some b ∧ IsTup h b #[u, q.2] ∧ keyIs q.1 u = true) →
    ∃ pvs : List (Value × Value), pvs.length = ps.length ∧ ∀ (j : Nat) (k v : Value), pvs[j]? = some (k, v) → ∃ b kk, ps[j]? = some b ∧ IsTup h b #[k, v] ∧ prs[j]? = some (kk, v) ∧ keyIs kk k = true
  | [], [], _, _ => ⟨[], rfl, fun j k v e => by simp at e⟩
  | [], _ :: _, e, _ => by simp at e
  | _ :: _, [], e, _ => by simp at e
  | (kk, v) :: prs, b :: ps, e, hp => by
    obtain ⟨pvs, h1, h2⟩ := pairs_vals (prs := prs) (ps := ps) (by simpa using e) fun j q hj => by
      obtain ⟨b', u, e1, e2, e3⟩ := hp (j + 1) q (by simpa using hj)
      exact ⟨b', u, by simpa using e1, e2, e3⟩
    obtain ⟨b', u, e1, e2, e3⟩ := hp 0 (kk, v) rfl
    cases e1
    refine ⟨(u, v) :: pvs, by simp [h1], fun j k x hj => ?_⟩
    cases j with
    | zero =>
      cases hj
      exact ⟨b, kk, rfl, e2, rfl, e3⟩
    | succ j =>
      obtain ⟨b2, k2, f1, f2, f3, f4⟩ := h2 j k x (by simpa using hj)
      exact ⟨b2, k2, by simpa using f1, f2, by simpa using f3, f4⟩
/-- dict(x) of an exact tuple of pairs -/
theorem call_dictT {X : Cx} (hcalm : X.calm = true) : CallR X (.type "dict") (fun xs H Q => ∃ (a : Addr) (ps : List Addr) (kvs : List (Key × V)), xs = [.ref a] ∧ M.XqT X.K H a (ps.map V.ref) ∧ Paired (fun p kv => SqT X.K H p [kV kv.1, kv.2]) ps kvs ∧
    ∀ p, H p = none → Q (.ref p) (upd H p (.dK (mergeK [] kvs)))) := by
  intro pins s σ H xs us Q I r q
  obtain ⟨a, ps, kvs, rfl, ha, hp, q⟩ := q
  obtain ⟨u, rfl, rx⟩ := vals1 r
  cases rx
  obtain ⟨o, its, n, ho, hz, rv, hc, hd, hdat⟩ : ∃ (o : Obj) (its : List Value) (n : Nat), s.heap.get? a = some o ∧ (ps.map V.ref).length ≤ sizeLine ∧ Vals (ps.map V.ref) its ∧ o.cls = .type "tuple" ∧ o.dict = none ∧ o.data = .seq its.toArray n := by
    rcases ha with ⟨o, ha, hd⟩ | ⟨o, its, n, h1, h2, h3, h4, h5, h6⟩
    · obtain ⟨ho, hz, its, rv, ⟨o', ho', hc, n, hdat⟩⟩ := (show ObjOk X.prog X.w H s.heap a (.frz o (.tup (ps.map V.ref))) from I.hok a _ ha)
      rw [ho] at ho'
      cases ho'
      exact ⟨o, its, n, ho, hz, rv, hc, hd, hdat⟩
    · exact ⟨o, its.toList, n, I.kIn a o h1, by rw [h6.length, Array.length_toList]; exact h5, h6, h2, h3, by rw [h4, Array.toArray_toList]⟩
  have ei := refs_at rv
  subst ei
  rw [List.length_map] at hz
  obtain ⟨prs, rel, hl, hpr⟩ := pairs_of I hp
  obtain ⟨pvs, h1, h2⟩ := pairs_vals hl hpr
  have P := PairArg.tuple (prog := X.prog) (w := X.w) a (ps.map Value.ref).toArray (fun j => (ps[j]?).getD 0) pvs
  refine PySem.call_dict_pairs (knd := mixKind X.prog X.w) (kvs := prs) P (I.ok.hd hcalm) ⟨⟨o, n, ho, hc, hd, hdat⟩, by simp [h1], fun j k v hj => ?_⟩ ⟨by rw [hl, h1], fun i k v hr => ?_⟩ (by rw [h1]; exact hz) fun h' tk hd' k => ?_
  · obtain ⟨b, kk, f1, f2, f3, f4⟩ := h2 j k v hj
    exact ⟨by simp [f1], .inl (by show s.heap.IsTuple ((ps[j]?).getD 0) _; rw [f1]; exact f2)⟩
  · obtain ⟨b, kk, f1, f2, f3, f4⟩ := h2 i k v hr
    exact ⟨kk, f3, f4⟩
  · have hm : (s.heap.objs.size == sysModules) = false := beq_eq_false_iff_ne.mpr (Nat.ne_of_gt I.big)
    have hlen : (mergeK [] kvs).length ≤ sizeLine := by
      refine Nat.le_trans (length_mergeK kvs []) ?_
      rw [List.length_nil, Nat.zero_add, rel.length, hl]
      exact hz
    exact ⟨.ref s.heap.objs.size, upd H s.heap.objs.size (.dK (mergeK [] kvs)), I.laid (t' := tk) (fun b o e => k b o (fun z => nomatch z) e) (Nat.le_refl _) (show ObjOk X.prog X.w _ _ _ (.dK (mergeK [] kvs)) from ⟨hlen, hm, merged [] prs, KV.merge rel .nil, hd'⟩), rfl, q _ (I.hok.fresh (Nat.le_refl _))⟩
theorem mergeK_fresh : ∀ {more acc : List (Key × V)}, ((acc ++ more).map (·.1)).Nodup → mergeK acc more = acc ++ more
  | [], acc, _ => by simp [mergeK]
  | kv :: more, acc, h => by
    have f : ¬ (acc.any fun x => decide (x.1 = kv.1)) = true := by
      intro z
      obtain ⟨x, hx, e⟩ := List.any_eq_true.mp z
      have e := of_decide_eq_true e
      rw [List.map_append, List.nodup_append] at h
      exact h.2.2 x.1 (List.mem_map_of_mem hx) kv.1 (by simp) e
    have step : mergeK acc (kv :: more) = mergeK (acc ++ [kv]) more := by
      show mergeK (putK acc kv.1 kv.2) more = _
      unfold putK
      rw [if_neg f]
    rw [step, mergeK_fresh (by simpa using h)]
    simp
/-- the dict is locked from here on -/
theorem pe_locked {X : Cx} {e : Expr} {td : TE} (he : PE X e td) : PE X e (fun σ H Q => td σ H fun x H1 => ∃ d kvs, x = .ref d ∧ H1 d = some (.dK kvs) ∧ ∀ o, Q x (upd H1 d (.frz o (.dK kvs)))) := ⟨fun pins s σ H Q I h => thn (he.run pins s σ H _ I h) fun u s1 ⟨x, H1, I1, rx, d, kvs, ex, hd, q⟩ => by
  obtain ⟨od, I2⟩ := I1.lock hd trivial
  exact ⟨x, _, I2, rx, q od⟩⟩
end L2
namespace M
open PySem PySem.Spec PyProof.Rows L2
/-- tuple(x) of a list -/
def tupleX : List D → Option RV
  | [.lst l] => some (.fz (.tux l))
  | _ => none
def pairsD : List D → Option (List (Int × D))
  | [] => some []
  | .tup [.int k, d] :: l => (pairsD l).map ((k, d) :: ·)
  | _ => none
/-- dict(x) of an exact tuple of pairs whose keys differ -/
def mDictT (ma : AM) : EM := fun E => (ma E).bind fun rs E1 => match fzs E1 rs with
  | some ([.tux l], E2) => match pairsD l with
    | some ks => if (ks.map (·.1)).Nodup then .ok (.ow (.dct (ks.map fun p => (.inl p.1, p.2)))) E2 else .bad
    | none => .bad
  | _ => .bad
@[simp] theorem mDictT_eq (ma : AM) (E : Ev) : mDictT ma E = (ma E).bd fun rs E1 => match fzs E1 rs with
  | some ([.tux l], E2) => match pairsD l with
    | some ks => if (ks.map (·.1)).Nodup then .ok (.ow (.dct (ks.map fun p => (.inl p.1, p.2)))) E2 else .bad
    | none => .bad
  | _ => .bad := rfl
/-- x.values() of an own dict -/
def iValsM (j : Nat) : IM := fun E => match E[j]? with
  | some (.ow (.dct ds)) => .ok (ds.map (·.2)) (E.set j (.fz (.dct ds)))
  | _ => .bad
@[simp] theorem iValsM_eq (j : Nat) (E : Ev) : iValsM j E = match E[j]? with
  | some (.ow (.dct ds)) => .ok (ds.map (·.2)) (E.set j (.fz (.dct ds)))
  | _ => .bad := rfl
section
variable {X : Cx} {c : Cfg} {W : WX}
theorem d_tupleX (hK : c.K = X.K) : CallR X (.type "tuple") (rDn c tupleX) := calld call_tuple_x fun {G H vs ds a Q} e hp q m => by
  unfold tupleX at q
  split at q
  · cases q
    cases hp with
    | cons p1 t =>
      cases t
      obtain ⟨a, ws, rfl, h1, r1⟩ := p1
      refine ⟨_, _, rfl, .inl (.inl h1), fun l o hl hd => ?_⟩
      have g := Gro.newG (o := HO.frz o (.tup ws)) e hl
      exact m _ _ _ g (.tux (.inl ⟨_, upd_same, hd⟩) (r1.mono g.gg))
  · cases q
theorem pairs_reps {G : Hp} : ∀ {l : List D} {ws : List V} {ks : List (Int × D)}, Reps c G ws l → pairsD l = some ks →
    ∃ (ps : List Addr) (kvs : List (Key × V)), ws = ps.map V.ref ∧ Paired (fun p kv => SqT c.K G p [kV kv.1, kv.2]) ps kvs ∧ kvs.map (·.1) = ks.map (fun p => Sum.inl p.1) ∧ Reps c G (kvs.map (·.2)) (ks.map (·.2))
  | [], _, ks, h, q => by
    cases h
    cases q
    exact ⟨[], [], rfl, .nil, rfl, .nil⟩
  | d :: l, _, ks, h, q => by
    unfold pairsD at q
    split at q
    · cases ‹_ :: _ = []›
    · rename_i k d' l' e
      cases e
      cases z : pairsD l with
      | none => rw [z] at q; cases q
      | some ks' =>
        rw [z] at q
        cases q
        cases h with
        | cons r t =>
          obtain ⟨ps, kvs, h1, h2, h3, h4⟩ := pairs_reps t z
          subst h1
          cases r with
          | @tup a vs _ hs rr =>
            cases rr with
            | cons r1 rr =>
              cases r1
              cases rr with
              | @cons v _ _ _ r2 rr =>
                cases rr
                exact ⟨a :: ps, (.inl k, v) :: kvs, rfl, .cons hs h2, by simp [h3], .cons r2 h4⟩
    · cases q
theorem de_dictT {x : Str} {e : Expr} {p pos : Pos} {ma : AM} (hK : c.K = X.K) (hcalm : X.calm = true) (hg : Gl X x) (hm : X.mg x = none) (hv : bootBuiltins x = some (.type "dict")) (ha : PA X [e] (tA c W ma)) (hn : x ≠ "__name__" := by decide) (hdb : (x == ("__debug__" : Str)) = false := by decide)
    (he : starEach [e] X.env = (false, eval e X.env) :: starEach [] X.env := by rfl) (hpl : (backTo pos (starEach [] X.env)).any (·.1) = false := by rfl) : PE X (.Call (.Name x p) [e] [] pos) (tE c W (mDictT ma)) :=
  pe_imp (pe_callTy (call_dictT hcalm) hg hm hv ha hn hdb he hpl) fun σ H Q ⟨f, G, E, R, h⟩ => by
    refine tA_bindE R h fun rs E1 G1 vs H1 e1 R1 r1 h1 => ?_
    split at h1
    · rename_i l E2 hf
      split at h1
      · rename_i ks hk
        split at h1
        · rename_i hnd
          obtain ⟨G2, e2, R2, rep⟩ := fzs_rep R1 r1 hf
          cases rep with
          | cons rv t =>
            cases t
            cases rv with
            | @tux a ws _ hs rr =>
              obtain ⟨ps, kvs, h3, h4, h5, h6⟩ := pairs_reps rr hk
              subst h3
              have mk : mergeK [] kvs = kvs := by
                have := mergeK_fresh (acc := []) (more := kvs) (by
                  rw [List.nil_append, h5, show (ks.map fun p => (Sum.inl p.1 : Key)) = (ks.map (·.1)).map Sum.inl by rw [List.map_map]; rfl]
                  exact List.Pairwise.map _ (fun a b hab z => hab (Sum.inl.inj z)) hnd)
                simpa using this
              refine ⟨a, ps, kvs, rfl, hK ▸ hs.mono R2.gh, Paired.mapP h4 (fun p kv z => hK ▸ sqt_mono R2.gh z), fun p hp => ?_⟩
              rw [mk]
              have g := Gro.newH (o := HO.dK kvs) R2.gh hp
              exact h1 _ _ _ e2 (R2.gro g) (RelN.rel (r := .ow (.dct (ks.map fun p => (.inl p.1, p.2)))) R2 ⟨p, rfl, ⟨kvs, upd_same, by rw [h5, List.map_map]; rfl, by rw [List.map_map]; exact h6⟩, none_of R2.gh hp, hp⟩)
        · exact h1.elim
      · exact h1.elim
    · exact h1.elim
theorem RS.lockSlot {f : Fr} {G : Hp} {E : Ev} {σ : L2.St} {H : Hp} (R : RS c f G E σ H) {i : Nat} {ds : List (Key × D)} {p : Addr} {kvs : List (Key × V)} (o : Obj) (h : E[i]? = some (Slot.ow (.dct ds))) (hv : σ[i]? = some (some (.ref p))) (hp : H p = some (.dK kvs)) :
    ∃ G', Same G G' ∧ RS c f G' (E.set i (Slot.fz (.dct ds))) σ (upd H p (.frz o (.dK kvs))) ∧ G' p = some (.frz o (.dK kvs)) ∧ kvs.map (·.1) = ds.map (·.1) ∧ Reps c G' (kvs.map (·.2)) (ds.map (·.2)) := by
  obtain ⟨p', h1, ⟨kvs', h5, h6, h7⟩, hg, h0⟩ := R.ow i _ h
  rw [hv] at h1
  cases h1
  rw [hp] at h5
  cases h5
  have e : Same G (upd G p (.frz o (.dK kvs))) := fun b u hb => by rw [upd_ne (ne_of_none hb hg)]; exact hb
  have oi : Own E σ i p := ⟨⟨_, .inl h⟩, hv⟩
  have rp : Rep c (upd G p (.frz o (.dK kvs))) (.ref p) (.dct ds) := .dct (.inr ⟨o, upd_same⟩) h6 (h7.mono e)
  refine ⟨upd G p (.frz o (.dK kvs)), e, ?_, upd_same, h6, h7.mono e⟩
  exact {
    gh := fun b u hb => by
      by_cases z : b = p
      · subst z; rw [upd_same] at hb ⊢; exact hb
      · rw [upd_ne z] at hb ⊢; exact R.gh b u hb
    g0 := R.g0.trans e
    new := fun b u hb => by
      by_cases z : b = p
      · subst z; exact .inr h0
      · rw [upd_ne z] at hb; exact R.new b u hb
    fr := fun a u ha hb => by
      rw [upd_ne (fun z => by rw [z, h0] at ha; cases ha)]
      exact R.fr a u ha hb
    len := by rw [List.length_set]; exact R.len
    fz := fun j d h => by
      rcases get_set h with ⟨rfl, z⟩ | ⟨n, z⟩
      · cases z; exact ⟨_, hv, rp⟩
      · obtain ⟨v, h1, h2⟩ := R.fz j d z
        exact ⟨v, h1, h2.mono e⟩
    ow := fun j m' h => by
      rcases get_set h with ⟨_, z⟩ | ⟨n, hz⟩
      · cases z
      obtain ⟨q, h1, h2, h3, h4⟩ := R.ow j m' hz
      have z : q ≠ p := fun z => R.dis i j p n oi ⟨⟨m', .inl hz⟩, by rw [← z]; exact h1⟩
      exact ⟨q, h1, h2.mono e (upd_ne z), by rw [upd_ne z]; exact h3, h4⟩
    bo := fun j m' h => by
      rcases get_set h with ⟨_, z⟩ | ⟨n, hz⟩
      · cases z
      obtain ⟨q, h1, h2, h3, h4⟩ := R.bo j m' hz
      have z : q ≠ p := fun z => R.dis i j p n oi ⟨⟨m', .inr hz⟩, by rw [← z]; exact h1⟩
      exact ⟨q, h1, h2.mono e (upd_ne z), by rw [upd_ne z]; exact h3, h4⟩
    bos := fun j q hq => by
      obtain ⟨m', hm⟩ := R.bos j q hq
      have n : i ≠ j := fun z => by subst z; rw [h] at hm; cases hm
      exact ⟨m', by rw [List.getElem?_set_ne n]; exact hm⟩
    dis := fun j k q n a b => R.dis j k q n (own_set_fz a).2 (own_set_fz b).2
    inv := c.mono e R.inv
    xv := fun j h => by
      rcases get_set h with ⟨_, z⟩ | ⟨n, z⟩
      · cases z
      · exact R.xv j z }
theorem yields_vals {G H : Hp} {p : Addr} {o : Obj} {kvs : List (Key × V)} {ds : List D} (h : G p = some (.frz o (.dK kvs))) (r : Reps c G (kvs.map (·.2)) ds) : Yields c G H ds (Itd p o kvs) := fun i G1 H1 e1 e2 _ => by
  have hs : H1 p = some (.frz o (.dK kvs)) := e2 _ _ (e1 _ _ h)
  have hl : kvs.length = ds.length := by rw [← r.length, List.length_map]
  refine ⟨fun hi => ⟨⟨hs, by omega⟩, fun x H' y => ?_⟩, fun hi => ⟨hs, by omega⟩⟩
  obtain ⟨rfl, k, hk⟩ := y
  obtain ⟨d, hd, rep⟩ := r.getV (i := i) (v := x) (by rw [List.getElem?_map, hk]; rfl)
  exact ⟨d, hd, G1, .refl e2, rep.mono e1⟩
theorem di_vals {x : Str} {p0 apos cpos : Pos} {j : Nat} {tg : Expr} (hv : PE X (.Name x p0) (tVar j)) (hbase : attributeBase (.Name x p0) "values" X.env (eval (.Name x p0) X.env) = eval (.Name x p0) X.env := by rfl) (hline : (apos.endLine == cpos.line) = true := by rfl) :
    PI X tg (.Call (.Attribute (.Name x p0) "values" apos) [] [] cpos) (tI c W (iValsM j)) := pi_imp (pi_values (pe_locked hv) hbase hline) fun σ H R ⟨f, G, E, Rr, h⟩ => by
  by_cases hx : ∃ ds, E[j]? = some (Slot.ow (.dct ds))
  · obtain ⟨ds, hj⟩ := hx
    have e1 : iValsM j E = .ok (ds.map (·.2)) (E.set j (.fz (.dct ds))) := by unfold iValsM; rw [hj]
    rw [e1] at h
    obtain ⟨p, h1, ⟨kvs, h5, h6, h7⟩, hg, h0⟩ := Rr.ow j _ hj
    refine ⟨.ref p, h1, p, kvs, rfl, h5, fun o => ?_⟩
    obtain ⟨G', e, R', k1, k2, k3⟩ := Rr.lockSlot o hj h1 h5
    exact ⟨p, o, kvs, rfl, upd_same, h G' _ _ e R' (yields_vals k1 k3)⟩
  · have e1 : iValsM j E = .bad := by
      unfold iValsM
      split
      · rename_i ds hj
        exact absurd ⟨ds, hj⟩ hx
      · rfl
    rw [e1] at h
    exact h.elim
end
end M

/-! a def with one parameter *v, called with nothing -/
namespace M
open PySem PySem.Spec PyProof.Rows L2
section
variable {X : Cx} {c : Cfg} {W : WX} {F : FM} {k kX : Nat} {x : Str} {p pos : Pos}
theorem de_callS0 (C : CalS X.prog X.w X.K X.mg X.base c x k F) (hr : Room kX X.A) (hk : k ≤ kX) (hg : Gl X x) (tk : Takes X W) (hdb : (x == ("__debug__" : Str)) = false := by decide) : PE X (.Call (.Name x p) [] [] pos) (tE c W (mFnD (starF F) [] aNil)) := by
  obtain ⟨f, h1, h2, h3⟩ := C.ex
  refine pe_imp (t := tCallSD (spM c 0 (starF F)) [] (WE W) (tA c W aNil)) ⟨fun pins s σ H Q I h => ?_⟩ fun _ _ _ q => fnD_read (fun _ => .nil) (fun {E E1 rs} h => by cases h; rfl) q
  have q : spM c 0 (starF F) [] H Q (WE W σ) := by
    obtain ⟨f', G, E, R, h⟩ := h
    exact h G [] H (.refl _) R .nil
  refine wpAny_Call_Name_kw (ld_glob I hg h1 (PySem.W.callWith_K0 I.kIn h2 ?_) hdb)
  refine wpAny_call (codeAny_mono (h3 X.A X.stack s H [] [] Q (WE W σ) (hr.mono hk) I.env0 .nil ⟨0, q⟩) fun r s1 out => ?_)
  match r, out with
  | .error e, out => exact passAt tk σ pins H s e s1 I out
  | .ok (.ret u), out => exact I.after out
  | .ok .next, out => exact False.elim out
  | .ok .brk, out => exact False.elim out
  | .ok .cont, out => exact False.elim out
end
end M

/-! is, is not of bools -/
namespace M
open PySem PySem.Spec PyProof.Rows L2
section
variable {X : Cx} {c : Cfg}
def isB2 : D → D → Option RV
  | .bl a, .bl b => some (.fz (.bl (decide (a = b))))
  | _, _ => none
def isNotB2 : D → D → Option RV
  | .bl a, .bl b => some (.fz (.bl (!decide (a = b))))
  | _, _ => none
theorem d_isB2 : OpR X (compareOp .Is) (rD c isB2) := opr_imp op_isBl fun x y H Q ⟨G, a, b, r, e, ha, hb, q, m⟩ => by
  unfold isB2 at q
  split at q
  · cases q
    have h1 := Pk.rep e ha
    have h2 := Pk.rep e hb
    cases h1
    cases h2
    exact ⟨_, _, rfl, rfl, m.flat e (.bl _)⟩
  · cases q
theorem d_isNotB2 : OpR X (compareOp .IsNot) (rD c isNotB2) := opr_imp op_notBl fun x y H Q ⟨G, a, b, r, e, ha, hb, q, m⟩ => by
  unfold isNotB2 at q
  split at q
  · cases q
    have h1 := Pk.rep e ha
    have h2 := Pk.rep e hb
    cases h1
    cases h2
    exact ⟨_, _, rfl, rfl, m.flat e (.bl _)⟩
  · cases q
end
end M

/-! objects of own classes: attributes, properties, methods, making -/
namespace M
open PySem PySem.Spec PyProof.Rows L2
def putA (f : Str) (d : D) : List (Str × D) → List (Str × D)
  | [] => [(f, d)]
  | (g, x) :: r => if g = f then (g, d) :: r else (g, x) :: putA f d r
theorem putF_two {c : Cfg} {G : Hp} {f : Str} {v : V} {d : D} (r : Rep c G v d) : ∀ {a : List (Str × V)} {b : List (Str × D)}, a.map (·.1) = b.map (·.1) → Reps c G (a.map (·.2)) (b.map (·.2)) → (putF f v a).map (·.1) = (putA f d b).map (·.1) ∧ Reps c G ((putF f v a).map (·.2)) ((putA f d b).map (·.2))
  | [], [], _, _ => ⟨rfl, .cons r .nil⟩
  | [], _ :: _, e, _ => by cases e
  | _ :: _, [], e, _ => by cases e
  | (g, x) :: a, (g', x') :: b, e, h => by
    rw [List.map_cons, List.map_cons] at e
    injection e with e1 e2
    simp only at e1
    subst e1
    rw [List.map_cons, List.map_cons] at h
    cases h with
    | cons h1 h2 =>
    unfold putF putA
    by_cases z : g = f
    · rw [if_pos z, if_pos z]
      exact ⟨by rw [List.map_cons, List.map_cons, e2], .cons r h2⟩
    · rw [if_neg z, if_neg z]
      obtain ⟨i1, i2⟩ := putF_two r e2 h2
      exact ⟨by rw [List.map_cons, List.map_cons, i1], .cons h1 i2⟩
theorem RS.pk_ins {c : Cfg} {f : Fr} {G H : Hp} {E : Ev} {σ : L2.St} {v : V} {r : RV} {k : Nat} {fs : List (Str × D)} (R : RS c f G E σ H) (h : RelR c f G E σ H v r) (e : M.pk E r = some (.ins k fs)) :
    ∃ (a dx : Addr) (gs : List (Str × V)), v = .ref a ∧ H a = some (.ins (c.ct k) dx gs) ∧ gs.map (·.1) = fs.map (·.1) ∧ Reps c G (gs.map (·.2)) (fs.map (·.2)) := R.pk h e
/-- e.f, an attribute of an instance of one of the classes ns -/
def mFld (ns : List Nat) (f : Str) (m : EM) : EM := fun E => (m E).bind fun r E1 => match pk E1 r.settle with
  | some (.ins k fs) => if k ∈ ns then match fs.lookup f with
    | some d => .ok (.fz d) E1
    | none => .bad
    else .bad
  | _ => .bad
/-- x.f = e, x a thing of its own -/
def sFldM (ns : List Nat) (j : Nat) (f : Str) (m : EM) : SM := fun E => (m E).out fun r E1 => match fzn E1 r with
  | some (d, E2) => match own E2 j with
    | some (.ins k fs) => if k ∈ ns ∧ fs.length < 1000 then .nx (setOwn E2 j (.ins k (putA f d fs))) else .bad
    | _ => .bad
  | none => .bad
/-- given up at once -/
def mFrz (m : EM) : EM := fun E => (m E).bind fun r E1 => match fzn E1 r with
  | some (d, E2) => .ok (.fz d) E2
  | none => .bad
/-- the object and the arguments of a method nm of the class n; it has no attribute of that name -/
def aSelf (n : Nat) (nm : Str) (mo : EM) (ma : AM) : AM := fun E => (mo E).bind fun r E1 => match pk E1 r.settle with
  | some (.ins k fs) => if k = n ∧ fs.lookup nm = none then (ma E1).bind fun rs E2 => .ok (r.settle :: rs) E2 else .bad
  | _ => .bad
def mMeth (n : Nat) (nm : Str) (F : FM) (dds : List D) (mo : EM) (ma : AM) : EM := mFnD F dds (aSelf n nm mo ma)
/-- C(..): a new instance, then __init__ -/
def mMake (n : Nat) (F : FM) (dds : List D) (ma : AM) : EM := fun E => (ma E).bind fun rs E1 => match fzs E1 rs with
  | some (ds, E2) => match F (.bo (.ins n []) :: (ds ++ dds).map .fz) with
    | .ok (.fz .non) (.bo m :: _) => .ok (.ow m) E2
    | .ex x (.bo _ :: _) => .ex x E2
    | _ => .bad
  | none => .bad
theorem lookup_none {β γ : Type} {f : Str} : ∀ {a : List (Str × β)} {b : List (Str × γ)}, a.map (·.1) = b.map (·.1) → b.lookup f = none → a.lookup f = none
  | [], [], _, h => rfl
  | [], _ :: _, e, _ => by cases e
  | _ :: _, [], e, _ => by cases e
  | (g, v) :: a, (g', d') :: b, e, h => by
    rw [List.map_cons, List.map_cons] at e
    injection e with e1 e2
    simp only at e1
    subst e1
    rw [List.lookup] at h ⊢
    split at h
    · cases h
    · rename_i z
      exact lookup_none e2 h
section
variable {X : Cx} {c : Cfg} {W : WX} {e o : Expr} {es : List Expr} {f nm : Str} {m mo : EM} {mr : AM} {pos pos' apos p p0 : Pos} {ns : List Nat} {n : Nat}
theorem de_frz (he : PE X e (tE c W m)) : PE X e (tE c W (mFrz m)) := pe_imp he fun σ H Q ⟨f', G, E, R, h⟩ => by
  refine tE_raw R ?_
  have h := postE_bind h
  cases q : m E with
  | ok r E' =>
    rw [q] at h
    intro G' v H' e R' rel
    have h := postE_mono e h
    split at h
    · rename_i d E2 q2
      obtain ⟨G2, e2, R2, rep⟩ := R'.frz rel q2
      exact h G2 v H' e2 R2 rep
    · exact h.elim
  | ex x E' => rw [q] at h; exact h
  | bad => rw [q] at h; exact h
theorem de_fld (hc : ∀ n, n ∈ ns → Cls X.K (c.ct n) ∧ NoAttr X.K (c.ct n) f) (he : PE X e (tE c W m)) (hb : attributeBase e f X.env (eval e X.env) = eval e X.env := by rfl) : PE X (.Attribute e f pos) (tE c W (mFld ns f m)) := pe_imp (pe_fld he hb) fun σ H Q ⟨f', G, E, R, h⟩ => by
  refine tE_bindE R h fun r E1 G1 v H1 e1 R1 r1 h1 => ?_
  split at h1
  · rename_i k fs hp
    split at h1
    · rename_i hk
      split at h1
      · rename_i d hl
        obtain ⟨a, dx, gs, rfl, ea, ek, reps⟩ := R1.pk_ins r1 hp
        obtain ⟨w, l1, i, l2, l3⟩ := lookup_two ek hl
        obtain ⟨u, g1, g2⟩ := reps.get l3
        rw [l2] at g1
        cases g1
        exact ⟨a, _, dx, gs, w, rfl, ea, (hc k hk).1, (hc k hk).2, l1, h1 G1 w H1 (.refl _) R1 g2⟩
      · exact h1.elim
    · exact h1.elim
  · exact h1.elim
theorem ds_fld {x : Str} {j : Nat} (hc : ∀ n, n ∈ ns → Cls X.K (c.ct n) ∧ NoAttr X.K (c.ct n) f) (hv : PE X (.Name x p0) (tVar j)) (he : PE X e (tE c W m)) (hs : swapsWith e (some (.Attribute (.Name x p0) f pos')) pos.line X.env = pure false := by rfl) :
    PS X (.Assign [.Attribute (.Name x p0) f pos'] e pos) (tS c W (sFldM ns j f m)) := ps_imp (ps_fld hv he hs) fun Dn σ H ⟨f', G, E, R, h⟩ =>
  tE_outS R h fun r E1 G1 v H1 e1 R1 r1 h1 => by
    split at h1
    · rename_i d E2 q
      obtain ⟨G2, e2, R2, rep⟩ := R1.frz r1 q
      split at h1
      · rename_i k fs q0
        split at h1
        · rename_i hk
          obtain ⟨p, hs0, ho0, he0, _⟩ := R2.own q0
          obtain ⟨dx, gs, ea, ek, reps⟩ := ho0
          obtain ⟨i1, i2⟩ := putF_two (f := f) rep ek reps
          have lg : gs.length = fs.length := by simpa using congrArg List.length ek
          refine ⟨_, hs0, p, _, dx, gs, rfl, ea, (hc k hk.1).1, (hc k hk.1).2, by rw [lg]; exact hk.2, ?_⟩
          exact h1 G2 σ _ e2 (R2.setOwn hs0 he0 ⟨dx, _, upd_same, i1, i2⟩)
        · exact h1.elim
      · exact h1.elim
    · exact h1.elim
/-! ### methods -/
/-- a method at a place: nm of the class n -/
structure CalM (X : Cx) (c : Cfg) (n : Nat) (nm : Str) (ps : List Str) (np : Nat) (F : FM) (dds : List D) : Prop where
  cls : Cls X.K (c.ct n)
  ex : ∃ (f : Addr) (fd : FuncData) (ds : List Value) (dvs : List V), Meth X.K (c.ct n) nm f ∧ FnAt X.prog X.w X.K X.mg X.base (L2.CX X.prog X.w) X.A f fd ps (spM c np F) ∧ Binds X.K fd ps ds ∧ Vals dvs ds ∧ ∀ G, Reps c G dvs dds
theorem self_read {σ : L2.St} {H : Hp} {Q : List V → Hp → Prop} (h : tA c W (aSelf n nm mo mr) σ H Q) : tE c W mo σ H fun x H1 => ∃ a dx fs, x = .ref a ∧ H1 a = some (.ins (c.ct n) dx fs) ∧ fs.lookup nm = none ∧ tA c W mr σ H1 fun vs H2 => Q (x :: vs) H2 := by
  obtain ⟨f', G, E, R, h⟩ := h
  refine tE_bindA R h fun r E1 G1 v H1 e1 R1 r1 h1 => ?_
  split at h1
  · rename_i k fs hp
    split at h1
    · rename_i hk
      obtain ⟨rfl, hl⟩ := hk
      obtain ⟨a, dx, gs, rfl, ea, ek, reps⟩ := R1.pk_ins r1 hp
      refine ⟨a, dx, gs, rfl, ea, lookup_none ek hl, ?_⟩
      refine tA_bindA R1 h1 fun rs E2 G2 vs H2 e2 R2 r2 h2 => ?_
      exact h2 G2 _ H2 (.refl _) R2 (.cons (settle_settle _) (r1.mono_settled e2) r2)
    · exact h1.elim
  · exact h1.elim
theorem aSelf_len {np : Nat} (hn : ∀ {E E1 : Ev} {rs}, mr E = .ok rs E1 → rs.length = np) {E E1 : Ev} {rs : List RV} (h : aSelf n nm mo mr E = .ok rs E1) : rs.length = np + 1 := by
  unfold aSelf at h
  cases q : mo E with
  | bad => rw [q] at h; cases h
  | ex x E' => rw [q] at h; cases h
  | ok r E' =>
    rw [q] at h
    simp only [Res.bind] at h
    split at h
    · split at h
      · cases q2 : mr E' with
        | bad => rw [q2] at h; cases h
        | ex x E' => rw [q2] at h; cases h
        | ok rs' E'' =>
          rw [q2] at h
          cases h
          simp [hn q2]
      · cases h
    · cases h
variable {F : FM} {dds : List D} {np : Nat} {ps : List Str} {pl : Sem Bool}
/-- o.nm(e, ..) -/
theorem de_meth (C : CalM X c n nm ps np F dds) (tk : Takes X W) (ho : PE X o (tE c W mo)) (ha : PA X (e :: es) (tA c W mr)) (hn : ∀ {E E1 : Ev} {rs}, mr E = .ok rs E1 → rs.length + 1 + dds.length = np)
    (hst : starEach (e :: es) X.env = (false, eval e X.env) :: starEach es X.env := by rfl) (hpl : (backTo pos (starEach es X.env)).any (·.1) = false := by rfl)
    (ht : eval (.Call (.Attribute o nm apos) (e :: es) [] pos) X.env = (do
      let ov ← eval o X.env
      standAt apos.atName
      let (f, first) ← holding [ov] (getMethod ov nm pl)
      callWith pos f first (backTo pos (starEach (e :: es) X.env)) (backToKw pos (keywordEach [] X.env))) := by rfl) : PE X (.Call (.Attribute o nm apos) (e :: es) [] pos) (tE c W (mMeth n nm F dds mo mr)) := by
  obtain ⟨c1, f, fd, ds, dvs, h1, h3, h4, h5, h6⟩ := C
  constructor
  intro pins s σ H Q I h
  have hs := self_read (fnD_read (c := c) (n := np) (dvs := dvs) h6 (fun {E E1 rs} q => by
    have : ∀ {E E1 : Ev} {rs}, mr E = .ok rs E1 → rs.length = rs.length := fun _ => rfl
    unfold aSelf at q
    cases q1 : mo E with
    | bad => rw [q1] at q; cases q
    | ex x E' => rw [q1] at q; cases q
    | ok r E' =>
      rw [q1] at q
      simp only [Res.bind] at q
      split at q
      · split at q
        · cases q2 : mr E' with
          | bad => rw [q2] at q; cases q
          | ex x E' => rw [q2] at q; cases q
          | ok rs' E'' =>
            rw [q2] at q
            cases q
            simpa using hn q2
        · cases q
      · cases q) h)
  refine PySem.W.methodCall_KW (pl := pl) (thn (ho.run pins s σ H _ I hs) fun u s1 ⟨x, H1, I1, rx, a, dx, fs, ex, ea, l, q⟩ => ?_) ht
  subst ex
  obtain rfl : u = Value.ref a := rx
  refine getmeth_ok I1 ea c1 h1 l ?_
  refine PySem.W.callWith_K (first := [.ref a]) (h₀ := X.base) I1.ok.mod.kin h1.kp (thn (ha.run pos pins s1 σ H1 _ I1 q) fun us s2 ⟨vs, H2, I2, r, q2⟩ => ⟨I2.kIn, ?_⟩) hst hpl
  have rr : Vals ((V.ref a :: vs) ++ dvs) ((Value.ref a :: us) ++ ds) := (show Vals (V.ref a :: vs) (Value.ref a :: us) from .cons rfl r).append h5
  have many : ((Value.ref a :: us) ++ ds).length = ps.length := rr.length.symm.trans (h3.len _ _ _ _ q2)
  exact runA (args := ⟨Value.ref a :: us, []⟩) h3 (h4 s2 (Value.ref a :: us) I2.kIn many) (passAt tk σ) I2 rr q2
end
end M

/-! objects of own classes: C(..), properties -/
namespace M
open PySem PySem.Spec PyProof.Rows L2
section
variable {X : Cx} {CX : CXT} {k : Nat} {f C : Addr} {fd : FuncData} {ps : List Str} {sp : Sp} {dvs : List V} {ds : List Value} {E : XK}
theorem run_makeS {pins : List (Addr × Obj)} {σ : L2.St} {H : Hp} {s : Shared} {Q : VK} {us : List Value} {vs : List V} (M : Mk X.K C f) (F : FnOk X.prog X.w X.K X.mg X.base CX k f fd ps sp) (hr : Room (k + 1) X.A) (hb : Binds X.K fd ps ds) (hd : Vals dvs ds)
    (hx : PassesAt CX X σ E) (I : Inv X pins σ H s) (r : Vals vs us)
    (h : ∀ x dx, H x = none → H dx = none → dx ≠ x → sp (.ref x :: (vs ++ dvs)) (upd (upd H dx (.own x)) x (.ins C dx [])) (fun v H2 => v = .non ∧ Q (.ref x) H2) E) :
    wpAny (model X.prog X.w) X.A (call (.ref C) us) (EP X pins σ Q) X.xe s := by
  have hq := h (s.heap.objs.size + 1) s.heap.objs.size (I.hok.fresh (Nat.le_succ _)) (I.hok.fresh (Nat.le_refl _)) (Nat.ne_of_lt (Nat.lt_succ_self _))
  have I2 := Inv.made (C := C) I
  have r2 : Vals (V.ref (s.heap.objs.size + 1) :: (vs ++ dvs)) (Value.ref (s.heap.objs.size + 1) :: (us ++ ds)) := .cons rfl (r.append hd)
  have hl : (Value.ref (s.heap.objs.size + 1) :: us ++ ds).length = ps.length := by
    have e := r2.length
    rw [F.len _ _ _ _ hq] at e
    exact e.symm
  refine wpAny_call (make_map (f := f) I.kIn M.makes M.init (beq_iff_eq.mp M.fn) (codeAny_mono (F.run _ X.stack _ _ ⟨Value.ref (s.heap.objs.size + 1) :: us, []⟩ (Value.ref (s.heap.objs.size + 1) :: (us ++ ds)) _ _ E (hr.make C us [])
    (I2.env0.make C us []) (hb _ (Value.ref (s.heap.objs.size + 1) :: us) I2.kIn hl) r2 hq) fun r s' hq' => ?_))
  cases r with
  | error e => exact hx pins _ _ e s' I2 hq'
  | ok fl =>
    cases fl with
    | ret u =>
      obtain ⟨v, H', I3, rv, ev, q3⟩ := I2.after hq'
      subst ev
      exact ⟨rv, ⟨V.ref (s.heap.objs.size + 1), H', I3, rfl, q3⟩⟩
    | next => exact False.elim hq'
    | brk => exact False.elim hq'
    | cont => exact False.elim hq'
end
/-- a class at a place, its __init__ -/
structure CalC (X : Cx) (c : Cfg) (n : Nat) (ps : List Str) (np : Nat) (F : FM) (dds : List D) : Prop where
  ex : ∃ (k : Nat) (f : Addr) (fd : FuncData) (ds : List Value) (dvs : List V), Mk X.K (c.ct n) f ∧ FnOk X.prog X.w X.K X.mg X.base (L2.CX X.prog X.w) k f fd ps (spM c np F) ∧ Room (k + 1) X.A ∧ Binds X.K fd ps ds ∧ Vals dvs ds ∧ ∀ G, Reps c G dvs dds
section
variable {X : Cx} {c : Cfg} {W : WX} {e o : Expr} {es : List Expr} {x nm : Str} {m mo : EM} {mr : AM} {pos pos' apos p p0 : Pos} {n np : Nat} {F : FM} {dds : List D} {ps : List Str}
theorem make_read {σ : L2.St} {H : Hp} {Q : VK} {dvs : List V} (hd : ∀ G, Reps c G dvs dds) (hn : ∀ {E E1 : Ev} {rs}, mr E = .ok rs E1 → rs.length + 1 + dds.length = np) (h : tE c W (mMake n F dds mr) σ H Q) :
    tA c W mr σ H fun vs H1 => ∀ x dx, H1 x = none → H1 dx = none → dx ≠ x → spM c np F (.ref x :: (vs ++ dvs)) (upd (upd H1 dx (.own x)) x (.ins (c.ct n) dx [])) (fun v H2 => v = .non ∧ Q (.ref x) H2) (WE W σ) := by
  obtain ⟨f, G, E, R, h⟩ := h
  refine ⟨f, G, E, R, ?_⟩
  unfold mMake at h
  cases q : mr E with
  | bad => rw [q] at h; exact h
  | ex x E1 => rw [q] at h; exact h
  | ok rs E1 =>
    rw [q] at h
    intro G1 vs H1 e1 R1 r1 x dx nx nd ne
    have h := postE_mono e1 h
    simp only [Res.bind] at h
    cases q2 : fzs E1 rs with
    | none => rw [q2] at h; exact h.elim
    | some pr =>
      obtain ⟨ds, E2⟩ := pr
      rw [q2] at h
      simp only at h
      obtain ⟨G2, e2, R2, rep⟩ := fzs_rep R1 r1 q2
      have rep2 := rep.append (hd G2)
      have hh : Same H1 (upd (upd H1 dx (.own x)) x (.ins (c.ct n) dx [])) := fun a o ha => by
        rw [upd_ne (ne_of_none ha nx), upd_ne (ne_of_none ha nd)]
        exact ha
      have gx : G2 x = none := by
        cases z : G2 x with
        | none => rfl
        | some o => have := R2.gh _ _ z; rw [nx] at this; cases this
      have g0 : Gro G2 H1 G2 (upd (upd H1 dx (.own x)) x (.ins (c.ct n) dx [])) := ⟨hh, .refl _, R2.gh.trans hh, fun a o z => .inl z⟩
      have R3 := R2.gro g0
      have ho : OwnRel c G2 (upd (upd H1 dx (.own x)) x (.ins (c.ct n) dx [])) x (.ins n []) := ⟨dx, [], upd_same, rfl, .nil⟩
      refine ⟨by rw [List.length_cons, rep2.length, List.length_append, fzs_len q2]; have := hn q; omega, G2, .bo (.ins n []) :: (ds ++ dds).map .fz, ?_, R3.calleeB rep2 ho gx, ?_⟩
      · rw [List.all_cons, List.all_map]
        exact (Bool.and_eq_true _ _).mpr ⟨rfl, List.all_eq_true.mpr fun _ _ => rfl⟩
      -- behind the call: everything but x as it was
      have back : ∀ {G4 : Hp} {σ4 : L2.St} {H4 : Hp} {m' : MO} {E4 : Ev}, RS c (startF G2 (upd (upd H1 dx (.own x)) x (.ins (c.ct n) dx [])) (.bo (.ins n []) :: (ds ++ dds).map .fz) (.ref x :: (vs ++ dvs))) G4 (.bo m' :: E4) σ4 H4 →
          Gro G2 H1 G4 H4 ∧ OwnRel c G4 H4 x m' ∧ G4 x = none := fun {G4 σ4 H4 m' E4} R4 => by
        obtain ⟨q, _, hq2, hq3, hq4⟩ := R4.bo 0 m' rfl
        have hq4 : boOf (.bo (.ins n []) :: (ds ++ dds).map Slot.fz) (.ref x :: (vs ++ dvs)) 0 = some q := hq4
        cases hq4
        refine ⟨⟨fun a o ha => ?_, R4.g0, R4.gh, fun a o ha => ?_⟩, hq2, hq3⟩
        · refine R4.fr a o (hh a o ha) fun i z => ?_
          have z : boOf (.bo (.ins n []) :: (ds ++ dds).map Slot.fz) (.ref x :: (vs ++ dvs)) i = some a := z
          rw [boOf_bo] at z
          dsimp only at z
          split at z
          · cases z
            rw [nx] at ha
            cases ha
          · cases z
        · rcases R4.new a o ha with z | z
          · refine .inl ?_
            have z : G2 a ≠ none := z
            cases q : G2 a with
            | none => exact absurd q z
            | some u =>
              have := R4.g0 a u q
              rw [ha] at this
              cases this
              rfl
          · refine .inr ?_
            have z : (upd (upd H1 dx (.own x)) x (.ins (c.ct n) dx [])) a = none := z
            cases y : H1 a with
            | none => rfl
            | some o' => have := hh _ _ y; rw [z] at this; cases this
      have none' : ∀ i, ¬ Own E2 σ i x := fun i o => by
        obtain ⟨_, m1, hm1⟩ := R2.ownG o
        obtain ⟨u, hu⟩ := hm1.there
        rw [nx] at hu
        cases hu
      cases q3 : F (.bo (.ins n []) :: (ds ++ dds).map .fz) with
      | bad => rw [q3] at h; exact h
      | ex x' E3 =>
        rw [q3] at h
        cases E3 with
        | nil => exact h.elim
        | cons s3 E3 =>
        cases s3 with
        | bo m' =>
          intro G3 σ3 cls d H3 e3 R4 rel
          obtain ⟨g, _, _⟩ := back R4
          exact h G3 cls d H3 (e2.trans e3) (R2.gro g) rel
        | _ => exact h.elim
      | ok r E3 =>
        rw [q3] at h
        cases E3 with
        | nil => 
          cases r with
          | fz d => cases d <;> exact h.elim
          | _ => exact h.elim
        | cons s3 E3 =>
        cases s3 with
        | bo m' =>
          cases r with
          | fz d =>
            cases d with
            | non =>
              intro G3 σ3 v H3 e3 R4 rel
              obtain ⟨g, o4, g4⟩ := back R4
              have rel : Rep c G3 v .non := rel
              cases rel
              refine ⟨rfl, h G3 _ H3 (e2.trans e3) (R2.gro g) ⟨x, rfl, o4, g4, R2.h0 nx, none'⟩⟩
            | _ => exact h.elim
          | _ => exact h.elim
        | _ => 
          cases r with
          | fz d => cases d <;> exact h.elim
          | _ => exact h.elim
/-- C(e, ..) -/
theorem de_make (K0 : CalC X c n ps np F dds) (hg : Gl X x) (hm : X.mg x = some (.ref (c.ct n))) (tk : Takes X W) (ha : PA X (e :: es) (tA c W mr)) (hn : ∀ {E E1 : Ev} {rs}, mr E = .ok rs E1 → rs.length + 1 + dds.length = np) (hdb : (x == ("__debug__" : Str)) = false := by decide)
    (he : starEach (e :: es) X.env = (false, eval e X.env) :: starEach es X.env := by rfl) (hpl : (backTo pos (starEach es X.env)).any (·.1) = false := by rfl) : PE X (.Call (.Name x p) (e :: es) [] pos) (tE c W (mMake n F dds mr)) := by
  obtain ⟨k, f, fd, ds, dvs, M, F0, hr, hb, hd, h6⟩ := K0.ex
  refine ⟨fun pins s σ H Q I h => ?_⟩
  have h := make_read h6 hn h
  refine wpAny_Call_Name_kw (ld_glob I hg hm ?_ hdb)
  refine PySem.W.callWith_K (h₀ := X.base) I.ok.mod.kin M.kp (thn (ha.run pos pins s σ H _ I h) fun us s1 ⟨vs, H1, I1, r, q⟩ => ⟨I1.kIn, ?_⟩) he hpl
  exact run_makeS M F0 hr hb hd (passAt tk σ) I1 r q
/-- C() -/
theorem de_make0 (K0 : CalC X c n ps np F dds) (hg : Gl X x) (hm : X.mg x = some (.ref (c.ct n))) (tk : Takes X W) (hn : 1 + dds.length = np) (hdb : (x == ("__debug__" : Str)) = false := by decide) : PE X (.Call (.Name x p) [] [] pos) (tE c W (mMake n F dds aNil)) := by
  obtain ⟨k, f, fd, ds, dvs, M, F0, hr, hb, hd, h6⟩ := K0.ex
  refine ⟨fun pins s σ H Q I h => ?_⟩
  obtain ⟨f0, G, E, R, h⟩ := make_read h6 (np := np) (fun {E E1 rs} q => by rw [aNil_len q, Nat.zero_add]; exact hn) h
  refine wpAny_Call_Name_kw (ld_glob I hg hm ?_ hdb)
  exact PySem.W.callWith_K0 I.kIn M.kp (run_makeS (us := []) (vs := []) M F0 hr hb hd (passAt tk σ) I .nil (h G [] H (.refl _) R .nil))
/-- .. the class is data: cls(e, ..) -/
def mMakeV (tab : List (Str × Nat × FM)) (mf : EM) (ma : AM) : EM := fun E => (mf E).bind fun r E1 => match pk E1 r.settle with
  | some (.gl x) => match tab.lookup x with
    | some (n, F) => mMake n F [] ma E1
    | none => .bad
  | _ => .bad
theorem de_makeV {tab : List (Str × Nat × FM)} {mf : EM} {fe : Expr} {ps : Str → List Str} (C : ∀ y n F, tab.lookup y = some (n, F) → CalC X c n (ps y) np F [] ∧ c.ga y = c.ct n) (tk : Takes X W) (hf : PE X fe (tE c W mf)) (ha : PA X (e :: es) (tA c W mr)) (hn : ∀ {E E1 : Ev} {rs}, mr E = .ok rs E1 → rs.length + 1 = np)
    (ht : eval (.Call fe (e :: es) [] pos) X.env = (do callWith pos (← eval fe X.env) [] (backTo pos (starEach (e :: es) X.env)) (backToKw pos (keywordEach [] X.env))) := by rfl)
    (he : starEach (e :: es) X.env = (false, eval e X.env) :: starEach es X.env := by rfl) (hpl : (backTo pos (starEach es X.env)).any (·.1) = false := by rfl) : PE X (.Call fe (e :: es) [] pos) (tE c W (mMakeV tab mf mr)) := by
  constructor
  intro pins s σ H Q I ⟨f0, G, E, R, h⟩
  have h2 : tE c W mf σ H fun v H1 => ∃ (y : Str) (n : Nat) (F : FM), tab.lookup y = some (n, F) ∧ v = .ref (c.ga y) ∧ tE c W (mMake n F [] mr) σ H1 Q := by
    refine tE_bindE R h fun r E1 G1 v H1 e1 R1 r1 h1 => ?_
    split at h1
    · rename_i y py
      split at h1
      · rename_i n F hF
        have rep := R1.pk r1 py
        cases rep
        exact ⟨y, n, F, hF, rfl, f0, G1, E1, R1, h1⟩
      · exact h1.elim
    · exact h1.elim
  refine Call_ (thn (hf.run pins s σ H _ I h2) fun u s1 hh => ?_) ht
  obtain ⟨v, H1, I1, rv, y, n, F, hF, rfl, q⟩ := hh
  cases rv
  obtain ⟨⟨k, f, fd, ds, dvs, M, F0, hr, hb, hd, h6⟩, hga⟩ := C y n F hF
  rw [hga]
  have q := make_read h6 (fun {E E1 rs} z => by have := hn z; simpa using this) q
  refine PySem.W.callWith_K (h₀ := X.base) I1.ok.mod.kin M.kp (thn (ha.run pos pins s1 σ H1 _ I1 q) fun us s2 hh => ?_) he hpl
  obtain ⟨vs, H2, I2, r, q⟩ := hh
  exact ⟨I2.kIn, run_makeS M F0 hr hb hd (passAt tk σ) I2 r q⟩
end
end M

/-! objects of own classes: o.m(), properties, static methods, methods of classes -/
namespace M
open PySem PySem.Spec PyProof.Rows L2
/-- of what is raised nothing is told -/
def mNox (m : EM) : EM := fun E => match m E with
  | .ok r E1 => .ok r E1
  | _ => .bad
def aNox (m : AM) : AM := fun E => match m E with
  | .ok r E1 => .ok r E1
  | _ => .bad
/-- o.nm, a property of the class n (the object is given up) -/
def mProp (n : Nat) (F : FM) (mo : EM) : EM := fun E => (mo E).bind fun r E1 => match fzn E1 r.settle with
  | some (.ins k fs, E2) => if k = n then match F [.fz (.ins k fs)] with
    | .ok (.fz d) _ => .ok (.fz d) E2
    | .ok (.ow m) _ => .ok (.ow m) E2
    | _ => .bad
    else .bad
  | _ => .bad
structure CalP (X : Cx) (c : Cfg) (n : Nat) (nm : Str) (ps : List Str) (F : FM) : Prop where
  cls : Cls X.K (c.ct n)
  ex : ∃ (k : Nat) (p g : Addr) (fd : FuncData), PropOf X.K (c.ct n) nm p g ∧ FnOk X.prog X.w X.K X.mg X.base (L2.CX X.prog X.w) k g fd ps (spM c 1 F) ∧ Room (k + 1) X.A ∧ Binds X.K fd ps []
section
variable {X : Cx} {c : Cfg} {W : WX} {e o : Expr} {es : List Expr} {x nm : Str} {m mo : EM} {mr : AM} {pos pos' apos p p0 : Pos} {n np : Nat} {F : FM} {dds : List D} {ps : List Str} {pl : Sem Bool}
theorem nox_read {σ : L2.St} {H : Hp} {Q : VK} {W' : WX} (h : tE c W (mNox m) σ H Q) : tE c W' m σ H Q := by
  obtain ⟨f, G, E, R, h⟩ := h
  refine ⟨f, G, E, R, ?_⟩
  unfold mNox at h
  cases q : m E with
  | ok r E1 => rw [q] at h; exact h
  | ex x E1 => rw [q] at h; exact h.elim
  | bad => rw [q] at h; exact h.elim
/-- o.nm() -/
theorem de_meth0 (C : CalM X c n nm ps np F dds) (tk : Takes X W) (ho : PE X o (tE c W mo)) (hn : 1 + dds.length = np)
    (ht : eval (.Call (.Attribute o nm apos) [] [] pos) X.env = (do
      let ov ← eval o X.env
      standAt apos.atName
      let (f, first) ← holding [ov] (getMethod ov nm pl)
      callWith pos f first (backTo pos (starEach [] X.env)) (backToKw pos (keywordEach [] X.env))) := by rfl) : PE X (.Call (.Attribute o nm apos) [] [] pos) (tE c W (mMeth n nm F dds mo aNil)) := by
  obtain ⟨c1, f, fd, ds, dvs, h1, h3, h4, h5, h6⟩ := C
  constructor
  intro pins s σ H Q I h
  have hs := self_read (fnD_read (c := c) (n := np) (dvs := dvs) h6 (fun {E E1 rs} q => by
    have l := aSelf_len (np := 0) (fun {E E1 rs} q => aNil_len q) q
    omega) h)
  refine PySem.W.methodCall_KW (pl := pl) (thn (ho.run pins s σ H _ I hs) fun u s1 ⟨x, H1, I1, rx, a, dx, fs, ex, ea, l, q⟩ => ?_) ht
  subst ex
  obtain rfl : u = Value.ref a := rx
  refine getmeth_ok I1 ea c1 h1 l ?_
  obtain ⟨f0, G, E, R, q⟩ := q
  have q2 := q G [] H1 (.refl _) R .nil
  refine PySem.W.callWith_K0 (first := [.ref a]) I1.kIn h1.kp ?_
  have rr : Vals ((V.ref a :: []) ++ dvs) ((Value.ref a :: []) ++ ds) := (show Vals (V.ref a :: []) (Value.ref a :: []) from .cons rfl .nil).append h5
  have many : ((Value.ref a :: []) ++ ds).length = ps.length := rr.length.symm.trans (h3.len _ _ _ _ q2)
  exact runA (args := ⟨[Value.ref a], []⟩) h3 (h4 s1 [Value.ref a] I1.kIn many) (passAt tk σ) I1 rr q2
/-- o.nm, nm a property -/
theorem de_prop (C : CalP X c n nm ps F) (ho : PE X o (tE c W mo)) (hab : attributeBase o nm X.env (eval o X.env) = eval o X.env := by rfl) : PE X (.Attribute o nm pos) (tE c W (mProp n F mo)) := by
  obtain ⟨c1, k, p, g, fd, hp, h3, hr, h4⟩ := C
  refine ⟨fun pins s σ H Q I ⟨f', G, E, R, h⟩ => ?_⟩
  have hs : tE c W mo σ H fun x H1 => ∃ a dx fs, x = .ref a ∧ H1 a = some (.ins (c.ct n) dx fs) ∧ spM c 1 F [.ref a] H1 Q (fun _ _ _ => False) := by
    refine tE_bindE R h fun r E1 G1 v H1 e1 R1 r1 h1 => ?_
    split at h1
    · rename_i k fs E2 q
      split at h1
      · rename_i hk
        subst hk
        obtain ⟨G2, e2, R2, rep⟩ := R1.frz r1 q
        have rep0 := rep
        cases rep with
        | @ins a dx _ gs _ ea ek reps =>
        refine ⟨a, dx, gs, rfl, R2.gh _ _ ea, rfl, G2, [D.ins k fs].map .fz, rfl, R2.callee (.cons rep0 .nil), ?_⟩
        have z : F ([D.ins k fs].map .fz) = F [.fz (.ins k fs)] := rfl
        rw [z]
        cases q3 : F [.fz (.ins k fs)] with
        | bad => rw [q3] at h1; exact h1
        | ex x E3 => rw [q3] at h1; exact h1.elim
        | ok r E3 =>
          rw [q3] at h1
          intro G3 σ3 v H3 e3 R3 rel
          have g := R2.back (boOf_fz (ds := [D.ins k fs])) R3
          cases r with
          | sl j => exact h1.elim
          | fz d => exact h1 G3 v H3 (e2.trans e3) (R2.gro g) rel
          | ow m => exact h1 G3 v H3 (e2.trans e3) (R2.gro g) (RelN.rel R2 (RelR.back R2 rel (fun j z => by cases z)))
      · exact h1.elim
    · exact h1.elim
  refine attr_of hab (thn (ho.run pins s σ H _ I hs) fun u s1 ⟨x, H1, I1, rx, a, dx, fs, ex, ea, q⟩ => ?_)
  subst ex
  obtain rfl : u = Value.ref a := rx
  exact getprop_ok (E := fun _ _ _ => False) (dvs := []) I1 ea c1 hp h3 hr h4 .nil (fun pins σ H s e s' I z => by obtain ⟨_, _, _, _, _, _, _, _, _, _, _, _, w⟩ := z; exact w.elim) q
/-- C.m(e, ..), m a static method: its record at p, its def at g -/
structure CalT (X : Cx) (c : Cfg) (n : Nat) (nm : Str) (ps : List Str) (np : Nat) (F : FM) (dds : List D) : Prop where
  rd : ClX.CRead X.K (c.ct n) (.type "type")
  ex : ∃ (p g : Addr) (fd : FuncData) (ds : List Value) (dvs : List V), PySem.W.findCls X.K (.ref (c.ct n)) (.type "type") nm = some (.get (.builtin "staticmethod.__get__") (.ref p) .none (.ref (c.ct n))) ∧ (∃ rest, PySem.W.recIn X.K p "staticmethod" = some (.ref g :: rest)) ∧ PySem.W.keepIn X.K (.ref g) = true ∧
    FnAt X.prog X.w X.K X.mg X.base (L2.CX X.prog X.w) X.A g fd ps (spM c np F) ∧ Binds X.K fd ps ds ∧ Vals dvs ds ∧ ∀ G, Reps c G dvs dds
theorem de_static (C : CalT X c n nm ps np F dds) (hg : Gl X x) (hm : X.mg x = some (.ref (c.ct n))) (tk : Takes X W) (ha : PA X (e :: es) (tA c W mr)) (hn : ∀ {E E1 : Ev} {rs}, mr E = .ok rs E1 → rs.length + dds.length = np) (hdb : (x == ("__debug__" : Str)) = false := by decide)
    (hst : starEach (e :: es) X.env = (false, eval e X.env) :: starEach es X.env := by rfl) (hpl : (backTo pos (starEach es X.env)).any (·.1) = false := by rfl)
    (ht : eval (.Call (.Attribute (.Name x p0) nm apos) (e :: es) [] pos) X.env = (do
      let ov ← eval (.Name x p0) X.env
      standAt apos.atName
      let (f, first) ← holding [ov] (getMethod ov nm pl)
      callWith pos f first (backTo pos (starEach (e :: es) X.env)) (backToKw pos (keywordEach [] X.env))) := by rfl) : PE X (.Call (.Attribute (.Name x p0) nm apos) (e :: es) [] pos) (tE c W (mFnD F dds mr)) := by
  obtain ⟨rd, p, g, fd, ds, dvs, h1, ⟨rest, h2⟩, kp, h3, h4, h5, h6⟩ := C
  refine ⟨fun pins s σ H Q I h => ?_⟩
  have h := fnD_read h6 hn h
  refine PySem.W.methodCall_KW (pl := pl) (thn ((pe_glob (v := .ref (c.ct n)) hg hm rfl hdb).run pins s σ H (fun v H1 => v = .ref (c.ct n) ∧ H1 = H) I ⟨rfl, rfl⟩) fun u s1 ⟨v, H1, I1, r1, q1⟩ => ?_) ht
  obtain ⟨rfl, rfl⟩ := q1
  obtain rfl : u = Value.ref (c.ct n) := r1
  refine PySem.W.method_cls I1.kIn rd.ga (PySem.W.cls_bind I1.kIn rd.rd h1 ?_)
  refine wpAny_call (PySem.W.sm_get (s := { s1 with toks := s1.toks + 1 }) I1.kIn h2 (PySem.W.handed_on rfl ?_))
  have I2 := I1.tok (s1.toks + 1)
  refine PySem.W.callWith_K (h₀ := X.base) I2.ok.mod.kin kp (thn (ha.run pos pins _ σ _ _ I2 h) fun us s3 ⟨vs, H2, I3, r, q⟩ => ⟨I3.kIn, ?_⟩) hst hpl
  have rr := r.append h5
  have many : (us ++ ds).length = ps.length := rr.length.symm.trans (h3.len _ _ _ _ q)
  exact runA (args := ⟨us, []⟩) h3 (h4 s3 us I3.kIn many) (passAt tk σ) I3 rr q
/-- C.m(e, ..), m a method of the class: the class comes first -/
structure CalK2 (X : Cx) (c : Cfg) (n : Nat) (nm : Str) (ps : List Str) (np : Nat) (F : FM) (dds : List D) : Prop where
  rd : ClX.CRead X.K (c.ct n) (.type "type")
  ex : ∃ (p g : Addr) (fd : FuncData) (ds : List Value) (dvs : List V), ClX.CMet X.K (c.ct n) (.type "type") nm p g ∧
    FnAt X.prog X.w X.K X.mg X.base (L2.CX X.prog X.w) X.A g fd ps (spM c np F) ∧ Binds X.K fd ps ds ∧ Vals dvs ds ∧ ∀ G, Reps c G dvs dds
def mClsM (x : Str) (F : FM) (dds : List D) (ma : AM) : EM := mFnD F dds (fun E => (ma E).bind fun rs E1 => .ok (.fz (.gl x) :: rs) E1)
theorem cls_read {σ : L2.St} {H : Hp} {Q : List V → Hp → Prop} (h : tA c W (fun E => (mr E).bind fun rs E1 => .ok (.fz (.gl x) :: rs) E1) σ H Q) : tA c W mr σ H fun vs H1 => Q (.ref (c.ga x) :: vs) H1 := by
  obtain ⟨f', G, E, R, h⟩ := h
  refine tA_bindA R h fun rs E2 G2 vs H2 e2 R2 r2 h2 => ?_
  exact h2 G2 _ H2 (.refl _) R2 (.cons rfl (.gl x) r2)
theorem de_clsm (C : CalK2 X c n nm ps np F dds) (hga : c.ga x = c.ct n) (hg : Gl X x) (hm : X.mg x = some (.ref (c.ct n))) (tk : Takes X W) (ha : PA X (e :: es) (tA c W mr)) (hn : ∀ {E E1 : Ev} {rs}, mr E = .ok rs E1 → rs.length + 1 + dds.length = np) (hdb : (x == ("__debug__" : Str)) = false := by decide)
    (hst : starEach (e :: es) X.env = (false, eval e X.env) :: starEach es X.env := by rfl) (hpl : (backTo pos (starEach es X.env)).any (·.1) = false := by rfl)
    (ht : eval (.Call (.Attribute (.Name x p0) nm apos) (e :: es) [] pos) X.env = (do
      let ov ← eval (.Name x p0) X.env
      standAt apos.atName
      let (f, first) ← holding [ov] (getMethod ov nm pl)
      callWith pos f first (backTo pos (starEach (e :: es) X.env)) (backToKw pos (keywordEach [] X.env))) := by rfl) : PE X (.Call (.Attribute (.Name x p0) nm apos) (e :: es) [] pos) (tE c W (mClsM x F dds mr)) := by
  obtain ⟨rd, p, g, fd, ds, dvs, h1, h3, h4, h5, h6⟩ := C
  refine ⟨fun pins s σ H Q I h => ?_⟩
  have h := cls_read (fnD_read (n := np) h6 (fun {E E1 rs} q => by
    cases q2 : mr E with
    | bad => rw [q2] at q; cases q
    | ex x E' => rw [q2] at q; cases q
    | ok rs' E'' =>
      rw [q2] at q
      cases q
      have := hn q2
      simpa using this) h)
  refine PySem.W.methodCall_KW (pl := pl) (thn ((pe_glob (v := .ref (c.ct n)) hg hm rfl hdb).run pins s σ H (fun v H1 => v = .ref (c.ct n) ∧ H1 = H) I ⟨rfl, rfl⟩) fun u s1 ⟨v, H1, I1, r1, q1⟩ => ?_) ht
  obtain ⟨rfl, rfl⟩ := q1
  obtain rfl : u = Value.ref (c.ct n) := r1
  refine ClX.getmethcm_ok I1 rd h1 fun s2 I2 => ?_
  refine ClX.callwith_cm I2 (ClX.base_none I1 (Nat.le_refl _)) h1.fi (thn (ha.run pos _ s2 σ _ _ I2 h) fun us s3 ⟨vs, H2, I3, r, q⟩ => ⟨⟨ClX.pin_at I3, I3.kIn⟩, ?_⟩) hst hpl
  rw [hga] at q
  have rr : Vals ((V.ref (c.ct n) :: vs) ++ dvs) ((Value.ref (c.ct n) :: us) ++ ds) := (show Vals (V.ref (c.ct n) :: vs) (Value.ref (c.ct n) :: us) from .cons rfl r).append h5
  have many : ((Value.ref (c.ct n) :: us) ++ ds).length = ps.length := rr.length.symm.trans (h3.len _ _ _ _ q)
  have b := h4 s3 (Value.ref (c.ct n) :: us) I3.kIn many
  have z : wpAny (model X.prog X.w) X.A (call (.ref s1.heap.objs.size) us) (EP X ((s1.heap.objs.size, PySem.W.methodObj (.ref g) (.ref (c.ct n))) :: pins) σ Q) X.xe s3 :=
    wpAny_call (PySem.W.method_call (ClX.pin_at I3) (codeAny_mono (h3.run X.stack s3 H2 ⟨Value.ref (c.ct n) :: us, []⟩ _ _ Q (WE W σ) I3.env0 b rr q) fun r s' out => by
      match r, out with
      | .error e, out => exact passAt tk σ _ H2 s3 e s' I3 out
      | .ok (.ret u), out => exact I3.after out
      | .ok .next, out => exact False.elim out
      | .ok .brk, out => exact False.elim out
      | .ok .cont, out => exact False.elim out))
  exact thn z fun _ _ y => ClX.unpinE y
end
end M

/-! objects of own classes: what the text says of a class, as tests; defs behind properties, static methods and methods of classes; the head with them; isinstance -/
namespace M
open PySem PySem.Spec PyProof.Rows L2
def clsB (K : PySem.W.Frag) (C : Addr) : Bool := PySem.W.plainGet K C Str.empty && (PySem.W.hasDictIn K C && (PySem.W.plainOver K C && decide (PySem.W.findIn K (.ref C) "__setattr__" = some (some (.builtin "object.__setattr__")))))
theorem clsB_ok {K : PySem.W.Frag} {C : Addr} (h : clsB K C = true) : Cls K C := by
  unfold clsB at h
  simp only [Bool.and_eq_true, decide_eq_true_eq] at h
  exact ⟨h.1, h.2.1, h.2.2.1, h.2.2.2⟩
def noB (K : PySem.W.Frag) (C : Addr) (f : Str) : Bool := decide (PySem.W.findIn K (.ref C) f = some none)
theorem noB_ok {K : PySem.W.Frag} {C : Addr} {f : Str} (h : noB K C f = true) : NoAttr K C f := by
  unfold noB at h
  rw [decide_eq_true_eq] at h
  exact h
def methB (K : PySem.W.Frag) (C : Addr) (m : Str) : Bool := decide (PySem.W.findIn K (.ref C) m = some (some (.ref (He.ma K C m)))) && (PySem.W.isFn K (.ref (He.ma K C m)) && PySem.W.keepIn K (.ref (He.ma K C m)))
theorem methB_ok {K : PySem.W.Frag} {C : Addr} {m : Str} (h : methB K C m = true) : Meth K C m (He.ma K C m) := by
  unfold methB at h
  simp only [Bool.and_eq_true, decide_eq_true_eq] at h
  exact ⟨h.1, h.2.1, h.2.2⟩
def mkB (K : PySem.W.Frag) (C : Addr) : Bool := PySem.W.makesIn K C && (decide (PySem.W.findIn K (.ref C) "__init__" = some (some (.ref (He.ma K C "__init__")))) && (PySem.W.isFn K (.ref (He.ma K C "__init__")) && PySem.W.keepIn K (.ref C)))
theorem mkB_ok {K : PySem.W.Frag} {C : Addr} (h : mkB K C = true) : Mk K C (He.ma K C "__init__") := by
  unfold mkB at h
  simp only [Bool.and_eq_true, decide_eq_true_eq] at h
  exact ⟨h.1, h.2.1, h.2.2.1, h.2.2.2⟩
/-- the def in a record of a class's name m: a property, a staticmethod, a classmethod -/
def wAd (K : PySem.W.Frag) (C : Addr) (T : String) (m : Str) : Addr := match PySem.W.recIn K (He.ma K C m) T with
  | some (.ref f :: _) => f
  | _ => 0
def recB (K : PySem.W.Frag) (C : Addr) (T : String) (m : Str) : Bool := match PySem.W.recIn K (He.ma K C m) T with
  | some (.ref _ :: _) => true
  | _ => false
theorem recB_ok {K : PySem.W.Frag} {C : Addr} {T : String} {m : Str} (h : recB K C T m = true) : ∃ rest, PySem.W.recIn K (He.ma K C m) T = some (.ref (wAd K C T m) :: rest) := by
  unfold recB at h
  unfold wAd
  split at h
  · rename_i f r e
    exact ⟨r, by rw [e]⟩
  · cases h
def propB (K : PySem.W.Frag) (C : Addr) (m : Str) : Bool := decide (PySem.W.findIn K (.ref C) m = some (some (.ref (He.ma K C m)))) && (decide (PySem.W.specialIn K (.ref (He.ma K C m)) "__get__" = some (some (.builtin "property.__get__"))) &&
  (decide (PySem.W.takesIn K (.ref (He.ma K C m)) = some true) && recB K C "property" m))
theorem propB_ok {K : PySem.W.Frag} {C : Addr} {m : Str} (h : propB K C m = true) : PropOf K C m (He.ma K C m) (wAd K C "property" m) := by
  unfold propB at h
  simp only [Bool.and_eq_true, decide_eq_true_eq] at h
  exact ⟨h.1, h.2.1, h.2.2.1, recB_ok h.2.2.2⟩
def readB (K : PySem.W.Frag) (C : Addr) : Bool := PySem.W.readsIn K C (.type "type") && decide (PySem.W.specialIn K (.ref C) "__getattribute__" = some (some (.builtin "type.__getattribute__")))
theorem readB_ok {K : PySem.W.Frag} {C : Addr} (h : readB K C = true) : ClX.CRead K C (.type "type") := by
  unfold readB at h
  simp only [Bool.and_eq_true, decide_eq_true_eq] at h
  exact ⟨h.1, h.2⟩
def wrB (K : PySem.W.Frag) (C : Addr) (T gid : String) (m : Str) : Bool := (match PySem.W.findCls K (.ref C) (.type "type") m with
    | some (.get (.builtin g) (.ref p) .none (.ref D)) => decide (g = gid) && (decide (p = He.ma K C m) && decide (D = C))
    | _ => false) && recB K C T m
theorem wrB_ok {K : PySem.W.Frag} {C : Addr} {T gid : String} {m : Str} (h : wrB K C T gid m = true) :
    PySem.W.findCls K (.ref C) (.type "type") m = some (.get (.builtin gid) (.ref (He.ma K C m)) .none (.ref C)) ∧ ∃ rest, PySem.W.recIn K (He.ma K C m) T = some (.ref (wAd K C T m) :: rest) := by
  unfold wrB at h
  rw [Bool.and_eq_true] at h
  obtain ⟨h1, h2⟩ := h
  refine ⟨?_, recB_ok h2⟩
  clear h2
  split at h1
  · rename_i g p D e
    simp only [Bool.and_eq_true, decide_eq_true_eq] at h1
    rw [e, h1.1, h1.2.1, h1.2.2]
  · cases h1
def cmB (K : PySem.W.Frag) (C : Addr) (m : Str) : Bool := wrB K C "classmethod" "classmethod.__get__" m && PySem.W.fnIn K (wAd K C "classmethod" m)
theorem cmB_ok {K : PySem.W.Frag} {C : Addr} {m : Str} (h : cmB K C m = true) : ClX.CMet K C (.type "type") m (He.ma K C m) (wAd K C "classmethod" m) := by
  unfold cmB at h
  rw [Bool.and_eq_true] at h
  obtain ⟨h1, h2⟩ := wrB_ok h.1
  exact ⟨h1, h2, h.2⟩
/-! ### defs in records -/
/-- the class's name, the record's type; the def's name as the class has it stands in at_ -/
structure WrD where
  cls : Str
  T : String
  d : He.DefD
def WrD.ad (K : PySem.W.Frag) (x : WrD) : Addr := wAd K (He.ga K x.cls) x.T x.d.name
def fnA (K : PySem.W.Frag) (a : Addr) : He.FnW := match K.lookup a with
  | some ⟨_, _, .func fd, _⟩ => some (fd.name, fd.qualname, fd.params, fd.body, fd.scope, fd.globals, fd.closure, fd.builtins)
  | _ => none
def okA (K : PySem.W.Frag) (a : Addr) (d : He.DefD) : Bool := PySem.W.keepIn K (.ref a) && (match K.lookup a with
  | some ⟨_, _, .func fd, _⟩ => PySem.W.codeIn K fd.code d.qual && (He.dflB K fd.defaults (d.dvs K) && He.kwdB K fd.kwdefaults (d.kws K))
  | _ => false)
theorem funA {K : PySem.W.Frag} {a : Addr} {d : He.DefD} (e : fnA K a = d.val) (c : okA K a d = true) : ∃ fd, FunD K d.name d.qual d.params d.body d.scope (d.dvs K) (d.kws K) a fd := by
  unfold okA at c
  rw [Bool.and_eq_true] at c
  obtain ⟨kp, c2⟩ := c
  unfold fnA at e
  cases q : K.lookup a with
  | none =>
    rw [q] at c2
    cases c2
  | some o =>
    obtain ⟨oc, od, dt, osl⟩ := o
    rw [q] at c2 e
    cases dt with
    | func fd =>
      obtain ⟨n1, n2, n3, n4, n5, n6, n7, n8, n9, n10, n11, n12, n13, n14, n15⟩ := fd
      have e2 : (some (n1, n2, n3, n4, n5, n6, n7, n15) : He.FnW) = some (d.name, d.qual, d.params, .stmts d.body, d.scope, mainGlobals, [], builtinsNs) := e
      simp only [Option.some.injEq, Prod.mk.injEq] at e2
      obtain ⟨h1, h2, h3, h4, h5, h6, h7, h8⟩ := e2
      subst h1 h2 h3 h4 h5 h6 h7 h8
      have c3 : (PySem.W.codeIn K n13 d.qual && (He.dflB K n8 (d.dvs K) && He.kwdB K n9 (d.kws K))) = true := c2
      rw [Bool.and_eq_true, Bool.and_eq_true] at c3
      obtain ⟨k1, k3, k4⟩ := c3
      exact ⟨_, ⟨oc, od, n8, n9, n10, n11, n12, n13, n14, osl, rfl, q, k1, He.dflB_ok k3, He.kwdB_ok k4⟩, kp⟩
    | _ => cases c2
/-! ### the head with them -/
abbrev AlW : Type := AlM × List He.FnW
def obW (n : Nat) (fa : List He.Fa) (fn : List He.DefD) (wr : List WrD) (ex : List (PySem.W.Frag → Bool)) (g : Addr → Option Obj) : AlW :=
  ((He.obsD fa fn (He.frG g (asM g n)), (ex.all fun t => t (He.frG g (asM g n))) && wr.all fun x => okA (He.frG g (asM g n)) (x.ad (He.frG g (asM g n))) x.d), wr.map fun x => fnA (He.frG g (asM g n)) (x.ad (He.frG g (asM g n))))
structure SaysW (fa : List He.Fa) (fn : List He.DefD) (wr : List WrD) (ex : List (PySem.W.Frag → Bool)) (K : PySem.W.Frag) : Prop where
  c : He.SaysD fa fn K
  t : ex.all (fun t => t K) = true
  o : (wr.all fun x => okA K (x.ad K) x.d) = true
  f : (wr.map fun x => fnA K (x.ad K)) = wr.map fun x => x.d.val
theorem SaysW.def_ {fa : List He.Fa} {fn : List He.DefD} {wr : List WrD} {ex : List (PySem.W.Frag → Bool)} {K : PySem.W.Frag} (S : SaysW fa fn wr ex K) (i : Nat) {x : WrD} (h : wr[i]? = some x := by rfl) : ∃ fd, FunD K x.d.name x.d.qual x.d.params x.d.body x.d.scope (x.d.dvs K) (x.d.kws K) (x.ad K) fd := by
  have e2 : (wr.map fun x => fnA K (x.ad K))[i]? = (wr.map fun x => x.d.val)[i]? := by rw [S.f]
  rw [List.getElem?_map, List.getElem?_map, h] at e2
  exact funA (Option.some.inj e2) (List.all_eq_true.mp S.o x (List.mem_of_getElem? h))
def hookW (n : Nat) (fa : List He.Fa) (fn : List He.DefD) (wr : List WrD) (ex : List (PySem.W.Frag → Bool)) : PySem.W.Hook where
  α := AlW
  obs := fun s => obW n fa fn wr ex s.heap.get?
  val := fun _ => ((He.valD fn, true), wr.map fun x => x.d.val)
  says := fun _ h => ∃ K : PySem.W.Frag, K.In h ∧ SaysW fa fn wr ex K
  of := fun _ s e => by
    have e1 := congrArg (fun z : AlW => z.1.1) e
    have e2 := congrArg (fun z : AlW => z.1.2) e
    have e3 := congrArg (fun z : AlW => z.2) e
    have e2' := (Bool.and_eq_true _ _).mp e2
    exact ⟨He.frG s.heap.get? (asM s.heap.get? n), He.frG_in, e1, e2'.1, e2'.2, e3⟩
  keeps := fun _ _ _ ⟨K, hK, c⟩ k => ⟨K, PySem.W.Frag.In.keeps hK k, c⟩
theorem obW_eq {n : Nat} {fa : List He.Fa} {fn : List He.DefD} {wr : List WrD} {ex : List (PySem.W.Frag → Bool)} {g : Addr → Option Obj} {s : Shared} (h : ∀ a, g a = s.heap.get? a) : obW n fa fn wr ex g = (hookW n fa fn wr ex).obs s := by
  have e : g = s.heap.get? := funext h
  rw [e]
  rfl
end M

/-! @[simp] of the mirrors of objects -/
namespace M
open PySem PySem.Spec PyProof.Rows L2
@[simp] theorem mFld_eq (ns : List Nat) (f : Str) (m : EM) (E : Ev) : mFld ns f m E = (m E).bd fun r E1 => match pk E1 r.settle with
  | some (.ins k fs) => if k ∈ ns then match fs.lookup f with
    | some d => .ok (.fz d) E1
    | none => .bad
    else .bad
  | _ => .bad := rfl
@[simp] theorem mFrz_eq (m : EM) (E : Ev) : mFrz m E = (m E).bd fun r E1 => match fzn E1 r with
  | some (d, E2) => .ok (.fz d) E2
  | none => .bad := rfl
@[simp] theorem mMake_eq (n : Nat) (F : FM) (dds : List D) (ma : AM) (E : Ev) : mMake n F dds ma E = (ma E).bd fun rs E1 => match fzs E1 rs with
  | some (ds, E2) => match F (.bo (.ins n []) :: (ds ++ dds).map .fz) with
    | .ok (.fz .non) (.bo m :: _) => .ok (.ow m) E2
    | .ex x (.bo _ :: _) => .ex x E2
    | _ => .bad
  | none => .bad := rfl
@[simp] theorem mProp_eq (n : Nat) (F : FM) (mo : EM) (E : Ev) : mProp n F mo E = (mo E).bd fun r E1 => match fzn E1 r.settle with
  | some (.ins k fs, E2) => if k = n then match F [.fz (.ins k fs)] with
    | .ok (.fz d) _ => .ok (.fz d) E2
    | .ok (.ow m) _ => .ok (.ow m) E2
    | _ => .bad
    else .bad
  | _ => .bad := rfl
@[simp] theorem aSelf_eq (n : Nat) (nm : Str) (mo : EM) (ma : AM) (E : Ev) : aSelf n nm mo ma E = (mo E).bd fun r E1 => match pk E1 r.settle with
  | some (.ins k fs) => if k = n ∧ fs.lookup nm = none then (ma E1).bd fun rs E2 => .ok (r.settle :: rs) E2 else .bad
  | _ => .bad := rfl
@[simp] theorem bare_ins (n : Nat) (fs : List (Str × D)) : bare (.ins n fs) = .ins n fs := rfl
@[simp] theorem MOd_ins (n : Nat) (fs : List (Str × D)) : (MO.ins n fs).d = .ins n fs := rfl
end M

/-! a, b, c = x, y, z with plain local names -/
namespace M
open PySem PySem.Spec PyProof.Rows L2
def sPar3 (i j l : Nat) (ma mb mc : EM) : SM := fun E => (ma E).out fun a E1 => match rz E1 a with
  | some (ra, E2) => (mb E2).out fun b E3 => match rz E3 b with
    | some (rb, E4) => (mc E4).out fun d E5 => match rz E5 d with
      | some (rc, E6) => match put E6 i ra with
        | some E7 => match put E7 j rb with
          | some E8 => match put E8 l rc with
            | some E9 => .nx E9
            | none => .bad
          | none => .bad
        | none => .bad
      | none => .bad
    | none => .bad
  | none => .bad
section
variable {X : Cx} {c : Cfg} {W : WX} {st : Stmt} {ma mb mc : EM}
theorem ds_par3 {i j l : Nat} (h : PS X st (tPar3 i j l (tCons (tE c W ma) (tCons (tE c W mb) (tCons (tE c W mc) tNil))))) : PS X st (tS c W (sPar3 i j l ma mb mc)) := ps_imp h fun Dn σ H ⟨f, G, E, R, h⟩ => by
  refine tE_outS R h fun r E1 G1 v H1 s1 R1 r1 h1 => ?_
  split at h1
  · rename_i ra E2 q2
    obtain ⟨na, G2, s2, R2, ra2⟩ := R1.rz r1 q2
    obtain ⟨f', R2', hf, back⟩ := R2.keepR ra2 na
    refine tE_raw R2' ?_
    have h2 := postS_out h1
    cases qb : mb E2 with
    | bad => rw [qb] at h2; exact h2
    | ex x E3 => rw [qb] at h2; exact fun G' cls d H' e R' rel => h2 σ G' cls d H' (s2.trans e) (back G' E3 H' e R').1 rel
    | ok b E3 =>
      rw [qb] at h2
      intro G3 w H3 s3 R3 rb
      simp only at h2
      split at h2
      · rename_i rb' E4 q4
        obtain ⟨nb, G4, s4, R4, rb4⟩ := R3.rz rb q4
        obtain ⟨f2, R4', hf2, back2⟩ := R4.keepR rb4 nb
        refine tE_raw R4' ?_
        have h3 := postS_out h2
        cases qc : mc E4 with
        | bad => rw [qc] at h3; exact h3
        | ex x E5 => rw [qc] at h3; exact fun G' cls d H' e R' rel => h3 σ G' cls d H' ((s2.trans s3).trans (s4.trans e)) (back G' E5 H' ((s3.trans s4).trans e) (back2 G' E5 H' e R').1).1 rel
        | ok d E5 =>
          rw [qc] at h3
          intro G5 z H5 s5 R5 rc
          simp only at h3
          split at h3
          · rename_i rc' E6 q6
            obtain ⟨nc, G6, s6, R6, rc6⟩ := R5.rz rc q6
            obtain ⟨R6b, rb6⟩ := back2 G6 E6 H5 (s5.trans s6) R6
            obtain ⟨R6f, ra6⟩ := back G6 E6 H5 ((s3.trans s4).trans (s5.trans s6)) R6b
            have difab : ∀ m m', ra = .ow m → rb' = .ow m' → v ≠ w := fun m m' e1 e2 y => by
              subst e2
              obtain ⟨p', hw, _, _, h0', _⟩ := rb6
              exact (hf p' h0').2 m e1 (y.trans hw)
            have difbc : ∀ m m', rb' = .ow m → rc' = .ow m' → w ≠ z := fun m m' e1 e2 y => by
              subst e2
              obtain ⟨p', hw, _, _, h0', _⟩ := rc6
              exact (hf2 p' h0').2 m e1 (y.trans hw)
            have difac : ∀ m m', ra = .ow m → rc' = .ow m' → v ≠ z := fun m m' e1 e2 y => by
              subst e2
              obtain ⟨p', hw, _, _, h0', _⟩ := rc6
              exact (hf p' (hf2 p' h0').1).2 m e1 (y.trans hw)
            have rb6f : RelR c f G6 E6 σ H5 w rb' := by
              cases rb' with
              | sl j => exact absurd rfl (nb j)
              | fz d => exact rb6
              | ow m' =>
                obtain ⟨p', hw, x1, x2, x3, x4⟩ := rb6
                exact ⟨p', hw, x1, x2, (hf p' x3).1, x4⟩
            have rc6f : RelR c f G6 E6 σ H5 z rc' := by
              cases rc' with
              | sl j => exact absurd rfl (nc j)
              | fz d => exact rc6
              | ow m' =>
                obtain ⟨p', hw, x1, x2, x3, x4⟩ := rc6
                exact ⟨p', hw, x1, x2, (hf p' (hf2 p' x3).1).1, x4⟩
            split at h3
            · rename_i E7 q7
              split at h3
              · rename_i E8 q8
                split at h3
                · rename_i E9 q9
                  have R7 := R6f.put ra6 q7
                  have rb7 := RelR.put (v := v) nb rb6f q7 difab
                  have rc7 := RelR.put (v := v) nc rc6f q7 difac
                  have R8 := R7.put rb7 q8
                  have rc8 := RelR.put (v := w) nc rc7 q8 difbc
                  have R9 := R8.put rc8 q9
                  exact ⟨v, w, z, rfl, h3 G6 _ H5 (((s2.trans s3).trans s4).trans (s5.trans s6)) R9⟩
                · exact h3.elim
              · exact h3.elim
            · exact h3.elim
          · exact h3.elim
      · exact h2.elim
  · exact h1.elim
end
@[simp] theorem sPar3_eq (i j l : Nat) (ma mb mc : EM) (E : Ev) : sPar3 i j l ma mb mc E = (ma E).ot fun a E1 => match rz E1 a with
  | some (ra, E2) => (mb E2).ot fun b E3 => match rz E3 b with
    | some (rb, E4) => (mc E4).ot fun d E5 => match rz E5 d with
      | some (rc, E6) => match put E6 i ra with
        | some E7 => match put E7 j rb with
          | some E8 => match put E8 l rc with
            | some E9 => .nx E9
            | none => .bad
          | none => .bad
        | none => .bad
      | none => .bad
    | none => .bad
  | none => .bad := rfl
end M

/-! while; C.m(); isinstance with an own class of objects -/
namespace M
open PySem PySem.Spec PyProof.Rows L2
def whileLoop (t : BM) (b : SM) : Nat → Ev → Out
  | 0, _ => .bad
  | n + 1, E => (t E).out fun k E1 => if k then (match b E1 with
    | .nx E2 => whileLoop t b n E2
    | .ct E2 => whileLoop t b n E2
    | .bk E2 => .nx E2
    | .rt r E2 => .rt r E2
    | .ex x E2 => .ex x E2
    | .bad => .bad) else .nx E1
/-- at most n turns -/
def sWhile (n : Nat) (t : BM) (b : SM) : SM := fun E => whileLoop t b n E
section
variable {X : Cx} {c : Cfg} {W : WX} {e o : Expr} {es : List Expr} {body : List Stmt} {x nm : Str} {t : BM} {b : SM} {mr : AM} {F : FM} {dds : List D} {np n : Nat} {ps : List Str} {pos p0 apos : Pos} {pl : Sem Bool}
theorem ds_while {n : Nat} (hp : PassesOwn (model X.prog X.w) X.A X.env X.xe) (hc : PT X e (tT c W t)) (hb : PSs X body (tS c W b)) : PS X (.While e body [] pos) (tS c W (sWhile n t b)) := ps_imp (ps_while hp hc hb) fun Dn σ H ⟨f, G, E, R, h⟩ => by
  refine ⟨fun m σ' H' => ∃ G' E', RS c f G' E' σ' H' ∧ postS c W f G' (whileLoop t b m E') Dn, ⟨n, G, E, R, h⟩, ?_⟩
  rintro m σ' H' ⟨G', E', R', h'⟩
  cases m with
  | zero => exact h'.elim
  | succ m =>
    refine tT_outS R' h' fun k E1 G1 H1 e1 R1 h1 => ?_
    cases k with
    | false => exact h1 G1 σ' H1 (.refl _) R1
    | true =>
      refine ⟨fun σ2 H2 => ∃ G2 E2, RS c f G2 E2 σ2 H2 ∧ postS c W f G2 (whileLoop t b m E2) Dn, fun σ2 H2 hN => ⟨m, Nat.lt_succ_self m, hN⟩, f, G1, E1, R1, ?_⟩
      simp only [if_true] at h1
      cases q3 : b E1 with
      | bad => rw [q3] at h1; exact h1
      | nx E3 => rw [q3] at h1; exact fun G4 σ4 H4 e4 R4 => ⟨G4, E3, R4, postS_mono e4 h1⟩
      | ct E3 => rw [q3] at h1; exact fun G4 σ4 H4 e4 R4 => ⟨G4, E3, R4, postS_mono e4 h1⟩
      | bk E3 => rw [q3] at h1; exact h1
      | rt r E3 => rw [q3] at h1; exact h1
      | ex x E3 => rw [q3] at h1; exact h1
/-- C.m(), m a method of the class -/
theorem de_clsm0 (C : CalK2 X c n nm ps np F dds) (hga : c.ga x = c.ct n) (hg : Gl X x) (hm : X.mg x = some (.ref (c.ct n))) (tk : Takes X W) (hn : 1 + dds.length = np) (hdb : (x == ("__debug__" : Str)) = false := by decide)
    (ht : eval (.Call (.Attribute (.Name x p0) nm apos) [] [] pos) X.env = (do
      let ov ← eval (.Name x p0) X.env
      standAt apos.atName
      let (f, first) ← holding [ov] (getMethod ov nm pl)
      callWith pos f first (backTo pos (starEach [] X.env)) (backToKw pos (keywordEach [] X.env))) := by rfl) : PE X (.Call (.Attribute (.Name x p0) nm apos) [] [] pos) (tE c W (mClsM x F dds aNil)) := by
  obtain ⟨rd, p, g, fd, ds, dvs, h1, h3, h4, h5, h6⟩ := C
  refine ⟨fun pins s σ H Q I h => ?_⟩
  obtain ⟨f0, G, E, R, h⟩ := cls_read (fnD_read (n := np) h6 (fun {E E1 rs} q => by cases q; simpa using hn) h)
  have q := h G [] H (.refl _) R .nil
  refine PySem.W.methodCall_KW (pl := pl) (thn ((pe_glob (v := .ref (c.ct n)) hg hm rfl hdb).run pins s σ H (fun v H1 => v = .ref (c.ct n) ∧ H1 = H) I ⟨rfl, rfl⟩) fun u s1 ⟨v, H1, I1, r1, q1⟩ => ?_) ht
  obtain ⟨rfl, rfl⟩ := q1
  obtain rfl : u = Value.ref (c.ct n) := r1
  refine ClX.getmethcm_ok I1 rd h1 fun s2 I2 => ?_
  refine PySem.W.callWith_M0 (K := X.K) (g := g) (self := .ref (c.ct n)) ⟨ClX.pin_at I2, I2.kIn⟩ h1.fi ?_
  rw [hga] at q
  have rr : Vals ((V.ref (c.ct n) :: []) ++ dvs) ((Value.ref (c.ct n) :: []) ++ ds) := (show Vals (V.ref (c.ct n) :: []) (Value.ref (c.ct n) :: []) from .cons rfl .nil).append h5
  have many : ((Value.ref (c.ct n) :: []) ++ ds).length = ps.length := rr.length.symm.trans (h3.len _ _ _ _ q)
  have b := h4 s2 (Value.ref (c.ct n) :: []) I2.kIn many
  have z : wpAny (model X.prog X.w) X.A (call (.ref s1.heap.objs.size) []) (EP X ((s1.heap.objs.size, PySem.W.methodObj (.ref g) (.ref (c.ct n))) :: pins) σ Q) X.xe s2 :=
    wpAny_call (PySem.W.method_call (ClX.pin_at I2) (codeAny_mono (h3.run X.stack s2 _ ⟨Value.ref (c.ct n) :: [], []⟩ _ _ Q (WE W σ) I2.env0 b rr q) fun r s' out => by
      match r, out with
      | .error e, out => exact passAt tk σ _ _ s2 e s' I2 out
      | .ok (.ret u), out => exact I2.after out
      | .ok .next, out => exact False.elim out
      | .ok .brk, out => exact False.elim out
      | .ok .cont, out => exact False.elim out))
  exact thn z fun _ _ y => ClX.unpinE y
end
@[simp] theorem sWhile_eq (n : Nat) (t : BM) (b : SM) (E : Ev) : sWhile n t b E = whileLoop t b n E := rfl
/-- more turns do no harm -/
theorem whileLoop_more {t : BM} {b : SM} : ∀ {n k : Nat} {E : Ev}, whileLoop t b n E ≠ .bad → whileLoop t b (n + k) E = whileLoop t b n E
  | 0, k, E, h => absurd rfl h
  | n + 1, k, E, h => by
    have e : n + 1 + k = (n + k) + 1 := by omega
    rw [e]
    unfold whileLoop at h ⊢
    cases q : t E with
    | bad => rfl
    | ex x E1 => rfl
    | ok v E1 =>
      rw [q] at h
      simp only [Res.out] at h ⊢
      cases v with
      | false => rfl
      | true =>
        simp only [if_true] at h ⊢
        cases q3 : b E1 with
        | nx E2 => rw [q3] at h; exact whileLoop_more h
        | ct E2 => rw [q3] at h; exact whileLoop_more h
        | _ => rfl
end M

/-! constants of the module that are tuples; isinstance with own classes of objects -/
namespace M
open PySem PySem.Spec PyProof.Rows L2
mutual
def repKB (K : PySem.W.Frag) : D → Value → Bool
  | .non, .none => true
  | .bl b, .bool b' => b == b'
  | .int i, .int j _ => i == j
  | .tup l, .ref a => match K.lookup a with
    | some ⟨.type c, _, .seq its _, _⟩ => decide (c = "tuple") && (decide (its.size ≤ sizeLine) && repKBs K l its.toList)
    | _ => false
  | .tux l, .ref a => match K.lookup a with
    | some ⟨.type c, none, .seq its _, _⟩ => decide (c = "tuple") && (decide (its.size ≤ sizeLine) && repKBs K l its.toList)
    | _ => false
  | _, _ => false
def repKBs (K : PySem.W.Frag) : List D → List Value → Bool
  | [], [] => true
  | d :: ds, u :: us => repKB K d u && repKBs K ds us
  | _, _ => false
end
mutual
theorem repKB_ok {K : PySem.W.Frag} : ∀ {d : D} {u : Value}, repKB K d u = true → ∃ v, RelV v u ∧ ∀ (c : Cfg) G, c.K = K → Rep c G v d
  | .non, .none, _ => ⟨.non, rfl, fun _ _ _ => .non⟩
  | .bl b, .bool b', h => by
    have e : b = b' := by unfold repKB at h; simpa using h
    subst e
    exact ⟨.bl b, rfl, fun _ _ _ => .bl b⟩
  | .int i, .int j t, h => by
    have e : i = j := by unfold repKB at h; simpa using h
    subst e
    exact ⟨.int i, ⟨t, rfl⟩, fun _ _ _ => .int i⟩
  | .tup l, .ref a, h => by
    unfold repKB at h
    split at h
    · rename_i c od its n sl q
      simp only [Bool.and_eq_true, decide_eq_true_eq] at h
      obtain ⟨h1, h2, h3⟩ := h
      obtain ⟨vs, k1, k2⟩ := repKBs_ok h3
      refine ⟨.ref a, rfl, fun c' G e => .tup (.inr ⟨_, its, n, e ▸ q, congrArg Value.type h1, rfl, h2, k1⟩) (k2 c' G e)⟩
    · cases h
  | .tux l, .ref a, h => by
    unfold repKB at h
    split at h
    · rename_i c its n sl q
      simp only [Bool.and_eq_true, decide_eq_true_eq] at h
      obtain ⟨h1, h2, h3⟩ := h
      obtain ⟨vs, k1, k2⟩ := repKBs_ok h3
      refine ⟨.ref a, rfl, fun c' G e => .tux (.inr ⟨_, its, n, e ▸ q, congrArg Value.type h1, rfl, rfl, h2, k1⟩) (k2 c' G e)⟩
    · cases h
theorem repKBs_ok {K : PySem.W.Frag} : ∀ {ds : List D} {us : List Value}, repKBs K ds us = true → ∃ vs, Vals vs us ∧ ∀ (c : Cfg) G, c.K = K → Reps c G vs ds
  | [], [], _ => ⟨[], .nil, fun _ _ _ => .nil⟩
  | d :: ds, u :: us, h => by
    unfold repKBs at h
    rw [Bool.and_eq_true] at h
    obtain ⟨v, a, b⟩ := repKB_ok h.1
    obtain ⟨vs, a', b'⟩ := repKBs_ok h.2
    exact ⟨v :: vs, .cons a a', fun c G e => .cons (b c G e) (b' c G e)⟩
end
theorem relV_ref {v : V} {a : Addr} (h : RelV v (.ref a)) : v = .ref a := by
  cases v with
  | non => cases (show Value.ref a = Value.none from h)
  | bl b => cases (show Value.ref a = Value.bool b from h)
  | int i => obtain ⟨t, e⟩ := (show ∃ t, Value.ref a = Value.int i t from h); cases e
  | str i => obtain ⟨t, e⟩ := (show ∃ t, Value.ref a = Value.str i t from h); cases e
  | byt i => obtain ⟨t, e⟩ := (show ∃ t, Value.ref a = Value.bytes i t from h); cases e
  | flt i => obtain ⟨t, e⟩ := (show ∃ t, Value.ref a = Value.float i t from h); cases e
  | ref b => cases (show Value.ref a = Value.ref b from h); rfl
  | ty n => cases (show Value.ref a = Value.type n from h)
/-- x, a name of the module that holds d -/
theorem de_gcon {X : Cx} {c : Cfg} {W : WX} {x : Str} {d : D} {pos : Pos} (hK : c.K = X.K) (hg : Gl X x) (hm : X.mg x = some (.ref (He.ga X.K x))) (h : repKB X.K d (.ref (He.ga X.K x)) = true) (hd : (x == ("__debug__" : Str)) = false := by decide) : PE X (.Name x pos) (tE c W (mC d)) := by
  obtain ⟨v, r, k⟩ := repKB_ok h
  have e := relV_ref r
  subst e
  exact de_c (pe_glob (v := .ref (He.ga X.K x)) hg hm rfl hd) fun G => k c G hK
/-! ### isinstance -/
structure InsC (K : PySem.W.Frag) (C : Addr) : Prop where
  cl : Cls K C
  ca : PySem.W.findIn K (.ref C) "__class__" = some (some (.builtin "object.__class__"))
  gt : PySem.W.specialIn K (.builtin "object.__class__") "__get__" = some (some (.builtin "getset_descriptor.__get__"))
  tk : PySem.W.takesIn K (.builtin "object.__class__") = some true
  mo : PySem.W.mroIn K C (.type "object") = some true
  no : ∀ n ∈ clsNames, PySem.W.kitOne K (.ref C) (.type n) = some false
def insB (K : PySem.W.Frag) (C : Addr) : Bool := clsB K C && (decide (PySem.W.findIn K (.ref C) "__class__" = some (some (.builtin "object.__class__"))) &&
  (decide (PySem.W.specialIn K (.builtin "object.__class__") "__get__" = some (some (.builtin "getset_descriptor.__get__"))) &&
  (decide (PySem.W.takesIn K (.builtin "object.__class__") = some true) && (decide (PySem.W.mroIn K C (.type "object") = some true) && clsNames.all fun n => decide (PySem.W.kitOne K (.ref C) (.type n) = some false)))))
theorem insB_ok {K : PySem.W.Frag} {C : Addr} (h : insB K C = true) : InsC K C := by
  unfold insB at h
  simp only [Bool.and_eq_true, decide_eq_true_eq] at h
  exact ⟨clsB_ok h.1, h.2.1, h.2.2.1, h.2.2.2.1, h.2.2.2.2.1, fun n hn => of_decide_eq_true (List.all_eq_true.mp h.2.2.2.2.2 n hn)⟩
/-- y: the classes below it (ks: the classes of objects) -/
def belowB (K : PySem.W.Frag) (ct : Nat → Addr) (ks : List Nat) (C : Addr) (bs : List Nat) : Bool := (tyNames.all fun t => decide (PySem.W.kitOne K (.type t) (.ref C) = some false)) && ks.all fun k => decide (PySem.W.kitOne K (.ref (ct k)) (.ref C) = some (decide (k ∈ bs)))
theorem belowB_ok {K : PySem.W.Frag} {ct : Nat → Addr} {ks bs : List Nat} {C : Addr} (h : belowB K ct ks C bs = true) : (∀ t ∈ tyNames, PySem.W.kitOne K (.type t) (.ref C) = some false) ∧ ∀ k ∈ ks, PySem.W.kitOne K (.ref (ct k)) (.ref C) = some (decide (k ∈ bs)) := by
  unfold belowB at h
  rw [Bool.and_eq_true] at h
  exact ⟨fun t ht => of_decide_eq_true (List.all_eq_true.mp h.1 t ht), fun k hk => of_decide_eq_true (List.all_eq_true.mp h.2 k hk)⟩
def isoD (ks : List Nat) (tab : List (Str × List Nat)) : List D → Option RV
  | [.ins k _, .ty n] => if k ∈ ks ∧ clsNames.contains n = true then some (.fz (.bl false)) else none
  | [.ins k _, .gl y] => match tab.lookup y with
    | some bs => if k ∈ ks then some (.fz (.bl (decide (k ∈ bs)))) else none
    | none => none
  | [d, .gl y] => match tab.lookup y, tyName d with
    | some _, some _ => some (.fz (.bl false))
    | _, _ => none
  | _ => none
theorem tyX_ins {c : Cfg} {K : PySem.W.Frag} {G H : Hp} {v : V} {k : Nat} {fs : List (Str × D)} (h : Pk c G H v (.ins k fs)) (i : InsC K (c.ct k)) : TyX K H v (.ref (c.ct k)) := by
  obtain ⟨a, dx, gs, rfl, ea, _⟩ := h
  exact .base (.ins ea i.cl i.ca i.gt i.tk i.mo)
theorem d_iso {X : Cx} {c : Cfg} {ks : List Nat} {tab : List (Str × List Nat)} (hK : c.K = X.K) (hi : ∀ k ∈ ks, InsC X.K (c.ct k))
    (ht : ∀ y bs, tab.lookup y = some bs → (∀ t ∈ tyNames, PySem.W.kitOne X.K (.type t) (.ref (c.ga y)) = some false) ∧ ∀ k ∈ ks, PySem.W.kitOne X.K (.ref (c.ct k)) (.ref (c.ga y)) = some (decide (k ∈ bs))) :
    CallR X (.builtin "isinstance") (rDn c (isoD ks tab)) := calld call_isi fun e hp q m => by
  unfold isoD at q
  split at q
  · rename_i k fs n
    split at q
    · rename_i hn
      cases q
      cases hp with
      | cons p1 t2 =>
        cases t2 with
        | cons p2 t3 =>
          cases t3
          have p2' := Pk.rep e p2
          cases p2'
          exact ⟨_, _, _, _, _, rfl, .ty _, tyX_ins p1 (hi _ hn.1), (hi _ hn.1).no _ (by simpa using hn.2), m.flat e (.bl _)⟩
    · cases q
  · rename_i k fs y
    split at q
    · rename_i bs hl
      split at q
      · rename_i hk
        cases q
        cases hp with
        | cons p1 t2 =>
          cases t2 with
          | cons p2 t3 =>
            cases t3
            have p2' := Pk.rep e p2
            cases p2'
            exact ⟨_, _, _, _, _, rfl, .own _, tyX_ins p1 (hi _ hk), (ht _ _ hl).2 _ hk, m.flat e (.bl _)⟩
      · cases q
    · cases q
  · rename_i d y _
    split at q
    · rename_i bs t hl h1
      cases q
      cases hp with
      | cons p1 t2 =>
        cases t2 with
        | cons p2 t3 =>
          cases t3
          have p2' := Pk.rep e p2
          cases p2'
          obtain ⟨k1, k2⟩ := tyX_of e p1 h1
          exact ⟨_, _, _, _, _, rfl, .own _, hK ▸ k2, (ht _ _ hl).1 _ k1, m.flat e (.bl _)⟩
    · cases q
  · cases q
theorem bare_isoD : True := trivial
end M

/-! range(a, b, k) -/
namespace M
open PySem PySem.Spec PyProof.Rows L2
def rgN (i j k : Int) : Nat := (Builtin.Range.rangeSize i j k : Int).toNat
def rgL : List D → Option (List D)
  | [.int i, .int j, .int k] => if k ≠ 0 ∧ k.natAbs < 1073741824 ∧ Builtin.Range.small i j k = true ∧ (Builtin.Range.rangeSize i j k : Int) = (rgN i j k : Int) then some ((List.range (rgN i j k)).map fun (t : Nat) => .int (i + t * k)) else none
  | _ => none
theorem rgL_some {ds out : List D} (h : rgL ds = some out) : ∃ i j k : Int, ds = [.int i, .int j, .int k] ∧ RgC i j k (rgN i j k) ∧ out = (List.range (rgN i j k)).map fun (t : Nat) => .int (i + t * k) := by
  unfold rgL at h
  split at h
  · rename_i i j k
    split at h
    · rename_i hb
      exact ⟨i, j, k, rfl, ⟨hb.1, hb.2.1, hb.2.2.1, hb.2.2.2⟩, (Option.some.inj h).symm⟩
    · cases h
  · cases h
def iRange3 (ma : AM) : IM := fun E => (ma E).bind fun rs E1 => match pks E1 rs with
  | some ds => match rgL ds with
    | some out => .ok out E1
    | none => .bad
  | none => .bad
theorem yields_rngC {c : Cfg} {G H : Hp} {lo k : Int} {n : Nat} : Yields c G H ((List.range n).map fun (t : Nat) => .int (lo + t * k)) (Itc lo k n) := fun i G1 H1 e1 e2 _ => by
  rw [List.length_map, List.length_range]
  refine ⟨fun hi => ⟨hi, fun x H' y => ?_⟩, fun hi => Nat.le_of_eq hi⟩
  obtain ⟨rfl, rfl⟩ := y
  exact ⟨.int (lo + i * k), by simp [hi], G1, .refl e2, .int _⟩
section
variable {X : Cx} {c : Cfg} {W : WX} {tg iter : Expr} {es : List Expr} {ma : AM}
theorem di_range3 (h : ∀ {ta : TA}, PA X es ta → PI X tg iter (iRng3 ta)) (ha : PA X es (tA c W ma)) : PI X tg iter (tI c W (iRange3 ma)) :=
  pi_imp (h ha) fun σ H R ⟨f, G, E, Rr, h⟩ => by
    refine ⟨f, G, E, Rr, ?_⟩
    unfold iRange3 at h
    cases q : ma E with
    | bad => rw [q] at h; exact h
    | ex x E' => rw [q] at h; exact h
    | ok rs E1 =>
      rw [q] at h
      intro G1 vs H1 e1 R1 r1
      simp only [Res.bind] at h
      cases q2 : pks E1 rs with
      | none => rw [q2] at h; exact h.elim
      | some ds =>
        rw [q2] at h
        simp only at h
        cases q3 : rgL ds with
        | none => rw [q3] at h; exact h.elim
        | some out =>
          rw [q3] at h
          obtain ⟨i, j, k, rfl, hr, rfl⟩ := rgL_some q3
          have ps := pks_pk R1 r1 q2
          cases ps with
          | cons p1 t1 =>
          cases t1 with
          | cons p2 t2 =>
          cases t2 with
          | cons p3 t3 =>
          cases t3
          have p1 := Pk.rep R1.gh p1
          have p2 := Pk.rep R1.gh p2
          have p3 := Pk.rep R1.gh p3
          cases p1
          cases p2
          cases p3
          exact ⟨i, j, k, rgN i j k, rfl, hr, h G1 H1 _ e1 R1 yields_rngC⟩
end
@[simp] theorem iRange3_eq (ma : AM) (E : Ev) : iRange3 ma E = (ma E).bd fun rs E1 => match pks E1 rs with
  | some ds => match rgL ds with
    | some out => .ok out E1
    | none => .bad
  | none => .bad := rfl
end M

/-! tuple displays that are exact tuples -/
namespace L2
open PySem PySem.Spec PyProof.Rows
def tTupX (t : TA) : TE := fun σ H Q => t σ H fun xs H1 => xs.length ≤ sizeLine ∧ ∀ p o, H1 p = none → o.dict = none → Q (.ref p) (upd H1 p (.frz o (.tup xs)))
theorem pe_tupX {X : Cx} {es : List Expr} {t : TA} {x1} {pos : Pos} (h : PA X es t) : PE X (.Tuple es x1 pos) (tTupX t) := by
  refine ⟨fun pins s σ H Q I hq => ?_⟩
  refine wpAny_Tuple_spliced (thn (h.run pos pins s σ H _ I hq) fun us s1 ⟨xs, H1, I1, r, z, q⟩ => ⟨by rw [← r.length]; exact z, ?_⟩)
  have hf : H1 s1.heap.objs.size = none := I1.hok.fresh (Nat.le_refl _)
  exact ⟨.ref s1.heap.objs.size, _, I1.laid (t' := s1.toks) (fun b u e => Heap.get?_push_of_some _ e) (Nat.le_refl _) (show ObjOk X.prog X.w _ _ _ (.frz _ (.tup xs)) from ⟨Heap.get?_push_size _ rfl, z, us, r, IsTup.new _ _⟩), rfl, q _ _ hf rfl⟩
end L2
namespace M
open PySem PySem.Spec PyProof.Rows L2
def mTupX (ma : AM) : EM := fun E => (ma E).bind fun rs E1 => match fzs E1 rs with
  | some (ds, E2) => if ds.length ≤ maxLen then .ok (.fz (.tux ds)) E2 else .bad
  | none => .bad
theorem de_tupX {X : Cx} {c : Cfg} {W : WX} {es : List Expr} {mr : AM} {pos : Pos} {k : Nat} (ha : PA X es (tA c W mr)) : PE X (.Tuple es k pos) (tE c W (mTupX mr)) := pe_imp (pe_tupX ha) fun σ H Q h => by
  obtain ⟨f, G, E, R, h⟩ := h
  refine tA_bindE R h fun rs E1 G1 vs H1 e1 R1 r1 h1 => ?_
  split at h1
  · rename_i ds E2 hf
    split at h1
    · rename_i hl
      obtain ⟨G2, e2, R2, rep⟩ := fzs_rep R1 r1 hf
      refine ⟨by rw [maxLen_eq, rep.length]; exact hl, fun p o hp ho => ?_⟩
      have g := Gro.newG (o := HO.frz o (.tup vs)) R2.gh hp
      exact h1 _ _ _ (e2.trans g.gg) (R2.gro g) (.tux (.inl ⟨_, upd_same, ho⟩) (rep.mono g.gg))
    · exact h1.elim
  · exact h1.elim
@[simp] theorem mTupX_eq (ma : AM) (E : Ev) : mTupX ma E = (ma E).bd fun rs E1 => match fzs E1 rs with
  | some (ds, E2) => if ds.length ≤ maxLen then .ok (.fz (.tux ds)) E2 else .bad
  | none => .bad := rfl
end M

/-! a step that sets a field; calls that give up what they make -/
namespace M
open PySem PySem.Spec PyProof.Rows L2
@[simp] theorem sFldM_eq (ns : List Nat) (j : Nat) (f : Str) (m : EM) (E : Ev) : sFldM ns j f m E = (m E).ot fun r E1 => match fzn E1 r with
  | some (d, E2) => match own E2 j with
    | some (.ins k fs) => if k ∈ ns ∧ fs.length < 1000 then .nx (setOwn E2 j (.ins k (putA f d fs))) else .bad
    | _ => .bad
  | none => .bad := rfl
theorem fld_fz {ns : List Nat} {j k : Nat} {f : Str} {m : EM} {b : SM} {E E1 E2 : Ev} {r : RV} {d : D} {fs : List (Str × D)} (h : m E = .ok r E1) (hz : fzn E1 r = some (d, E2)) (hj : E2[j]? = some (.bo (.ins k fs))) (hk : k ∈ ns) (hl : fs.length < 1000) :
    sSeq (sFldM ns j f m) b E = b (E2.set j (.bo (.ins k (putA f d fs)))) := by
  rw [sSeq_eq, sFldM_eq, h, out_ok]
  simp only [hz, own_eq, hj, setOwn_eq]
  rw [if_pos ⟨hk, hl⟩, seq_nx]
@[simp] theorem mMakeV_eq (tab : List (Str × Nat × FM)) (mf : EM) (ma : AM) (E : Ev) : mMakeV tab mf ma E = (mf E).bd fun r E1 => match pk E1 r.settle with
  | some (.gl x) => match tab.lookup x with
    | some (n, F) => mMake n F [] ma E1
    | none => .bad
  | _ => .bad := rfl
@[simp] theorem mClsM_eq (x : Str) (F : FM) (dds : List D) (ma : AM) (E : Ev) : mClsM x F dds ma E = mFnD F dds (fun E => (ma E).bd fun rs E1 => .ok (.fz (.gl x) :: rs) E1) E := rfl
@[simp] theorem mMeth_eq (n : Nat) (nm : Str) (F : FM) (dds : List D) (mo : EM) (ma : AM) (E : Ev) : mMeth n nm F dds mo ma E = mFnD F dds (aSelf n nm mo ma) E := rfl
/-- a slot that is not lent -/
def nbS (o : Option M.Slot) : Bool := match o with
  | some (.bo _) => false
  | _ => true
theorem notBo_list (E : Ev) (i : Nat) : notBo E i = nbS (E[i]?) := rfl
@[simp] theorem nbS_fz (d : D) : nbS (some (.fz d)) = true := rfl
@[simp] theorem nbS_ow (m : MO) : nbS (some (.ow m)) = true := rfl
@[simp] theorem nbS_un : nbS (some .un) = true := rfl
@[simp] theorem nbS_bo (m : MO) : nbS (some (.bo m)) = false := rfl
theorem Nb.s {s : M.Slot} (h : Nb s) : nbS (some s) = true := by
  unfold nbS
  split
  · rename_i m q
    cases q
    exact absurd rfl (h m)
  · rfl
theorem Nb.of {s : M.Slot} (h : nbS (some s) = true) : Nb s := fun m e => by
  subst e
  cases h
theorem fl_cons {t : TgM} {b : SM} {d : D} {ds : List D} {E E1 E2 : Ev} (ht : t d E = some E1) (hb : b E1 = .nx E2) : forLoop t b (d :: ds) E = forLoop t b ds E2 := by
  rw [forLoop_cons, ht]
  simp only [hb]
theorem tg_set {i : Nat} {d : D} {E : Ev} {s : M.Slot} (hi : E[i]? = some s) (hs : nbS (some s) = true) : tgName i d E = some (E.set i (.fz d)) := by
  rw [tgName_eq, notBo_list, hi, if_pos hs]
end M

/-! x == y by an own __eq__ that answers without raising -/
namespace M
open PySem PySem.Spec PyProof.Rows L2
def eqOp (n : Nat) (F : FM) : D → D → Option RV
  | .ins k fs, .ins k' gs => if k = n ∧ k' = n then (match (F [.fz (.ins k fs), .fz (.ins k' gs)]).rx with
    | .ok (.fz (.bl b)) => some (.fz (.bl b))
    | _ => none) else none
  | _, _ => none
theorem rx_fz {r : Res RV} {d : D} (h : r.rx = .ok (.fz d)) : ∃ E, r = .ok (.fz d) E := by
  cases r with
  | ok a E => simp only [rx_ok] at h; cases h; exact ⟨E, rfl⟩
  | ex x E => simp at h
  | bad => simp at h
theorem RS.pure {c : Cfg} {H : Hp} {x y : V} {d e : D} (hP : ∀ G, c.P G) (hx : Rep c H x d) (hy : Rep c H y e) : RS c (startF H H [.fz d, .fz e] [x, y]) H [.fz d, .fz e] ([x, y].map some) H where
  gh := .refl H
  g0 := .refl H
  new := fun a o h => .inl (by show H a ≠ none; rw [h]; exact fun z => nomatch z)
  fr := fun a o h _ => h
  len := rfl
  fz := fun i d' h => by
    match i, h with
    | 0, h => cases h; exact ⟨x, rfl, hx⟩
    | 1, h => cases h; exact ⟨y, rfl, hy⟩
    | i + 2, h => simp at h
  ow := fun i m h => by
    match i, h with
    | 0, h => cases h
    | 1, h => cases h
    | i + 2, h => simp at h
  bo := fun i m h => by
    match i, h with
    | 0, h => cases h
    | 1, h => cases h
    | i + 2, h => simp at h
  bos := fun i p h => by
    match i, h with
    | 0, h => cases h
    | 1, h => cases h
    | i + 2, h => simp [startF, boOf] at h
  dis := fun i j p _ h _ => by
    obtain ⟨⟨m, h⟩, _⟩ := h
    match i, h with
    | 0, h => rcases h with h | h <;> cases h
    | 1, h => rcases h with h | h <;> cases h
    | i + 2, h => simp at h
  inv := hP H
  xv := fun i h => by
    match i, h with
    | 0, h => cases h
    | 1, h => cases h
    | i + 2, h => simp at h
section
variable {X : Cx} {c : Cfg} {n : Nat} {F : FM} {ps : List Str}
theorem d_eqO (hP : ∀ G, c.P G) (hu : X.A.units < cLine) (C : CalM X c n "__eq__" ps 2 F []) : OpR X (compareOp .Eq) (rD c (eqOp n F)) := by
  rintro pins s σ H x y v u Q I rx ry ⟨G, a, b, r, e, ha, hb, q, m⟩
  unfold eqOp at q
  split at q
  · rename_i k fs k' gs
    split at q
    · rename_i hk
      obtain ⟨rfl, rfl⟩ := hk
      split at q
      · rename_i bb hF
        cases q
        have ra := ha.rep e
        have rb := hb.rep e
        have rs := RS.pure hP ra rb
        obtain ⟨E', hF⟩ := rx_fz hF
        cases ra with
        | ins ea ek er =>
        cases rb with
        | ins fa fk fr =>
        rename_i ia dx fs1 ib dy gs1
        obtain ⟨cls, f, fd, ds, dvs, h1, h3, h4, h5, h6⟩ := C
        obtain rfl : dvs = [] := by simpa using (h6 (fun _ => none)).length
        cases h5
        cases rx
        cases ry
        obtain ⟨mA, J, _⟩ := ins_get I.hok ea
        obtain ⟨mB, J', _⟩ := ins_get I.hok fa
        obtain ⟨od, J, _⟩ := J.look
        obtain ⟨od', J', _⟩ := J'.look
        obtain ⟨mm, hFr⟩ := I.fr
        show wpAny (model X.prog X.w) X.A (richCompare .Eq (.ref ia) (.ref ib)) (EP X pins σ Q) X.xe s
        refine PySem.W.cmp_K (op := .Eq) (tb := .ref (c.ct k')) hu hFr I.ok.mod.kin J J'.type (by simp [PySem.W.notFirst]) h1.at_ h1.fn ?_
        have r2 : Vals [V.ref ia, V.ref ib] [Value.ref ia, Value.ref ib] := .cons rfl (.cons rfl .nil)
        have hsp : spM c 2 F [V.ref ia, V.ref ib] H (fun v H' => v = .bl bb ∧ Same H H') E0 := by
          refine ⟨rfl, H, [.fz (.ins k' fs), .fz (.ins k' gs)], rfl, rs, ?_⟩
          rw [hF]
          intro G' σ' w H' sg R' rel
          have z : Rep c G' w (.bl bb) := rel
          cases z
          exact ⟨rfl, sg.trans R'.gh⟩
        have hx : PassesAt (L2.CX X.prog X.w) X σ E0 := fun _ _ _ _ _ _ h => by
          obtain ⟨_, _, _, _, _, _, _, _, _, _, _, _, z⟩ := h
          exact z.elim
        have bd := h4 s [Value.ref ia, Value.ref ib] I.kIn (by
          have := h3.len _ _ _ _ hsp
          simpa using this)
        have run := runA (E := fun _ => E0) (args := ⟨[Value.ref ia, Value.ref ib], []⟩) h3 (by simpa using bd) hx I r2 hsp
        refine wpAny_mono run (fun w s' z => ?_) fun _ _ z => z
        obtain ⟨w', H', I', rw', ew, sh⟩ := z
        subst ew
        cases rw'
        refine ⟨.bl bb, H', I', rfl, ?_⟩
        exact m G (.bl bb) H' ⟨sh, .refl G, e.trans sh, fun a o h => .inl h⟩ (.bl bb)
      · cases q
    · cases q
  · cases q
end
theorem eqOp_of {n : Nat} {F : FM} {fs gs : List (Str × D)} {b : Bool} (h : (F [.fz (.ins n fs), .fz (.ins n gs)]).rx = .ok (.fz (.bl b))) : orO2 (eqOp n F) eqD (.ins n fs) (.ins n gs) = some (.fz (.bl b)) := by
  simp [orO2, eqOp, h]
theorem lt_of64 {a b : Nat} (h : a + 64 < b) : a < b := by omega
theorem lc_cons {t : TgM} {cond : BM} {elt : EM} {vs : List Nat} {d v : D} {ds acc : List D} {E E1 E2 E3 E4 : Ev} {r : RV} (ht : t d E = some E1) (hc : cond E1 = .ok true E2) (he : elt E2 = .ok r E3) (hf : fzn E3 r = some (v, E4)) (hn : allNotBo E4 vs = true) (hl : acc.length < maxLen) :
    lcLoop t cond elt vs (d :: ds) acc E = lcLoop t cond elt vs ds (acc ++ [v]) (wipeE E4 vs) := by
  simp only [lcLoop, ht, hc, he, hf, hn, if_pos (show acc.length < maxLen ∧ True from ⟨hl, trivial⟩)]
end M

/-! max(xs) and min(xs) of a list of ints -/
namespace M
open PySem PySem.Spec PyProof.Rows L2
variable {X : Cx} {c : Cfg}
def maxI : List Int → Int
  | [] => 0
  | [a] => a
  | a :: b :: l => max a (maxI (b :: l))
theorem maxI_mem : ∀ {l : List Int}, 0 < l.length → maxI l ∈ l
  | [a], _ => by simp [maxI]
  | a :: b :: l, _ => by
    have h := maxI_mem (l := b :: l) (by simp)
    rw [maxI]
    rcases Int.le_total a (maxI (b :: l)) with z | z
    · rw [Int.max_eq_right z]
      exact List.mem_cons_of_mem _ h
    · rw [Int.max_eq_left z]
      exact List.mem_cons_self
theorem maxI_le : ∀ {l : List Int} {y : Int}, y ∈ l → y ≤ maxI l
  | [a], y, h => by
    rw [List.mem_singleton] at h
    subst h
    exact Int.le_refl _
  | a :: b :: l, y, h => by
    rw [maxI]
    rcases List.mem_cons.mp h with rfl | h
    · omega
    · have := maxI_le (l := b :: l) h
      omega
def maxLD : List D → Option RV
  | [.lst l] => (intsD l).bind fun ns => if 0 < ns.length then some (.fz (.int (maxI ns))) else none
  | [.frl l] => (intsD l).bind fun ns => if 0 < ns.length then some (.fz (.int (maxI ns))) else none
  | _ => none
theorem d_maxL (hK : c.K = X.K) (hc : X.calm = true) : CallR X (.builtin "max") (rDn c maxLD) := calld (cr_max hc) fun e hp q m => by
  unfold maxLD at q
  split at q
  · rename_i l
    cases z : intsD l with
    | none => rw [z] at q; cases q
    | some ns =>
      rw [z] at q
      simp only [Option.bind_some] at q
      split at q
      · rename_i h0
        cases q
        cases hp with
        | cons p1 t =>
          cases t
          obtain ⟨a, vs, rfl, h1, r1⟩ := p1
          rw [intsD_map z] at r1
          rw [r1.of_ints] at h1
          exact ⟨a, ns, rfl, .of h1, h0, fun y h2 h3 => by
            have e1 : y = maxI ns := Int.le_antisymm (maxI_le h2) (h3 _ (maxI_mem h0))
            subst e1
            exact m.flat e (.int _)⟩
      · cases q
  · rename_i l
    cases z : intsD l with
    | none => rw [z] at q; cases q
    | some ns =>
      rw [z] at q
      simp only [Option.bind_some] at q
      split at q
      · rename_i h0
        cases q
        cases hp with
        | cons p1 t =>
          cases t
          obtain ⟨a, vs, rfl, h1, r1⟩ := p1
          rw [intsD_map z] at r1
          rw [r1.of_ints] at h1
          exact ⟨a, ns, rfl, hK ▸ h1, h0, fun y h2 h3 => by
            have e1 : y = maxI ns := Int.le_antisymm (maxI_le h2) (h3 _ (maxI_mem h0))
            subst e1
            exact m.flat e (.int _)⟩
      · cases q
  · cases q
def maxD := orO max2D maxLD
theorem d_max (hK : c.K = X.K) (hc : X.calm = true) : CallR X (.builtin "max") (rDn c maxD) := calld_or (d_max2 hc) (d_maxL hK hc)
end M

/-! enumerate of a tuple or a list that a def was given -/
namespace M
open PySem PySem.Spec PyProof.Rows L2
variable {X : Cx} {c : Cfg} {W : WX}
def iOr (A B : IM) : IM := fun E => match A E with
  | .bad => B E
  | r => r
theorem di_or {tg iter : Expr} {A B : IM} (hA : PI X tg iter (tI c W A)) (hB : PI X tg iter (tI c W B)) : PI X tg iter (tI c W (iOr A B)) := ⟨fun pins s σ H R I h => by
  obtain ⟨f, G, E, Rr, h⟩ := h
  unfold iOr at h
  cases q : A E with
  | bad => rw [q] at h; exact hB.run pins s σ H R I ⟨f, G, E, Rr, h⟩
  | ok ds E' => rw [q] at h; exact hA.run pins s σ H R I ⟨f, G, E, Rr, by rw [q]; exact h⟩
  | ex x E' => rw [q] at h; exact hA.run pins s σ H R I ⟨f, G, E, Rr, by rw [q]; exact h⟩⟩
def iEnumA (m : EM) : IM := iOr (iEnumM m) (iEnumL m)
theorem iEnumA_t {m : EM} {E E1 : Ev} {ds : List D} (h : iEnumM m E = .ok ds E1) : iEnumA m E = .ok ds E1 := by
  simp only [iEnumA, iOr, h]
theorem iEnumA_l {m : EM} {E E1 : Ev} {ds : List D} (h : iEnumM m E = .bad) (k : iEnumL m E = .ok ds E1) : iEnumA m E = .ok ds E1 := by
  simp only [iEnumA, iOr, h, k]
end M

/-! the head with addresses that are written out -/
namespace M
open PySem.W PySem.Calls
open PySem PySem.Spec PyProof.Rows L2
/-- the objects at these addresses, laid one by one -/
def layK {α : Type} (g : Addr → Option Obj) : List Addr → PySem.W.Frag → (PySem.W.Frag → α) → α
  | [], K, k => k K
  | a :: as, K, k => match g a with
    | some o => layK g as ((a, o) :: K) k
    | none => layK g as K k
theorem layK_eq {α : Type} (g : Addr → Option Obj) (k : PySem.W.Frag → α) : ∀ (as : List Addr) (K : PySem.W.Frag), layK g as K k = k ((He.frG g as).reverse ++ K)
  | [], K => rfl
  | a :: as, K => by
    unfold layK
    cases e : g a with
    | some o =>
      simp only
      rw [layK_eq g k as, show He.frG g (a :: as) = (a, o) :: He.frG g as by simp [He.frG, e], List.reverse_cons, List.append_assoc]
      rfl
    | none =>
      simp only
      rw [layK_eq g k as, show He.frG g (a :: as) = He.frG g as by simp [He.frG, e]]
def obsW (fa : List He.Fa) (fn : List He.DefD) (wr : List WrD) (ex : List (PySem.W.Frag → Bool)) (K : PySem.W.Frag) : AlW :=
  ((He.obsD fa fn K, (ex.all fun t => t K) && wr.all fun x => okA K (x.ad K) x.d), wr.map fun x => fnA K (x.ad K))
theorem inK {g : Addr → Option Obj} : ∀ {K : PySem.W.Frag}, (∀ p ∈ K, g p.1 = some p.2) → ∀ a o, K.lookup a = some o → g a = some o
  | [], _, a, o, h => nomatch h
  | (b, u) :: K, hk, a, o, h => by
    rw [List.lookup_cons] at h
    by_cases e : a = b
    · subst e
      rw [beq_self_eq_true] at h
      cases h
      exact hk _ List.mem_cons_self
    · rw [beq_false_of_ne e] at h
      exact inK (fun p hp => hk p (List.mem_cons_of_mem _ hp)) a o h
theorem frG_mem {g : Addr → Option Obj} {as : List Addr} : ∀ p ∈ (He.frG g as).reverse ++ [], g p.1 = some p.2 := fun p hp => by
  rw [List.append_nil, List.mem_reverse] at hp
  unfold He.frG at hp
  rw [List.mem_filterMap] at hp
  obtain ⟨a, _, h⟩ := hp
  rw [Option.map_eq_some_iff] at h
  obtain ⟨o, h1, rfl⟩ := h
  exact h1
def hookL (as : List Addr) (fa : List He.Fa) (fn : List He.DefD) (wr : List WrD) (ex : List (PySem.W.Frag → Bool)) : PySem.W.Hook where
  α := AlW
  obs := fun s => layK s.heap.get? as [] (obsW fa fn wr ex)
  val := fun _ => ((He.valD fn, true), wr.map fun x => x.d.val)
  says := fun _ h => ∃ K : PySem.W.Frag, K.In h ∧ SaysW fa fn wr ex K
  of := fun _ s e => by
    rw [layK_eq] at e
    have e1 := congrArg (fun z : AlW => z.1.1) e
    have e2 := congrArg (fun z : AlW => z.1.2) e
    have e3 := congrArg (fun z : AlW => z.2) e
    have e2' := (Bool.and_eq_true _ _).mp e2
    exact ⟨(He.frG s.heap.get? as).reverse ++ [], inK frG_mem, e1, e2'.1, e2'.2, e3⟩
  keeps := fun _ _ _ ⟨K, hK, c⟩ k => ⟨K, PySem.W.Frag.In.keeps hK k, c⟩
def obL (as : List Addr) (fa : List He.Fa) (fn : List He.DefD) (wr : List WrD) (ex : List (PySem.W.Frag → Bool)) (g : Addr → Option Obj) : AlW := layK g as [] (obsW fa fn wr ex)
theorem obL_eq {as : List Addr} {fa : List He.Fa} {fn : List He.DefD} {wr : List WrD} {ex : List (PySem.W.Frag → Bool)} {g : Addr → Option Obj} {s : Shared} (h : ∀ a, g a = s.heap.get? a) : obL as fa fn wr ex g = (hookL as fa fn wr ex).obs s := by
  have e : g = s.heap.get? := funext h
  rw [e]
  rfl
end M
namespace M
open PySem.W PySem.Calls
open PySem PySem.Spec PyProof.Rows L2
/-- one look at the run's end -/
def Piece (r : PySem.W.OpenRow) (N : Nat) (w : World) {α : Type} (h : PySem.W.SharedT → α) (v : α) : Prop :=
  ∀ os : OsState, (HandSHeadRun.endF (HandSHeadRun.stepQ (HandSHeadRun.denQ HandSHeadRun.tabQ) r.prog w) N r.prog w os).map h = some v
def lookP (as : List Addr) {α : Type} (k : PySem.W.Frag → α) : PySem.W.SharedT → α := fun s => layK (HandSHeadRun.getT s) as [] k
theorem run_of {r : PySem.W.OpenRow} {q : Program} {N : Nat} {loose : List PySem.Str} {w : World} {as : List Addr} {fa : List He.Fa} {fn : List He.DefD} {wr : List WrD} {ex : List (PySem.W.Frag → Bool)}
    (a : Piece r N w (fun s => (HandSHeadRun.looksF r.prog (boot_heap w.params) s.abs, HandSHeadRun.seenQ q loose (PySem.importedModules r.prog.main.body) (fun s => PySem.W.xlAt q [] s && PySem.W.recOk r.toRowW.records s) s.abs)) (true, PySem.W.openGood q loose))
    (b : Piece r N w (lookP as fun K => (fa.all fun f => f.ok K, wr.all fun x => okA K (x.ad K) x.d, wr.map fun x => fnA K (x.ad K))) (true, true, wr.map fun x => x.d.val))
    (c : Piece r N w (lookP as fun K => ex.all fun t => t K) true)
    (d : Piece r N w (lookP as fun K => (fn.all fun d => d.ok K, fn.map fun d => He.fnW K d.at_)) (true, fn.map He.DefD.val)) :
    HandSHeadRun.RunEq r q (hookL as fa fn wr ex) (fun s => obL as fa fn wr ex (HandSHeadRun.getT s)) N loose w := by
  intro os
  have a := a os
  have b := b os
  have c := c os
  have d := d os
  generalize HandSHeadRun.endF (HandSHeadRun.stepQ (HandSHeadRun.denQ HandSHeadRun.tabQ) r.prog w) N r.prog w os = o at a b c d ⊢
  cases o with
  | none => exact nomatch a
  | some s =>
    simp only [Option.map_some, Option.some.injEq, lookP, layK_eq, Prod.mk.injEq] at a b c d
    refine congrArg some (Prod.ext a.1 (Prod.ext a.2 ?_))
    show obL as fa fn wr ex (HandSHeadRun.getT s) = _
    unfold obL
    rw [layK_eq]
    generalize (He.frG (HandSHeadRun.getT s) as).reverse ++ [] = K at *
    show ((((fa.all fun f => f.ok K) && fn.all fun d => d.ok K, fn.map fun d => He.fnW K d.at_), (ex.all fun t => t K) && wr.all fun x => okA K (x.ad K) x.d), wr.map fun x => fnA K (x.ad K)) = ((He.valD fn, true), wr.map fun x => x.d.val)
    rw [b.1, b.2.1, b.2.2, c, d.1, d.2]
    rfl
end M

/-! comprehensions over one name -/
namespace M
open PySem PySem.Spec PyProof.Rows L2
theorem lc_one {α : Type} {i : Nat} {cond : BM} {elt : EM} {E : Ev} {s : M.Slot} {g f : α → D} {P : α → Bool} {l : List α} {acc : List D} (hi : E[i]? = some s) (hs : nbS (some s) = true) (hE : E.set i .un = E)
    (hc : ∀ a ∈ l, cond (E.set i (.fz (g a))) = .ok (P a) (E.set i (.fz (g a)))) (he : ∀ a ∈ l, P a = true → ∃ r, elt (E.set i (.fz (g a))) = .ok r (E.set i (.fz (g a))) ∧ fzn (E.set i (.fz (g a))) r = some (f a, E.set i (.fz (g a))))
    (hl : acc.length + l.length ≤ maxLen) : lcLoop (tgName i) cond elt [i] (l.map g) acc E = .ok (.ow (.lst (acc ++ (l.filter P).map f))) E := by
  have hn : i < E.length := (List.getElem?_eq_some_iff.mp hi).1
  have nb : ∀ d : D, allNotBo (E.set i (.fz d)) [i] = true := fun d => by
    simp only [allNotBo_cons, allNotBo_nil, Bool.and_true, notBo_list, List.getElem?_set_self hn]
    rfl
  have wi : ∀ d : D, wipeE (E.set i (.fz d)) [i] = E := fun d => by
    simp only [wipeE_cons, wipeE_nil, List.set_set]
    exact hE
  refine lc_fm (fun a ha => ⟨_, _, tg_set hi hs, hc a ha, fun _ => ⟨nb _, wi _⟩, fun p => ?_⟩) hl
  obtain ⟨r, h1, h2⟩ := he a ha p
  exact ⟨r, _, _, h1, h2, nb _, wi _⟩
theorem lc_all {α : Type} {i : Nat} {elt : EM} {E : Ev} {s : M.Slot} {g f : α → D} {l : List α} (hi : E[i]? = some s) (hs : nbS (some s) = true) (hE : E.set i .un = E)
    (he : ∀ a ∈ l, ∃ r, elt (E.set i (.fz (g a))) = .ok r (E.set i (.fz (g a))) ∧ fzn (E.set i (.fz (g a))) r = some (f a, E.set i (.fz (g a))))
    (hl : l.length ≤ maxLen) : lcLoop (tgName i) tYesM elt [i] (l.map g) [] E = .ok (.ow (.lst (l.map f))) E := by
  have := lc_one (cond := tYesM) (P := fun _ => true) (acc := []) hi hs hE (fun a _ => rfl) (fun a ha _ => he a ha) (by simpa using hl)
  rw [List.nil_append, List.filter_eq_self.mpr (fun _ _ => rfl)] at this
  exact this
end M

/-! x != y by an own __eq__ that answers without raising -/
namespace M
open PySem PySem.Spec PyProof.Rows L2
section
variable {P : Program} {w : World} {A : Around} {E : Value → Shared → Prop} {s : Shared} {K : PySem.W.Frag} {x C f : Addr} {ox : Obj} {od : Option Obj} {b tb : Value} {h₀ : Heap} {L : Addr} {m : Str → Option Value}
theorem ifBound_objNe {M : Model} {args : List Value} {Q : Option Value → Shared → Prop} (X : K.In s.heap) (I : PySem.W.InstAt s.heap x ox C od) (hs : PySem.W.findIn K (.ref C) "__ne__" = some (some (.builtin "object.__ne__")))
    (h : wpAny M A (call (.builtin "object.__ne__") (.ref x :: args)) (fun v => Q (some v)) E s) : wpAny M A (callSpecialIfBound? (.ref x) "__ne__" args) Q E s := by
  simp only [callSpecialIfBound?, bindSpecialIfBound?]
  refine wpAny_holding (wpAny_bind (wpAny_bind (wpAny_bind (I.type.here ((PySem.W.looks_findIn X hs).here ?_)))))
  refine wpAny_bind (wpAny_askSetting (wpAny_ite ?_))
  have fin : wpAny M A (call (.builtin "object.__ne__") ([.ref x] ++ args) >>= fun v => pure (some v)) Q E s := wpAny_bind (wpAny_mono h (fun v s' h' => wpAny_pure h') fun _ _ h' => h')
  split
  · exact wpAny_bind (wpAny_of_eq (F.cmp_object.ne.bind _) (wpAny_pure (by exact fin)))
  · exact wpAny_tryCatch (wpAny_bind (wpAny_of_eq (F.cmp_object.ne.bind _) (wpAny_pure (by exact fin))))
theorem entry_objNe {Q : Fin → Shared → Prop} (hu : A.units < cLine) (X : K.In s.heap) (I : PySem.W.InstAt s.heap x ox C od) (hs : PySem.W.findIn K (.ref C) "__eq__" = some (some (.ref f))) (hf : PySem.W.isFn K (.ref f) = true)
    (h : wpAny (model P w) A (call (.ref f) [.ref x, b]) (fun v s' => ∃ q, v = .bool q ∧ Q (.done (.ret (.bool (!q)))) s') E s) : wpAny (model P w) A (Builtin.«object.__ne__» ⟨[.ref x, b], []⟩) Q E s := by
  unfold Builtin.«object.__ne__»
  repeat (first
    | with_reducible refine wpAny_cRoomFor hu ?_
    | (refine wpAny_bind (m := callSpecialIfBound? (.ref x) (Str.ofString "__eq__") [b]) (PySem.W.ifBound_K X I hs hf (wpAny_mono h (fun r s' hr => by
          obtain ⟨q, rfl, hq⟩ := hr
          repeat (first | exact hq | exact wpAny_pure hq | exact wpAny_truthy_bool hq | (refine wpAny_bind (m := truthy (.bool _)) (wpAny_truthy_bool ?_)) | wp_step)) fun _ _ e => e)))
    | wp_step)
theorem call_objNe {Q : Value → Shared → Prop} (hu : A.units + 1 < cLine) (X : K.In s.heap) (I : PySem.W.InstAt s.heap x ox C od) (hm : PySem.W.mroIn K C (.type "object") = some true) (hs : PySem.W.findIn K (.ref C) "__eq__" = some (some (.ref f))) (hf : PySem.W.isFn K (.ref f) = true)
    (h : wpAny (model P w) A.in1 (call (.ref f) [.ref x, b]) (fun v s' => ∃ q, v = .bool q ∧ Q (.bool (!q)) s') E s) : wpAny (model P w) A (call (.builtin "object.__ne__") [.ref x, b]) Q E s :=
  wpAny_call (codeAny_call_builtin F.cmp_object.ne.plain F.cmpEntry_ne (PySem.W.check_slot F.cmpKind_ne F.cmpSplit_ne (I.type.andThen (PySem.W.looks_mroIn X hm)) (F.cmpArgs_ne _ _) (entry_objNe (A := A.in1) (by exact hu) X I hs hf h)))
theorem rich_ne {Q : Value → Shared → Prop} (hu : A.units + 1 < cLine) (F : PyProof.Rows.Fr h₀ L s.heap m) (X₀ : K.In h₀) (I : PySem.W.InstAt s.heap x ox C od) (hb : PySem.W.Looks (model P w) s.heap (typeOf b) tb) (hn : PySem.W.notFirst K C tb = true)
    (hne : PySem.W.findIn K (.ref C) "__ne__" = some (some (.builtin "object.__ne__"))) (hm : PySem.W.mroIn K C (.type "object") = some true) (hs : PySem.W.findIn K (.ref C) "__eq__" = some (some (.ref f))) (hf : PySem.W.isFn K (.ref f) = true)
    (h : wpAny (model P w) A.in1 (call (.ref f) [.ref x, b]) (fun v s' => ∃ q, v = .bool q ∧ Q (.bool (!q)) s') E s) : wpAny (model P w) A (richCompare .NotEq (.ref x) b) Q E s := by
  have X := X₀.keeps F.keep
  have one : wpAny (model P w) A (tryCompare (.ref x) "__ne__" b) (fun r s' => ∃ v, r = some v ∧ Q v s') E s := by
    unfold tryCompare
    refine wpAny_bind (ifBound_objNe X I hne (call_objNe hu X I hm hs hf (wpAny_mono h (fun v s' hv => ?_) fun _ _ e => e)))
    obtain ⟨q, rfl, hq⟩ := hv
    exact ⟨q, rfl, wpAny_pure ⟨_, rfl, hq⟩⟩
  unfold richCompare
  simp only [oneThing_ref]
  refine wpAny_holding (wpAny_bind (wpAny_cRoomFor (Nat.lt_of_succ_lt hu) ?_))
  rw [cmpInfo_NotEq]
  dsimp only
  refine wpAny_bind (I.type.here (wpAny_bind (hb.here ?_)))
  split
  · rename_i q
    have e : PySem.W.subIn K tb (.ref C) = some false := by
      rcases Bool.or_eq_true_iff.mp hn with e | e
      · rw [beq_iff_eq.mp e] at q; simp at q
      · exact beq_iff_eq.mp e
    refine wpAny_bind ((PySem.W.looks_subIn X e).here ?_)
    simp only [Bool.false_eq_true, if_false]
    refine wpAny_bind (wpAny_mono one (fun r s' z => ?_) fun _ _ e => e)
    obtain ⟨v, rfl, hq⟩ := z
    exact wpAny_pure hq
  · refine wpAny_bind (wpAny_pure ?_)
    simp only [Bool.false_eq_true, if_false]
    refine wpAny_bind (wpAny_mono one (fun r s' z => ?_) fun _ _ e => e)
    obtain ⟨v, rfl, hq⟩ := z
    exact wpAny_pure hq
end
/-- an own __eq__ asked one level deeper, by object.__ne__ -/
structure CalN (X : Cx) (c : Cfg) (n : Nat) (ps : List Str) (F : FM) : Prop where
  ne : PySem.W.findIn X.K (.ref (c.ct n)) "__ne__" = some (some (.builtin "object.__ne__"))
  ob : PySem.W.mroIn X.K (c.ct n) (.type "object") = some true
  ex : ∃ (f : Addr) (fd : FuncData), Meth X.K (c.ct n) "__eq__" f ∧ FnAt X.prog X.w X.K X.mg X.base (L2.CX X.prog X.w) X.A.in1 f fd ps (spM c 2 F) ∧ Binds X.K fd ps []
def neB (K : PySem.W.Frag) (C : Addr) : Bool := decide (PySem.W.findIn K (.ref C) "__ne__" = some (some (.builtin "object.__ne__"))) && decide (PySem.W.mroIn K C (.type "object") = some true)
theorem neB_ok {K : PySem.W.Frag} {C : Addr} (h : neB K C = true) : PySem.W.findIn K (.ref C) "__ne__" = some (some (.builtin "object.__ne__")) ∧ PySem.W.mroIn K C (.type "object") = some true := by
  unfold neB at h
  simp only [Bool.and_eq_true, decide_eq_true_eq] at h
  exact h
def neOp (n : Nat) (F : FM) : D → D → Option RV
  | .ins k fs, .ins k' gs => if k = n ∧ k' = n then (match (F [.fz (.ins k fs), .fz (.ins k' gs)]).rx with
    | .ok (.fz (.bl b)) => some (.fz (.bl (!b)))
    | _ => none) else none
  | _, _ => none
theorem neOp_of {n : Nat} {F : FM} {fs gs : List (Str × D)} {b : Bool} (h : (F [.fz (.ins n fs), .fz (.ins n gs)]).rx = .ok (.fz (.bl b))) : orO2 (neOp n F) neD (.ins n fs) (.ins n gs) = some (.fz (.bl (!b))) := by
  simp [orO2, neOp, h]
section
variable {X : Cx} {c : Cfg} {n : Nat} {F : FM} {ps : List Str}
theorem d_neO (hP : ∀ G, c.P G) (hu : X.A.units + 1 < cLine) (C : CalN X c n ps F) : OpR X (compareOp .NotEq) (rD c (neOp n F)) := by
  rintro pins s σ H x y v u Q I rx ry ⟨G, a, b, r, e, ha, hb, q, m⟩
  unfold neOp at q
  split at q
  · rename_i k fs k' gs
    split at q
    · rename_i hk
      obtain ⟨rfl, rfl⟩ := hk
      split at q
      · rename_i bb hF
        cases q
        have ra := ha.rep e
        have rb := hb.rep e
        have rs := RS.pure hP ra rb
        obtain ⟨E', hF⟩ := rx_fz hF
        cases ra with
        | ins ea ek er =>
        cases rb with
        | ins fa fk fr =>
        rename_i ia dx fs1 ib dy gs1
        obtain ⟨cne, cob, f, fd, h1, h3, h4⟩ := C
        cases rx
        cases ry
        obtain ⟨mA, J, _⟩ := ins_get I.hok ea
        obtain ⟨mB, J', _⟩ := ins_get I.hok fa
        obtain ⟨od, J, _⟩ := J.look
        obtain ⟨od', J', _⟩ := J'.look
        obtain ⟨mm, hFr⟩ := I.fr
        show wpAny (model X.prog X.w) X.A (richCompare .NotEq (.ref ia) (.ref ib)) (EP X pins σ Q) X.xe s
        refine rich_ne (tb := .ref (c.ct k')) hu hFr I.ok.mod.kin J J'.type (by simp [PySem.W.notFirst]) cne cob h1.at_ h1.fn ?_
        have r2 : Vals [V.ref ia, V.ref ib] [Value.ref ia, Value.ref ib] := .cons rfl (.cons rfl .nil)
        have hsp : spM c 2 F [V.ref ia, V.ref ib] H (fun v H' => v = .bl bb ∧ Same H H') E0 := by
          refine ⟨rfl, H, [.fz (.ins k' fs), .fz (.ins k' gs)], rfl, rs, ?_⟩
          rw [hF]
          intro G' σ' w H' sg R' rel
          have z : Rep c G' w (.bl bb) := rel
          cases z
          exact ⟨rfl, sg.trans R'.gh⟩
        have hx : PassesAt (L2.CX X.prog X.w) X σ E0 := fun _ _ _ _ _ _ h => by
          obtain ⟨_, _, _, _, _, _, _, _, _, _, _, _, z⟩ := h
          exact z.elim
        have bd := h4 s [Value.ref ia, Value.ref ib] I.kIn (by
          have := h3.len _ _ _ _ hsp
          simpa using this)
        refine wpAny_call (codeAny_mono (h3.run X.stack s H ⟨[.ref ia, .ref ib], []⟩ [.ref ia, .ref ib] _ _ E0 I.env0.in1 (by simpa using bd) r2 hsp) fun r s' out => ?_)
        match r, out with
        | .error e, out => exact (hx pins H s e s' I out)
        | .ok .next, out => exact False.elim out
        | .ok .brk, out => exact False.elim out
        | .ok .cont, out => exact False.elim out
        | .ok (.ret u), out =>
          obtain ⟨w', H', I', rw', ew, sh⟩ := I.after out
          subst ew
          cases rw'
          refine ⟨bb, rfl, .bl (!bb), H', I', rfl, ?_⟩
          exact m G (.bl (!bb)) H' ⟨sh, .refl G, e.trans sh, fun a o h => .inl h⟩ (.bl (!bb))
      · cases q
    · cases q
  · cases q
end
end M

/-! a op b op c; reversed(range(..)) -/
namespace M
open PySem PySem.Spec PyProof.Rows L2
def mChain (g g' : D → D → Option RV) (ma mb mc : EM) : EM := fun E => (ma E).bind fun ra E1 => (mb E1).bind fun rb E2 => match pk E2 ra.settle, pk E2 rb.settle with
  | some x, some y => match g x y with
    | some (.fz (.bl true)) => (mc E2).bind fun rc E3 => (match pk E3 rb.settle, pk E3 rc with
      | some y', some z => match g' y' z with
        | some r => .ok r E3
        | none => .bad
      | _, _ => .bad)
    | some (.fz (.bl false)) => .ok (.fz (.bl false)) E2
    | _ => .bad
  | _, _ => .bad
def tChainM (g g' : D → D → Option RV) (ma mb mc : EM) : BM := fun E => match mChain g g' ma mb mc E with
  | .ok (.fz (.bl k)) E1 => .ok k E1
  | .ex x E1 => .ex x E1
  | _ => .bad
section
variable {X : Cx} {c : Cfg} {W : WX} {a b e3 : Expr} {ma mb mc : EM} {g g' : D → D → Option RV} {op op' : CmpOp} {pos : Pos}
theorem chain_read {σ : L2.St} {H : Hp} {Q : VK} (h : tE c W (mChain g g' ma mb mc) σ H Q) : tChain (rD c g) (rD c g') (tE c W ma) (tE c W mb) (tE c W mc) σ H Q := by
  obtain ⟨f, G, E, R, h⟩ := h
  refine tE_bindE R h fun ra E1 G1 v H1 e1 R1 r1 h1 => ?_
  refine tE_bindE R1 h1 fun rb E2 G2 w H2 e2 R2 r2 h2 => ?_
  split at h2
  · rename_i x y px py
    split at h2
    · rename_i hr
      refine ⟨G2, x, y, _, R2.gh, R2.pk (r1.mono_settled e2) px, R2.pk (r2) py, hr, fun G' v' H' gr rel => ?_⟩
      cases rel
      refine ⟨true, rfl, ?_⟩
      rw [if_pos rfl]
      refine tE_bindE (R2.gro gr) (postE_mono gr.gg h2) fun rc E3 G3 u H3 e3 R3 r3 h3 => ?_
      split at h3
      · rename_i y' z py' pz
        split at h3
        · rename_i r hr'
          exact ⟨G3, y', z, r, R3.gh, R3.pk (r2.mono_settled (gr.gg.trans e3)) py', R3.pk r3 ((pk_settle _ _).trans pz), hr', fun G' v' H' g rel => h3 G' v' H' g.gg (R3.gro g) (RelN.rel R3 rel)⟩
        · exact h3.elim
      · exact h3.elim
    · rename_i hr
      refine ⟨G2, x, y, _, R2.gh, R2.pk (r1.mono_settled e2) px, R2.pk (r2) py, hr, fun G' v' H' gr rel => ?_⟩
      cases rel
      refine ⟨false, rfl, ?_⟩
      rw [if_neg (by decide)]
      exact h2 G' _ H' gr.gg (R2.gro gr) (RelN.rel R2 (v := .bl false) (r := .fz (.bl false)) (.bl false))
    · exact h2.elim
  · exact h2.elim
theorem de_chain (ho : OpR X (compareOp op) (rD c g)) (ho' : OpR X (compareOp op') (rD c g')) (ha : PE X a (tE c W ma)) (hb : PE X b (tE c W mb)) (hc : PE X e3 (tE c W mc)) (hm : lastMarks [op, op'] [b, e3] = false := by with_unfolding_all rfl) :
    PE X (.Compare a [op, op'] [b, e3] pos) (tE c W (mChain g g' ma mb mc)) := pe_imp (pe_chain ho ho' ha hb hc hm) fun _ _ _ h => chain_read h
theorem dt_chain (ho : OpR X (compareOp op) (rD c g)) (ho' : OpR X (compareOp op') (rD c g')) (ha : PE X a (tE c W ma)) (hb : PE X b (tE c W mb)) (hc : PE X e3 (tE c W mc)) (hm : lastMarks [op, op'] [b, e3] = false := by with_unfolding_all rfl) :
    PT X (.Compare a [op, op'] [b, e3] pos) (tT c W (tChainM g g' ma mb mc)) := pt_imp (pt_chain ho ho' ha hb hc hm) fun σ H Q h => by
  refine chain_read ?_
  obtain ⟨f, G, E, R, h⟩ := h
  refine ⟨f, G, E, R, ?_⟩
  unfold tChainM at h
  cases q : mChain g g' ma mb mc E with
  | bad => rw [q] at h; exact h.elim
  | ex x E1 => rw [q] at h; exact h
  | ok r E1 =>
    rw [q] at h
    intro G' v' H' e' R' rel
    split at h
    · rename_i k E2 hk
      cases hk
      cases rel
      exact ⟨k, rfl, h G' H' e' R'⟩
    · rename_i hk; cases hk
    · exact h.elim
/-! ### reversed(range(..)) -/
def revL (i j : Int) : List D := (List.range (j - i).toNat).map fun (t : Nat) => .int (i + (((j - i).toNat : Nat) : Int) - 1 + t * (-1))
def iRev1 (m : EM) : IM := fun E => (m E).bind fun r E1 => match pk E1 r with
  | some (.int j) => if decide (-(2 ^ 62) ≤ j) && decide (j < 2 ^ 62) then .ok (revL 0 j) E1 else .bad
  | _ => .bad
def iRev2 (m m' : EM) : IM := fun E => (m E).bind fun r E1 => (m' E1).bind fun r' E2 => match pk E2 r.settle, pk E2 r' with
  | some (.int i), some (.int j) => if decide (-(2 ^ 62) ≤ i) && decide (i < 2 ^ 62) && decide (-(2 ^ 62) ≤ j) && decide (j < 2 ^ 62) then .ok (revL i j) E2 else .bad
  | _, _ => .bad
variable {tg iter : Expr} {m m' : EM}
theorem di_rev1 (h : ∀ {ta : TE}, PE X a ta → PI X tg iter (iRevR (tRg1 ta))) (ha : PE X a (tE c W m)) : PI X tg iter (tI c W (iRev1 m)) :=
  pi_imp (h ha) fun σ H R ⟨f, G, E, Rr, h⟩ => by
    refine ⟨f, G, E, Rr, ?_⟩
    unfold iRev1 at h
    cases q : m E with
    | bad => rw [q] at h; exact h
    | ex x E' => rw [q] at h; exact h
    | ok r E1 =>
      rw [q] at h
      intro G1 v H1 e1 R1 r1
      simp only [Res.bind] at h
      cases q2 : pk E1 r with
      | none => rw [q2] at h; exact h.elim
      | some d =>
        rw [q2] at h
        cases d with
        | int j =>
          have rep := R1.pk r1 q2
          cases rep
          simp only at h
          by_cases hb : (decide (-(2 ^ 62) ≤ j) && decide (j < 2 ^ 62)) = true
          · rw [if_pos hb] at h
            simp only [Bool.and_eq_true, decide_eq_true_eq] at hb
            exact ⟨j, rfl, by decide, by decide, hb.1, hb.2, h G1 H1 _ e1 R1 yields_rngC⟩
          · rw [if_neg hb] at h
            exact h.elim
        | _ => exact h.elim
theorem di_rev2 (h : ∀ {ta tb : TE}, PE X a ta → PE X b tb → PI X tg iter (iRevR (tRg2 ta tb))) (ha : PE X a (tE c W m)) (hb : PE X b (tE c W m')) : PI X tg iter (tI c W (iRev2 m m')) :=
  pi_imp (h ha hb) fun σ H R ⟨f, G, E, Rr, h⟩ => by
    refine tE_sub Rr ?_
    unfold iRev2 at h
    cases q : m E with
    | bad => rw [q] at h; exact h
    | ex x E' => rw [q] at h; exact h
    | ok r E1 =>
      rw [q] at h
      intro G1 v H1 e1 R1 r1
      simp only [Res.bind] at h
      refine ⟨f, G1, E1, R1, ?_⟩
      cases q' : m' E1 with
      | bad => rw [q'] at h; exact h
      | ex x E' => rw [q'] at h; exact XW.mono e1 h
      | ok r' E2 =>
        rw [q'] at h
        intro G2 w H2 e2 R2 r2
        simp only at h
        cases p1 : pk E2 r.settle with
        | none => rw [p1] at h; exact h.elim
        | some d1 =>
        cases p2 : pk E2 r' with
        | none => rw [p1, p2] at h; cases d1 <;> exact h.elim
        | some d2 =>
        rw [p1, p2] at h
        have rep1 := R2.pk (r1.mono_settled e2) p1
        have rep2 := R2.pk r2 p2
        cases d1 with
        | int i =>
          cases d2 with
          | int j =>
            cases rep1
            cases rep2
            simp only at h
            by_cases hb : (decide (-(2 ^ 62) ≤ i) && decide (i < 2 ^ 62) && decide (-(2 ^ 62) ≤ j) && decide (j < 2 ^ 62)) = true
            · rw [if_pos hb] at h
              simp only [Bool.and_eq_true, decide_eq_true_eq] at hb
              exact ⟨i, j, rfl, rfl, hb.1.1.1, hb.1.1.2, hb.1.2, hb.2, h G2 H2 _ (e1.trans e2) R2 yields_rngC⟩
            · rw [if_neg hb] at h
              exact h.elim
          | _ => exact h.elim
        | _ => exact h.elim
end
@[simp] theorem mChain_eq (g g' : D → D → Option RV) (ma mb mc : EM) (E : Ev) : mChain g g' ma mb mc E = (ma E).bd fun ra E1 => (mb E1).bd fun rb E2 => match pk E2 ra.settle, pk E2 rb.settle with
  | some x, some y => match g x y with
    | some (.fz (.bl true)) => (mc E2).bd fun rc E3 => (match pk E3 rb.settle, pk E3 rc with
      | some y', some z => match g' y' z with
        | some r => .ok r E3
        | none => .bad
      | _, _ => .bad)
    | some (.fz (.bl false)) => .ok (.fz (.bl false)) E2
    | _ => .bad
  | _, _ => .bad := rfl
@[simp] theorem tChainM_eq (g g' : D → D → Option RV) (ma mb mc : EM) (E : Ev) : tChainM g g' ma mb mc E = match mChain g g' ma mb mc E with
  | .ok (.fz (.bl k)) E1 => .ok k E1
  | .ex x E1 => .ex x E1
  | _ => .bad := rfl
theorem revL_nat (n : Nat) : revL 0 n = (List.range n).reverse.map fun i => .int (i : Nat) := by
  unfold revL
  rw [show ((n : Int) - 0).toNat = n by omega]
  refine List.ext_getElem (by simp) fun i h1 h2 => ?_
  simp only [List.length_map, List.length_range] at h1
  simp only [List.getElem_map, List.getElem_range, List.getElem_reverse, List.length_range]
  congr 1
  omega
theorem rev1_nat {m : EM} {E E1 : Ev} {r : RV} {n : Nat} (h : m E = .ok r E1) (hp : pk E1 r = some (.int (n : Nat))) (h1 : n ≤ 1000000000) : iRev1 m E = .ok ((List.range n).reverse.map fun i => .int (i : Nat)) E1 := by
  have e1 : decide (-(2 ^ 62) ≤ (n : Int)) = true := by rw [decide_eq_true_eq]; omega
  have e2 : decide ((n : Int) < 2 ^ 62) = true := by rw [decide_eq_true_eq]; omega
  unfold iRev1
  rw [h]
  simp only [Res.bind, hp, e1, e2, Bool.and_self, if_true, revL_nat]
end M

/-! x in xs for data; defs with defaults behind positional parameters -/
namespace M
open PySem PySem.Spec PyProof.Rows L2
def inP (neg : Bool) (a b : D) : Option RV := match py b with
  | .list xs => if plainD a && plainD b then some (.fz (.bl (if neg then !xs.any (fun y => PyData.eqv y (py a)) else xs.any (fun y => PyData.eqv y (py a))))) else none
  | .tuple xs => if plainD a && plainD b then some (.fz (.bl (if neg then !xs.any (fun y => PyData.eqv y (py a)) else xs.any (fun y => PyData.eqv y (py a))))) else none
  | _ => none
section
variable {X : Cx} {c : Cfg}
theorem d_inP (hc : c.K = X.K) (hu : X.A.units + 64 + 1 < cLine) : OpR X (compareOp .In) (rD c (inP false)) := by
  rintro pins s σ H x y v u Q I rx ry ⟨G, a, b, r, e, ha, hb, q, m⟩
  unfold inP at q
  split at q
  · rename_i xs hx
    split at q
    · rename_i h
      cases q
      rw [Bool.and_eq_true] at h
      obtain ⟨as, r1⟩ := Dp.reads I (py a) x v (hc ▸ Rep.dp (SeqAt.canLay_of_shaped h.1) (ha.rep e)) rx
      obtain ⟨bs, r2⟩ := Dp.reads I (py b) y u (hc ▸ Rep.dp (SeqAt.canLay_of_shaped h.2) (hb.rep e)) ry
      have h1 : SeqAt.shaped (py a) = true := h.1
      have h2 : SeqAt.shaped (py b) = true := h.2
      rw [hx] at r2 h2
      exact PySem.SeqAt.in_list_reads r2 r1 (SeqAt.canLay_of_shaped h2) (SeqAt.canLay_of_shaped h1) (room_in_shaped h1 hu) ⟨.bl _, H, I, rfl, m.flat e (.bl _)⟩
    · cases q
  · rename_i xs hx
    split at q
    · rename_i h
      cases q
      rw [Bool.and_eq_true] at h
      obtain ⟨as, r1⟩ := Dp.reads I (py a) x v (hc ▸ Rep.dp (SeqAt.canLay_of_shaped h.1) (ha.rep e)) rx
      obtain ⟨bs, r2⟩ := Dp.reads I (py b) y u (hc ▸ Rep.dp (SeqAt.canLay_of_shaped h.2) (hb.rep e)) ry
      have h1 : SeqAt.shaped (py a) = true := h.1
      have h2 : SeqAt.shaped (py b) = true := h.2
      rw [hx] at r2 h2
      exact PySem.SeqAt.in_tuple_reads r2 r1 (SeqAt.canLay_of_shaped h2) (SeqAt.canLay_of_shaped h1) (room_in_shaped h1 hu) ⟨.bl _, H, I, rfl, m.flat e (.bl _)⟩
    · cases q
  · cases q
theorem d_ninP (hc : c.K = X.K) (hu : X.A.units + 64 + 1 < cLine) : OpR X (compareOp .NotIn) (rD c (inP true)) := by
  rintro pins s σ H x y v u Q I rx ry ⟨G, a, b, r, e, ha, hb, q, m⟩
  unfold inP at q
  split at q
  · rename_i xs hx
    split at q
    · rename_i h
      cases q
      rw [Bool.and_eq_true] at h
      obtain ⟨as, r1⟩ := Dp.reads I (py a) x v (hc ▸ Rep.dp (SeqAt.canLay_of_shaped h.1) (ha.rep e)) rx
      obtain ⟨bs, r2⟩ := Dp.reads I (py b) y u (hc ▸ Rep.dp (SeqAt.canLay_of_shaped h.2) (hb.rep e)) ry
      have h1 : SeqAt.shaped (py a) = true := h.1
      have h2 : SeqAt.shaped (py b) = true := h.2
      rw [hx] at r2 h2
      exact PySem.SeqAt.notIn_list_reads r2 r1 (SeqAt.canLay_of_shaped h2) (SeqAt.canLay_of_shaped h1) (room_in_shaped h1 hu) ⟨.bl _, H, I, rfl, m.flat e (.bl _)⟩
    · cases q
  · rename_i xs hx
    split at q
    · rename_i h
      cases q
      rw [Bool.and_eq_true] at h
      obtain ⟨as, r1⟩ := Dp.reads I (py a) x v (hc ▸ Rep.dp (SeqAt.canLay_of_shaped h.1) (ha.rep e)) rx
      obtain ⟨bs, r2⟩ := Dp.reads I (py b) y u (hc ▸ Rep.dp (SeqAt.canLay_of_shaped h.2) (hb.rep e)) ry
      have h1 : SeqAt.shaped (py a) = true := h.1
      have h2 : SeqAt.shaped (py b) = true := h.2
      rw [hx] at r2 h2
      exact PySem.SeqAt.notIn_tuple_reads r2 r1 (SeqAt.canLay_of_shaped h2) (SeqAt.canLay_of_shaped h1) (room_in_shaped h1 hu) ⟨.bl _, H, I, rfl, m.flat e (.bl _)⟩
    · cases q
  · cases q
end
theorem hu65 {k : Nat} {A : Around} (hr : Room k A) : A.units + 64 + 1 < cLine := by
  have := hr.un
  omega
theorem hu2 {k : Nat} {A : Around} (hr : Room k A) : A.units + 1 < cLine := by
  have := hr.un
  omega
/-- a def with defaults behind positional parameters: called with all of them, and with none of the defaults' -/
structure CalW (P : Program) (w : World) (K : PySem.W.Frag) (mg : Str → Option Value) (base : Heap) (c : Cfg) (x : Str) (k : Nat) (ps : List Str) (n : Nat) (F : FM) (dds : List D) : Prop where
  ex : ∃ (f : Addr) (fd : FuncData) (ds : List Value) (dvs : List V), mg x = some (.ref f) ∧ PySem.W.keepIn K (.ref f) = true ∧ FnOk P w K mg base (L2.CX P w) k f fd ps (spM c n F) ∧ Binds K fd ps ds ∧ Vals dvs ds ∧ (∀ G, Reps c G dvs []) ∧
    ∃ (ds2 : List Value) (dvs2 : List V), Binds K fd ps ds2 ∧ Vals dvs2 ds2 ∧ ∀ G, Reps c G dvs2 dds
section
variable {P : Program} {w : World} {K : PySem.W.Frag} {mg : Str → Option Value} {base : Heap} {c : Cfg} {x : Str} {k : Nat} {ps : List Str} {n : Nat} {F : FM} {dds : List D}
theorem CalW.a (h : CalW P w K mg base c x k ps n F dds) : Cal P w K mg base c x k ps n F [] := by
  obtain ⟨f, fd, ds, dvs, h1, h2, h3, h4, h5, h6, ds2, dvs2, h7, h8, h9⟩ := h.ex
  exact ⟨f, fd, ds, dvs, h1, h2, h3, h4, h5, h6⟩
theorem CalW.d (h : CalW P w K mg base c x k ps n F dds) : Cal P w K mg base c x k ps n F dds := by
  obtain ⟨f, fd, ds, dvs, h1, h2, h3, h4, h5, h6, ds2, dvs2, h7, h8, h9⟩ := h.ex
  exact ⟨f, fd, ds2, dvs2, h1, h2, h3, h7, h8, h9⟩
end
end M

namespace Law
open PySem PySem.Spec PyProof.Rows L2 M
def top (i : Nat) : Stmt := PySem.Challenge.pw_heapeffects_k59_first_failures.main.body.getD i (.Pass ⟨0, 0, 0, 0⟩)
abbrev s_is_number : Stmt := top 5
abbrev s_is_count : Stmt := top 6
abbrev s__is_entry : Stmt := top 9
abbrev s_is_bag : Stmt := top 8
abbrev s_check_bag : Stmt := top 10
abbrev s_size_of : Stmt := top 11
abbrev s_has_form : Stmt := top 20
abbrev s__is_insertion : Stmt := top 17
abbrev s__is_removal : Stmt := top 18
abbrev s__is_repeat : Stmt := top 19
abbrev s__first_invalid : Stmt := top 15
abbrev s__invalid_in : Stmt := top 16
abbrev s_check_program : Stmt := top 14
abbrev s__course_of_step : Stmt := top 25
abbrev s__course : Stmt := top 24
abbrev s_failing_index : Stmt := top 22
abbrev s__failing_within : Stmt := top 23
abbrev s_first_failure : Stmt := top 27
abbrev s__law_draw : Stmt := top 29
abbrev s__law_base : Stmt := top 30
abbrev s__law_bag : Stmt := top 31
abbrev s__law_run : Stmt := top 32
abbrev s__law_program : Stmt := top 33
abbrev s__law_expand : Stmt := top 34
abbrev s_law : Stmt := top 35
def mth (s : Stmt) (j : Nat) : Stmt := match s with
  | .ClassDef _ _ _ b _ _ _ _ _ _ _ => b.getD j (.Pass ⟨0, 0, 0, 0⟩)
  | _ => .Pass ⟨0, 0, 0, 0⟩
abbrev s_InvalidBag : Stmt := mth (top 2) 0
abbrev s_InvalidProgram : Stmt := mth (top 3) 0
def d_is_number : He.DefD := ⟨("is_number", none), "is_number", "is_number", defArgs s_is_number, defBody s_is_number, defScope s_is_number, [], []⟩
def d_is_count : He.DefD := ⟨("is_count", none), "is_count", "is_count", defArgs s_is_count, defBody s_is_count, defScope s_is_count, [], []⟩
def d__is_entry : He.DefD := ⟨("_is_entry", none), "_is_entry", "_is_entry", defArgs s__is_entry, defBody s__is_entry, defScope s__is_entry, [], []⟩
def d_is_bag : He.DefD := ⟨("is_bag", none), "is_bag", "is_bag", defArgs s_is_bag, defBody s_is_bag, defScope s_is_bag, [], []⟩
def d_check_bag : He.DefD := ⟨("check_bag", none), "check_bag", "check_bag", defArgs s_check_bag, defBody s_check_bag, defScope s_check_bag, [], []⟩
def d_size_of : He.DefD := ⟨("size_of", none), "size_of", "size_of", defArgs s_size_of, defBody s_size_of, defScope s_size_of, [], []⟩
def d_has_form : He.DefD := ⟨("has_form", none), "has_form", "has_form", defArgs s_has_form, defBody s_has_form, defScope s_has_form, [], []⟩
def d__is_insertion : He.DefD := ⟨("_is_insertion", none), "_is_insertion", "_is_insertion", defArgs s__is_insertion, defBody s__is_insertion, defScope s__is_insertion, [], []⟩
def d__is_removal : He.DefD := ⟨("_is_removal", none), "_is_removal", "_is_removal", defArgs s__is_removal, defBody s__is_removal, defScope s__is_removal, [], []⟩
def d__is_repeat : He.DefD := ⟨("_is_repeat", none), "_is_repeat", "_is_repeat", defArgs s__is_repeat, defBody s__is_repeat, defScope s__is_repeat, [], []⟩
def d__first_invalid : He.DefD := ⟨("_first_invalid", none), "_first_invalid", "_first_invalid", defArgs s__first_invalid, defBody s__first_invalid, defScope s__first_invalid, [], []⟩
def d__invalid_in : He.DefD := ⟨("_invalid_in", none), "_invalid_in", "_invalid_in", defArgs s__invalid_in, defBody s__invalid_in, defScope s__invalid_in, [], []⟩
def d_check_program : He.DefD := ⟨("check_program", none), "check_program", "check_program", defArgs s_check_program, defBody s_check_program, defScope s_check_program, [], []⟩
def d__course_of_step : He.DefD := ⟨("_course_of_step", none), "_course_of_step", "_course_of_step", defArgs s__course_of_step, defBody s__course_of_step, defScope s__course_of_step, [], []⟩
def d__course : He.DefD := ⟨("_course", none), "_course", "_course", defArgs s__course, defBody s__course, defScope s__course, [], []⟩
def d_failing_index : He.DefD := ⟨("failing_index", none), "failing_index", "failing_index", defArgs s_failing_index, defBody s_failing_index, defScope s_failing_index, [.non], []⟩
def d__failing_within : He.DefD := ⟨("_failing_within", none), "_failing_within", "_failing_within", defArgs s__failing_within, defBody s__failing_within, defScope s__failing_within, [], []⟩
def d_first_failure : He.DefD := ⟨("first_failure", none), "first_failure", "first_failure", defArgs s_first_failure, defBody s_first_failure, defScope s_first_failure, [], []⟩
def d__law_draw : He.DefD := ⟨("_law_draw", none), "_law_draw", "_law_draw", defArgs s__law_draw, defBody s__law_draw, defScope s__law_draw, [], []⟩
def d__law_base : He.DefD := ⟨("_law_base", none), "_law_base", "_law_base", defArgs s__law_base, defBody s__law_base, defScope s__law_base, [], []⟩
def d__law_bag : He.DefD := ⟨("_law_bag", none), "_law_bag", "_law_bag", defArgs s__law_bag, defBody s__law_bag, defScope s__law_bag, [], []⟩
def d__law_run : He.DefD := ⟨("_law_run", none), "_law_run", "_law_run", defArgs s__law_run, defBody s__law_run, defScope s__law_run, [], []⟩
def d__law_program : He.DefD := ⟨("_law_program", none), "_law_program", "_law_program", defArgs s__law_program, defBody s__law_program, defScope s__law_program, [], []⟩
def d__law_expand : He.DefD := ⟨("_law_expand", none), "_law_expand", "_law_expand", defArgs s__law_expand, defBody s__law_expand, defScope s__law_expand, [], []⟩
def d_law : He.DefD := ⟨("law", none), "law", "law", defArgs s_law, defBody s_law, defScope s_law, [], []⟩
def d_InvalidBag : He.DefD := ⟨("InvalidBag", some "__init__"), "__init__", "InvalidBag.__init__", defArgs s_InvalidBag, defBody s_InvalidBag, defScope s_InvalidBag, [], []⟩
def d_InvalidProgram : He.DefD := ⟨("InvalidProgram", some "__init__"), "__init__", "InvalidProgram.__init__", defArgs s_InvalidProgram, defBody s_InvalidProgram, defScope s_InvalidProgram, [], []⟩
def wr : List WrD := []
def fn : List He.DefD := [d_is_number, d_is_count, d__is_entry, d_is_bag, d_check_bag, d_size_of, d_has_form, d__is_insertion, d__is_removal, d__is_repeat, d__first_invalid, d__invalid_in, d_check_program, d__course_of_step, d__course, d_failing_index, d__failing_within, d_first_failure, d__law_draw, d__law_base, d__law_bag, d__law_run, d__law_program, d__law_expand, d_law, d_InvalidBag, d_InvalidProgram]
def fa : List He.Fa := [.glo "is_number", .glo "is_count", .glo "_is_entry", .glo "is_bag", .glo "check_bag", .glo "size_of", .glo "has_form", .glo "_is_insertion", .glo "_is_removal", .glo "_is_repeat", .glo "_first_invalid", .glo "_invalid_in", .glo "check_program", .glo "_course_of_step", .glo "_course", .glo "failing_index", .glo "_failing_within", .glo "first_failure", .glo "_law_draw", .glo "_law_base", .glo "_law_bag", .glo "_law_run", .glo "_law_program", .glo "_law_expand", .glo "law", .glo "InvalidBag", .glo "InvalidProgram", .glo "HeapError", .free "all", .free "bool", .free "enumerate", .free "int", .free "isinstance", .free "len", .free "list", .free "min", .free "range", .free "repr", .free "set", .free "sorted", .free "str", .free "sum", .free "tuple", .free "zip", .int "DEEPEST" 8]
def ctO (K : PySem.W.Frag) : Nat → Addr := fun n => ((([He.ga K "InvalidBag", He.ga K "InvalidProgram"] : List Addr) ++ [])[n]?).getD 0
def exs : List (PySem.W.Frag → Bool) := [fun K => xcB K (He.ga K "InvalidBag") [.type "ValueError", .type "Exception", .type "BaseException", .type "object"] "ValueError.__new__", fun K => xiB K (He.ga K "InvalidBag") (He.fAd K ("InvalidBag", some "__init__")) "value", fun K => xfB K (He.ga K "InvalidBag"), fun K => xcB K (He.ga K "InvalidProgram") [.type "ValueError", .type "Exception", .type "BaseException", .type "object"] "ValueError.__new__", fun K => xiB K (He.ga K "InvalidProgram") (He.fAd K ("InvalidProgram", some "__init__")) "path", fun K => xfB K (He.ga K "InvalidProgram"), fun K => rdB K (He.ga K "HeapError"), fun K => fcB K (.ref (He.ga K "HeapError")) "ValueError.__init__"]
structure Facts (K : PySem.W.Frag) (mg : Str → Option Value) : Prop where
  ex : ∃ h : Heap, K.In h ∧ h.Ns mainGlobals mg
  c : He.SaysD fa fn K
  t : exs.all (fun t => t K) = true
  w : SaysW fa fn wr exs K
section
variable {K : PySem.W.Frag} {mg : Str → Option Value}
theorem Facts.glo (A : Facts K mg) {x : Str} (c : (He.Fa.glo x).ok K = true) : mg x = some (.ref (He.ga K x)) := by
  obtain ⟨h, X, G⟩ := A.ex
  exact He.glo_ok X G c
theorem Facts.free (A : Facts K mg) {x : Str} (c : (He.Fa.free x).ok K = true) : mg x = none := by
  obtain ⟨h, X, G⟩ := A.ex
  exact He.free_ok X G c
theorem Facts.int (A : Facts K mg) {x : Str} {i : Int} (c : (He.Fa.int x i).ok K = true) : ∃ t, mg x = some (.int i t) := by
  obtain ⟨h, X, G⟩ := A.ex
  exact He.int_ok X G c
theorem m_all (A : Facts K mg) : mg "all" = none := A.free (A.c.fact 28 (f := .free "all") rfl)
theorem m_bool (A : Facts K mg) : mg "bool" = none := A.free (A.c.fact 29 (f := .free "bool") rfl)
theorem m_enumerate (A : Facts K mg) : mg "enumerate" = none := A.free (A.c.fact 30 (f := .free "enumerate") rfl)
theorem m_int (A : Facts K mg) : mg "int" = none := A.free (A.c.fact 31 (f := .free "int") rfl)
theorem m_isinstance (A : Facts K mg) : mg "isinstance" = none := A.free (A.c.fact 32 (f := .free "isinstance") rfl)
theorem m_len (A : Facts K mg) : mg "len" = none := A.free (A.c.fact 33 (f := .free "len") rfl)
theorem m_list (A : Facts K mg) : mg "list" = none := A.free (A.c.fact 34 (f := .free "list") rfl)
theorem m_min (A : Facts K mg) : mg "min" = none := A.free (A.c.fact 35 (f := .free "min") rfl)
theorem m_range (A : Facts K mg) : mg "range" = none := A.free (A.c.fact 36 (f := .free "range") rfl)
theorem m_repr (A : Facts K mg) : mg "repr" = none := A.free (A.c.fact 37 (f := .free "repr") rfl)
theorem m_set (A : Facts K mg) : mg "set" = none := A.free (A.c.fact 38 (f := .free "set") rfl)
theorem m_sorted (A : Facts K mg) : mg "sorted" = none := A.free (A.c.fact 39 (f := .free "sorted") rfl)
theorem m_str (A : Facts K mg) : mg "str" = none := A.free (A.c.fact 40 (f := .free "str") rfl)
theorem m_sum (A : Facts K mg) : mg "sum" = none := A.free (A.c.fact 41 (f := .free "sum") rfl)
theorem m_tuple (A : Facts K mg) : mg "tuple" = none := A.free (A.c.fact 42 (f := .free "tuple") rfl)
theorem m_zip (A : Facts K mg) : mg "zip" = none := A.free (A.c.fact 43 (f := .free "zip") rfl)
theorem g_DEEPEST (A : Facts K mg) : ∃ t, mg "DEEPEST" = some (.int 8 t) := A.int (A.c.fact 44 (f := .int "DEEPEST" 8) rfl)
theorem mgx_InvalidBag (A : Facts K mg) : mg "InvalidBag" = some (.ref (He.ga K "InvalidBag")) := A.glo (A.c.fact 25 (f := .glo "InvalidBag") rfl)
theorem mgx_InvalidProgram (A : Facts K mg) : mg "InvalidProgram" = some (.ref (He.ga K "InvalidProgram")) := A.glo (A.c.fact 26 (f := .glo "InvalidProgram") rfl)
theorem mgx_HeapError (A : Facts K mg) : mg "HeapError" = some (.ref (He.ga K "HeapError")) := A.glo (A.c.fact 27 (f := .glo "HeapError") rfl)
end
def clsL (K : PySem.W.Frag) : List Addr := [He.ga K "InvalidBag", He.ga K "InvalidProgram"]
def clsO (K : PySem.W.Frag) : List Addr := []
abbrev cf (K : PySem.W.Frag) : Cfg := { K := K, ct := fun _ => 0, xt := fun n => match n with | 0 => .ref (He.ga K "InvalidBag") | 1 => .ref (He.ga K "InvalidProgram") | _ => .none, ga := He.ga K }
section
variable {K : PySem.W.Frag} {mg : Str → Option Value}
theorem xc_InvalidBag (A : Facts K mg) : XC K "ValueError" "ValueError.__new__" "ValueError.__init__" [.type "ValueError", .type "Exception", .type "BaseException", .type "object"] (He.ga K "InvalidBag") := xcB_ok PySem.F.excBase_ValueError PySem.F.store_ValueError (ex_at A.t 0)
theorem no_InvalidBag (A : Facts K mg) : PySem.W.findIn K (.ref (He.ga K "InvalidBag")) "value" = some none := (xiB_ok (ex_at A.t 1)).1
theorem xf_InvalidBag (A : Facts K mg) : XfC K (He.ga K "InvalidBag") := xfB_ok (ex_at A.t 2)
theorem xc_InvalidProgram (A : Facts K mg) : XC K "ValueError" "ValueError.__new__" "ValueError.__init__" [.type "ValueError", .type "Exception", .type "BaseException", .type "object"] (He.ga K "InvalidProgram") := xcB_ok PySem.F.excBase_ValueError PySem.F.store_ValueError (ex_at A.t 3)
theorem no_InvalidProgram (A : Facts K mg) : PySem.W.findIn K (.ref (He.ga K "InvalidProgram")) "path" = some none := (xiB_ok (ex_at A.t 4)).1
theorem xf_InvalidProgram (A : Facts K mg) : XfC K (He.ga K "InvalidProgram") := xfB_ok (ex_at A.t 5)
end
section
variable {X : Cx}
theorem sc_InvalidBag : FnScope ["self", "value"] ["self", "value"] (defScope s_InvalidBag) := ⟨rfl, rfl, rfl, by decide +kernel, rfl, by decide +kernel, by decide +kernel⟩
theorem mkx_InvalidBag (A0 : Facts X.K X.mg) {k : Nat} {e : Expr} {ta : TA} {p pos : Pos} (hr : Room k X.A) (hk : 2 ≤ k) (hg : Gl X "InvalidBag") (ha : PA X [e] ta)
    (he : starEach [e] X.env = (false, eval e X.env) :: starEach [] X.env := by rfl) (hpl : (backTo pos (starEach [] X.env)).any (·.1) = false := by rfl) : PMk X (.Call (.Name "InvalidBag" p) [e] [] pos) (tMk (He.ga X.K "InvalidBag") "value" ta) := by
  obtain ⟨fd, F⟩ := A0.c.def_ 25 (d := d_InvalidBag) rfl
  obtain ⟨_, iC, tI⟩ := xiB_ok (ex_at A0.t 1)
  have bd : Binds X.K fd ["self", "value"] [] := F.bindsN fun _ _ _ _ _ _ us hl => match us, hl with | [_, _], _ => rfl
  have I := init_fn (P := X.prog) (w := X.w) (mg := X.mg) (base := X.base) F sc_InvalidBag fun cdv A outer s H E => pss_cons (ps_expr (pe_xi (xc_InvalidBag A0) (initAt_own (by rfl) (mgx_HeapError A0) (by decide) (rdB_ok (ex_at A0.t 6)).1 (rdB_ok (ex_at A0.t 6)).2 (fcB_ok (ex_at A0.t 7)) (by decide +kernel)) (pa_cons (pv 0) (pa_cons pe_str pa_nil)))) (pss_one (x_ost (xc_InvalidBag A0) (no_InvalidBag A0) (pv 0) (pv 1)))
  exact x_make (xc_InvalidBag A0) iC tI I (hr.mono hk) bd passL hg (mgx_InvalidBag A0) ha (he := he) (hpl := hpl)
theorem sc_InvalidProgram : FnScope ["self", "path"] ["self", "path"] (defScope s_InvalidProgram) := ⟨rfl, rfl, rfl, by decide +kernel, rfl, by decide +kernel, by decide +kernel⟩
theorem mkx_InvalidProgram (A0 : Facts X.K X.mg) {k : Nat} {e : Expr} {ta : TA} {p pos : Pos} (hr : Room k X.A) (hk : 2 ≤ k) (hg : Gl X "InvalidProgram") (ha : PA X [e] ta)
    (he : starEach [e] X.env = (false, eval e X.env) :: starEach [] X.env := by rfl) (hpl : (backTo pos (starEach [] X.env)).any (·.1) = false := by rfl) : PMk X (.Call (.Name "InvalidProgram" p) [e] [] pos) (tMk (He.ga X.K "InvalidProgram") "path" ta) := by
  obtain ⟨fd, F⟩ := A0.c.def_ 26 (d := d_InvalidProgram) rfl
  obtain ⟨_, iC, tI⟩ := xiB_ok (ex_at A0.t 4)
  have bd : Binds X.K fd ["self", "path"] [] := F.bindsN fun _ _ _ _ _ _ us hl => match us, hl with | [_, _], _ => rfl
  have I := init_fn (P := X.prog) (w := X.w) (mg := X.mg) (base := X.base) F sc_InvalidProgram fun cdv A outer s H E => pss_cons (ps_expr (pe_xi (xc_InvalidProgram A0) (initAt_own (by rfl) (mgx_HeapError A0) (by decide) (rdB_ok (ex_at A0.t 6)).1 (rdB_ok (ex_at A0.t 6)).2 (fcB_ok (ex_at A0.t 7)) (by decide +kernel)) (pa_cons (pv 0) (pa_cons pe_str pa_nil)))) (pss_one (x_ost (xc_InvalidProgram A0) (no_InvalidProgram A0) (pv 0) (pv 1)))
  exact x_make (xc_InvalidProgram A0) iC tI I (hr.mono hk) bd passL hg (mgx_InvalidProgram A0) ha (he := he) (hpl := hpl)
end
section
variable {P : Program} {w : World} {K : PySem.W.Frag} {mg : Str → Option Value} {base : Heap}
abbrev N_is_number : List Str := ["value"]
theorem sc_is_number : FnScope N_is_number ["value"] (defScope s_is_number) := ⟨rfl, rfl, rfl, by decide +kernel, rfl, by decide +kernel, by decide +kernel⟩
def b_is_number : SM := sSeq (sRet (mAndV (mCall isiD (aCons (mVar 0) (aCons (mC (.ty "int")) (aNil)))) (mNotV (mCall isiD (aCons (mVar 0) (aCons (mC (.ty "bool")) (aNil))))))) (sNil)
def F_is_number : FM := runF 1 b_is_number
theorem fn_is_number (A0 : Facts K mg) {fd : FuncData} (F : FunD K d_is_number.name d_is_number.qual d_is_number.params d_is_number.body d_is_number.scope (d_is_number.dvs K) (d_is_number.kws K) (He.fAd K d_is_number.at_) fd) : FnOk P w K mg base (L2.CX P w) 1 (He.fAd K d_is_number.at_) fd ["value"] (spM (cf K) 1 F_is_number) := by
  refine mk_fnD (k := 0) F sc_is_number rfl rfl fun cdv A outer s H E hr => ?_
  have tk := tk_of (P := P) (w := w) (K := K) (mg := mg) (base := base) (N := N_is_number) (qual := "is_number") (scope := defScope s_is_number) (f := (He.fAd K d_is_number.at_)) (cdv := cdv) (A := A) (outer := outer) (s := s) (H := H) (E := E)
  exact (dss_cons (ds_ret (de_and (de_callB (d_isi rfl) (by rfl) (m_isinstance A0) bt_isinstance (da_cons (de_var (pv 0)) (da_cons (de_ty (by rfl) (m_int A0) bt_int) da_nil))) (pe_one (de_not (de_callB (d_isi rfl) (by rfl) (m_isinstance A0) bt_isinstance (da_cons (de_var (pv 0)) (da_cons (de_ty (by rfl) (m_bool A0) bt_bool) da_nil))))))) dss_nil)
theorem cal_is_number (A0 : Facts K mg) : Cal P w K mg base (cf K) "is_number" 1 ["value"] 1 F_is_number [] := by
  obtain ⟨fd, F⟩ := A0.c.def_ 0 (d := d_is_number) rfl
  have hm : mg "is_number" = some (.ref (He.ga K "is_number")) := A0.glo (A0.c.fact 0 (f := .glo "is_number") rfl)
  have bd : Binds K fd ["value"] [] := F.bindsN fun _ _ _ _ _ _ us hl => match us, hl with | [_], _ => rfl
  refine ⟨_, fd, [], [], hm, F.kp, ?_, bd, .nil, fun _ => .nil⟩
  exact fn_is_number A0 F
abbrev N_is_count : List Str := ["value"]
theorem sc_is_count : FnScope N_is_count ["value"] (defScope s_is_count) := ⟨rfl, rfl, rfl, by decide +kernel, rfl, by decide +kernel, by decide +kernel⟩
def b_is_count : SM := sSeq (sRet (mAndV (mFnD F_is_number [] (aCons (mVar 0) (aNil))) (mBin geI (mVar 0) (mC (.int 0))))) (sNil)
def F_is_count : FM := runF 1 b_is_count
theorem fn_is_count (A0 : Facts K mg) {fd : FuncData} (F : FunD K d_is_count.name d_is_count.qual d_is_count.params d_is_count.body d_is_count.scope (d_is_count.dvs K) (d_is_count.kws K) (He.fAd K d_is_count.at_) fd) : FnOk P w K mg base (L2.CX P w) 2 (He.fAd K d_is_count.at_) fd ["value"] (spM (cf K) 1 F_is_count) := by
  refine mk_fnD (k := 1) F sc_is_count rfl rfl fun cdv A outer s H E hr => ?_
  have tk := tk_of (P := P) (w := w) (K := K) (mg := mg) (base := base) (N := N_is_count) (qual := "is_count") (scope := defScope s_is_count) (f := (He.fAd K d_is_count.at_)) (cdv := cdv) (A := A) (outer := outer) (s := s) (H := H) (E := E)
  exact (dss_cons (ds_ret (de_and (de_callA (Cal.at (cal_is_number (base := base) A0) hr (by decide)) (by rfl) tk (da_cons (de_var (pv 0)) da_nil) (fun h => by rw [alen1 h]; rfl)) (pe_one (de_cmp d_geI (de_var (pv 0)) de_int (nomark _))))) dss_nil)
theorem cal_is_count (A0 : Facts K mg) : Cal P w K mg base (cf K) "is_count" 2 ["value"] 1 F_is_count [] := by
  obtain ⟨fd, F⟩ := A0.c.def_ 1 (d := d_is_count) rfl
  have hm : mg "is_count" = some (.ref (He.ga K "is_count")) := A0.glo (A0.c.fact 1 (f := .glo "is_count") rfl)
  have bd : Binds K fd ["value"] [] := F.bindsN fun _ _ _ _ _ _ us hl => match us, hl with | [_], _ => rfl
  refine ⟨_, fd, [], [], hm, F.kp, ?_, bd, .nil, fun _ => .nil⟩
  exact fn_is_count A0 F
abbrev N__is_entry : List Str := ["value"]
theorem sc__is_entry : FnScope N__is_entry ["value"] (defScope s__is_entry) := ⟨rfl, rfl, rfl, by decide +kernel, rfl, by decide +kernel, by decide +kernel⟩
def b__is_entry : SM := sSeq (sIf (tOrM (tNotM (tTru (mCall isiD (aCons (mVar 0) (aCons (mC (.ty "tuple")) (aNil)))))) (tCmpM neD (mCall lenD (aCons (mVar 0) (aNil))) (mC (.int 2)))) (sSeq (sRet (mC (.bl false))) (sNil)) (sNil)) (sSeq (sRet (mAndV (mFnD F_is_number [] (aCons (mBin ixD (mVar 0) (mC (.int 0))) (aNil))) (mAndV (mFnD F_is_count [] (aCons (mBin ixD (mVar 0) (mC (.int 1))) (aNil))) (mBin geI (mBin ixD (mVar 0) (mC (.int 1))) (mC (.int 1)))))) (sNil))
def F__is_entry : FM := runF 1 b__is_entry
theorem fn__is_entry (A0 : Facts K mg) {fd : FuncData} (F : FunD K d__is_entry.name d__is_entry.qual d__is_entry.params d__is_entry.body d__is_entry.scope (d__is_entry.dvs K) (d__is_entry.kws K) (He.fAd K d__is_entry.at_) fd) : FnOk P w K mg base (L2.CX P w) 3 (He.fAd K d__is_entry.at_) fd ["value"] (spM (cf K) 1 F__is_entry) := by
  refine mk_fnD (k := 2) F sc__is_entry rfl rfl fun cdv A outer s H E hr => ?_
  have tk := tk_of (P := P) (w := w) (K := K) (mg := mg) (base := base) (N := N__is_entry) (qual := "_is_entry") (scope := defScope s__is_entry) (f := (He.fAd K d__is_entry.at_)) (cdv := cdv) (A := A) (outer := outer) (s := s) (H := H) (E := E)
  exact (dss_cons (ds_if (PW.pt (dw_or (dt_not (dt_tru rfl (de_callB (d_isi rfl) (by rfl) (m_isinstance A0) bt_isinstance (da_cons (de_var (pv 0)) (da_cons (de_ty (by rfl) (m_tuple A0) bt_tuple) da_nil))) (fun _ => rfl))) (dw_or1 (dt_cmp (d_neD rfl (hu64 hr)) (de_callB (d_len rfl) (by rfl) (m_len A0) bt_len (da_cons (de_var (pv 0)) da_nil)) de_int (nomark _))))) (dss_cons (ds_ret de_bl) dss_nil) dss_nil) (dss_cons (ds_ret (de_and (de_callA (Cal.at (cal_is_number (base := base) A0) hr (by decide)) (by rfl) tk (da_cons (de_ix (d_ix rfl) (de_var (pv 0)) de_int (fun _ _ => rfl)) da_nil) (fun h => by rw [alen1 h]; rfl)) (de_and (de_callA (Cal.at (cal_is_count (base := base) A0) hr (by decide)) (by rfl) tk (da_cons (de_ix (d_ix rfl) (de_var (pv 0)) de_int (fun _ _ => rfl)) da_nil) (fun h => by rw [alen1 h]; rfl)) (pe_one (de_cmp d_geI (de_ix (d_ix rfl) (de_var (pv 0)) de_int (fun _ _ => rfl)) de_int (nomark _)))))) dss_nil))
theorem cal__is_entry (A0 : Facts K mg) : Cal P w K mg base (cf K) "_is_entry" 3 ["value"] 1 F__is_entry [] := by
  obtain ⟨fd, F⟩ := A0.c.def_ 2 (d := d__is_entry) rfl
  have hm : mg "_is_entry" = some (.ref (He.ga K "_is_entry")) := A0.glo (A0.c.fact 2 (f := .glo "_is_entry") rfl)
  have bd : Binds K fd ["value"] [] := F.bindsN fun _ _ _ _ _ _ us hl => match us, hl with | [_], _ => rfl
  refine ⟨_, fd, [], [], hm, F.kp, ?_, bd, .nil, fun _ => .nil⟩
  exact fn__is_entry A0 F
abbrev N_is_bag : List Str := ["value", "entry", "following"]
theorem sc_is_bag : FnScope N_is_bag ["value"] (defScope s_is_bag) := ⟨rfl, rfl, rfl, by decide +kernel, rfl, by decide +kernel, by decide +kernel⟩
def b_is_bag : SM := sSeq (sIf (tOrM (tNotM (tTru (mCall isiD (aCons (mVar 0) (aCons (mC (.ty "tuple")) (aNil)))))) (tNotM (tTru (mCall allD (aCons (mLc (iSeq (mVar 0)) (tgName 1) (tYesM) (mFnD F__is_entry [] (aCons (mVar 1) (aNil))) [1]) (aNil)))))) (sSeq (sRet (mC (.bl false))) (sNil)) (sNil)) (sSeq (sRet (mCall allD (aCons (mLc (iZipM (aCons (mVar 0) (aCons (mSl (mVar 0) (oSome (mC (.int 1))) (oNone)) (aNil)))) (tgTup [tgName 1, tgName 2]) (tYesM) (mBin ltI (mBin ixD (mVar 1) (mC (.int 0))) (mBin ixD (mVar 2) (mC (.int 0)))) [1, 2]) (aNil)))) (sNil))
def F_is_bag : FM := runF 3 b_is_bag
theorem fn_is_bag (A0 : Facts K mg) {fd : FuncData} (F : FunD K d_is_bag.name d_is_bag.qual d_is_bag.params d_is_bag.body d_is_bag.scope (d_is_bag.dvs K) (d_is_bag.kws K) (He.fAd K d_is_bag.at_) fd) : FnOk P w K mg base (L2.CX P w) 4 (He.fAd K d_is_bag.at_) fd ["value"] (spM (cf K) 1 F_is_bag) := by
  refine mk_fnD (k := 3) F sc_is_bag rfl rfl fun cdv A outer s H E hr => ?_
  have tk := tk_of (P := P) (w := w) (K := K) (mg := mg) (base := base) (N := N_is_bag) (qual := "is_bag") (scope := defScope s_is_bag) (f := (He.fAd K d_is_bag.at_)) (cdv := cdv) (A := A) (outer := outer) (s := s) (H := H) (E := E)
  exact (dss_cons (ds_if (PW.pt (dw_or (dt_not (dt_tru rfl (de_callB (d_isi rfl) (by rfl) (m_isinstance A0) bt_isinstance (da_cons (de_var (pv 0)) (da_cons (de_ty (by rfl) (m_tuple A0) bt_tuple) da_nil))) (fun _ => rfl))) (dw_or1 (dt_not (dt_tru rfl (de_callB (d_all rfl) (by rfl) (m_all A0) bt_all (da_cons (de_lc (pe_lc (own := [("entry", 1)]) rfl sc_is_bag.nd (di_seq rfl (de_var (pv 0))) (blkOk_by (own := [("entry", 1)]) (N := N_is_bag) (sc := defScope s_is_bag) (by decide +kernel)) (fun _ _ _ _ _ => (dg_name (pg_name (i := 1) sc_is_bag.nd rfl (by first | exact Or.inl rfl | exact Or.inr rfl)))) (fun _ _ _ _ _ => dts_nil) (fun _ _ _ _ _ => (de_callA (Cal.at (cal__is_entry (base := base) A0) hr (by decide)) (by rfl) takes0 (da_cons (de_var (pv 1)) da_nil) (fun h => by rw [alen1 h]; rfl))))) da_nil)) (fun _ => rfl)))))) (dss_cons (ds_ret de_bl) dss_nil) dss_nil) (dss_cons (ds_ret (de_callB (d_all rfl) (by rfl) (m_all A0) bt_all (da_cons (de_lc (pe_lc (own := [("entry", 1), ("following", 2)]) rfl sc_is_bag.nd (di_zip rfl (fun h => RZ.pi_zipA (by rfl) (m_zip A0) h) (da_cons (de_var (pv 0)) (da_cons (de_sl rfl (de_var (pv 0)) (do_some de_int) do_none) da_nil))) (blkOk_by (own := [("entry", 1), ("following", 2)]) (N := N_is_bag) (sc := defScope s_is_bag) (by decide +kernel)) (fun _ _ _ _ _ => (dg_tup rfl rfl (dgs_cons (dg_name (pg_name (i := 1) sc_is_bag.nd rfl (by first | exact Or.inl rfl | exact Or.inr rfl))) (dgs_cons (dg_name (pg_name (i := 2) sc_is_bag.nd rfl (by first | exact Or.inl rfl | exact Or.inr rfl))) dgs_nil)) rfl)) (fun _ _ _ _ _ => dts_nil) (fun _ _ _ _ _ => (de_cmp d_ltI (de_ix (d_ix rfl) (de_var (pv 1)) de_int (fun _ _ => rfl)) (de_ix (d_ix rfl) (de_var (pv 2)) de_int (fun _ _ => rfl)) (nomark _))))) da_nil))) dss_nil))
theorem cal_is_bag (A0 : Facts K mg) : Cal P w K mg base (cf K) "is_bag" 4 ["value"] 1 F_is_bag [] := by
  obtain ⟨fd, F⟩ := A0.c.def_ 3 (d := d_is_bag) rfl
  have hm : mg "is_bag" = some (.ref (He.ga K "is_bag")) := A0.glo (A0.c.fact 3 (f := .glo "is_bag") rfl)
  have bd : Binds K fd ["value"] [] := F.bindsN fun _ _ _ _ _ _ us hl => match us, hl with | [_], _ => rfl
  refine ⟨_, fd, [], [], hm, F.kp, ?_, bd, .nil, fun _ => .nil⟩
  exact fn_is_bag A0 F
abbrev N_check_bag : List Str := ["bag"]
theorem sc_check_bag : FnScope N_check_bag ["bag"] (defScope s_check_bag) := ⟨rfl, rfl, rfl, by decide +kernel, rfl, by decide +kernel, by decide +kernel⟩
def b_check_bag : SM := sSeq (sIf (tNotM (tTru (mFnD F_is_bag [] (aCons (mVar 0) (aNil))))) (sSeq (sRaise 0 "value" (mVar 0)) (sNil)) (sNil)) (sNil)
def F_check_bag : FM := runF 1 b_check_bag
theorem fn_check_bag (A0 : Facts K mg) {fd : FuncData} (F : FunD K d_check_bag.name d_check_bag.qual d_check_bag.params d_check_bag.body d_check_bag.scope (d_check_bag.dvs K) (d_check_bag.kws K) (He.fAd K d_check_bag.at_) fd) : FnOk P w K mg base (L2.CX P w) 5 (He.fAd K d_check_bag.at_) fd ["bag"] (spM (cf K) 1 F_check_bag) := by
  refine mk_fnD (k := 4) F sc_check_bag rfl rfl fun cdv A outer s H E hr => ?_
  have tk := tk_of (P := P) (w := w) (K := K) (mg := mg) (base := base) (N := N_check_bag) (qual := "check_bag") (scope := defScope s_check_bag) (f := (He.fAd K d_check_bag.at_)) (cdv := cdv) (A := A) (outer := outer) (s := s) (H := H) (E := E)
  exact (dss_cons (ds_if (dt_not (dt_tru rfl (de_callA (Cal.at (cal_is_bag (base := base) A0) hr (by decide)) (by rfl) tk (da_cons (de_var (pv 0)) da_nil) (fun h => by rw [alen1 h]; rfl)) (fun _ => rfl))) (dss_cons (ds_raise rfl tk (fun h => mkx_InvalidBag A0 hr (by decide) (by rfl) h) rfl (de_var (pv 0))) dss_nil) dss_nil) dss_nil)
theorem cal_check_bag (A0 : Facts K mg) : Cal P w K mg base (cf K) "check_bag" 5 ["bag"] 1 F_check_bag [] := by
  obtain ⟨fd, F⟩ := A0.c.def_ 4 (d := d_check_bag) rfl
  have hm : mg "check_bag" = some (.ref (He.ga K "check_bag")) := A0.glo (A0.c.fact 4 (f := .glo "check_bag") rfl)
  have bd : Binds K fd ["bag"] [] := F.bindsN fun _ _ _ _ _ _ us hl => match us, hl with | [_], _ => rfl
  refine ⟨_, fd, [], [], hm, F.kp, ?_, bd, .nil, fun _ => .nil⟩
  exact fn_check_bag A0 F
abbrev N_size_of : List Str := ["bag", "entry"]
theorem sc_size_of : FnScope N_size_of ["bag"] (defScope s_size_of) := ⟨rfl, rfl, rfl, by decide +kernel, rfl, by decide +kernel, by decide +kernel⟩
def b_size_of : SM := sSeq (sDrop (mFnD F_check_bag [] (aCons (mVar 0) (aNil)))) (sSeq (sRet (mCall sumD (aCons (mLc (iSeq (mVar 0)) (tgName 1) (tYesM) (mBin ixD (mVar 1) (mC (.int 1))) [1]) (aNil)))) (sNil))
def F_size_of : FM := runF 2 b_size_of
theorem fn_size_of (A0 : Facts K mg) {fd : FuncData} (F : FunD K d_size_of.name d_size_of.qual d_size_of.params d_size_of.body d_size_of.scope (d_size_of.dvs K) (d_size_of.kws K) (He.fAd K d_size_of.at_) fd) : FnOk P w K mg base (L2.CX P w) 6 (He.fAd K d_size_of.at_) fd ["bag"] (spM (cf K) 1 F_size_of) := by
  refine mk_fnD (k := 5) F sc_size_of rfl rfl fun cdv A outer s H E hr => ?_
  have tk := tk_of (P := P) (w := w) (K := K) (mg := mg) (base := base) (N := N_size_of) (qual := "size_of") (scope := defScope s_size_of) (f := (He.fAd K d_size_of.at_)) (cdv := cdv) (A := A) (outer := outer) (s := s) (H := H) (E := E)
  exact (dss_cons (ds_drop (de_callA (Cal.at (cal_check_bag (base := base) A0) hr (by decide)) (by rfl) tk (da_cons (de_var (pv 0)) da_nil) (fun h => by rw [alen1 h]; rfl))) (dss_cons (ds_ret (de_callB (d_sum rfl rfl) (by rfl) (m_sum A0) bt_sum (da_cons (de_lc (pe_lc (own := [("entry", 1)]) rfl sc_size_of.nd (di_seq rfl (de_var (pv 0))) (blkOk_by (own := [("entry", 1)]) (N := N_size_of) (sc := defScope s_size_of) (by decide +kernel)) (fun _ _ _ _ _ => (dg_name (pg_name (i := 1) sc_size_of.nd rfl (by first | exact Or.inl rfl | exact Or.inr rfl)))) (fun _ _ _ _ _ => dts_nil) (fun _ _ _ _ _ => (de_ix (d_ix rfl) (de_var (pv 1)) de_int (fun _ _ => rfl))))) da_nil))) dss_nil))
theorem cal_size_of (A0 : Facts K mg) : Cal P w K mg base (cf K) "size_of" 6 ["bag"] 1 F_size_of [] := by
  obtain ⟨fd, F⟩ := A0.c.def_ 5 (d := d_size_of) rfl
  have hm : mg "size_of" = some (.ref (He.ga K "size_of")) := A0.glo (A0.c.fact 5 (f := .glo "size_of") rfl)
  have bd : Binds K fd ["bag"] [] := F.bindsN fun _ _ _ _ _ _ us hl => match us, hl with | [_], _ => rfl
  refine ⟨_, fd, [], [], hm, F.kp, ?_, bd, .nil, fun _ => .nil⟩
  exact fn_size_of A0 F
abbrev N_has_form : List Str := ["step", "word", "size"]
theorem sc_has_form : FnScope N_has_form ["step", "word", "size"] (defScope s_has_form) := ⟨rfl, rfl, rfl, by decide +kernel, rfl, by decide +kernel, by decide +kernel⟩
def b_has_form : SM := sSeq (sIf (tOrM (tNotM (tTru (mCall isiD (aCons (mVar 0) (aCons (mC (.ty "tuple")) (aNil)))))) (tCmpM neD (mCall lenD (aCons (mVar 0) (aNil))) (mVar 2))) (sSeq (sRet (mC (.bl false))) (sNil)) (sNil)) (sSeq (sRet (mAndV (mCall isiD (aCons (mBin ixD (mVar 0) (mC (.int 0))) (aCons (mC (.ty "str")) (aNil)))) (mBin eqD (mBin ixD (mVar 0) (mC (.int 0))) (mVar 1)))) (sNil))
def F_has_form : FM := runF 3 b_has_form
theorem fn_has_form (A0 : Facts K mg) {fd : FuncData} (F : FunD K d_has_form.name d_has_form.qual d_has_form.params d_has_form.body d_has_form.scope (d_has_form.dvs K) (d_has_form.kws K) (He.fAd K d_has_form.at_) fd) : FnOk P w K mg base (L2.CX P w) 1 (He.fAd K d_has_form.at_) fd ["step", "word", "size"] (spM (cf K) 3 F_has_form) := by
  refine mk_fnD (k := 0) F sc_has_form rfl rfl fun cdv A outer s H E hr => ?_
  have tk := tk_of (P := P) (w := w) (K := K) (mg := mg) (base := base) (N := N_has_form) (qual := "has_form") (scope := defScope s_has_form) (f := (He.fAd K d_has_form.at_)) (cdv := cdv) (A := A) (outer := outer) (s := s) (H := H) (E := E)
  exact (dss_cons (ds_if (PW.pt (dw_or (dt_not (dt_tru rfl (de_callB (d_isi rfl) (by rfl) (m_isinstance A0) bt_isinstance (da_cons (de_var (pv 0)) (da_cons (de_ty (by rfl) (m_tuple A0) bt_tuple) da_nil))) (fun _ => rfl))) (dw_or1 (dt_cmp (d_neD rfl (hu64 hr)) (de_callB (d_len rfl) (by rfl) (m_len A0) bt_len (da_cons (de_var (pv 0)) da_nil)) (de_var (pv 2)) (nomark _))))) (dss_cons (ds_ret de_bl) dss_nil) dss_nil) (dss_cons (ds_ret (de_and (de_callB (d_isi rfl) (by rfl) (m_isinstance A0) bt_isinstance (da_cons (de_ix (d_ix rfl) (de_var (pv 0)) de_int (fun _ _ => rfl)) (da_cons (de_ty (by rfl) (m_str A0) bt_str) da_nil))) (pe_one (de_cmp (d_eqD rfl (hu64 hr)) (de_ix (d_ix rfl) (de_var (pv 0)) de_int (fun _ _ => rfl)) (de_var (pv 1)) (nomark _))))) dss_nil))
theorem cal_has_form (A0 : Facts K mg) : Cal P w K mg base (cf K) "has_form" 1 ["step", "word", "size"] 3 F_has_form [] := by
  obtain ⟨fd, F⟩ := A0.c.def_ 6 (d := d_has_form) rfl
  have hm : mg "has_form" = some (.ref (He.ga K "has_form")) := A0.glo (A0.c.fact 6 (f := .glo "has_form") rfl)
  have bd : Binds K fd ["step", "word", "size"] [] := F.bindsN fun _ _ _ _ _ _ us hl => match us, hl with | [_, _, _], _ => rfl
  refine ⟨_, fd, [], [], hm, F.kp, ?_, bd, .nil, fun _ => .nil⟩
  exact fn_has_form A0 F
abbrev N__is_insertion : List Str := ["step"]
theorem sc__is_insertion : FnScope N__is_insertion ["step"] (defScope s__is_insertion) := ⟨rfl, rfl, rfl, by decide +kernel, rfl, by decide +kernel, by decide +kernel⟩
def b__is_insertion : SM := sSeq (sRet (mAndV (mFnD F_has_form [] (aCons (mVar 0) (aCons (mC (.str "insert")) (aCons (mC (.int 3)) (aNil))))) (mAndV (mFnD F_is_number [] (aCons (mBin ixD (mVar 0) (mC (.int 1))) (aNil))) (mFnD F_is_count [] (aCons (mBin ixD (mVar 0) (mC (.int 2))) (aNil)))))) (sNil)
def F__is_insertion : FM := runF 1 b__is_insertion
theorem fn__is_insertion (A0 : Facts K mg) {fd : FuncData} (F : FunD K d__is_insertion.name d__is_insertion.qual d__is_insertion.params d__is_insertion.body d__is_insertion.scope (d__is_insertion.dvs K) (d__is_insertion.kws K) (He.fAd K d__is_insertion.at_) fd) : FnOk P w K mg base (L2.CX P w) 3 (He.fAd K d__is_insertion.at_) fd ["step"] (spM (cf K) 1 F__is_insertion) := by
  refine mk_fnD (k := 2) F sc__is_insertion rfl rfl fun cdv A outer s H E hr => ?_
  have tk := tk_of (P := P) (w := w) (K := K) (mg := mg) (base := base) (N := N__is_insertion) (qual := "_is_insertion") (scope := defScope s__is_insertion) (f := (He.fAd K d__is_insertion.at_)) (cdv := cdv) (A := A) (outer := outer) (s := s) (H := H) (E := E)
  exact (dss_cons (ds_ret (de_and (de_callA (Cal.at (cal_has_form (base := base) A0) hr (by decide)) (by rfl) tk (da_cons (de_var (pv 0)) (da_cons de_str (da_cons de_int da_nil))) (fun h => by rw [alen3 h]; rfl)) (de_and (de_callA (Cal.at (cal_is_number (base := base) A0) hr (by decide)) (by rfl) tk (da_cons (de_ix (d_ix rfl) (de_var (pv 0)) de_int (fun _ _ => rfl)) da_nil) (fun h => by rw [alen1 h]; rfl)) (pe_one (de_callA (Cal.at (cal_is_count (base := base) A0) hr (by decide)) (by rfl) tk (da_cons (de_ix (d_ix rfl) (de_var (pv 0)) de_int (fun _ _ => rfl)) da_nil) (fun h => by rw [alen1 h]; rfl)))))) dss_nil)
theorem cal__is_insertion (A0 : Facts K mg) : Cal P w K mg base (cf K) "_is_insertion" 3 ["step"] 1 F__is_insertion [] := by
  obtain ⟨fd, F⟩ := A0.c.def_ 7 (d := d__is_insertion) rfl
  have hm : mg "_is_insertion" = some (.ref (He.ga K "_is_insertion")) := A0.glo (A0.c.fact 7 (f := .glo "_is_insertion") rfl)
  have bd : Binds K fd ["step"] [] := F.bindsN fun _ _ _ _ _ _ us hl => match us, hl with | [_], _ => rfl
  refine ⟨_, fd, [], [], hm, F.kp, ?_, bd, .nil, fun _ => .nil⟩
  exact fn__is_insertion A0 F
abbrev N__is_removal : List Str := ["step"]
theorem sc__is_removal : FnScope N__is_removal ["step"] (defScope s__is_removal) := ⟨rfl, rfl, rfl, by decide +kernel, rfl, by decide +kernel, by decide +kernel⟩
def b__is_removal : SM := sSeq (sRet (mAndV (mFnD F_has_form [] (aCons (mVar 0) (aCons (mC (.str "remove")) (aCons (mC (.int 2)) (aNil))))) (mFnD F_is_count [] (aCons (mBin ixD (mVar 0) (mC (.int 1))) (aNil))))) (sNil)
def F__is_removal : FM := runF 1 b__is_removal
theorem fn__is_removal (A0 : Facts K mg) {fd : FuncData} (F : FunD K d__is_removal.name d__is_removal.qual d__is_removal.params d__is_removal.body d__is_removal.scope (d__is_removal.dvs K) (d__is_removal.kws K) (He.fAd K d__is_removal.at_) fd) : FnOk P w K mg base (L2.CX P w) 3 (He.fAd K d__is_removal.at_) fd ["step"] (spM (cf K) 1 F__is_removal) := by
  refine mk_fnD (k := 2) F sc__is_removal rfl rfl fun cdv A outer s H E hr => ?_
  have tk := tk_of (P := P) (w := w) (K := K) (mg := mg) (base := base) (N := N__is_removal) (qual := "_is_removal") (scope := defScope s__is_removal) (f := (He.fAd K d__is_removal.at_)) (cdv := cdv) (A := A) (outer := outer) (s := s) (H := H) (E := E)
  exact (dss_cons (ds_ret (de_and (de_callA (Cal.at (cal_has_form (base := base) A0) hr (by decide)) (by rfl) tk (da_cons (de_var (pv 0)) (da_cons de_str (da_cons de_int da_nil))) (fun h => by rw [alen3 h]; rfl)) (pe_one (de_callA (Cal.at (cal_is_count (base := base) A0) hr (by decide)) (by rfl) tk (da_cons (de_ix (d_ix rfl) (de_var (pv 0)) de_int (fun _ _ => rfl)) da_nil) (fun h => by rw [alen1 h]; rfl))))) dss_nil)
theorem cal__is_removal (A0 : Facts K mg) : Cal P w K mg base (cf K) "_is_removal" 3 ["step"] 1 F__is_removal [] := by
  obtain ⟨fd, F⟩ := A0.c.def_ 8 (d := d__is_removal) rfl
  have hm : mg "_is_removal" = some (.ref (He.ga K "_is_removal")) := A0.glo (A0.c.fact 8 (f := .glo "_is_removal") rfl)
  have bd : Binds K fd ["step"] [] := F.bindsN fun _ _ _ _ _ _ us hl => match us, hl with | [_], _ => rfl
  refine ⟨_, fd, [], [], hm, F.kp, ?_, bd, .nil, fun _ => .nil⟩
  exact fn__is_removal A0 F
abbrev N__is_repeat : List Str := ["step"]
theorem sc__is_repeat : FnScope N__is_repeat ["step"] (defScope s__is_repeat) := ⟨rfl, rfl, rfl, by decide +kernel, rfl, by decide +kernel, by decide +kernel⟩
def b__is_repeat : SM := sSeq (sRet (mAndV (mFnD F_has_form [] (aCons (mVar 0) (aCons (mC (.str "repeat")) (aCons (mC (.int 3)) (aNil))))) (mAndV (mFnD F_is_count [] (aCons (mBin ixD (mVar 0) (mC (.int 1))) (aNil))) (mCall isiD (aCons (mBin ixD (mVar 0) (mC (.int 2))) (aCons (mC (.ty "tuple")) (aNil))))))) (sNil)
def F__is_repeat : FM := runF 1 b__is_repeat
theorem fn__is_repeat (A0 : Facts K mg) {fd : FuncData} (F : FunD K d__is_repeat.name d__is_repeat.qual d__is_repeat.params d__is_repeat.body d__is_repeat.scope (d__is_repeat.dvs K) (d__is_repeat.kws K) (He.fAd K d__is_repeat.at_) fd) : FnOk P w K mg base (L2.CX P w) 3 (He.fAd K d__is_repeat.at_) fd ["step"] (spM (cf K) 1 F__is_repeat) := by
  refine mk_fnD (k := 2) F sc__is_repeat rfl rfl fun cdv A outer s H E hr => ?_
  have tk := tk_of (P := P) (w := w) (K := K) (mg := mg) (base := base) (N := N__is_repeat) (qual := "_is_repeat") (scope := defScope s__is_repeat) (f := (He.fAd K d__is_repeat.at_)) (cdv := cdv) (A := A) (outer := outer) (s := s) (H := H) (E := E)
  exact (dss_cons (ds_ret (de_and (de_callA (Cal.at (cal_has_form (base := base) A0) hr (by decide)) (by rfl) tk (da_cons (de_var (pv 0)) (da_cons de_str (da_cons de_int da_nil))) (fun h => by rw [alen3 h]; rfl)) (de_and (de_callA (Cal.at (cal_is_count (base := base) A0) hr (by decide)) (by rfl) tk (da_cons (de_ix (d_ix rfl) (de_var (pv 0)) de_int (fun _ _ => rfl)) da_nil) (fun h => by rw [alen1 h]; rfl)) (pe_one (de_callB (d_isi rfl) (by rfl) (m_isinstance A0) bt_isinstance (da_cons (de_ix (d_ix rfl) (de_var (pv 0)) de_int (fun _ _ => rfl)) (da_cons (de_ty (by rfl) (m_tuple A0) bt_tuple) da_nil))))))) dss_nil)
theorem cal__is_repeat (A0 : Facts K mg) : Cal P w K mg base (cf K) "_is_repeat" 3 ["step"] 1 F__is_repeat [] := by
  obtain ⟨fd, F⟩ := A0.c.def_ 9 (d := d__is_repeat) rfl
  have hm : mg "_is_repeat" = some (.ref (He.ga K "_is_repeat")) := A0.glo (A0.c.fact 9 (f := .glo "_is_repeat") rfl)
  have bd : Binds K fd ["step"] [] := F.bindsN fun _ _ _ _ _ _ us hl => match us, hl with | [_], _ => rfl
  refine ⟨_, fd, [], [], hm, F.kp, ?_, bd, .nil, fun _ => .nil⟩
  exact fn__is_repeat A0 F
abbrev N__first_invalid : List Str := ["program", "depth", "index", "step", "path"]
theorem sc__first_invalid : FnScope N__first_invalid ["program", "depth"] (defScope s__first_invalid) := ⟨rfl, rfl, rfl, by decide +kernel, rfl, by decide +kernel, by decide +kernel⟩
abbrev N__invalid_in : List Str := ["step", "depth"]
theorem sc__invalid_in : FnScope N__invalid_in ["step", "depth"] (defScope s__invalid_in) := ⟨rfl, rfl, rfl, by decide +kernel, rfl, by decide +kernel, by decide +kernel⟩
def b__first_invalid (R0 : FM) (R1 : FM) : SM := sSeq (sFor (iEnumM (mVar 0)) (tgTup [tgName 2, tgName 3]) (sSeq (sSet 4 (mFnD R1 [] (aCons (mVar 3) (aCons (mVar 1) (aNil))))) (sSeq (sIf (tCmpM isNotN (mVar 4) (mC .non)) (sSeq (sRet (mTup (aCons (mVar 2) (aStar (mVar 4) (aNil))))) (sNil)) (sNil)) (sNil)))) (sSeq (sRet (mC .non)) (sNil))
def b__invalid_in (R0 : FM) (R1 : FM) : SM := sSeq (sIf (tOrM (tTru (mFnD F__is_insertion [] (aCons (mVar 0) (aNil)))) (tTru (mFnD F__is_removal [] (aCons (mVar 0) (aNil))))) (sSeq (sRet (mC .non)) (sNil)) (sNil)) (sSeq (sIf (tOrM (tCmpM eqD (mVar 1) (mC (.int 8))) (tNotM (tTru (mFnD F__is_repeat [] (aCons (mVar 0) (aNil)))))) (sSeq (sRet (mTupX (aNil))) (sNil)) (sNil)) (sSeq (sRet (mFnD R0 [] (aCons (mBin ixD (mVar 0) (mC (.int 2))) (aCons (mBin addD (mVar 1) (mC (.int 1))) (aNil))))) (sNil)))
def G__first_invalid : Nat → Nat → FM
  | 0, _ => badF
  | n + 1, 0 => runF 5 (b__first_invalid (G__first_invalid n 0) (G__first_invalid n 1))
  | n + 1, _ => runF 2 (b__invalid_in (G__first_invalid n 0) (G__first_invalid n 1))
theorem calG__first_invalid (A0 : Facts K mg) : ∀ n : Nat, (Cal P w K mg base (cf K) "_first_invalid" (4 + n) ["program", "depth"] 2 (G__first_invalid n 0) []) ∧ (Cal P w K mg base (cf K) "_invalid_in" (4 + n) ["step", "depth"] 2 (G__first_invalid n 1) []) := by
  intro n
  induction n with
  | zero =>
    refine ⟨?_, ?_⟩
    · obtain ⟨fd, F⟩ := A0.c.def_ 10 (d := d__first_invalid) rfl
      have hm : mg "_first_invalid" = some (.ref (He.ga K "_first_invalid")) := A0.glo (A0.c.fact 10 (f := .glo "_first_invalid") rfl)
      have bd : Binds K fd ["program", "depth"] [] := F.bindsN fun _ _ _ _ _ _ us hl => match us, hl with | [_, _], _ => rfl
      refine ⟨_, fd, [], [], hm, F.kp, ?_, bd, .nil, fun _ => .nil⟩
      exact fn_bad rfl
    · obtain ⟨fd, F⟩ := A0.c.def_ 11 (d := d__invalid_in) rfl
      have hm : mg "_invalid_in" = some (.ref (He.ga K "_invalid_in")) := A0.glo (A0.c.fact 11 (f := .glo "_invalid_in") rfl)
      have bd : Binds K fd ["step", "depth"] [] := F.bindsN fun _ _ _ _ _ _ us hl => match us, hl with | [_, _], _ => rfl
      refine ⟨_, fd, [], [], hm, F.kp, ?_, bd, .nil, fun _ => .nil⟩
      exact fn_bad rfl
  | succ n ih =>
    obtain ⟨ih0, ih1⟩ := ih
    refine ⟨?_, ?_⟩
    · obtain ⟨fd, F⟩ := A0.c.def_ 10 (d := d__first_invalid) rfl
      have hm : mg "_first_invalid" = some (.ref (He.ga K "_first_invalid")) := A0.glo (A0.c.fact 10 (f := .glo "_first_invalid") rfl)
      have bd : Binds K fd ["program", "depth"] [] := F.bindsN fun _ _ _ _ _ _ us hl => match us, hl with | [_, _], _ => rfl
      refine ⟨_, fd, [], [], hm, F.kp, ?_, bd, .nil, fun _ => .nil⟩
      refine mk_fnD (k := 4 + n) F sc__first_invalid rfl rfl fun cdv A outer s H E hr => ?_
      have tk := tk_of (P := P) (w := w) (K := K) (mg := mg) (base := base) (N := N__first_invalid) (qual := "_first_invalid") (scope := defScope s__first_invalid) (f := He.ga K "_first_invalid") (cdv := cdv) (A := A) (outer := outer) (s := s) (H := H) (E := E)
      exact (dss_cons (ds_for (passes_of rfl) rfl (di_enum rfl (fun h => pi_enumT (by rfl) (m_enumerate A0) h) (de_var (pv 0))) (dg_tup rfl rfl (dgs_cons (dg_name (pg_name (i := 2) sc__first_invalid.nd rfl (by first | exact Or.inl rfl | exact Or.inr rfl))) (dgs_cons (dg_name (pg_name (i := 3) sc__first_invalid.nd rfl (by first | exact Or.inl rfl | exact Or.inr rfl))) dgs_nil)) rfl) (dss_cons (ds_set (i := 4) sc__first_invalid.nd rfl (by first | exact Or.inl rfl | exact Or.inr rfl) (de_callA (Cal.at ih1 hr (by omega)) (by rfl) tk (da_cons (de_var (pv 3)) (da_cons (de_var (pv 1)) da_nil)) (fun h => by rw [alen2 h]; rfl))) (dss_cons (ds_if (dt_cmp d_isNotN (de_var (pv 4)) de_non (nomark _)) (dss_cons (ds_ret (de_tup (da_cons (de_var (pv 2)) (da_star rfl (de_var (pv 4)) da_nil)))) dss_nil) dss_nil) dss_nil))) (dss_cons (ds_ret de_non) dss_nil))
    · obtain ⟨fd, F⟩ := A0.c.def_ 11 (d := d__invalid_in) rfl
      have hm : mg "_invalid_in" = some (.ref (He.ga K "_invalid_in")) := A0.glo (A0.c.fact 11 (f := .glo "_invalid_in") rfl)
      have bd : Binds K fd ["step", "depth"] [] := F.bindsN fun _ _ _ _ _ _ us hl => match us, hl with | [_, _], _ => rfl
      refine ⟨_, fd, [], [], hm, F.kp, ?_, bd, .nil, fun _ => .nil⟩
      refine mk_fnD (k := 4 + n) F sc__invalid_in rfl rfl fun cdv A outer s H E hr => ?_
      have tk := tk_of (P := P) (w := w) (K := K) (mg := mg) (base := base) (N := N__invalid_in) (qual := "_invalid_in") (scope := defScope s__invalid_in) (f := He.ga K "_invalid_in") (cdv := cdv) (A := A) (outer := outer) (s := s) (H := H) (E := E)
      exact (dss_cons (ds_if (PW.pt (dw_or (dt_tru rfl (de_callA (Cal.at (cal__is_insertion (base := base) A0) hr (by omega)) (by rfl) tk (da_cons (de_var (pv 0)) da_nil) (fun h => by rw [alen1 h]; rfl)) (fun _ => rfl)) (dw_or1 (dt_tru rfl (de_callA (Cal.at (cal__is_removal (base := base) A0) hr (by omega)) (by rfl) tk (da_cons (de_var (pv 0)) da_nil) (fun h => by rw [alen1 h]; rfl)) (fun _ => rfl))))) (dss_cons (ds_ret de_non) dss_nil) dss_nil) (dss_cons (ds_if (PW.pt (dw_or (dt_cmp (d_eqD rfl (hu64 hr)) (de_var (pv 1)) (de_gint (g_DEEPEST A0) (by rfl)) (nomark _)) (dw_or1 (dt_not (dt_tru rfl (de_callA (Cal.at (cal__is_repeat (base := base) A0) hr (by omega)) (by rfl) tk (da_cons (de_var (pv 0)) da_nil) (fun h => by rw [alen1 h]; rfl)) (fun _ => rfl)))))) (dss_cons (ds_ret (de_tupX da_nil)) dss_nil) dss_nil) (dss_cons (ds_ret (de_callA (Cal.at ih0 hr (by omega)) (by rfl) tk (da_cons (de_ix (d_ix rfl) (de_var (pv 0)) de_int (fun _ _ => rfl)) (da_cons (de_op (d_add rfl) (de_var (pv 1)) de_int) da_nil)) (fun h => by rw [alen2 h]; rfl))) dss_nil)))
def F__first_invalid : FM := G__first_invalid 24 0
theorem cal__first_invalid (A0 : Facts K mg) : Cal P w K mg base (cf K) "_first_invalid" 28 ["program", "depth"] 2 F__first_invalid [] := (calG__first_invalid A0 24).1
def F__invalid_in : FM := G__first_invalid 24 1
theorem cal__invalid_in (A0 : Facts K mg) : Cal P w K mg base (cf K) "_invalid_in" 28 ["step", "depth"] 2 F__invalid_in [] := (calG__first_invalid A0 24).2
abbrev N_check_program : List Str := ["program", "path"]
theorem sc_check_program : FnScope N_check_program ["program"] (defScope s_check_program) := ⟨rfl, rfl, rfl, by decide +kernel, rfl, by decide +kernel, by decide +kernel⟩
def b_check_program : SM := sSeq (sIf (tNotM (tTru (mCall isiD (aCons (mVar 0) (aCons (mC (.ty "tuple")) (aNil)))))) (sSeq (sRaise 1 "path" (mTupX (aNil))) (sNil)) (sNil)) (sSeq (sSet 1 (mFnD F__first_invalid [] (aCons (mVar 0) (aCons (mC (.int 1)) (aNil))))) (sSeq (sIf (tCmpM isNotN (mVar 1) (mC .non)) (sSeq (sRaise 1 "path" (mVar 1)) (sNil)) (sNil)) (sNil)))
def F_check_program : FM := runF 2 b_check_program
theorem fn_check_program (A0 : Facts K mg) {fd : FuncData} (F : FunD K d_check_program.name d_check_program.qual d_check_program.params d_check_program.body d_check_program.scope (d_check_program.dvs K) (d_check_program.kws K) (He.fAd K d_check_program.at_) fd) : FnOk P w K mg base (L2.CX P w) 29 (He.fAd K d_check_program.at_) fd ["program"] (spM (cf K) 1 F_check_program) := by
  refine mk_fnD (k := 28) F sc_check_program rfl rfl fun cdv A outer s H E hr => ?_
  have tk := tk_of (P := P) (w := w) (K := K) (mg := mg) (base := base) (N := N_check_program) (qual := "check_program") (scope := defScope s_check_program) (f := (He.fAd K d_check_program.at_)) (cdv := cdv) (A := A) (outer := outer) (s := s) (H := H) (E := E)
  exact (dss_cons (ds_if (dt_not (dt_tru rfl (de_callB (d_isi rfl) (by rfl) (m_isinstance A0) bt_isinstance (da_cons (de_var (pv 0)) (da_cons (de_ty (by rfl) (m_tuple A0) bt_tuple) da_nil))) (fun _ => rfl))) (dss_cons (ds_raise rfl tk (fun h => mkx_InvalidProgram A0 hr (by decide) (by rfl) h) rfl (de_tupX da_nil)) dss_nil) dss_nil) (dss_cons (ds_set (i := 1) sc_check_program.nd rfl (by first | exact Or.inl rfl | exact Or.inr rfl) (de_callA (Cal.at (cal__first_invalid (base := base) A0) hr (by decide)) (by rfl) tk (da_cons (de_var (pv 0)) (da_cons de_int da_nil)) (fun h => by rw [alen2 h]; rfl))) (dss_cons (ds_if (dt_cmp d_isNotN (de_var (pv 1)) de_non (nomark _)) (dss_cons (ds_raise rfl tk (fun h => mkx_InvalidProgram A0 hr (by decide) (by rfl) h) rfl (de_var (pv 1))) dss_nil) dss_nil) dss_nil)))
theorem cal_check_program (A0 : Facts K mg) : Cal P w K mg base (cf K) "check_program" 29 ["program"] 1 F_check_program [] := by
  obtain ⟨fd, F⟩ := A0.c.def_ 12 (d := d_check_program) rfl
  have hm : mg "check_program" = some (.ref (He.ga K "check_program")) := A0.glo (A0.c.fact 12 (f := .glo "check_program") rfl)
  have bd : Binds K fd ["program"] [] := F.bindsN fun _ _ _ _ _ _ us hl => match us, hl with | [_], _ => rfl
  refine ⟨_, fd, [], [], hm, F.kp, ?_, bd, .nil, fun _ => .nil⟩
  exact fn_check_program A0 F
abbrev N__course_of_step : List Str := ["step", "below", "gain", "length", "low", "count"]
theorem sc__course_of_step : FnScope N__course_of_step ["step", "below"] (defScope s__course_of_step) := ⟨rfl, rfl, rfl, by decide +kernel, rfl, by decide +kernel, by decide +kernel⟩
abbrev N__course : List Str := ["program", "below", "length", "gain", "low", "step", "step_length", "step_gain", "step_low"]
theorem sc__course : FnScope N__course ["program", "below"] (defScope s__course) := ⟨rfl, rfl, rfl, by decide +kernel, rfl, by decide +kernel, by decide +kernel⟩
def b__course_of_step (R0 : FM) (R1 : FM) : SM := sSeq (sIf (tCmpM eqD (mBin ixD (mVar 0) (mC (.int 0))) (mC (.str "insert"))) (sSeq (sSet 2 (mIf (tOrM (tCmpM isN (mVar 1) (mC .non)) (tCmpM ltI (mBin ixD (mVar 0) (mC (.int 1))) (mVar 1))) (mBin ixD (mVar 0) (mC (.int 2))) (mC (.int 0)))) (sSeq (sRet (mTup (aCons (mBin ixD (mVar 0) (mC (.int 2))) (aCons (mVar 2) (aCons (mC (.int 0)) (aNil)))))) (sNil))) (sNil)) (sSeq (sIf (tCmpM eqD (mBin ixD (mVar 0) (mC (.int 0))) (mC (.str "remove"))) (sSeq (sRet (mTup (aCons (mBin ixD (mVar 0) (mC (.int 1))) (aCons (mUn negI (mBin ixD (mVar 0) (mC (.int 1)))) (aCons (mUn negI (mBin ixD (mVar 0) (mC (.int 1)))) (aNil)))))) (sNil)) (sNil)) (sSeq (sAsg (tgTup [tgName 3, tgName 2, tgName 4]) (mFnD R1 [] (aCons (mBin ixD (mVar 0) (mC (.int 2))) (aCons (mVar 1) (aNil))))) (sSeq (sSet 5 (mBin ixD (mVar 0) (mC (.int 1)))) (sSeq (sIf (tCmpM eqD (mVar 5) (mC (.int 0))) (sSeq (sRet (mTup (aCons (mC (.int 0)) (aCons (mC (.int 0)) (aCons (mC (.int 0)) (aNil)))))) (sNil)) (sNil)) (sSeq (sRet (mTup (aCons (mBin mulD (mVar 5) (mVar 3)) (aCons (mBin mulD (mVar 5) (mVar 2)) (aCons (mBin addD (mVar 4) (mBin mulD (mBin subI (mVar 5) (mC (.int 1))) (mCall min2D (aCons (mVar 2) (aCons (mC (.int 0)) (aNil)))))) (aNil)))))) (sNil))))))
def b__course (R0 : FM) (R1 : FM) : SM := sSeq (sSet 2 (mC (.int 0))) (sSeq (sSet 3 (mC (.int 0))) (sSeq (sSet 4 (mC (.int 0))) (sSeq (sFor (iSeq (mVar 0)) (tgName 5) (sSeq (sAsg (tgTup [tgName 6, tgName 7, tgName 8]) (mFnD R0 [] (aCons (mVar 5) (aCons (mVar 1) (aNil))))) (sSeq (sSet 4 (mCall min2D (aCons (mVar 4) (aCons (mBin addD (mVar 3) (mVar 8)) (aNil))))) (sSeq (sSet 3 (mBin addD (mVar 3) (mVar 7))) (sSeq (sSet 2 (mBin addD (mVar 2) (mVar 6))) (sNil)))))) (sSeq (sRet (mTup (aCons (mVar 2) (aCons (mVar 3) (aCons (mVar 4) (aNil)))))) (sNil)))))
def G__course_of_step : Nat → Nat → FM
  | 0, _ => badF
  | n + 1, 0 => runF 6 (b__course_of_step (G__course_of_step n 0) (G__course_of_step n 1))
  | n + 1, _ => runF 9 (b__course (G__course_of_step n 0) (G__course_of_step n 1))
theorem calG__course_of_step (A0 : Facts K mg) : ∀ n : Nat, (Cal P w K mg base (cf K) "_course_of_step" (1 + n) ["step", "below"] 2 (G__course_of_step n 0) []) ∧ (Cal P w K mg base (cf K) "_course" (1 + n) ["program", "below"] 2 (G__course_of_step n 1) []) := by
  intro n
  induction n with
  | zero =>
    refine ⟨?_, ?_⟩
    · obtain ⟨fd, F⟩ := A0.c.def_ 13 (d := d__course_of_step) rfl
      have hm : mg "_course_of_step" = some (.ref (He.ga K "_course_of_step")) := A0.glo (A0.c.fact 13 (f := .glo "_course_of_step") rfl)
      have bd : Binds K fd ["step", "below"] [] := F.bindsN fun _ _ _ _ _ _ us hl => match us, hl with | [_, _], _ => rfl
      refine ⟨_, fd, [], [], hm, F.kp, ?_, bd, .nil, fun _ => .nil⟩
      exact fn_bad rfl
    · obtain ⟨fd, F⟩ := A0.c.def_ 14 (d := d__course) rfl
      have hm : mg "_course" = some (.ref (He.ga K "_course")) := A0.glo (A0.c.fact 14 (f := .glo "_course") rfl)
      have bd : Binds K fd ["program", "below"] [] := F.bindsN fun _ _ _ _ _ _ us hl => match us, hl with | [_, _], _ => rfl
      refine ⟨_, fd, [], [], hm, F.kp, ?_, bd, .nil, fun _ => .nil⟩
      exact fn_bad rfl
  | succ n ih =>
    obtain ⟨ih0, ih1⟩ := ih
    refine ⟨?_, ?_⟩
    · obtain ⟨fd, F⟩ := A0.c.def_ 13 (d := d__course_of_step) rfl
      have hm : mg "_course_of_step" = some (.ref (He.ga K "_course_of_step")) := A0.glo (A0.c.fact 13 (f := .glo "_course_of_step") rfl)
      have bd : Binds K fd ["step", "below"] [] := F.bindsN fun _ _ _ _ _ _ us hl => match us, hl with | [_, _], _ => rfl
      refine ⟨_, fd, [], [], hm, F.kp, ?_, bd, .nil, fun _ => .nil⟩
      refine mk_fnD (k := 1 + n) F sc__course_of_step rfl rfl fun cdv A outer s H E hr => ?_
      have tk := tk_of (P := P) (w := w) (K := K) (mg := mg) (base := base) (N := N__course_of_step) (qual := "_course_of_step") (scope := defScope s__course_of_step) (f := He.ga K "_course_of_step") (cdv := cdv) (A := A) (outer := outer) (s := s) (H := H) (E := E)
      exact (dss_cons (ds_if (dt_cmp (d_eqD rfl (hu64 hr)) (de_ix (d_ix rfl) (de_var (pv 0)) de_int (fun _ _ => rfl)) de_str (nomark _)) (dss_cons (ds_set (i := 2) sc__course_of_step.nd rfl (by first | exact Or.inl rfl | exact Or.inr rfl) (de_ifExp (PW.pt (dw_or (dt_cmp d_isN (de_var (pv 1)) de_non (nomark _)) (dw_or1 (dt_cmp d_ltI (de_ix (d_ix rfl) (de_var (pv 0)) de_int (fun _ _ => rfl)) (de_var (pv 1)) (nomark _))))) (de_ix (d_ix rfl) (de_var (pv 0)) de_int (fun _ _ => rfl)) de_int)) (dss_cons (ds_ret (de_tup (da_cons (de_ix (d_ix rfl) (de_var (pv 0)) de_int (fun _ _ => rfl)) (da_cons (de_var (pv 2)) (da_cons de_int da_nil))))) dss_nil)) dss_nil) (dss_cons (ds_if (dt_cmp (d_eqD rfl (hu64 hr)) (de_ix (d_ix rfl) (de_var (pv 0)) de_int (fun _ _ => rfl)) de_str (nomark _)) (dss_cons (ds_ret (de_tup (da_cons (de_ix (d_ix rfl) (de_var (pv 0)) de_int (fun _ _ => rfl)) (da_cons (de_neg (de_ix (d_ix rfl) (de_var (pv 0)) de_int (fun _ _ => rfl))) (da_cons (de_neg (de_ix (d_ix rfl) (de_var (pv 0)) de_int (fun _ _ => rfl))) da_nil))))) dss_nil) dss_nil) (dss_cons (ds_asg (de_callA (Cal.at ih1 hr (by omega)) (by rfl) tk (da_cons (de_ix (d_ix rfl) (de_var (pv 0)) de_int (fun _ _ => rfl)) (da_cons (de_var (pv 1)) da_nil)) (fun h => by rw [alen2 h]; rfl)) (dg_tup rfl rfl (dgs_cons (dg_name (pg_name (i := 3) sc__course_of_step.nd rfl (by first | exact Or.inl rfl | exact Or.inr rfl))) (dgs_cons (dg_name (pg_name (i := 2) sc__course_of_step.nd rfl (by first | exact Or.inl rfl | exact Or.inr rfl))) (dgs_cons (dg_name (pg_name (i := 4) sc__course_of_step.nd rfl (by first | exact Or.inl rfl | exact Or.inr rfl))) dgs_nil))) rfl)) (dss_cons (ds_set (i := 5) sc__course_of_step.nd rfl (by first | exact Or.inl rfl | exact Or.inr rfl) (de_ix (d_ix rfl) (de_var (pv 0)) de_int (fun _ _ => rfl))) (dss_cons (ds_if (dt_cmp (d_eqD rfl (hu64 hr)) (de_var (pv 5)) de_int (nomark _)) (dss_cons (ds_ret (de_tup (da_cons de_int (da_cons de_int (da_cons de_int da_nil))))) dss_nil) dss_nil) (dss_cons (ds_ret (de_tup (da_cons (de_op d_mul (de_var (pv 5)) (de_var (pv 3))) (da_cons (de_op d_mul (de_var (pv 5)) (de_var (pv 2))) (da_cons (de_op (d_add rfl) (de_var (pv 4)) (de_op d_mul (de_op d_subI (de_var (pv 5)) de_int) (de_callB (d_min2 rfl) (by rfl) (m_min A0) bt_min (da_cons (de_var (pv 2)) (da_cons de_int da_nil))))) da_nil))))) dss_nil))))))
    · obtain ⟨fd, F⟩ := A0.c.def_ 14 (d := d__course) rfl
      have hm : mg "_course" = some (.ref (He.ga K "_course")) := A0.glo (A0.c.fact 14 (f := .glo "_course") rfl)
      have bd : Binds K fd ["program", "below"] [] := F.bindsN fun _ _ _ _ _ _ us hl => match us, hl with | [_, _], _ => rfl
      refine ⟨_, fd, [], [], hm, F.kp, ?_, bd, .nil, fun _ => .nil⟩
      refine mk_fnD (k := 1 + n) F sc__course rfl rfl fun cdv A outer s H E hr => ?_
      have tk := tk_of (P := P) (w := w) (K := K) (mg := mg) (base := base) (N := N__course) (qual := "_course") (scope := defScope s__course) (f := He.ga K "_course") (cdv := cdv) (A := A) (outer := outer) (s := s) (H := H) (E := E)
      exact (dss_cons (ds_set (i := 2) sc__course.nd rfl (by first | exact Or.inl rfl | exact Or.inr rfl) de_int) (dss_cons (ds_set (i := 3) sc__course.nd rfl (by first | exact Or.inl rfl | exact Or.inr rfl) de_int) (dss_cons (ds_set (i := 4) sc__course.nd rfl (by first | exact Or.inl rfl | exact Or.inr rfl) de_int) (dss_cons (ds_for (passes_of rfl) rfl (di_seq rfl (de_var (pv 0))) (dg_name (pg_name (i := 5) sc__course.nd rfl (by first | exact Or.inl rfl | exact Or.inr rfl))) (dss_cons (ds_asg (de_callA (Cal.at ih0 hr (by omega)) (by rfl) tk (da_cons (de_var (pv 5)) (da_cons (de_var (pv 1)) da_nil)) (fun h => by rw [alen2 h]; rfl)) (dg_tup rfl rfl (dgs_cons (dg_name (pg_name (i := 6) sc__course.nd rfl (by first | exact Or.inl rfl | exact Or.inr rfl))) (dgs_cons (dg_name (pg_name (i := 7) sc__course.nd rfl (by first | exact Or.inl rfl | exact Or.inr rfl))) (dgs_cons (dg_name (pg_name (i := 8) sc__course.nd rfl (by first | exact Or.inl rfl | exact Or.inr rfl))) dgs_nil))) rfl)) (dss_cons (ds_set (i := 4) sc__course.nd rfl (by first | exact Or.inl rfl | exact Or.inr rfl) (de_callB (d_min2 rfl) (by rfl) (m_min A0) bt_min (da_cons (de_var (pv 4)) (da_cons (de_op (d_add rfl) (de_var (pv 3)) (de_var (pv 8))) da_nil)))) (dss_cons (ds_set (i := 3) sc__course.nd rfl (by first | exact Or.inl rfl | exact Or.inr rfl) (de_op (d_add rfl) (de_var (pv 3)) (de_var (pv 7)))) (dss_cons (ds_set (i := 2) sc__course.nd rfl (by first | exact Or.inl rfl | exact Or.inr rfl) (de_op (d_add rfl) (de_var (pv 2)) (de_var (pv 6)))) dss_nil))))) (dss_cons (ds_ret (de_tup (da_cons (de_var (pv 2)) (da_cons (de_var (pv 3)) (da_cons (de_var (pv 4)) da_nil))))) dss_nil)))))
def F__course_of_step : FM := G__course_of_step 24 0
theorem cal__course_of_step (A0 : Facts K mg) : Cal P w K mg base (cf K) "_course_of_step" 25 ["step", "below"] 2 F__course_of_step [] := (calG__course_of_step A0 24).1
def F__course : FM := G__course_of_step 24 1
theorem cal__course (A0 : Facts K mg) : Cal P w K mg base (cf K) "_course" 25 ["program", "below"] 2 F__course [] := (calG__course_of_step A0 24).2
abbrev N_failing_index : List Str := ["size", "program", "below", "index", "left", "step", "length", "gain", "low"]
theorem sc_failing_index : FnScope N_failing_index ["size", "program", "below"] (defScope s_failing_index) := ⟨rfl, rfl, rfl, by decide +kernel, rfl, by decide +kernel, by decide +kernel⟩
abbrev N__failing_within : List Str := ["size", "step", "below", "length", "gain", "low", "turns"]
theorem sc__failing_within : FnScope N__failing_within ["size", "step", "below"] (defScope s__failing_within) := ⟨rfl, rfl, rfl, by decide +kernel, rfl, by decide +kernel, by decide +kernel⟩
def b_failing_index (R0 : FM) (R1 : FM) : SM := sSeq (sSet 3 (mC (.int 0))) (sSeq (sSet 4 (mVar 0)) (sSeq (sFor (iSeq (mVar 1)) (tgName 5) (sSeq (sAsg (tgTup [tgName 6, tgName 7, tgName 8]) (mFnD F__course_of_step [] (aCons (mVar 5) (aCons (mVar 2) (aNil))))) (sSeq (sIf (tCmpM ltI (mBin addD (mVar 4) (mVar 8)) (mC (.int 0))) (sSeq (sRet (mBin addD (mVar 3) (mFnD R1 [] (aCons (mVar 4) (aCons (mVar 5) (aCons (mVar 2) (aNil))))))) (sNil)) (sNil)) (sSeq (sSet 3 (mBin addD (mVar 3) (mVar 6))) (sSeq (sSet 4 (mBin addD (mVar 4) (mVar 7))) (sNil)))))) (sSeq (sRet (mC .non)) (sNil))))
def b__failing_within (R0 : FM) (R1 : FM) : SM := sSeq (sIf (tCmpM eqD (mBin ixD (mVar 1) (mC (.int 0))) (mC (.str "remove"))) (sSeq (sRet (mVar 0)) (sNil)) (sNil)) (sSeq (sAsg (tgTup [tgName 3, tgName 4, tgName 5]) (mFnD F__course [] (aCons (mBin ixD (mVar 1) (mC (.int 2))) (aCons (mVar 2) (aNil))))) (sSeq (sSet 6 (mC (.int 0))) (sSeq (sIf (tCmpM geI (mBin addD (mVar 0) (mVar 5)) (mC (.int 0))) (sSeq (sSet 6 (mBin addD (mBin divI (mBin addD (mVar 0) (mVar 5)) (mUn negI (mVar 4))) (mC (.int 1)))) (sNil)) (sNil)) (sSeq (sRet (mBin addD (mBin mulD (mVar 6) (mVar 3)) (mFnD R0 [] (aCons (mBin addD (mVar 0) (mBin mulD (mVar 6) (mVar 4))) (aCons (mBin ixD (mVar 1) (mC (.int 2))) (aCons (mVar 2) (aNil))))))) (sNil)))))
def G_failing_index : Nat → Nat → FM
  | 0, _ => badF
  | n + 1, 0 => runF 9 (b_failing_index (G_failing_index n 0) (G_failing_index n 1))
  | n + 1, _ => runF 7 (b__failing_within (G_failing_index n 0) (G_failing_index n 1))
theorem calG_failing_index (A0 : Facts K mg) : ∀ n : Nat, (CalW P w K mg base (cf K) "failing_index" (26 + n) ["size", "program", "below"] 3 (G_failing_index n 0) [.non]) ∧ (Cal P w K mg base (cf K) "_failing_within" (26 + n) ["size", "step", "below"] 3 (G_failing_index n 1) []) := by
  intro n
  induction n with
  | zero =>
    refine ⟨?_, ?_⟩
    · obtain ⟨fd, F⟩ := A0.c.def_ 15 (d := d_failing_index) rfl
      have hm : mg "failing_index" = some (.ref (He.ga K "failing_index")) := A0.glo (A0.c.fact 15 (f := .glo "failing_index") rfl)
      obtain ⟨ds1, rds1, bd1⟩ := F.binds1 (ps := ["size", "program", "below"]) 3 1 (List.cons_ne_nil _ _) rfl fun T _ _ _ _ _ _ us its h1 h2 => match us, its, h1, h2 with | [_, _, _], [_], _, _ => ⟨_, rfl, rfl⟩
      obtain ⟨ds2, rds2, bd2⟩ := F.binds1 (ps := ["size", "program", "below"]) 2 0 (List.cons_ne_nil _ _) rfl fun T _ _ _ _ _ _ us its h1 h2 => match us, its, h1, h2 with | [_, _], [_], _, _ => ⟨_, rfl, rfl⟩
      refine ⟨_, fd, ds1, _, hm, F.kp, ?_, bd1, rds1, fun _ => .nil, ds2, _, bd2, rds2, fun _ => .cons .non (.nil)⟩
      exact fn_bad rfl
    · obtain ⟨fd, F⟩ := A0.c.def_ 16 (d := d__failing_within) rfl
      have hm : mg "_failing_within" = some (.ref (He.ga K "_failing_within")) := A0.glo (A0.c.fact 16 (f := .glo "_failing_within") rfl)
      have bd : Binds K fd ["size", "step", "below"] [] := F.bindsN fun _ _ _ _ _ _ us hl => match us, hl with | [_, _, _], _ => rfl
      refine ⟨_, fd, [], [], hm, F.kp, ?_, bd, .nil, fun _ => .nil⟩
      exact fn_bad rfl
  | succ n ih =>
    obtain ⟨ih0, ih1⟩ := ih
    refine ⟨?_, ?_⟩
    · obtain ⟨fd, F⟩ := A0.c.def_ 15 (d := d_failing_index) rfl
      have hm : mg "failing_index" = some (.ref (He.ga K "failing_index")) := A0.glo (A0.c.fact 15 (f := .glo "failing_index") rfl)
      obtain ⟨ds1, rds1, bd1⟩ := F.binds1 (ps := ["size", "program", "below"]) 3 1 (List.cons_ne_nil _ _) rfl fun T _ _ _ _ _ _ us its h1 h2 => match us, its, h1, h2 with | [_, _, _], [_], _, _ => ⟨_, rfl, rfl⟩
      obtain ⟨ds2, rds2, bd2⟩ := F.binds1 (ps := ["size", "program", "below"]) 2 0 (List.cons_ne_nil _ _) rfl fun T _ _ _ _ _ _ us its h1 h2 => match us, its, h1, h2 with | [_, _], [_], _, _ => ⟨_, rfl, rfl⟩
      refine ⟨_, fd, ds1, _, hm, F.kp, ?_, bd1, rds1, fun _ => .nil, ds2, _, bd2, rds2, fun _ => .cons .non (.nil)⟩
      refine mk_fnD (k := 26 + n) F sc_failing_index rfl rfl fun cdv A outer s H E hr => ?_
      have tk := tk_of (P := P) (w := w) (K := K) (mg := mg) (base := base) (N := N_failing_index) (qual := "failing_index") (scope := defScope s_failing_index) (f := He.ga K "failing_index") (cdv := cdv) (A := A) (outer := outer) (s := s) (H := H) (E := E)
      exact (dss_cons (ds_set (i := 3) sc_failing_index.nd rfl (by first | exact Or.inl rfl | exact Or.inr rfl) de_int) (dss_cons (ds_set (i := 4) sc_failing_index.nd rfl (by first | exact Or.inl rfl | exact Or.inr rfl) (de_var (pv 0))) (dss_cons (ds_for (passes_of rfl) rfl (di_seq rfl (de_var (pv 1))) (dg_name (pg_name (i := 5) sc_failing_index.nd rfl (by first | exact Or.inl rfl | exact Or.inr rfl))) (dss_cons (ds_asg (de_callA (Cal.at (cal__course_of_step (base := base) A0) hr (by omega)) (by rfl) tk (da_cons (de_var (pv 5)) (da_cons (de_var (pv 2)) da_nil)) (fun h => by rw [alen2 h]; rfl)) (dg_tup rfl rfl (dgs_cons (dg_name (pg_name (i := 6) sc_failing_index.nd rfl (by first | exact Or.inl rfl | exact Or.inr rfl))) (dgs_cons (dg_name (pg_name (i := 7) sc_failing_index.nd rfl (by first | exact Or.inl rfl | exact Or.inr rfl))) (dgs_cons (dg_name (pg_name (i := 8) sc_failing_index.nd rfl (by first | exact Or.inl rfl | exact Or.inr rfl))) dgs_nil))) rfl)) (dss_cons (ds_if (dt_cmp d_ltI (de_op (d_add rfl) (de_var (pv 4)) (de_var (pv 8))) de_int (nomark _)) (dss_cons (ds_ret (de_op (d_add rfl) (de_var (pv 3)) (de_callA (Cal.at ih1 hr (by omega)) (by rfl) tk (da_cons (de_var (pv 4)) (da_cons (de_var (pv 5)) (da_cons (de_var (pv 2)) da_nil))) (fun h => by rw [alen3 h]; rfl)))) dss_nil) dss_nil) (dss_cons (ds_set (i := 3) sc_failing_index.nd rfl (by first | exact Or.inl rfl | exact Or.inr rfl) (de_op (d_add rfl) (de_var (pv 3)) (de_var (pv 6)))) (dss_cons (ds_set (i := 4) sc_failing_index.nd rfl (by first | exact Or.inl rfl | exact Or.inr rfl) (de_op (d_add rfl) (de_var (pv 4)) (de_var (pv 7)))) dss_nil))))) (dss_cons (ds_ret de_non) dss_nil))))
    · obtain ⟨fd, F⟩ := A0.c.def_ 16 (d := d__failing_within) rfl
      have hm : mg "_failing_within" = some (.ref (He.ga K "_failing_within")) := A0.glo (A0.c.fact 16 (f := .glo "_failing_within") rfl)
      have bd : Binds K fd ["size", "step", "below"] [] := F.bindsN fun _ _ _ _ _ _ us hl => match us, hl with | [_, _, _], _ => rfl
      refine ⟨_, fd, [], [], hm, F.kp, ?_, bd, .nil, fun _ => .nil⟩
      refine mk_fnD (k := 26 + n) F sc__failing_within rfl rfl fun cdv A outer s H E hr => ?_
      have tk := tk_of (P := P) (w := w) (K := K) (mg := mg) (base := base) (N := N__failing_within) (qual := "_failing_within") (scope := defScope s__failing_within) (f := He.ga K "_failing_within") (cdv := cdv) (A := A) (outer := outer) (s := s) (H := H) (E := E)
      exact (dss_cons (ds_if (dt_cmp (d_eqD rfl (hu64 hr)) (de_ix (d_ix rfl) (de_var (pv 1)) de_int (fun _ _ => rfl)) de_str (nomark _)) (dss_cons (ds_ret (de_var (pv 0))) dss_nil) dss_nil) (dss_cons (ds_asg (de_callA (Cal.at (cal__course (base := base) A0) hr (by omega)) (by rfl) tk (da_cons (de_ix (d_ix rfl) (de_var (pv 1)) de_int (fun _ _ => rfl)) (da_cons (de_var (pv 2)) da_nil)) (fun h => by rw [alen2 h]; rfl)) (dg_tup rfl rfl (dgs_cons (dg_name (pg_name (i := 3) sc__failing_within.nd rfl (by first | exact Or.inl rfl | exact Or.inr rfl))) (dgs_cons (dg_name (pg_name (i := 4) sc__failing_within.nd rfl (by first | exact Or.inl rfl | exact Or.inr rfl))) (dgs_cons (dg_name (pg_name (i := 5) sc__failing_within.nd rfl (by first | exact Or.inl rfl | exact Or.inr rfl))) dgs_nil))) rfl)) (dss_cons (ds_set (i := 6) sc__failing_within.nd rfl (by first | exact Or.inl rfl | exact Or.inr rfl) de_int) (dss_cons (ds_if (dt_cmp d_geI (de_op (d_add rfl) (de_var (pv 0)) (de_var (pv 5))) de_int (nomark _)) (dss_cons (ds_set (i := 6) sc__failing_within.nd rfl (by first | exact Or.inl rfl | exact Or.inr rfl) (de_op (d_add rfl) (de_op d_divI (de_op (d_add rfl) (de_var (pv 0)) (de_var (pv 5))) (de_neg (de_var (pv 4)))) de_int)) dss_nil) dss_nil) (dss_cons (ds_ret (de_op (d_add rfl) (de_op d_mul (de_var (pv 6)) (de_var (pv 3))) (de_callA (Cal.at ih0.a hr (by omega)) (by rfl) tk (da_cons (de_op (d_add rfl) (de_var (pv 0)) (de_op d_mul (de_var (pv 6)) (de_var (pv 4)))) (da_cons (de_ix (d_ix rfl) (de_var (pv 1)) de_int (fun _ _ => rfl)) (da_cons (de_var (pv 2)) da_nil))) (fun h => by rw [alen3 h]; rfl)))) dss_nil)))))
def F_failing_index : FM := G_failing_index 24 0
theorem cal_failing_index (A0 : Facts K mg) : CalW P w K mg base (cf K) "failing_index" 50 ["size", "program", "below"] 3 F_failing_index [.non] := (calG_failing_index A0 24).1
def F__failing_within : FM := G_failing_index 24 1
theorem cal__failing_within (A0 : Facts K mg) : Cal P w K mg base (cf K) "_failing_within" 50 ["size", "step", "below"] 3 F__failing_within [] := (calG_failing_index A0 24).2
abbrev N_first_failure : List Str := ["bag", "program", "size"]
theorem sc_first_failure : FnScope N_first_failure ["bag", "program"] (defScope s_first_failure) := ⟨rfl, rfl, rfl, by decide +kernel, rfl, by decide +kernel, by decide +kernel⟩
def b_first_failure : SM := sSeq (sSet 2 (mFnD F_size_of [] (aCons (mVar 0) (aNil)))) (sSeq (sDrop (mFnD F_check_program [] (aCons (mVar 1) (aNil)))) (sSeq (sRet (mFnD F_failing_index [.non] (aCons (mVar 2) (aCons (mVar 1) (aNil))))) (sNil)))
def F_first_failure : FM := runF 3 b_first_failure
theorem fn_first_failure (A0 : Facts K mg) {fd : FuncData} (F : FunD K d_first_failure.name d_first_failure.qual d_first_failure.params d_first_failure.body d_first_failure.scope (d_first_failure.dvs K) (d_first_failure.kws K) (He.fAd K d_first_failure.at_) fd) : FnOk P w K mg base (L2.CX P w) 51 (He.fAd K d_first_failure.at_) fd ["bag", "program"] (spM (cf K) 2 F_first_failure) := by
  refine mk_fnD (k := 50) F sc_first_failure rfl rfl fun cdv A outer s H E hr => ?_
  have tk := tk_of (P := P) (w := w) (K := K) (mg := mg) (base := base) (N := N_first_failure) (qual := "first_failure") (scope := defScope s_first_failure) (f := (He.fAd K d_first_failure.at_)) (cdv := cdv) (A := A) (outer := outer) (s := s) (H := H) (E := E)
  exact (dss_cons (ds_set (i := 2) sc_first_failure.nd rfl (by first | exact Or.inl rfl | exact Or.inr rfl) (de_callA (Cal.at (cal_size_of (base := base) A0) hr (by decide)) (by rfl) tk (da_cons (de_var (pv 0)) da_nil) (fun h => by rw [alen1 h]; rfl))) (dss_cons (ds_drop (de_callA (Cal.at (cal_check_program (base := base) A0) hr (by decide)) (by rfl) tk (da_cons (de_var (pv 1)) da_nil) (fun h => by rw [alen1 h]; rfl))) (dss_cons (ds_ret (de_callA (Cal.at (cal_failing_index (base := base) A0).d hr (by decide)) (by rfl) tk (da_cons (de_var (pv 2)) (da_cons (de_var (pv 1)) da_nil)) (fun h => by rw [alen2 h]; rfl))) dss_nil)))
theorem cal_first_failure (A0 : Facts K mg) : Cal P w K mg base (cf K) "first_failure" 51 ["bag", "program"] 2 F_first_failure [] := by
  obtain ⟨fd, F⟩ := A0.c.def_ 17 (d := d_first_failure) rfl
  have hm : mg "first_failure" = some (.ref (He.ga K "first_failure")) := A0.glo (A0.c.fact 17 (f := .glo "first_failure") rfl)
  have bd : Binds K fd ["bag", "program"] [] := F.bindsN fun _ _ _ _ _ _ us hl => match us, hl with | [_, _], _ => rfl
  refine ⟨_, fd, [], [], hm, F.kp, ?_, bd, .nil, fun _ => .nil⟩
  exact fn_first_failure A0 F
abbrev N__law_draw : List Str := ["_law_pool", "_law_count", "_law_cell", "_law_result"]
theorem sc__law_draw : FnScope N__law_draw ["_law_pool", "_law_count"] (defScope s__law_draw) := ⟨rfl, rfl, rfl, by decide +kernel, rfl, by decide +kernel, by decide +kernel⟩
def b__law_draw : SM := sSeq (sIf (tCmpM eqD (mBin ixD (mVar 0) (mC (.int 2))) (mC (.int 0))) (sSeq (sSet 2 (mIf (tCmpM ltI (mBin ixD (mVar 0) (mC (.int 1))) (mCall lenD (aCons (mBin ixD (mVar 0) (mC (.int 0))) (aNil)))) (mBin ixD (mBin ixD (mVar 0) (mC (.int 0))) (mBin ixD (mVar 0) (mC (.int 1)))) (mC (.int 0)))) (sSeq (sSetIx 0 (mC (.int 1)) (mBin addD (mBin ixD (mVar 0) (mC (.int 1))) (mC (.int 1)))) (sSeq (sIf (tCmpM ltI (mVar 2) (mBin powI (mC (.int 10)) (mC (.int 18)))) (sSeq (sSetIx 0 (mC (.int 3)) (mBin modI (mBin addD (mBin addD (mBin mulD (mBin ixD (mVar 0) (mC (.int 3))) (mC (.int 48271))) (mBin modI (mVar 2) (mC (.int 2147483629)))) (mBin ixD (mVar 0) (mC (.int 1)))) (mC (.int 2147483647)))) (sSeq (sRet (mBin modI (mBin divI (mBin modI (mBin mulD (mBin ixD (mVar 0) (mC (.int 3))) (mBin ixD (mVar 0) (mC (.int 3)))) (mC (.int 2147483629))) (mC (.int 7))) (mVar 1))) (sNil))) (sNil)) (sSeq (sSetIx 0 (mC (.int 2)) (mVar 2)) (sNil))))) (sNil)) (sSeq (sSet 3 (mBin modI (mBin ixD (mVar 0) (mC (.int 2))) (mVar 1))) (sSeq (sSetIx 0 (mC (.int 2)) (mBin divI (mBin ixD (mVar 0) (mC (.int 2))) (mVar 1))) (sSeq (sRet (mVar 3)) (sNil))))
def F__law_draw : FM := runF 4 b__law_draw
theorem fn__law_draw (A0 : Facts K mg) {fd : FuncData} (F : FunD K d__law_draw.name d__law_draw.qual d__law_draw.params d__law_draw.body d__law_draw.scope (d__law_draw.dvs K) (d__law_draw.kws K) (He.fAd K d__law_draw.at_) fd) : FnOk P w K mg base (L2.CX P w) 1 (He.fAd K d__law_draw.at_) fd ["_law_pool", "_law_count"] (spM (cf K) 2 F__law_draw) := by
  refine mk_fnD (k := 0) F sc__law_draw rfl rfl fun cdv A outer s H E hr => ?_
  have tk := tk_of (P := P) (w := w) (K := K) (mg := mg) (base := base) (N := N__law_draw) (qual := "_law_draw") (scope := defScope s__law_draw) (f := (He.fAd K d__law_draw.at_)) (cdv := cdv) (A := A) (outer := outer) (s := s) (H := H) (E := E)
  exact (dss_cons (ds_if (dt_cmp (d_eqD rfl (hu64 hr)) (de_ix (d_ix rfl) (de_var (pv 0)) de_int (fun _ _ => rfl)) de_int (nomark _)) (dss_cons (ds_set (i := 2) sc__law_draw.nd rfl (by first | exact Or.inl rfl | exact Or.inr rfl) (de_ifExp (dt_cmp d_ltI (de_ix (d_ix rfl) (de_var (pv 0)) de_int (fun _ _ => rfl)) (de_callB (d_len rfl) (by rfl) (m_len A0) bt_len (da_cons (de_ix (d_ix rfl) (de_var (pv 0)) de_int (fun _ _ => rfl)) da_nil)) (nomark _)) (de_ix (d_ix rfl) (de_ix (d_ix rfl) (de_var (pv 0)) de_int (fun _ _ => rfl)) (de_ix (d_ix rfl) (de_var (pv 0)) de_int (fun _ _ => rfl)) (fun _ _ => rfl)) de_int)) (dss_cons (ds_setIx (pv 0) de_int (de_op (d_add rfl) (de_ix (d_ix rfl) (de_var (pv 0)) de_int (fun _ _ => rfl)) de_int) (fun he ho hi => ps_asg he (pg_sub ho hi set_list))) (dss_cons (ds_if (dt_cmp d_ltI (de_var (pv 2)) (de_op d_powI de_int de_int) (nomark _)) (dss_cons (ds_setIx (pv 0) de_int (de_op d_modI (de_op (d_add rfl) (de_op (d_add rfl) (de_op d_mul (de_ix (d_ix rfl) (de_var (pv 0)) de_int (fun _ _ => rfl)) de_int) (de_op d_modI (de_var (pv 2)) de_int)) (de_ix (d_ix rfl) (de_var (pv 0)) de_int (fun _ _ => rfl))) de_int) (fun he ho hi => ps_asg he (pg_sub ho hi set_list))) (dss_cons (ds_ret (de_op d_modI (de_op d_divI (de_op d_modI (de_op d_mul (de_ix (d_ix rfl) (de_var (pv 0)) de_int (fun _ _ => rfl)) (de_ix (d_ix rfl) (de_var (pv 0)) de_int (fun _ _ => rfl))) de_int) de_int) (de_var (pv 1)))) dss_nil)) dss_nil) (dss_cons (ds_setIx (pv 0) de_int (de_var (pv 2)) (fun he ho hi => ps_asg he (pg_sub ho hi set_list))) dss_nil)))) dss_nil) (dss_cons (ds_set (i := 3) sc__law_draw.nd rfl (by first | exact Or.inl rfl | exact Or.inr rfl) (de_op d_modI (de_ix (d_ix rfl) (de_var (pv 0)) de_int (fun _ _ => rfl)) (de_var (pv 1)))) (dss_cons (ds_setIx (pv 0) de_int (de_op d_divI (de_ix (d_ix rfl) (de_var (pv 0)) de_int (fun _ _ => rfl)) (de_var (pv 1))) (fun he ho hi => ps_asg he (pg_sub ho hi set_list))) (dss_cons (ds_ret (de_var (pv 3))) dss_nil))))
theorem cal__law_draw (A0 : Facts K mg) : Cal P w K mg base (cf K) "_law_draw" 1 ["_law_pool", "_law_count"] 2 F__law_draw [] := by
  obtain ⟨fd, F⟩ := A0.c.def_ 18 (d := d__law_draw) rfl
  have hm : mg "_law_draw" = some (.ref (He.ga K "_law_draw")) := A0.glo (A0.c.fact 18 (f := .glo "_law_draw") rfl)
  have bd : Binds K fd ["_law_pool", "_law_count"] [] := F.bindsN fun _ _ _ _ _ _ us hl => match us, hl with | [_, _], _ => rfl
  refine ⟨_, fd, [], [], hm, F.kp, ?_, bd, .nil, fun _ => .nil⟩
  exact fn__law_draw A0 F
abbrev N__law_base : List Str := ["_law_pool"]
theorem sc__law_base : FnScope N__law_base ["_law_pool"] (defScope s__law_base) := ⟨rfl, rfl, rfl, by decide +kernel, rfl, by decide +kernel, by decide +kernel⟩
def b__law_base : SM := sSeq (sRet (mBin ixD (mLst (aCons (mC (.int 0)) (aCons (mUn negI (mC (.int 2))) (aCons (mBin powI (mC (.int 10)) (mC (.int 25))) (aCons (mBin addD (mBin subI (mC (.int 0)) (mBin powI (mC (.int 10)) (mC (.int 25)))) (mFnB F__law_draw 0 (aCons (mBin powI (mC (.int 10)) (mC (.int 6))) (aNil)))) (aNil)))))) (mFnB F__law_draw 0 (aCons (mC (.int 4)) (aNil))))) (sNil)
def F__law_base : FM := runF 1 b__law_base
theorem fn__law_base (A0 : Facts K mg) {fd : FuncData} (F : FunD K d__law_base.name d__law_base.qual d__law_base.params d__law_base.body d__law_base.scope (d__law_base.dvs K) (d__law_base.kws K) (He.fAd K d__law_base.at_) fd) : FnOk P w K mg base (L2.CX P w) 2 (He.fAd K d__law_base.at_) fd ["_law_pool"] (spM (cf K) 1 F__law_base) := by
  refine mk_fnD (k := 1) F sc__law_base rfl rfl fun cdv A outer s H E hr => ?_
  have tk := tk_of (P := P) (w := w) (K := K) (mg := mg) (base := base) (N := N__law_base) (qual := "_law_base") (scope := defScope s__law_base) (f := (He.fAd K d__law_base.at_)) (cdv := cdv) (A := A) (outer := outer) (s := s) (H := H) (E := E)
  exact (dss_cons (ds_ret (de_ix (d_ix rfl) (de_lst (da_cons de_int (da_cons (de_neg de_int) (da_cons (de_op d_powI de_int de_int) (da_cons (de_op (d_add rfl) (de_op d_subI de_int (de_op d_powI de_int de_int)) (de_callAB (Cal.at (cal__law_draw (base := base) A0) hr (by decide)) (by rfl) tk (pv 0) rfl (da_cons (de_op d_powI de_int de_int) da_nil) alen1)) da_nil))))) (de_callAB (Cal.at (cal__law_draw (base := base) A0) hr (by decide)) (by rfl) tk (pv 0) rfl (da_cons de_int da_nil) alen1) (fun _ _ => rfl))) dss_nil)
theorem cal__law_base (A0 : Facts K mg) : Cal P w K mg base (cf K) "_law_base" 2 ["_law_pool"] 1 F__law_base [] := by
  obtain ⟨fd, F⟩ := A0.c.def_ 19 (d := d__law_base) rfl
  have hm : mg "_law_base" = some (.ref (He.ga K "_law_base")) := A0.glo (A0.c.fact 19 (f := .glo "_law_base") rfl)
  have bd : Binds K fd ["_law_pool"] [] := F.bindsN fun _ _ _ _ _ _ us hl => match us, hl with | [_], _ => rfl
  refine ⟨_, fd, [], [], hm, F.kp, ?_, bd, .nil, fun _ => .nil⟩
  exact fn__law_base A0 F
abbrev N__law_bag : List Str := ["_law_numbers", "_law_number"]
theorem sc__law_bag : FnScope N__law_bag ["_law_numbers"] (defScope s__law_bag) := ⟨rfl, rfl, rfl, by decide +kernel, rfl, by decide +kernel, by decide +kernel⟩
def b__law_bag : SM := sSeq (sRet (mCall tupleX (aCons (mLc (iSeq (mSortSet (mVar 0))) (tgName 1) (tYesM) (mTup (aCons (mVar 1) (aCons (mCount (mVar 0) (mVar 1)) (aNil)))) [1]) (aNil)))) (sNil)
def F__law_bag : FM := runF 2 b__law_bag
theorem fn__law_bag (A0 : Facts K mg) {fd : FuncData} (F : FunD K d__law_bag.name d__law_bag.qual d__law_bag.params d__law_bag.body d__law_bag.scope (d__law_bag.dvs K) (d__law_bag.kws K) (He.fAd K d__law_bag.at_) fd) : FnOk P w K mg base (L2.CX P w) 1 (He.fAd K d__law_bag.at_) fd ["_law_numbers"] (spM (cf K) 1 F__law_bag) := by
  refine mk_fnD (k := 0) F sc__law_bag rfl rfl fun cdv A outer s H E hr => ?_
  have tk := tk_of (P := P) (w := w) (K := K) (mg := mg) (base := base) (N := N__law_bag) (qual := "_law_bag") (scope := defScope s__law_bag) (f := (He.fAd K d__law_bag.at_)) (cdv := cdv) (A := A) (outer := outer) (s := s) (H := H) (E := E)
  exact (dss_cons (ds_ret (de_callT (d_tupleX rfl) (by rfl) (m_tuple A0) bt_tuple (da_cons (de_lc (pe_lc (own := [("_law_number", 1)]) rfl sc__law_bag.nd (di_seq rfl (de_sortSet (by rfl) (m_sorted A0) (by rfl) (m_set A0) rfl bt_sorted (de_var (pv 0)))) (blkOk_by (own := [("_law_number", 1)]) (N := N__law_bag) (sc := defScope s__law_bag) (by decide +kernel)) (fun _ _ _ _ _ => (dg_name (pg_name (i := 1) sc__law_bag.nd rfl (by first | exact Or.inl rfl | exact Or.inr rfl)))) (fun _ _ _ _ _ => dts_nil) (fun _ _ _ _ _ => (de_tup (da_cons (de_var (pv 1)) (da_cons (de_count (de_var (pv 0)) (de_var (pv 1)) (fun ho ha => pe_bm PySem.F.plainAttrs_list PySem.F.slot_list_count PySem.F.type_list_count mt_lcount ho ha)) da_nil)))))) da_nil))) dss_nil)
theorem cal__law_bag (A0 : Facts K mg) : Cal P w K mg base (cf K) "_law_bag" 1 ["_law_numbers"] 1 F__law_bag [] := by
  obtain ⟨fd, F⟩ := A0.c.def_ 20 (d := d__law_bag) rfl
  have hm : mg "_law_bag" = some (.ref (He.ga K "_law_bag")) := A0.glo (A0.c.fact 20 (f := .glo "_law_bag") rfl)
  have bd : Binds K fd ["_law_numbers"] [] := F.bindsN fun _ _ _ _ _ _ us hl => match us, hl with | [_], _ => rfl
  refine ⟨_, fd, [], [], hm, F.kp, ?_, bd, .nil, fun _ => .nil⟩
  exact fn__law_bag A0 F
abbrev N__law_run : List Str := ["_law_heap", "_law_steps", "_law_current", "_law_gone", "_law_index"]
theorem sc__law_run : FnScope N__law_run ["_law_heap", "_law_steps"] (defScope s__law_run) := ⟨rfl, rfl, rfl, by decide +kernel, rfl, by decide +kernel, by decide +kernel⟩
def b__law_run : SM := sSeq (sSet 2 (mCall sortedE (aCons (mVar 0) (aNil)))) (sSeq (sSet 3 (mLst (aNil))) (sSeq (sFor (iRange1 (mCall lenD (aCons (mVar 1) (aNil)))) (tgName 4) (sSeq (sIf (tCmpM eqD (mBin ixD (mBin ixD (mVar 1) (mVar 4)) (mC (.int 0))) (mC (.str "insert"))) (sSeq (sSet 2 (mCall sortedE (aCons (mBin addD (mVar 2) (mLst (aCons (mBin ixD (mBin ixD (mVar 1) (mVar 4)) (mC (.int 1))) (aNil)))) (aNil)))) (sNil)) (sSeq (sIf (tCmpM eqD (mVar 2) (mLst (aNil))) (sSeq (sRet (mLst (aCons (mC .non) (aCons (mVar 3) (aCons (mVar 4) (aNil)))))) (sNil)) (sSeq (sDrop (mAppend 3 (mBin ixD (mVar 2) (mC (.int 0))))) (sSeq (sSet 2 (mSl (mVar 2) (oSome (mC (.int 1))) (oNone))) (sNil)))) (sNil))) (sNil))) (sSeq (sRet (mLst (aCons (mVar 2) (aCons (mVar 3) (aCons (mC .non) (aNil)))))) (sNil))))
def F__law_run : FM := runF 5 b__law_run
theorem fn__law_run (A0 : Facts K mg) {fd : FuncData} (F : FunD K d__law_run.name d__law_run.qual d__law_run.params d__law_run.body d__law_run.scope (d__law_run.dvs K) (d__law_run.kws K) (He.fAd K d__law_run.at_) fd) : FnOk P w K mg base (L2.CX P w) 1 (He.fAd K d__law_run.at_) fd ["_law_heap", "_law_steps"] (spM (cf K) 2 F__law_run) := by
  refine mk_fnD (k := 0) F sc__law_run rfl rfl fun cdv A outer s H E hr => ?_
  have tk := tk_of (P := P) (w := w) (K := K) (mg := mg) (base := base) (N := N__law_run) (qual := "_law_run") (scope := defScope s__law_run) (f := (He.fAd K d__law_run.at_)) (cdv := cdv) (A := A) (outer := outer) (s := s) (H := H) (E := E)
  exact (dss_cons (ds_set (i := 2) sc__law_run.nd rfl (by first | exact Or.inl rfl | exact Or.inr rfl) (de_callB (d_sortedE rfl rfl) (by rfl) (m_sorted A0) bt_sorted (da_cons (de_var (pv 0)) da_nil))) (dss_cons (ds_set (i := 3) sc__law_run.nd rfl (by first | exact Or.inl rfl | exact Or.inr rfl) (de_lst da_nil)) (dss_cons (ds_for (passes_of rfl) rfl (di_range1 (fun h => pi_range1 (by rfl) (m_range A0) h) (de_callB (d_len rfl) (by rfl) (m_len A0) bt_len (da_cons (de_var (pv 1)) da_nil))) (dg_name (pg_name (i := 4) sc__law_run.nd rfl (by first | exact Or.inl rfl | exact Or.inr rfl))) (dss_cons (ds_if (dt_cmp (d_eqD rfl (hu64 hr)) (de_ix (d_ix rfl) (de_ix (d_ix rfl) (de_var (pv 1)) (de_var (pv 4)) (fun _ _ => rfl)) de_int (fun _ _ => rfl)) de_str (nomark _)) (dss_cons (ds_set (i := 2) sc__law_run.nd rfl (by first | exact Or.inl rfl | exact Or.inr rfl) (de_callB (d_sortedE rfl rfl) (by rfl) (m_sorted A0) bt_sorted (da_cons (de_op (d_add rfl) (de_var (pv 2)) (de_lst (da_cons (de_ix (d_ix rfl) (de_ix (d_ix rfl) (de_var (pv 1)) (de_var (pv 4)) (fun _ _ => rfl)) de_int (fun _ _ => rfl)) da_nil))) da_nil))) dss_nil) (dss_cons (ds_if (dt_cmp (d_eqD rfl (hu64 hr)) (de_var (pv 2)) (de_lst da_nil) (nomark _)) (dss_cons (ds_ret (de_lst (da_cons de_non (da_cons (de_var (pv 3)) (da_cons (de_var (pv 4)) da_nil))))) dss_nil) (dss_cons (ds_drop (de_append (pv 3) (de_ix (d_ix rfl) (de_var (pv 2)) de_int (fun _ _ => rfl)) (fun ho ha => pe_bm PySem.F.plainAttrs_list PySem.F.slot_list_append PySem.F.type_list_append mt_append ho ha))) (dss_cons (ds_set (i := 2) sc__law_run.nd rfl (by first | exact Or.inl rfl | exact Or.inr rfl) (de_sl rfl (de_var (pv 2)) (do_some de_int) do_none)) dss_nil))) dss_nil)) dss_nil)) (dss_cons (ds_ret (de_lst (da_cons (de_var (pv 2)) (da_cons (de_var (pv 3)) (da_cons de_non da_nil))))) dss_nil))))
theorem cal__law_run (A0 : Facts K mg) : Cal P w K mg base (cf K) "_law_run" 1 ["_law_heap", "_law_steps"] 2 F__law_run [] := by
  obtain ⟨fd, F⟩ := A0.c.def_ 21 (d := d__law_run) rfl
  have hm : mg "_law_run" = some (.ref (He.ga K "_law_run")) := A0.glo (A0.c.fact 21 (f := .glo "_law_run") rfl)
  have bd : Binds K fd ["_law_heap", "_law_steps"] [] := F.bindsN fun _ _ _ _ _ _ us hl => match us, hl with | [_, _], _ => rfl
  refine ⟨_, fd, [], [], hm, F.kp, ?_, bd, .nil, fun _ => .nil⟩
  exact fn__law_run A0 F
abbrev N__law_program : List Str := ["_law_pool", "_law_depth", "_law_base_here", "_law_width", "_law_program_here", "_law_k", "_law_kind", "_law_step"]
theorem sc__law_program : FnScope N__law_program ["_law_pool", "_law_depth", "_law_base_here", "_law_width"] (defScope s__law_program) := ⟨rfl, rfl, rfl, by decide +kernel, rfl, by decide +kernel, by decide +kernel⟩
def b__law_program (R0 : FM) : SM := sSeq (sSet 4 (mTupX (aNil))) (sSeq (sFor (iRange1 (mFnB F__law_draw 0 (aCons (mC (.int 4)) (aNil)))) (tgName 5) (sSeq (sSet 6 (mFnB F__law_draw 0 (aCons (mC (.int 5)) (aNil)))) (sSeq (sSet 7 (mTup (aCons (mC (.str "remove")) (aCons (mBin ixD (mLst (aCons (mC (.int 1)) (aCons (mC (.int 1)) (aCons (mC (.int 2)) (aCons (mC (.int 0)) (aNil)))))) (mFnB F__law_draw 0 (aCons (mC (.int 4)) (aNil)))) (aNil))))) (sSeq (sIf (tAndM (tCmpM eqD (mVar 6) (mC (.int 4))) (tCmpM gtI (mVar 1) (mC (.int 1)))) (sSeq (sSet 7 (mTup (aCons (mC (.str "repeat")) (aCons (mFnB F__law_draw 0 (aCons (mC (.int 3)) (aNil))) (aCons (mFnB R0 0 (aCons (mBin subI (mVar 1) (mC (.int 1))) (aCons (mVar 2) (aCons (mVar 3) (aNil))))) (aNil)))))) (sNil)) (sSeq (sIf (tCmpM eqD (mBin modI (mVar 6) (mC (.int 2))) (mC (.int 0))) (sSeq (sSet 7 (mTup (aCons (mC (.str "insert")) (aCons (mBin addD (mVar 2) (mFnB F__law_draw 0 (aCons (mVar 3) (aNil)))) (aCons (mBin ixD (mVar 7) (mC (.int 1))) (aNil)))))) (sNil)) (sNil)) (sNil))) (sSeq (sSet 4 (mBin addD (mVar 4) (mTup (aCons (mVar 7) (aNil))))) (sNil)))))) (sSeq (sRet (mVar 4)) (sNil)))
def G__law_program : Nat → Nat → FM
  | 0, _ => badF
  | n + 1, _ => runF 8 (b__law_program (G__law_program n 0))
theorem calG__law_program (A0 : Facts K mg) : ∀ n : Nat, (Cal P w K mg base (cf K) "_law_program" (2 + n) ["_law_pool", "_law_depth", "_law_base_here", "_law_width"] 4 (G__law_program n 0) []) := by
  intro n
  induction n with
  | zero =>
    skip
    · obtain ⟨fd, F⟩ := A0.c.def_ 22 (d := d__law_program) rfl
      have hm : mg "_law_program" = some (.ref (He.ga K "_law_program")) := A0.glo (A0.c.fact 22 (f := .glo "_law_program") rfl)
      have bd : Binds K fd ["_law_pool", "_law_depth", "_law_base_here", "_law_width"] [] := F.bindsN fun _ _ _ _ _ _ us hl => match us, hl with | [_, _, _, _], _ => rfl
      refine ⟨_, fd, [], [], hm, F.kp, ?_, bd, .nil, fun _ => .nil⟩
      exact fn_bad rfl
  | succ n ih =>
    have ih0 := ih
    skip
    · obtain ⟨fd, F⟩ := A0.c.def_ 22 (d := d__law_program) rfl
      have hm : mg "_law_program" = some (.ref (He.ga K "_law_program")) := A0.glo (A0.c.fact 22 (f := .glo "_law_program") rfl)
      have bd : Binds K fd ["_law_pool", "_law_depth", "_law_base_here", "_law_width"] [] := F.bindsN fun _ _ _ _ _ _ us hl => match us, hl with | [_, _, _, _], _ => rfl
      refine ⟨_, fd, [], [], hm, F.kp, ?_, bd, .nil, fun _ => .nil⟩
      refine mk_fnD (k := 2 + n) F sc__law_program rfl rfl fun cdv A outer s H E hr => ?_
      have tk := tk_of (P := P) (w := w) (K := K) (mg := mg) (base := base) (N := N__law_program) (qual := "_law_program") (scope := defScope s__law_program) (f := He.ga K "_law_program") (cdv := cdv) (A := A) (outer := outer) (s := s) (H := H) (E := E)
      exact (dss_cons (ds_set (i := 4) sc__law_program.nd rfl (by first | exact Or.inl rfl | exact Or.inr rfl) (de_tupX da_nil)) (dss_cons (ds_for (passes_of rfl) rfl (di_range1 (fun h => pi_range1 (by rfl) (m_range A0) h) (de_callAB (Cal.at (cal__law_draw (base := base) A0) hr (by omega)) (by rfl) tk (pv 0) rfl (da_cons de_int da_nil) alen1)) (dg_name (pg_name (i := 5) sc__law_program.nd rfl (by first | exact Or.inl rfl | exact Or.inr rfl))) (dss_cons (ds_set (i := 6) sc__law_program.nd rfl (by first | exact Or.inl rfl | exact Or.inr rfl) (de_callAB (Cal.at (cal__law_draw (base := base) A0) hr (by omega)) (by rfl) tk (pv 0) rfl (da_cons de_int da_nil) alen1)) (dss_cons (ds_set (i := 7) sc__law_program.nd rfl (by first | exact Or.inl rfl | exact Or.inr rfl) (de_tup (da_cons de_str (da_cons (de_ix (d_ix rfl) (de_lst (da_cons de_int (da_cons de_int (da_cons de_int (da_cons de_int da_nil))))) (de_callAB (Cal.at (cal__law_draw (base := base) A0) hr (by omega)) (by rfl) tk (pv 0) rfl (da_cons de_int da_nil) alen1) (fun _ _ => rfl)) da_nil)))) (dss_cons (ds_if (PW.pt (dw_and (dt_cmp (d_eqD rfl (hu64 hr)) (de_var (pv 6)) de_int (nomark _)) (dw_and1 (dt_cmp d_gtI (de_var (pv 1)) de_int (nomark _))))) (dss_cons (ds_set (i := 7) sc__law_program.nd rfl (by first | exact Or.inl rfl | exact Or.inr rfl) (de_tup (da_cons de_str (da_cons (de_callAB (Cal.at (cal__law_draw (base := base) A0) hr (by omega)) (by rfl) tk (pv 0) rfl (da_cons de_int da_nil) alen1) (da_cons (de_callAB (Cal.at ih0 hr (by omega)) (by rfl) tk (pv 0) rfl (da_cons (de_op d_subI (de_var (pv 1)) de_int) (da_cons (de_var (pv 2)) (da_cons (de_var (pv 3)) da_nil))) alen3) da_nil))))) dss_nil) (dss_cons (ds_if (dt_cmp (d_eqD rfl (hu64 hr)) (de_op d_modI (de_var (pv 6)) de_int) de_int (nomark _)) (dss_cons (ds_set (i := 7) sc__law_program.nd rfl (by first | exact Or.inl rfl | exact Or.inr rfl) (de_tup (da_cons de_str (da_cons (de_op (d_add rfl) (de_var (pv 2)) (de_callAB (Cal.at (cal__law_draw (base := base) A0) hr (by omega)) (by rfl) tk (pv 0) rfl (da_cons (de_var (pv 3)) da_nil) alen1)) (da_cons (de_ix (d_ix rfl) (de_var (pv 7)) de_int (fun _ _ => rfl)) da_nil))))) dss_nil) dss_nil) dss_nil)) (dss_cons (ds_set (i := 4) sc__law_program.nd rfl (by first | exact Or.inl rfl | exact Or.inr rfl) (de_op (d_add rfl) (de_var (pv 4)) (de_tup (da_cons (de_var (pv 7)) da_nil)))) dss_nil))))) (dss_cons (ds_ret (de_var (pv 4))) dss_nil)))
def F__law_program : FM := G__law_program 24 0
theorem cal__law_program (A0 : Facts K mg) : Cal P w K mg base (cf K) "_law_program" 26 ["_law_pool", "_law_depth", "_law_base_here", "_law_width"] 4 F__law_program [] := (calG__law_program A0 24)
abbrev N__law_expand : List Str := ["_law_program_here", "_law_steps", "_law_step"]
theorem sc__law_expand : FnScope N__law_expand ["_law_program_here"] (defScope s__law_expand) := ⟨rfl, rfl, rfl, by decide +kernel, rfl, by decide +kernel, by decide +kernel⟩
def b__law_expand (R0 : FM) : SM := sSeq (sSet 1 (mLst (aNil))) (sSeq (sFor (iSeq (mVar 0)) (tgName 2) (sSeq (sIf (tCmpM eqD (mBin ixD (mVar 2) (mC (.int 0))) (mC (.str "repeat"))) (sSeq (sSet 1 (mBin addD (mVar 1) (mBin mulD (mFnD R0 [] (aCons (mBin ixD (mVar 2) (mC (.int 2))) (aNil))) (mBin ixD (mVar 2) (mC (.int 1)))))) (sNil)) (sSeq (sSet 1 (mBin addD (mVar 1) (mBin mulD (mLst (aCons (mBin addD (mSl (mVar 2) (oNone) (oSome (mUn negI (mC (.int 1))))) (mTup (aCons (mC (.int 1)) (aNil)))) (aNil))) (mBin ixD (mVar 2) (mUn negI (mC (.int 1))))))) (sNil))) (sNil))) (sSeq (sRet (mVar 1)) (sNil)))
def G__law_expand : Nat → Nat → FM
  | 0, _ => badF
  | n + 1, _ => runF 3 (b__law_expand (G__law_expand n 0))
theorem calG__law_expand (A0 : Facts K mg) : ∀ n : Nat, (Cal P w K mg base (cf K) "_law_expand" (1 + n) ["_law_program_here"] 1 (G__law_expand n 0) []) := by
  intro n
  induction n with
  | zero =>
    skip
    · obtain ⟨fd, F⟩ := A0.c.def_ 23 (d := d__law_expand) rfl
      have hm : mg "_law_expand" = some (.ref (He.ga K "_law_expand")) := A0.glo (A0.c.fact 23 (f := .glo "_law_expand") rfl)
      have bd : Binds K fd ["_law_program_here"] [] := F.bindsN fun _ _ _ _ _ _ us hl => match us, hl with | [_], _ => rfl
      refine ⟨_, fd, [], [], hm, F.kp, ?_, bd, .nil, fun _ => .nil⟩
      exact fn_bad rfl
  | succ n ih =>
    have ih0 := ih
    skip
    · obtain ⟨fd, F⟩ := A0.c.def_ 23 (d := d__law_expand) rfl
      have hm : mg "_law_expand" = some (.ref (He.ga K "_law_expand")) := A0.glo (A0.c.fact 23 (f := .glo "_law_expand") rfl)
      have bd : Binds K fd ["_law_program_here"] [] := F.bindsN fun _ _ _ _ _ _ us hl => match us, hl with | [_], _ => rfl
      refine ⟨_, fd, [], [], hm, F.kp, ?_, bd, .nil, fun _ => .nil⟩
      refine mk_fnD (k := 1 + n) F sc__law_expand rfl rfl fun cdv A outer s H E hr => ?_
      have tk := tk_of (P := P) (w := w) (K := K) (mg := mg) (base := base) (N := N__law_expand) (qual := "_law_expand") (scope := defScope s__law_expand) (f := He.ga K "_law_expand") (cdv := cdv) (A := A) (outer := outer) (s := s) (H := H) (E := E)
      exact (dss_cons (ds_set (i := 1) sc__law_expand.nd rfl (by first | exact Or.inl rfl | exact Or.inr rfl) (de_lst da_nil)) (dss_cons (ds_for (passes_of rfl) rfl (di_seq rfl (de_var (pv 0))) (dg_name (pg_name (i := 2) sc__law_expand.nd rfl (by first | exact Or.inl rfl | exact Or.inr rfl))) (dss_cons (ds_if (dt_cmp (d_eqD rfl (hu64 hr)) (de_ix (d_ix rfl) (de_var (pv 2)) de_int (fun _ _ => rfl)) de_str (nomark _)) (dss_cons (ds_set (i := 1) sc__law_expand.nd rfl (by first | exact Or.inl rfl | exact Or.inr rfl) (de_op (d_add rfl) (de_var (pv 1)) (de_op d_mul (de_callA (Cal.at ih0 hr (by omega)) (by rfl) tk (da_cons (de_ix (d_ix rfl) (de_var (pv 2)) de_int (fun _ _ => rfl)) da_nil) (fun h => by rw [alen1 h]; rfl)) (de_ix (d_ix rfl) (de_var (pv 2)) de_int (fun _ _ => rfl))))) dss_nil) (dss_cons (ds_set (i := 1) sc__law_expand.nd rfl (by first | exact Or.inl rfl | exact Or.inr rfl) (de_op (d_add rfl) (de_var (pv 1)) (de_op d_mul (de_lst (da_cons (de_op (d_add rfl) (de_sl rfl (de_var (pv 2)) do_none (do_some (de_neg de_int))) (de_tup (da_cons de_int da_nil))) da_nil)) (de_ix (d_ix rfl) (de_var (pv 2)) (de_neg de_int) (fun _ _ => rfl))))) dss_nil)) dss_nil)) (dss_cons (ds_ret (de_var (pv 1))) dss_nil)))
def F__law_expand : FM := G__law_expand 24 0
theorem cal__law_expand (A0 : Facts K mg) : Cal P w K mg base (cf K) "_law_expand" 25 ["_law_program_here"] 1 F__law_expand [] := (calG__law_expand A0 24)
abbrev N_law : List Str := ["_law_script", "_law_pool", "_law_base_here", "_law_program_here", "_law_steps", "_law_k", "_law_heap", "_law_inner", "_law_wrapped", "_law_turn"]
theorem sc_law : FnScope N_law ["_law_script"] (defScope s_law) := ⟨rfl, rfl, rfl, by decide +kernel, rfl, by decide +kernel, by decide +kernel⟩
def b_law : SM := sSeq (sSet 1 (mLst (aCons (mCall listD (aCons (mVar 0) (aNil))) (aCons (mC (.int 0)) (aCons (mC (.int 0)) (aCons (mC (.int 1)) (aNil))))))) (sSeq (sSet 2 (mFnB F__law_base 1 (aNil))) (sSeq (sSet 3 (mFnB F__law_program 1 (aCons (mC (.int 3)) (aCons (mVar 2) (aCons (mC (.int 3)) (aNil)))))) (sSeq (sSet 4 (mFnD F__law_expand [] (aCons (mVar 3) (aNil)))) (sSeq (sFor (iRange1 (mC (.int 4))) (tgName 5) (sSeq (sSet 6 (mLc (iRange1 (mFnB F__law_draw 1 (aCons (mC (.int 8)) (aNil)))) (tgName 9) (tYesM) (mBin addD (mVar 2) (mFnB F__law_draw 1 (aCons (mC (.int 4)) (aNil)))) [9])) (sSeq (sIf (tCmpM neD (mCall reprE (aCons (mFnD F_first_failure [] (aCons (mFnD F__law_bag [] (aCons (mVar 6) (aNil))) (aCons (mVar 3) (aNil)))) (aNil))) (mCall reprE (aCons (mBin ixD (mFnD F__law_run [] (aCons (mVar 6) (aCons (mVar 4) (aNil)))) (mC (.int 2))) (aNil)))) (sSeq (sRet (mC (.bl false))) (sNil)) (sNil)) (sNil)))) (sSeq (sSet 7 (mFnB F__law_program 1 (aCons (mC (.int 2)) (aCons (mVar 2) (aCons (mC (.int 3)) (aNil)))))) (sSeq (sSet 6 (mBin mulD (mLst (aCons (mVar 2) (aNil))) (mFnB F__law_draw 1 (aCons (mC (.int 40)) (aNil))))) (sSeq (sSet 8 (mBin addD (mTup (aCons (mTup (aCons (mC (.str "insert")) (aCons (mVar 2) (aCons (mC (.int 2)) (aNil))))) (aNil))) (mBin mulE (mTup (aCons (mTup (aCons (mC (.str "repeat")) (aCons (mBin addD (mC (.int 1)) (mFnB F__law_draw 1 (aCons (mC (.int 5)) (aNil)))) (aCons (mVar 7) (aNil))))) (aNil))) (mC (.int 2))))) (sSeq (sRet (mBin eqD (mCall reprE (aCons (mFnD F_first_failure [] (aCons (mFnD F__law_bag [] (aCons (mVar 6) (aNil))) (aCons (mVar 8) (aNil)))) (aNil))) (mCall reprE (aCons (mBin ixD (mFnD F__law_run [] (aCons (mVar 6) (aCons (mFnD F__law_expand [] (aCons (mVar 8) (aNil))) (aNil)))) (mC (.int 2))) (aNil))))) (sNil)))))))))
def F_law : FM := runF 10 b_law
theorem fn_law (A0 : Facts K mg) {fd : FuncData} (F : FunD K d_law.name d_law.qual d_law.params d_law.body d_law.scope (d_law.dvs K) (d_law.kws K) (He.fAd K d_law.at_) fd) : FnG P w K mg base (L2.CX P w) 52 (He.fAd K d_law.at_) fd ["_law_script"] (spM (cf K) 1 F_law) := by
  refine mk_fnG (k := 51) F sc_law rfl rfl fun cdv A outer s H E hr hgd => ?_
  have tk := tk_of (P := P) (w := w) (K := K) (mg := mg) (base := base) (N := N_law) (qual := "law") (scope := defScope s_law) (f := (He.fAd K d_law.at_)) (cdv := cdv) (A := A) (outer := outer) (s := s) (H := H) (E := E)
  exact (dss_cons (ds_set (i := 1) sc_law.nd rfl (by first | exact Or.inl rfl | exact Or.inr rfl) (de_lst (da_cons (de_callT (d_list rfl) (by rfl) (m_list A0) bt_list (da_cons (de_var (pv 0)) da_nil)) (da_cons de_int (da_cons de_int (da_cons de_int da_nil)))))) (dss_cons (ds_set (i := 2) sc_law.nd rfl (by first | exact Or.inl rfl | exact Or.inr rfl) (de_callAB (Cal.at (cal__law_base (base := base) A0) hr (by decide)) (by rfl) tk (pv 1) rfl da_nil alen0)) (dss_cons (ds_set (i := 3) sc_law.nd rfl (by first | exact Or.inl rfl | exact Or.inr rfl) (de_callAB (Cal.at (cal__law_program (base := base) A0) hr (by decide)) (by rfl) tk (pv 1) rfl (da_cons de_int (da_cons (de_var (pv 2)) (da_cons de_int da_nil))) alen3)) (dss_cons (ds_set (i := 4) sc_law.nd rfl (by first | exact Or.inl rfl | exact Or.inr rfl) (de_callA (Cal.at (cal__law_expand (base := base) A0) hr (by decide)) (by rfl) tk (da_cons (de_var (pv 3)) da_nil) (fun h => by rw [alen1 h]; rfl))) (dss_cons (ds_for (passes_of rfl) rfl (di_range1 (fun h => pi_range1 (by rfl) (m_range A0) h) de_int) (dg_name (pg_name (i := 5) sc_law.nd rfl (by first | exact Or.inl rfl | exact Or.inr rfl))) (dss_cons (ds_setLc (ps_setLc (i := 6) (own := [("_law_turn", 9)]) rfl sc_law.nd rfl rfl (sw_true rfl rfl rfl (by decide +kernel)) (di_range1 (fun h => pi_range1 (by rfl) (m_range A0) h) (de_callAB (Cal.at (cal__law_draw (base := base) A0) hr (by decide)) (by rfl) tk (pv 1) rfl (da_cons de_int da_nil) alen1)) (blkOk_by (own := [("_law_turn", 9)]) (N := N_law) (sc := defScope s_law) (by decide +kernel)) (fun _ _ _ _ _ => (dg_name (pg_name (i := 9) sc_law.nd rfl (by first | exact Or.inl rfl | exact Or.inr rfl)))) (fun _ _ _ _ _ => dts_nil) (fun _ _ _ _ _ => (de_op (d_add rfl) (de_var (pv 2)) (de_callAB (Cal.at (cal__law_draw (base := base) A0) hr (by decide)) (by rfl) takes0 (pv 1) rfl (da_cons de_int da_nil) alen1))))) (dss_cons (ds_if (dt_cmp (d_neD rfl (hu64 hr)) (de_callB (d_reprE rfl hgd (hu64 hr)) (by rfl) (m_repr A0) bt_repr (da_cons (de_callA (Cal.at (cal_first_failure (base := base) A0) hr (by decide)) (by rfl) tk (da_cons (de_callA (Cal.at (cal__law_bag (base := base) A0) hr (by decide)) (by rfl) tk (da_cons (de_var (pv 6)) da_nil) (fun h => by rw [alen1 h]; rfl)) (da_cons (de_var (pv 3)) da_nil)) (fun h => by rw [alen2 h]; rfl)) da_nil)) (de_callB (d_reprE rfl hgd (hu64 hr)) (by rfl) (m_repr A0) bt_repr (da_cons (de_ix (d_ix rfl) (de_callA (Cal.at (cal__law_run (base := base) A0) hr (by decide)) (by rfl) tk (da_cons (de_var (pv 6)) (da_cons (de_var (pv 4)) da_nil)) (fun h => by rw [alen2 h]; rfl)) de_int (fun _ _ => rfl)) da_nil)) (nomark _)) (dss_cons (ds_ret de_bl) dss_nil) dss_nil) dss_nil))) (dss_cons (ds_set (i := 7) sc_law.nd rfl (by first | exact Or.inl rfl | exact Or.inr rfl) (de_callAB (Cal.at (cal__law_program (base := base) A0) hr (by decide)) (by rfl) tk (pv 1) rfl (da_cons de_int (da_cons (de_var (pv 2)) (da_cons de_int da_nil))) alen3)) (dss_cons (ds_set (i := 6) sc_law.nd rfl (by first | exact Or.inl rfl | exact Or.inr rfl) (de_op d_mul (de_lst (da_cons (de_var (pv 2)) da_nil)) (de_callAB (Cal.at (cal__law_draw (base := base) A0) hr (by decide)) (by rfl) tk (pv 1) rfl (da_cons de_int da_nil) alen1))) (dss_cons (ds_set (i := 8) sc_law.nd rfl (by first | exact Or.inl rfl | exact Or.inr rfl) (de_op (d_add rfl) (de_tup (da_cons (de_tup (da_cons de_str (da_cons (de_var (pv 2)) (da_cons de_int da_nil)))) da_nil)) (de_op (d_mulE rfl) (de_tup (da_cons (de_tup (da_cons de_str (da_cons (de_op (d_add rfl) de_int (de_callAB (Cal.at (cal__law_draw (base := base) A0) hr (by decide)) (by rfl) tk (pv 1) rfl (da_cons de_int da_nil) alen1)) (da_cons (de_var (pv 7)) da_nil)))) da_nil)) de_int))) (dss_cons (ds_ret (de_cmp (d_eqD rfl (hu64 hr)) (de_callB (d_reprE rfl hgd (hu64 hr)) (by rfl) (m_repr A0) bt_repr (da_cons (de_callA (Cal.at (cal_first_failure (base := base) A0) hr (by decide)) (by rfl) tk (da_cons (de_callA (Cal.at (cal__law_bag (base := base) A0) hr (by decide)) (by rfl) tk (da_cons (de_var (pv 6)) da_nil) (fun h => by rw [alen1 h]; rfl)) (da_cons (de_var (pv 8)) da_nil)) (fun h => by rw [alen2 h]; rfl)) da_nil)) (de_callB (d_reprE rfl hgd (hu64 hr)) (by rfl) (m_repr A0) bt_repr (da_cons (de_ix (d_ix rfl) (de_callA (Cal.at (cal__law_run (base := base) A0) hr (by decide)) (by rfl) tk (da_cons (de_var (pv 6)) (da_cons (de_callA (Cal.at (cal__law_expand (base := base) A0) hr (by decide)) (by rfl) tk (da_cons (de_var (pv 8)) da_nil) (fun h => by rw [alen1 h]; rfl)) da_nil)) (fun h => by rw [alen2 h]; rfl)) de_int (fun _ _ => rfl)) da_nil)) (nomark _))) dss_nil)))))))))
end
abbrev R : PySem.W.OpenRow := PySem.W.OpenLaw.row PySem.Challenge.rw_heapeffects_k59_first_failures
def adr : List Addr := [3, 6, 4, 24, 44, 63, 72, 79, 84, 91, 98, 103, 110, 117, 124, 131, 138, 145, 152, 160, 167, 174, 181, 188, 195, 202, 207, 214, 221, 228, 233, 0, 23, 43, 62, 71, 78, 83, 90, 97, 102, 109, 116, 123, 130, 137, 144, 151, 159, 153, 166, 173, 180, 187, 194, 201, 206, 213, 220, 227, 232, 22, 25, 41, 42, 60, 61, 66, 67, 68, 69, 70, 73, 74, 75, 76, 77, 80, 81, 82, 85, 86, 87, 88, 89, 92, 93, 94, 95, 96, 99, 100, 101, 104, 105, 106, 107, 108, 111, 112, 113, 114, 115, 118, 119, 120, 121, 122, 125, 126, 127, 128, 129, 132, 133, 134, 135, 136, 139, 140, 141, 142, 143, 146, 147, 148, 149, 150, 154, 155, 156, 157, 158, 161, 162, 163, 164, 165, 168, 169, 170, 171, 172, 175, 176, 177, 178, 179, 182, 183, 184, 185, 186, 189, 190, 191, 192, 193, 196, 197, 198, 199, 200, 203, 204, 205, 208, 209, 210, 211, 212, 215, 216, 217, 218, 219, 222, 223, 224, 225, 226, 229, 230, 231, 40, 59, 35, 36, 37, 38, 39, 54, 55, 56, 57, 58, 2]
abbrev hk : PySem.W.Hook := hookL adr fa fn wr exs
abbrev ob (s : PySem.W.SharedT) : AlW := obL adr fa fn wr exs (HandSHeadRun.getT s)
theorem ob_eq (s : PySem.W.SharedT) : ob s = hk.obs s.abs := obL_eq (HandSHeadRun.getT_eq s)
def loose : List Str := (["HeapError", "InvalidBag", "InvalidProgram", "is_number", "is_count", "is_bag", "_is_entry", "check_bag", "size_of", "check_program", "_first_invalid", "_invalid_in", "_is_insertion", "_is_removal", "_is_repeat", "has_form", "failing_index", "_failing_within", "_course", "_course_of_step", "first_failure", "_law_draw", "_law_base", "_law_bag", "_law_run", "_law_program", "_law_expand", "DEEPEST"] : List Str)
end Law

namespace Law
open PySem PySem.Spec PyProof.Rows L2 M
/-! ### draws from a pool that holds the script -/
def PoL (l : List Int) (a b c : Int) : MO := .lst [.lst (l.map D.int), .int a, .int b, .int c]
def IsPool (m : MO) : Prop := ∃ l a b c, m = PoL l a b c ∧ 0 ≤ a ∧ 0 ≤ b
theorem ix4 : ixN 4 1 = some 1 ∧ ixN 4 2 = some 2 ∧ ixN 4 3 = some 3 := by decide
theorem lx2 (x y z : D) (l : List D) : ixD (.lst (x :: y :: z :: l)) (.int 2) = some (.fz z) := ixL_of (j := 2) rfl
theorem lx3 (x y z w : D) (l : List D) : ixD (.lst (x :: y :: z :: w :: l)) (.int 3) = some (.fz w) := ixL_of (j := 3) rfl
section
variable {Q : List D} {a b c k n cell : Int}
theorem dr_b (hk : 0 < k) (hb : k.natAbs < 2 ^ 8000) (b0 : b ≠ 0) : (F__law_draw [.bo (.lst [.lst Q, .int a, .int b, .int c]), .fz (.int k)]).rxb = .ok (.fz (.int (b % k))) (.lst [.lst Q, .int a, .int (b / k), .int c]) := by
  obtain ⟨i1, i2, i3⟩ := ix4
  have e := eq_ii b 0
  rw [decide_eq_false b0] at e
  simp [F__law_draw, b__law_draw, runF_eq, lx0, lx1, lx2, lx3, e, mod_ii hk, div_ii hk hb, i1, i2, i3, Res.rxb]
theorem dr_cell {E : Ev} (ln : lenD [.lst Q] = some (.fz (.int n))) (ix : a < n → ixD (.lst Q) (.int a) = some (.fz (.int cell))) (ce : ¬ a < n → cell = 0) (x2 x3 : M.Slot) :
    mIf (tCmpM ltI (mBin ixD (mVar 0) (mC (.int 1))) (mCall lenD (aCons (mBin ixD (mVar 0) (mC (.int 0))) (aNil)))) (mBin ixD (mBin ixD (mVar 0) (mC (.int 0))) (mBin ixD (mVar 0) (mC (.int 1)))) (mC (.int 0)) [.bo (.lst [.lst Q, .int a, .int b, .int c]), .fz (.int k), x2, x3] = .ok (.fz (.int cell)) [.bo (.lst [.lst Q, .int a, .int b, .int c]), .fz (.int k), x2, x3] := by
  by_cases h : a < n
  · simp [lx0, lx1, ln, lt_ii, h, ix h]
  · simp [lx0, lx1, ln, lt_ii, h, ce h]
theorem dr_small (hk : 0 < k) (ln : lenD [.lst Q] = some (.fz (.int n))) (ix : a < n → ixD (.lst Q) (.int a) = some (.fz (.int cell))) (ce : ¬ a < n → cell = 0) (sm : cell < 1000000000000000000) :
    ∃ r c', 0 ≤ r ∧ r < k ∧ (F__law_draw [.bo (.lst [.lst Q, .int a, .int 0, .int c]), .fz (.int k)]).rxb = .ok (.fz (.int r)) (.lst [.lst Q, .int (a + 1), .int 0, .int c']) := by
  obtain ⟨i1, i2, i3⟩ := ix4
  have e := eq_ii 0 0
  rw [decide_eq_true rfl] at e
  have ce := dr_cell (E := []) (b := 0) (c := c) (k := k) ln ix ce .un .un
  have p18 : powI (.int 10) (.int 18) = some (.fz (.int 1000000000000000000)) := rfl
  have m1 : mulD (.int c) (.int 48271) = some (.fz (.int (c * 48271))) := mul_ii (mulOk_r (by decide))
  have m2 : modI (.int cell) (.int 2147483629) = some (.fz (.int (cell % 2147483629))) := mod_ii (by decide)
  have m3 : modI (.int (c * 48271 + cell % 2147483629 + (a + 1))) (.int 2147483647) = some (.fz (.int ((c * 48271 + cell % 2147483629 + (a + 1)) % 2147483647))) := mod_ii (by decide)
  generalize hc : (c * 48271 + cell % 2147483629 + (a + 1)) % 2147483647 = d at m3
  have hc0 : 0 ≤ d := by rw [← hc]; exact Int.emod_nonneg _ (by decide)
  have hc1 : d < 2147483647 := by rw [← hc]; exact Int.emod_lt_of_pos _ (by decide)
  have m4 : mulD (.int d) (.int d) = some (.fz (.int (d * d))) := mul_ii (mulOk_r (by omega))
  have m5 : modI (.int (d * d)) (.int 2147483629) = some (.fz (.int (d * d % 2147483629))) := mod_ii (by decide)
  have m6 : divI (.int (d * d % 2147483629)) (.int 7) = some (.fz (.int (d * d % 2147483629 / 7))) := div_ii (by decide) (big_of (k := 5) (by decide) (by decide))
  have m7 : modI (.int (d * d % 2147483629 / 7)) (.int k) = some (.fz (.int (d * d % 2147483629 / 7 % k))) := mod_ii hk
  refine ⟨d * d % 2147483629 / 7 % k, d, Int.emod_nonneg _ (by omega), Int.emod_lt_of_pos _ hk, ?_⟩
  unfold F__law_draw b__law_draw
  generalize mIf (tCmpM ltI (mBin ixD (mVar 0) (mC (.int 1))) (mCall lenD (aCons (mBin ixD (mVar 0) (mC (.int 0))) (aNil)))) (mBin ixD (mBin ixD (mVar 0) (mC (.int 0))) (mBin ixD (mVar 0) (mC (.int 1)))) (mC (.int 0)) = X at ce ⊢
  have lt := lt_ii cell 1000000000000000000
  rw [decide_eq_true sm] at lt
  simp [runF_eq, lx0, lx1, lx2, lx3, e, ce, add_ii, p18, lt, m1, m2, m3, m4, m5, m6, m7, i1, i2, i3, Res.rxb]
theorem dr_big (hk : 0 < k) (hb : k.natAbs < 2 ^ 8000) (ln : lenD [.lst Q] = some (.fz (.int n))) (ix : a < n → ixD (.lst Q) (.int a) = some (.fz (.int cell))) (ce : ¬ a < n → cell = 0) (sm : ¬ cell < 1000000000000000000) :
    (F__law_draw [.bo (.lst [.lst Q, .int a, .int 0, .int c]), .fz (.int k)]).rxb = .ok (.fz (.int (cell % k))) (.lst [.lst Q, .int (a + 1), .int (cell / k), .int c]) := by
  obtain ⟨i1, i2, i3⟩ := ix4
  have e := eq_ii 0 0
  rw [decide_eq_true rfl] at e
  have ce := dr_cell (E := []) (b := 0) (c := c) (k := k) ln ix ce .un .un
  have p18 : powI (.int 10) (.int 18) = some (.fz (.int 1000000000000000000)) := rfl
  have lt := lt_ii cell 1000000000000000000
  rw [decide_eq_false sm] at lt
  unfold F__law_draw b__law_draw
  generalize mIf (tCmpM ltI (mBin ixD (mVar 0) (mC (.int 1))) (mCall lenD (aCons (mBin ixD (mVar 0) (mC (.int 0))) (aNil)))) (mBin ixD (mBin ixD (mVar 0) (mC (.int 0))) (mBin ixD (mVar 0) (mC (.int 1)))) (mC (.int 0)) = X at ce ⊢
  simp [runF_eq, lx0, lx1, lx2, lx3, e, ce, add_ii, p18, lt, mod_ii hk, div_ii hk hb, i1, i2, i3, Res.rxb]
end
theorem drawP {m : MO} (h : IsPool m) (k : Int) (hm : 0 < k) (hb : k.natAbs < 2 ^ 8000) : ∃ r m', IsPool m' ∧ 0 ≤ r ∧ r < k ∧ (F__law_draw [.bo m, .fz (.int k)]).rxb = .ok (.fz (.int r)) m' := by
  obtain ⟨l, a, b, c, rfl, a0, b0⟩ := h
  by_cases hz : b = 0
  · subst hz
    have ln : lenD [.lst (l.map D.int)] = some (.fz (.int (l.length : Nat))) := by simp [lenD]
    obtain ⟨cell, ix, ce⟩ : ∃ cell : Int, (a < (l.length : Nat) → ixD (.lst (l.map D.int)) (.int a) = some (.fz (.int cell))) ∧ (¬ a < (l.length : Nat) → cell = 0) := by
      by_cases h : a < (l.length : Nat)
      · obtain ⟨j, rfl⟩ := Int.eq_ofNat_of_zero_le a0
        have hj : j < l.length := by omega
        exact ⟨l[j], fun _ => ixL_of (by rw [List.getElem?_map, List.getElem?_eq_getElem hj]; rfl), fun z => absurd h z⟩
      · exact ⟨0, fun z => absurd z h, fun _ => rfl⟩
    by_cases sm : cell < 1000000000000000000
    · obtain ⟨r, c', r0, r1, e⟩ := dr_small (c := c) hm ln ix ce sm
      exact ⟨r, _, ⟨l, a + 1, 0, c', rfl, by omega, by omega⟩, r0, r1, e⟩
    · exact ⟨_, _, ⟨l, a + 1, cell / k, c, rfl, by omega, Int.ediv_nonneg (by omega) (by omega)⟩, Int.emod_nonneg _ (by omega), Int.emod_lt_of_pos _ hm, dr_big hm hb ln ix ce sm⟩
  · exact ⟨_, _, ⟨l, a, b / k, c, rfl, a0, Int.ediv_nonneg b0 (by omega)⟩, Int.emod_nonneg _ (by omega), Int.emod_lt_of_pos _ hm, dr_b hm hb hz⟩
theorem drawS {m : MO} (h : IsPool m) (k : Int) (hm : 0 < k) (hb : k < 2 ^ 60) : ∃ r m', IsPool m' ∧ 0 ≤ r ∧ r < k ∧ (F__law_draw [.bo m, .fz (.int k)]).rxb = .ok (.fz (.int r)) m' := drawP h k hm (big_of (k := 60) (by omega) (by decide))
abbrev big25 : Int := 10000000000000000000000000
theorem p25 : powI (.int 10) (.int 25) = some (.fz (.int big25)) := rfl
/-- a base: its own size is bounded -/
theorem base_ok {m : MO} (h : IsPool m) : ∃ B m', IsPool m' ∧ -big25 ≤ B ∧ B ≤ big25 ∧ (F__law_base [.bo m]).rxb = .ok (.fz (.int B)) m' := by
  obtain ⟨r, m1, g1, r0, r1, d1⟩ := drawS h 1000000 (by decide) (by decide)
  obtain ⟨i, m2, g2, i0, i1, d2⟩ := drawS g1 4 (by decide) (by decide)
  have p6 : powI (.int 10) (.int 6) = some (.fz (.int 1000000)) := rfl
  have n2 : negI (.int 2) = some (.fz (.int (-2))) := rfl
  have i0 : i = 0 ∨ i = 1 ∨ i = 2 ∨ i = 3 := by omega
  have x : ∃ B : Int, -big25 ≤ B ∧ B ≤ big25 ∧ ixD (.lst [.int 0, .int (-2), .int big25, .int (-big25 + r)]) (.int i) = some (.fz (.int B)) := by
    rcases i0 with rfl | rfl | rfl | rfl
    · exact ⟨0, by decide, by decide, lx0 _ _⟩
    · exact ⟨-2, by decide, by decide, lx1 _ _ _⟩
    · exact ⟨big25, by decide, by decide, lx2 _ _ _ _⟩
    · exact ⟨-big25 + r, by unfold big25; omega, by unfold big25; omega, lx3 _ _ _ _ _⟩
  obtain ⟨B, b0, b1, ix⟩ := x
  refine ⟨B, m2, g2, b0, b1, ?_⟩
  have e : F__law_base [.bo m] = .ok (.fz (.int B)) [.bo m2] := by
    simp [F__law_base, b__law_base, runF_eq, n2, p25, p6, sub_ii, add_ii, d1, d2, ix, maxLen4]
  rw [e]
  rfl
end Law

namespace Law
open PySem PySem.Spec PyProof.Rows L2 M
/-! ### bags: what is_bag finds, on any data -/
def isNm : D → Bool | .int _ => true | _ => false
def isCt : D → Bool | .int i => decide (0 ≤ i) | _ => false
theorem isnum_ok {y : D} (h : (tyName y).isSome = true) : (F_is_number [.fz y]).rx = .ok (.fz (.bl (isNm y))) := by
  cases y <;> first | exact Bool.noConfusion h | kernel_rfl
theorem iscnt_ok {y : D} (h : (tyName y).isSome = true) : (F_is_count [.fz y]).rx = .ok (.fz (.bl (isCt y))) := by
  have e := isnum_ok h
  cases y <;> first | exact Bool.noConfusion h | simp [F_is_count, b_is_count, runF_eq, e, isNm, isCt, ge_ii]
theorem isi_tup {d : D} (h : (tyName d).isSome = true) : isiD [d, .ty "tuple"] = some (.fz (.bl (match d with | .tup _ => true | _ => false))) := by
  cases d <;> first | exact Bool.noConfusion h | kernel_rfl
theorem len_tup (l : List D) : lenD [.tup l] = some (.fz (.int (l.length : Nat))) := by simp [lenD]
theorem jx0 (x : D) (l : List D) : ixD (.tup (x :: l)) (.int 0) = some (.fz x) := ixT_of (j := 0) rfl
theorem jx1 (x y : D) (l : List D) : ixD (.tup (x :: y :: l)) (.int 1) = some (.fz y) := ixT_of (j := 1) rfl
/-- kinds of what may be asked -/
def kinds : D → Bool
  | .tup l => l.all fun y => (tyName y).isSome
  | d => (tyName d).isSome
theorem kinds_ty {d : D} (h : kinds d = true) : (tyName d).isSome = true := by
  cases d <;> first | rfl | exact h
def isEnt : D → Bool
  | .tup [.int _, .int k] => decide (1 ≤ k)
  | _ => false
theorem entry_ok {d : D} (h : kinds d = true) : (F__is_entry [.fz d]).rx = .ok (.fz (.bl (isEnt d))) := by
  have ty := isi_tup (kinds_ty h)
  match d, h, ty with
  | .tup [], h, ty => simp [F__is_entry, b__is_entry, runF_eq, ty, truD, len_tup, M.ne_ii, isEnt]
  | .tup [x], h, ty => simp [F__is_entry, b__is_entry, runF_eq, ty, truD, len_tup, M.ne_ii, isEnt]
  | .tup [x, y], h, ty =>
    simp only [kinds, List.all_cons, List.all_nil, Bool.and_true, Bool.and_eq_true] at h
    have hx := isnum_ok h.1
    have hy := iscnt_ok h.2
    cases x with
    | int i =>
      cases y with
      | int k =>
        by_cases z : 0 ≤ k
        · simp [F__is_entry, b__is_entry, runF_eq, ty, truD, len_tup, M.ne_ii, isEnt, jx0, jx1, hx, hy, isNm, isCt, z, ge_ii]
        · have z1 : ¬ 1 ≤ k := by omega
          simp [F__is_entry, b__is_entry, runF_eq, ty, truD, len_tup, M.ne_ii, isEnt, jx0, jx1, hx, hy, isNm, isCt, z, z1]
      | _ => simp [F__is_entry, b__is_entry, runF_eq, ty, truD, len_tup, M.ne_ii, isEnt, jx0, jx1, hx, hy, isNm, isCt]
    | _ => simp [F__is_entry, b__is_entry, runF_eq, ty, truD, len_tup, M.ne_ii, isEnt, jx0, jx1, hx, isNm]
  | .tup (x :: y :: z :: l), h, ty =>
    have : ¬ ((l.length : Int) + 1 + 1 + 1 = 2) := by omega
    simp [F__is_entry, b__is_entry, runF_eq, ty, truD, len_tup, M.ne_ii, isEnt, this]
  | .non, h, ty => simp [F__is_entry, b__is_entry, runF_eq, ty, truD, isEnt]
  | .bl _, h, ty => simp [F__is_entry, b__is_entry, runF_eq, ty, truD, isEnt]
  | .int _, h, ty => simp [F__is_entry, b__is_entry, runF_eq, ty, truD, isEnt]
  | .str _, h, ty => simp [F__is_entry, b__is_entry, runF_eq, ty, truD, isEnt]
  | .lst _, h, ty => simp [F__is_entry, b__is_entry, runF_eq, ty, truD, isEnt]
  | .frl _, h, ty => simp [F__is_entry, b__is_entry, runF_eq, ty, truD, isEnt]
  | .dct _, h, ty => simp [F__is_entry, b__is_entry, runF_eq, ty, truD, isEnt]
/-- entries -/
def encE (p : Int × Int) : D := .tup [.int p.1, .int p.2]
def encB (b : List (Int × Int)) : List D := b.map encE
theorem ents_of : ∀ {l : List D}, l.all isEnt = true → ∃ b : List (Int × Int), l = encB b ∧ ∀ p ∈ b, 1 ≤ p.2
  | [], _ => ⟨[], rfl, fun p h => nomatch h⟩
  | d :: l, h => by
    rw [List.all_cons, Bool.and_eq_true] at h
    obtain ⟨b, rfl, hb⟩ := ents_of h.2
    have h1 := h.1
    unfold isEnt at h1
    split at h1
    · rename_i x k
      refine ⟨(x, k) :: b, rfl, fun p hp => ?_⟩
      rcases List.mem_cons.mp hp with rfl | hp
      · exact of_decide_eq_true h1
      · exact hb p hp
    · cases h1
theorem ent_of {p : Int × Int} (h : 1 ≤ p.2) : isEnt (encE p) = true := decide_eq_true h
theorem ent_kinds (p : Int × Int) : kinds (encE p) = true := rfl
def incB : List Int → Bool
  | x :: y :: l => decide (x < y) && incB (y :: l)
  | _ => true
theorem incB_iff : ∀ l : List Int, incB l = true ↔ l.Pairwise (· < ·)
  | [] => by simp [incB]
  | [x] => by simp [incB]
  | x :: y :: l => by
    rw [incB, Bool.and_eq_true, incB_iff (y :: l), decide_eq_true_eq, List.pairwise_cons (a := x)]
    refine ⟨fun ⟨h1, h2⟩ => ⟨fun z hz => ?_, h2⟩, fun ⟨h1, h2⟩ => ⟨h1 y List.mem_cons_self, h2⟩⟩
    rcases List.mem_cons.mp hz with rfl | hz
    · exact h1
    · exact Int.lt_trans h1 ((List.pairwise_cons.mp h2).1 z hz)
theorem zip_next (b : List (Int × Int)) : zipD (encB b) ((encB b).drop 1) = (b.zip (b.drop 1)).map fun q => .tup [encE q.1, encE q.2] := by
  unfold zipD encB
  apply List.ext_getElem?
  intro i
  rw [List.getElem?_map, List.getElem?_map]
  by_cases h : i + 1 < b.length
  · rw [List.getElem?_range (by simp; omega), List.getElem?_eq_getElem (l := b.zip (b.drop 1)) (by simp; omega)]
    simp [List.getElem?_eq_getElem (l := b) (i := i) (by omega), List.getElem?_eq_getElem (l := b) (i := i + 1) h, Nat.add_comm 1 i]
  · rw [List.getElem?_eq_none (by simp; omega), List.getElem?_eq_none (by simp; omega)]
    rfl
theorem incB_zip : ∀ b : List (Int × Int), ((b.zip (b.drop 1)).map fun q => decide (q.1.1 < q.2.1)).all id = incB (b.map (·.1))
  | [] => rfl
  | [x] => rfl
  | x :: y :: b => by
    have := incB_zip (y :: b)
    simp only [List.drop_succ_cons, List.drop_zero, List.zip_cons_cons, List.map_cons, List.all_cons, incB, id_eq] at this ⊢
    rw [this]
theorem allD_of (l : List Bool) : allD [.lst (l.map D.bl)] = some (.fz (.bl (l.all id))) := by
  have : ∀ l : List Bool, boolsD (l.map D.bl) = some l := fun l => by
    induction l with
    | nil => rfl
    | cons a l ih => simp [boolsD, ih]
  simp [allD, this]
def key : D → Int
  | .tup (.int i :: _) => i
  | _ => 0
def bagB (l : List D) : Bool := l.all isEnt && incB (l.map key)
theorem keys_enc (b : List (Int × Int)) : (encB b).map key = b.map (·.1) := by
  unfold encB
  rw [List.map_map]
  rfl
abbrev allE : EM := mCall allD (aCons (mLc (iSeq (mVar 0)) (tgName 1) (tYesM) (mFnD F__is_entry [] (aCons (mVar 1) (aNil))) [1]) (aNil))
abbrev allZ : EM := mCall allD (aCons (mLc (iZipM (aCons (mVar 0) (aCons (mSl (mVar 0) (oSome (mC (.int 1))) (oNone)) (aNil)))) (tgTup [tgName 1, tgName 2]) (tYesM) (mBin ltI (mBin ixD (mVar 1) (mC (.int 0))) (mBin ixD (mVar 2) (mC (.int 0)))) [1, 2]) (aNil))
theorem bag_tup {l : List D} (hk : ∀ e ∈ l, kinds e = true) (hl : l.length ≤ maxLen) : (F_is_bag [.fz (.tup l)]).rx = .ok (.fz (.bl (bagB l))) := by
  have ty := isi_tup (d := .tup l) rfl
  have c1 := lc_m (t := tgName 1) (elt := mFnD F__is_entry [] (aCons (mVar 1) (aNil))) (vs := [1]) (E := [.fz (.tup l), .un, .un]) (g := id) (f := fun d => D.bl (isEnt d)) (l := l)
    (fun d hd => ⟨[.fz (.tup l), .fz d, .un], .fz (.bl (isEnt d)), [.fz (.tup l), .fz d, .un], [.fz (.tup l), .fz d, .un], by simp, by simp [entry_ok (hk d hd)], rfl, rfl, rfl⟩) hl
  rw [List.map_id] at c1
  have a1 := allD_of (l.map isEnt)
  rw [List.map_map, List.all_map] at a1
  have nb : allNotBo [M.Slot.fz (.tup l), .un, .un] [1] = true := rfl
  have A1 : allE [.fz (.tup l), .un, .un] = .ok (.fz (.bl (l.all isEnt))) [.fz (.tup l), .un, .un] := by
    simp only [allE, mCall_eq, aCons_eq, aNil_eq, mLc_eq, iSeq_eq, mVar_eq, List.getElem?_cons_zero, bind_ok, fzn_sl, nb, if_true, wipeE_cons, wipeE_nil, List.set_cons_succ, List.set_cons_zero, c1]
    simp
    rw [show allD [.lst (l.map fun d => D.bl (isEnt d))] = some (.fz (.bl (l.all isEnt))) from a1]
  suffices r : ∃ E, b_is_bag [.fz (.tup l), .un, .un] = .rt (.fz (.bl (bagB l))) E from
    let ⟨E, r⟩ := r; congrArg Res.rx (run_rt (n := 3) (as := [.fz (.tup l)]) r)
  show ∃ E, sSeq (sIf (tOrM (tNotM (tTru (mCall isiD (aCons (mVar 0) (aCons (mC (.ty "tuple")) (aNil)))))) (tNotM (tTru allE))) (sSeq (sRet (mC (.bl false))) (sNil)) (sNil)) (sSeq (sRet allZ) (sNil)) [.fz (.tup l), .un, .un] = .rt (.fz (.bl (bagB l))) E
  cases hb : l.all isEnt with
  | false =>
    rw [hb] at A1
    have e : bagB l = false := by rw [bagB, hb]; rfl
    rw [e]
    generalize allE = m1 at A1
    rw [if_yes (E1 := [.fz (.tup l), .un, .un]) (by simp [ty, truD, A1])]
    exact ⟨_, rfl⟩
  | true =>
    rw [hb] at A1
    generalize allE = m1 at A1
    rw [if_no (E1 := [.fz (.tup l), .un, .un]) (by simp [ty, truD, A1])]
    obtain ⟨b, rfl, hp⟩ := ents_of hb
    have e : bagB (encB b) = incB (b.map (·.1)) := by rw [bagB, hb, keys_enc]; rfl
    rw [e, ← incB_zip b]
    have c2 := lc_m (t := tgTup [tgName 1, tgName 2]) (elt := mBin ltI (mBin ixD (mVar 1) (mC (.int 0))) (mBin ixD (mVar 2) (mC (.int 0)))) (vs := [1, 2]) (E := [.fz (.tup (encB b)), .un, .un]) (g := fun q : (Int × Int) × (Int × Int) => D.tup [encE q.1, encE q.2]) (f := fun q => D.bl (decide (q.1.1 < q.2.1))) (l := b.zip (b.drop 1))
      (fun q hq => ⟨[.fz (.tup (encB b)), .fz (encE q.1), .fz (encE q.2)], .fz (.bl (decide (q.1.1 < q.2.1))), [.fz (.tup (encB b)), .fz (encE q.1), .fz (encE q.2)], [.fz (.tup (encB b)), .fz (encE q.1), .fz (encE q.2)], by simp, by simp [encE, jx0, lt_ii], rfl, rfl, rfl⟩) (by
        rw [encB, List.length_map] at hl
        rw [List.length_zip]
        omega)
    have a2 := allD_of ((b.zip (b.drop 1)).map fun q => decide (q.1.1 < q.2.1))
    rw [List.map_map] at a2
    have zn := zip_next b
    have nb2 : allNotBo [M.Slot.fz (.tup (encB b)), .un, .un] [1, 2] = true := rfl
    have it : iZipM (aCons (mVar 0) (aCons (mSl (mVar 0) (oSome (mC (.int 1))) (oNone)) (aNil))) [.fz (.tup (encB b)), .un, .un] = .ok ((b.zip (b.drop 1)).map fun q => D.tup [encE q.1, encE q.2]) [.fz (.tup (encB b)), .un, .un] := by
      have cl := M.cut_lo (encB b) 1
      rw [← zn]
      simp [slD]
      exact congrArg (zipD (encB b)) (cl.trans List.drop_one)
    generalize b.zip (b.drop 1) = Z at c2 a2 it ⊢
    refine ⟨[.fz (.tup (encB b)), .un, .un], ret_fz ?_⟩
    simp only [allZ, mCall_eq, aCons_eq, aNil_eq, mLc_eq, it, bind_ok, nb2, if_true, wipeE_cons, wipeE_nil, List.set_cons_succ, List.set_cons_zero, c2]
    rw [show Z.map (fun q => D.bl (decide (q.1.1 < q.2.1))) = Z.map (D.bl ∘ fun q => decide (q.1.1 < q.2.1)) from rfl]
    generalize Z.map (D.bl ∘ fun q => decide (q.1.1 < q.2.1)) = L at a2 ⊢
    generalize (Z.map fun q => decide (q.1.1 < q.2.1)).all id = t at a2 ⊢
    simp [a2]
/-- bags -/
structure Bg (b : List (Int × Int)) : Prop where
  ks : (b.map (·.1)).Pairwise (· < ·)
  cs : ∀ p ∈ b, 1 ≤ p.2
  ln : b.length ≤ maxLen
theorem Bg.all {b : List (Int × Int)} (h : ∀ p ∈ b, 1 ≤ p.2) : (encB b).all isEnt = true := List.all_eq_true.mpr fun d hd => by
  obtain ⟨p, hp, rfl⟩ := List.mem_map.mp hd
  exact ent_of (h p hp)
theorem Bg.bag {b : List (Int × Int)} (h : Bg b) : bagB (encB b) = true := by
  rw [bagB, Bg.all h.cs, keys_enc, (incB_iff _).mpr h.ks]
  rfl
theorem Bg.of {l : List D} (h : bagB l = true) (hl : l.length ≤ maxLen) : ∃ b, l = encB b ∧ Bg b := by
  rw [bagB, Bool.and_eq_true] at h
  obtain ⟨b, rfl, hb⟩ := ents_of h.1
  have h2 := h.2
  rw [keys_enc] at h2
  exact ⟨b, rfl, (incB_iff _).mp h2, hb, by rw [encB, List.length_map] at hl; exact hl⟩
theorem enc_kinds (b : List (Int × Int)) : ∀ e ∈ encB b, kinds e = true := fun e he => by
  obtain ⟨p, _, rfl⟩ := List.mem_map.mp he
  exact ent_kinds p
theorem bag_ok {b : List (Int × Int)} (h : Bg b) : (F_is_bag [.fz (.tup (encB b))]).rx = .ok (.fz (.bl true)) := by
  rw [bag_tup (enc_kinds b) (by rw [encB, List.length_map]; exact h.ln), h.bag]
theorem bag_else {d : D} (h : (tyName d).isSome = true) (n : ∀ l, d ≠ .tup l) : (F_is_bag [.fz d]).rx = .ok (.fz (.bl false)) := by
  have ty := isi_tup h
  cases d with
  | tup l => exact absurd rfl (n l)
  | tux l => exact Bool.noConfusion h
  | _ => simp [F_is_bag, b_is_bag, runF_eq, ty, truD]
theorem check_bag_ok {b : List (Int × Int)} (h : Bg b) : (F_check_bag [.fz (.tup (encB b))]).rx = .ok (.fz .non) := by
  simp [F_check_bag, b_check_bag, runF_eq, bag_ok h, truD]
def sizeB (b : List (Int × Int)) : Int := (b.map (·.2)).sum
theorem size_ok {b : List (Int × Int)} (h : Bg b) : (F_size_of [.fz (.tup (encB b))]).rx = .ok (.fz (.int (sizeB b))) := by
  have c := lc_m (t := tgName 1) (elt := mBin ixD (mVar 1) (mC (.int 1))) (vs := [1]) (E := [.fz (.tup (encB b)), .un]) (g := encE) (f := fun p => D.int p.2) (l := b)
    (fun p hp => ⟨[.fz (.tup (encB b)), .fz (encE p)], .fz (.int p.2), [.fz (.tup (encB b)), .fz (encE p)], [.fz (.tup (encB b)), .fz (encE p)], by simp, by simp [encE, jx1], rfl, rfl, rfl⟩) h.ln
  have nb : allNotBo [M.Slot.fz (.tup (encB b)), .un] [1] = true := rfl
  have e : (b.map fun p => D.int p.2) = (b.map (·.2)).map D.int := by rw [List.map_map]; rfl
  rw [e] at c
  have s : sumD [.lst ((b.map (·.2)).map D.int)] = some (.fz (.int (sizeB b))) := by
    unfold sizeB
    generalize b.map (·.2) = L
    simp [sumD, orO, sumL, M.intsD_of]
  generalize (b.map (·.2)).map D.int = L at c s
  refine congrArg Res.rx (run_rt (n := 2) (as := [.fz (.tup (encB b))]) (E := [.fz (.tup (encB b)), .un]) ?_)
  show b_size_of [.fz (.tup (encB b)), .un] = _
  unfold b_size_of
  rw [drop_ok (r := .fz .non) (E1 := [.fz (.tup (encB b)), .un]) (by simp [check_bag_ok h])]
  refine ret_fz ?_
  simp only [mCall_eq, aCons_eq, aNil_eq, mLc_eq, iSeq_eq, mVar_eq, List.getElem?_cons_zero, bind_ok, fzn_sl, nb, if_true, wipeE_cons, wipeE_nil, List.set_cons_succ, List.set_cons_zero]
  rw [show encB b = b.map encE from rfl] at c ⊢
  rw [c]
  generalize sizeB b = z at s ⊢
  simp [s]
end Law

namespace Law
open PySem PySem.Spec PyProof.Rows L2 M
/-! exact tuples -/
theorem bag_tux {l : List D} (hk : ∀ e ∈ l, kinds e = true) (hl : l.length ≤ maxLen) : (F_is_bag [.fz (.tux l)]).rx = .ok (.fz (.bl (bagB l))) := by
  have ty := isi_tup (d := .tup l) rfl
  have c1 := lc_m (t := tgName 1) (elt := mFnD F__is_entry [] (aCons (mVar 1) (aNil))) (vs := [1]) (E := [.fz (.tux l), .un, .un]) (g := id) (f := fun d => D.bl (isEnt d)) (l := l)
    (fun d hd => ⟨[.fz (.tux l), .fz d, .un], .fz (.bl (isEnt d)), [.fz (.tux l), .fz d, .un], [.fz (.tux l), .fz d, .un], by simp, by simp [entry_ok (hk d hd)], rfl, rfl, rfl⟩) hl
  rw [List.map_id] at c1
  have a1 := allD_of (l.map isEnt)
  rw [List.map_map, List.all_map] at a1
  have nb : allNotBo [M.Slot.fz (.tux l), .un, .un] [1] = true := rfl
  have A1 : allE [.fz (.tux l), .un, .un] = .ok (.fz (.bl (l.all isEnt))) [.fz (.tux l), .un, .un] := by
    simp only [allE, mCall_eq, aCons_eq, aNil_eq, mLc_eq, iSeq_eq, mVar_eq, List.getElem?_cons_zero, bind_ok, fzn_sl, nb, if_true, wipeE_cons, wipeE_nil, List.set_cons_succ, List.set_cons_zero, c1]
    simp
    rw [show allD [.lst (l.map fun d => D.bl (isEnt d))] = some (.fz (.bl (l.all isEnt))) from a1]
  suffices r : ∃ E, b_is_bag [.fz (.tux l), .un, .un] = .rt (.fz (.bl (bagB l))) E from
    let ⟨E, r⟩ := r; congrArg Res.rx (run_rt (n := 3) (as := [.fz (.tux l)]) r)
  show ∃ E, sSeq (sIf (tOrM (tNotM (tTru (mCall isiD (aCons (mVar 0) (aCons (mC (.ty "tuple")) (aNil)))))) (tNotM (tTru allE))) (sSeq (sRet (mC (.bl false))) (sNil)) (sNil)) (sSeq (sRet allZ) (sNil)) [.fz (.tux l), .un, .un] = .rt (.fz (.bl (bagB l))) E
  cases hb : l.all isEnt with
  | false =>
    rw [hb] at A1
    have e : bagB l = false := by rw [bagB, hb]; rfl
    rw [e]
    generalize allE = m1 at A1
    rw [if_yes (E1 := [.fz (.tux l), .un, .un]) (by simp [ty, truD, A1])]
    exact ⟨_, rfl⟩
  | true =>
    rw [hb] at A1
    generalize allE = m1 at A1
    rw [if_no (E1 := [.fz (.tux l), .un, .un]) (by simp [ty, truD, A1])]
    obtain ⟨b, rfl, hp⟩ := ents_of hb
    have e : bagB (encB b) = incB (b.map (·.1)) := by rw [bagB, hb, keys_enc]; rfl
    rw [e, ← incB_zip b]
    have c2 := lc_m (t := tgTup [tgName 1, tgName 2]) (elt := mBin ltI (mBin ixD (mVar 1) (mC (.int 0))) (mBin ixD (mVar 2) (mC (.int 0)))) (vs := [1, 2]) (E := [.fz (.tux (encB b)), .un, .un]) (g := fun q : (Int × Int) × (Int × Int) => D.tup [encE q.1, encE q.2]) (f := fun q => D.bl (decide (q.1.1 < q.2.1))) (l := b.zip (b.drop 1))
      (fun q hq => ⟨[.fz (.tux (encB b)), .fz (encE q.1), .fz (encE q.2)], .fz (.bl (decide (q.1.1 < q.2.1))), [.fz (.tux (encB b)), .fz (encE q.1), .fz (encE q.2)], [.fz (.tux (encB b)), .fz (encE q.1), .fz (encE q.2)], by simp, by simp [encE, jx0, lt_ii], rfl, rfl, rfl⟩) (by
        rw [encB, List.length_map] at hl
        rw [List.length_zip]
        omega)
    have a2 := allD_of ((b.zip (b.drop 1)).map fun q => decide (q.1.1 < q.2.1))
    rw [List.map_map] at a2
    have zn := zip_next b
    have nb2 : allNotBo [M.Slot.fz (.tux (encB b)), .un, .un] [1, 2] = true := rfl
    have it : iZipM (aCons (mVar 0) (aCons (mSl (mVar 0) (oSome (mC (.int 1))) (oNone)) (aNil))) [.fz (.tux (encB b)), .un, .un] = .ok ((b.zip (b.drop 1)).map fun q => D.tup [encE q.1, encE q.2]) [.fz (.tux (encB b)), .un, .un] := by
      have cl := M.cut_lo (encB b) 1
      rw [← zn]
      simp [slD]
      exact congrArg (zipD (encB b)) (cl.trans List.drop_one)
    generalize b.zip (b.drop 1) = Z at c2 a2 it ⊢
    refine ⟨[.fz (.tux (encB b)), .un, .un], ret_fz ?_⟩
    simp only [allZ, mCall_eq, aCons_eq, aNil_eq, mLc_eq, it, bind_ok, nb2, if_true, wipeE_cons, wipeE_nil, List.set_cons_succ, List.set_cons_zero, c2]
    rw [show Z.map (fun q => D.bl (decide (q.1.1 < q.2.1))) = Z.map (D.bl ∘ fun q => decide (q.1.1 < q.2.1)) from rfl]
    generalize Z.map (D.bl ∘ fun q => decide (q.1.1 < q.2.1)) = L at a2 ⊢
    generalize (Z.map fun q => decide (q.1.1 < q.2.1)).all id = t at a2 ⊢
    simp [a2]
theorem bagx_ok {b : List (Int × Int)} (h : Bg b) : (F_is_bag [.fz (.tux (encB b))]).rx = .ok (.fz (.bl true)) := by
  rw [bag_tux (enc_kinds b) (by rw [encB, List.length_map]; exact h.ln), h.bag]
theorem check_bagx {b : List (Int × Int)} (h : Bg b) : (F_check_bag [.fz (.tux (encB b))]).rx = .ok (.fz .non) := by
  simp [F_check_bag, b_check_bag, runF_eq, bagx_ok h, truD]
theorem sizex_ok {b : List (Int × Int)} (h : Bg b) : (F_size_of [.fz (.tux (encB b))]).rx = .ok (.fz (.int (sizeB b))) := by
  have c := lc_m (t := tgName 1) (elt := mBin ixD (mVar 1) (mC (.int 1))) (vs := [1]) (E := [.fz (.tux (encB b)), .un]) (g := encE) (f := fun p => D.int p.2) (l := b)
    (fun p hp => ⟨[.fz (.tux (encB b)), .fz (encE p)], .fz (.int p.2), [.fz (.tux (encB b)), .fz (encE p)], [.fz (.tux (encB b)), .fz (encE p)], by simp, by simp [encE, jx1], rfl, rfl, rfl⟩) h.ln
  have nb : allNotBo [M.Slot.fz (.tux (encB b)), .un] [1] = true := rfl
  have e : (b.map fun p => D.int p.2) = (b.map (·.2)).map D.int := by rw [List.map_map]; rfl
  rw [e] at c
  have s : sumD [.lst ((b.map (·.2)).map D.int)] = some (.fz (.int (sizeB b))) := by
    unfold sizeB
    generalize b.map (·.2) = L
    simp [sumD, orO, sumL, M.intsD_of]
  generalize (b.map (·.2)).map D.int = L at c s
  refine congrArg Res.rx (run_rt (n := 2) (as := [.fz (.tux (encB b))]) (E := [.fz (.tux (encB b)), .un]) ?_)
  show b_size_of [.fz (.tux (encB b)), .un] = _
  unfold b_size_of
  rw [drop_ok (r := .fz .non) (E1 := [.fz (.tux (encB b)), .un]) (by simp [check_bagx h])]
  refine ret_fz ?_
  simp only [mCall_eq, aCons_eq, aNil_eq, mLc_eq, iSeq_eq, mVar_eq, List.getElem?_cons_zero, bind_ok, fzn_sl, nb, if_true, wipeE_cons, wipeE_nil, List.set_cons_succ, List.set_cons_zero]
  rw [show encB b = b.map encE from rfl] at c ⊢
  rw [c]
  generalize sizeB b = z at s ⊢
  simp [s]
end Law

namespace Law
open PySem PySem.Spec PyProof.Rows L2 M
/-! ### dicts from numbers to numbers -/
def encD (p : List (Int × Int)) : List (Key × D) := p.map fun q => (.inl q.1, .int q.2)
def val : List (Int × Int) → Int → Int
  | [], _ => 0
  | q :: r, n => if q.1 = n then q.2 else val r n
def keysI (p : List (Int × Int)) : List Int := p.map (·.1)
def replI : List (Int × Int) → Int → Int → List (Int × Int)
  | [], _, _ => []
  | q :: r, n, z => if q.1 = n then (q.1, z) :: replI r n z else q :: replI r n z
def putI (p : List (Int × Int)) (n z : Int) : List (Int × Int) := if n ∈ keysI p then replI p n z else p ++ [(n, z)]
theorem vD_enc (n : Int) : ∀ p : List (Int × Int), vD (encD p) (.inl n) = if n ∈ keysI p then some (.int (val p n)) else none
  | [] => rfl
  | q :: r => by
    have ih := vD_enc n r
    have e : encD (q :: r) = (.inl q.1, .int q.2) :: encD r := rfl
    rw [e, vD, val]
    by_cases h : q.1 = n
    · rw [if_pos (congrArg _ h), if_pos h, if_pos (by rw [keysI, List.map_cons, h]; exact List.mem_cons_self)]
    · have h2 : ¬ (Sum.inl q.1 : Key) = Sum.inl n := fun z => h (Sum.inl.inj z)
      rw [if_neg h2, if_neg h, ih]
      have : (n ∈ keysI (q :: r)) ↔ n ∈ keysI r := by
        simp only [keysI, List.map_cons, List.mem_cons]
        exact ⟨fun z => z.elim (fun z => absurd z.symm h) id, .inr⟩
      by_cases hm : n ∈ keysI r
      · rw [if_pos hm, if_pos (this.mpr hm)]
      · rw [if_neg hm, if_neg fun z => hm (this.mp z)]
theorem val_out {n : Int} : ∀ {p : List (Int × Int)}, n ∉ keysI p → val p n = 0
  | [], _ => rfl
  | q :: r, h => by
    simp only [keysI, List.map_cons, List.mem_cons, not_or] at h
    rw [val, if_neg (Ne.symm h.1)]
    exact val_out h.2
theorem get_enc (p : List (Int × Int)) (n : Int) : (vD (encD p) (.inl n)).getD (.int 0) = .int (val p n) := by
  rw [vD_enc]
  split
  · rfl
  · rename_i h
    rw [val_out h]
    rfl
theorem repl_enc (n z : Int) : ∀ p : List (Int × Int), replD (encD p) (.inl n) (.int z) = encD (replI p n z)
  | [] => rfl
  | q :: r => by
    have e : encD (q :: r) = (.inl q.1, .int q.2) :: encD r := rfl
    rw [e, replD, replI, repl_enc n z r]
    by_cases h : q.1 = n
    · rw [if_pos (congrArg _ h), if_pos h]; rfl
    · rw [if_neg (fun z => h (Sum.inl.inj z)), if_neg h]; rfl
theorem put_enc (p : List (Int × Int)) (n z : Int) : putD (encD p) (.inl n) (.int z) = encD (putI p n z) := by
  unfold putD putI hasK
  rw [vD_enc]
  by_cases h : n ∈ keysI p
  · rw [if_pos h, if_pos h, ← repl_enc]
    rfl
  · rw [if_neg h, if_neg h, if_neg (by simp)]
    simp [encD]
theorem repl_keys (n z : Int) : ∀ p : List (Int × Int), keysI (replI p n z) = keysI p
  | [] => rfl
  | q :: r => by
    have ih := repl_keys n z r
    rw [replI]
    split <;> simp only [keysI, List.map_cons] at ih ⊢ <;> rw [ih]
theorem repl_val (n z m : Int) : ∀ p : List (Int × Int), n ∈ keysI p → val (replI p n z) m = if m = n then z else val p m
  | [], h => nomatch h
  | q :: r, h => by
    rw [replI]
    by_cases e : q.1 = n
    · rw [if_pos e, val, val]
      by_cases em : q.1 = m
      · rw [if_pos em, if_pos (by omega)]
      · have mn : ¬ m = n := by omega
        rw [if_neg em, if_neg em, if_neg mn]
        by_cases hr : n ∈ keysI r
        · rw [repl_val n z m r hr, if_neg mn]
        · have : ∀ r : List (Int × Int), n ∉ keysI r → replI r n z = r := fun r => by
            induction r with
            | nil => intro _; rfl
            | cons a r ih =>
              intro h
              simp only [keysI, List.map_cons, List.mem_cons, not_or] at h
              rw [replI, if_neg (Ne.symm h.1), ih h.2]
          rw [this r hr]
    · have hr : n ∈ keysI r := by
        simp only [keysI, List.map_cons, List.mem_cons] at h
        exact h.elim (fun z => absurd z.symm e) id
      rw [if_neg e, val, val]
      by_cases em : q.1 = m
      · rw [if_pos em, if_pos em, if_neg (by omega)]
      · rw [if_neg em, if_neg em, repl_val n z m r hr]
theorem app_val (n z m : Int) : ∀ p : List (Int × Int), n ∉ keysI p → val (p ++ [(n, z)]) m = if m = n then z else val p m
  | [], _ => by
    show val [(n, z)] m = _
    rw [val, val]
    by_cases e : m = n
    · rw [if_pos e, if_pos e.symm]
    · rw [if_neg e, if_neg (Ne.symm e)]
      rfl
  | q :: r, h => by
    simp only [keysI, List.map_cons, List.mem_cons, not_or] at h
    rw [List.cons_append, val, val, app_val n z m r h.2]
    by_cases em : q.1 = m
    · rw [if_pos em, if_pos em, if_neg (by omega)]
    · rw [if_neg em, if_neg em]
theorem put_val (p : List (Int × Int)) (n z m : Int) : val (putI p n z) m = if m = n then z else val p m := by
  unfold putI
  split
  · rename_i h; exact repl_val n z m p h
  · rename_i h; exact app_val n z m p h
theorem put_nodup {p : List (Int × Int)} {n z : Int} (h : (keysI p).Nodup) : (keysI (putI p n z)).Nodup := by
  unfold putI
  split
  · rw [repl_keys]; exact h
  · rename_i hn
    rw [keysI, List.map_append, List.nodup_append]
    refine ⟨h, by simp, fun a ha b hb e => ?_⟩
    simp at hb
    subst e hb
    exact hn ha
theorem put_len (p : List (Int × Int)) (n z : Int) : (putI p n z).length ≤ p.length + 1 := by
  unfold putI
  split
  · have := congrArg List.length (repl_keys n z p)
    simp only [keysI, List.length_map] at this
    omega
  · simp
/-! ### bags and what they count -/
structure IsBag (c : List (Int × Int)) (f : Int → Int) : Prop where
  ks : (c.map (·.1)).Pairwise (· < ·)
  mem : ∀ n z, (n, z) ∈ c ↔ z = f n ∧ 0 < z
theorem IsBag.keys {c : List (Int × Int)} {f : Int → Int} (h : IsBag c f) (n : Int) : n ∈ c.map (·.1) ↔ 0 < f n := by
  rw [List.mem_map]
  constructor
  · rintro ⟨⟨a, z⟩, hm, rfl⟩
    obtain ⟨e, p⟩ := (h.mem a z).mp hm
    subst e
    exact p
  · exact fun p => ⟨(n, f n), (h.mem n (f n)).mpr ⟨rfl, p⟩, rfl⟩
theorem IsBag.eq_map {c : List (Int × Int)} {f : Int → Int} (h : IsBag c f) : c = (c.map (·.1)).map fun n => (n, f n) := by
  rw [List.map_map]
  refine (List.map_id c).symm.trans (List.map_congr_left fun p hp => ?_)
  obtain ⟨e, _⟩ := (h.mem p.1 p.2).mp hp
  show p = (p.1, f p.1)
  rw [← e]
theorem IsBag.unique {c d : List (Int × Int)} {f : Int → Int} (h : IsBag c f) (k : IsBag d f) : c = d := by
  have e := strict_eq h.ks k.ks fun n => (h.keys n).trans (k.keys n).symm
  rw [h.eq_map, k.eq_map, e]
theorem IsBag.congr {c : List (Int × Int)} {f g : Int → Int} (h : IsBag c f) (e : ∀ n, f n = g n) : IsBag c g := ⟨h.ks, fun n z => by rw [h.mem n z, e]⟩
theorem IsBag.bg {c : List (Int × Int)} {f : Int → Int} (h : IsBag c f) (hl : c.length ≤ maxLen) : Bg c := ⟨h.ks, fun p hp => by
  have := ((h.mem p.1 p.2).mp hp).2
  omega, hl⟩
theorem val_bag {c : List (Int × Int)} (hk : (c.map (·.1)).Nodup) : ∀ {n z : Int}, (n, z) ∈ c → val c n = z := by
  induction c with
  | nil => intro n z h; cases h
  | cons q r ih =>
    intro n z h
    rw [List.map_cons, List.nodup_cons] at hk
    rw [val]
    rcases List.mem_cons.mp h with e | h
    · rw [← e, if_pos rfl]
    · have : q.1 ≠ n := fun e => hk.1 (e ▸ List.mem_map_of_mem (f := (·.1)) h)
      rw [if_neg this]
      exact ih hk.2 h
theorem nodup_lt {l : List Int} (h : l.Pairwise (· < ·)) : l.Nodup := List.Pairwise.imp (fun {a b} h => Int.ne_of_lt h) h
/-- a bag counts by its own entries -/
theorem Bg.is {c : List (Int × Int)} (h : Bg c) : IsBag c (val c) := ⟨h.ks, fun n z => ⟨fun m => ⟨(val_bag (nodup_lt h.ks) m).symm, by have := h.cs _ m; dsimp only at this; omega⟩, fun ⟨e, p⟩ => by
  subst e
  have : n ∈ keysI c := Decidable.byContradiction fun q => by rw [val_out q] at p; exact absurd p (by decide)
  obtain ⟨q, hq, rfl⟩ := List.mem_map.mp this
  rw [val_bag (nodup_lt h.ks) (n := q.1) (z := q.2) hq]
  exact hq⟩⟩
theorem IsBag.val {c : List (Int × Int)} {f : Int → Int} (h : IsBag c f) (h0 : ∀ n, 0 ≤ f n) (n : Int) : val c n = f n := by
  by_cases p : 0 < f n
  · exact val_bag (nodup_lt h.ks) ((h.mem n (f n)).mpr ⟨rfl, p⟩)
  · rw [val_out fun q => p ((h.keys n).mp q)]
    have := h0 n
    omega
theorem Bg.val0 {c : List (Int × Int)} (h : Bg c) (n : Int) : 0 ≤ val c n := by
  by_cases q : n ∈ keysI c
  · obtain ⟨p, hp, rfl⟩ := List.mem_map.mp q
    rw [val_bag (nodup_lt h.ks) (n := p.1) (z := p.2) hp]
    have := h.cs p hp
    omega
  · rw [val_out q]
    exact Int.le_refl _
/-! ### _bag_from -/
def bagF (p : List (Int × Int)) : List (Int × Int) := ((sortI (keysI p)).filter fun n => decide (0 < val p n)).map fun n => (n, val p n)
theorem bagF_is {p : List (Int × Int)} (nd : (keysI p).Nodup) : IsBag (bagF p) (val p) := by
  have pm := sortI_perm (keysI p)
  have st : (sortI (keysI p)).Pairwise (· < ·) := by
    have nd2 : (sortI (keysI p)).Nodup := pm.nodup_iff.mpr nd
    exact List.Pairwise.imp₂ (fun a b h1 h2 => by omega) (sortI_sorted (keysI p)) nd2
  constructor
  · rw [bagF, List.map_map]
    show (((sortI (keysI p)).filter fun n => decide (0 < val p n)).map id).Pairwise (· < ·)
    rw [List.map_id]
    exact st.sublist List.filter_sublist
  · intro n z
    rw [bagF, List.mem_map]
    constructor
    · rintro ⟨a, ha, e⟩
      obtain ⟨h1, h2⟩ := List.mem_filter.mp ha
      cases e
      exact ⟨rfl, of_decide_eq_true h2⟩
    · rintro ⟨rfl, h⟩
      refine ⟨n, List.mem_filter.mpr ⟨pm.mem_iff.mpr ?_, decide_eq_true h⟩, rfl⟩
      exact Decidable.byContradiction fun q => by rw [val_out q] at h; exact absurd h (by decide)
theorem keys_enc2 (p : List (Int × Int)) : intKeys (encD p) = some (keysI p) := by
  induction p with
  | nil => rfl
  | cons q r ih =>
    have e : encD (q :: r) = (.inl q.1, .int q.2) :: encD r := rfl
    rw [e, intKeys, ih]
    rfl
theorem bagF_len (p : List (Int × Int)) : (bagF p).length ≤ p.length := by
  rw [bagF, List.length_map]
  refine Nat.le_trans (List.length_filter_le _ _) ?_
  rw [(sortI_perm (keysI p)).length_eq, keysI, List.length_map]
  exact Nat.le_refl _
end Law

namespace Law
open PySem PySem.Spec PyProof.Rows L2 M
/-! ### union -/
abbrev unI : SM := sSeq (sDPutM 2 (mVar 3) (mBin addD (mGet2 2 (mVar 3) (mC (.int 0))) (mVar 4))) (sNil)
abbrev unO : SM := sSeq (sFor (iSeq (mVar 1)) (tgTup [tgName 3, tgName 4]) unI) (sNil)
abbrev unC : SM := sSeq (sDrop (mFnD F_check_bag [] (aCons (mVar 1) (aNil)))) (sNil)
theorem un_inner {B b : D} : ∀ (c p : List (Int × Int)) (x3 x4 : M.Slot), (c.map (·.1)).Nodup → (keysI p).Nodup → p.length + c.length ≤ 200 → Nb x3 → Nb x4 → ∃ p' y3 y4, (keysI p').Nodup ∧ p'.length ≤ p.length + c.length ∧ (∀ n, val p' n = val p n + val c n) ∧ Nb y3 ∧ Nb y4 ∧
    forLoop (tgTup [tgName 3, tgName 4]) unI (encB c) [.fz B, .fz b, .ow (.dct (encD p)), x3, x4] = .nx [.fz B, .fz b, .ow (.dct (encD p')), y3, y4]
  | [], p, x3, x4, _, hp, _, h3, h4 => ⟨p, x3, x4, hp, Nat.le_refl _, fun n => by rw [val]; omega, h3, h4, rfl⟩
  | q :: c, p, x3, x4, hc, hp, hl, h3, h4 => by
    rw [List.length_cons] at hl
    rw [List.map_cons, List.nodup_cons] at hc
    have pl := put_len p q.1 (val p q.1 + q.2)
    obtain ⟨p', y3, y4, k1, k2, k3, k4, k5, e⟩ := un_inner (B := B) (b := b) c (putI p q.1 (val p q.1 + q.2)) (.fz (.int q.1)) (.fz (.int q.2)) hc.2 (put_nodup hp) (by omega) (.fz _) (.fz _)
    refine ⟨p', y3, y4, k1, by rw [List.length_cons]; omega, fun n => ?_, k4, k5, ?_⟩
    · rw [k3, put_val, val]
      by_cases h : n = q.1
      · rw [if_pos h, if_pos h.symm, h, val_out (n := q.1) (p := c) hc.1]; omega
      · rw [if_neg h, if_neg (Ne.symm h)]
    · have ml : maxLen = 16777216 := rfl
      have g := get_enc p q.1
      have pe := put_enc p q.1 (val p q.1 + q.2)
      have ld : (encD p).length < maxLen := by rw [encD, List.length_map]; omega
      have tg : tgTup [tgName 3, tgName 4] (encE q) [.fz B, .fz b, .ow (.dct (encD p)), x3, x4] = some [.fz B, .fz b, .ow (.dct (encD p)), .fz (.int q.1), .fz (.int q.2)] := by
        rw [encE, tgTup_eq]
        show (tgs [tgName 3, tgName 4] [.int q.1, .int q.2] _) = _
        simp only [tgs, tgName_eq, nbo (E := [.fz B, .fz b, .ow (.dct (encD p)), x3, x4]) (i := 3) rfl h3, if_true, List.set_cons_succ, List.set_cons_zero, nbo (E := [.fz B, .fz b, .ow (.dct (encD p)), .fz (.int q.1), x4]) (i := 4) rfl h4]
      rw [show encB (q :: c) = encE q :: encB c from rfl, forLoop_cons, tg, ← e, ← pe]
      generalize encD p = A at g ld ⊢
      simp [unI, g, keyD, add_ii, ld]
def tb : Bool → List (Int × Int) → D
  | true, c => .tux (encB c)
  | false, c => .tup (encB c)
theorem check_tb {x : Bool} {c : List (Int × Int)} (h : Bg c) : (F_check_bag [.fz (tb x c)]).rx = .ok (.fz .non) := by
  cases x
  · exact check_bag_ok h
  · exact check_bagx h
theorem is_tb {x : Bool} {c : List (Int × Int)} (h : Bg c) : (F_is_bag [.fz (tb x c)]).rx = .ok (.fz (.bl true)) := by
  cases x
  · exact bag_ok h
  · exact bagx_ok h
theorem size_tb {x : Bool} {c : List (Int × Int)} (h : Bg c) : (F_size_of [.fz (tb x c)]).rx = .ok (.fz (.int (sizeB c))) := by
  cases x
  · exact size_ok h
  · exact sizex_ok h
theorem iseq_tb {x : Bool} {c : List (Int × Int)} {j : Nat} {E : Ev} (h : E[j]? = some (.fz (tb x c))) : iSeq (mVar j) E = .ok (encB c) E := by
  cases x <;> simp [h, tb]
def lensum (cs : List (Bool × List (Int × Int))) : Nat := (cs.map fun c => c.2.length).sum
theorem lensum_cons (c : Bool × List (Int × Int)) (cs : List (Bool × List (Int × Int))) : lensum (c :: cs) = c.2.length + lensum cs := by simp [lensum]
theorem lensum_nil : lensum [] = 0 := rfl
theorem un_outer {B : D} : ∀ (cs : List (Bool × List (Int × Int))) (p : List (Int × Int)) (x1 x3 x4 : M.Slot), (∀ c ∈ cs, (c.2.map (·.1)).Nodup) → (keysI p).Nodup → p.length + lensum cs ≤ 200 → Nb x1 → Nb x3 → Nb x4 → ∃ p' y1 y3 y4, (keysI p').Nodup ∧ p'.length ≤ p.length + lensum cs ∧ (∀ n, val p' n = val p n + (cs.map fun c => val c.2 n).sum) ∧ Nb y1 ∧ Nb y3 ∧ Nb y4 ∧
    forLoop (tgName 1) unO (cs.map fun c => tb c.1 c.2) [.fz B, x1, .ow (.dct (encD p)), x3, x4] = .nx [.fz B, y1, .ow (.dct (encD p')), y3, y4]
  | [], p, x1, x3, x4, _, hp, _, h1, h3, h4 => ⟨p, x1, x3, x4, hp, Nat.le_add_right _ _, fun n => by simp, h1, h3, h4, rfl⟩
  | c :: cs, p, x1, x3, x4, hc, hp, hl, h1, h3, h4 => by
    rw [lensum_cons] at hl
    obtain ⟨p1, y3, y4, k1, k2, k3, k4, k5, e⟩ := un_inner (B := B) (b := tb c.1 c.2) c.2 p x3 x4 (hc c List.mem_cons_self) hp (by omega) h3 h4
    obtain ⟨p2, z1, z3, z4, q1, q2, q3, q4, q5, q6, e2⟩ := un_outer (B := B) cs p1 (.fz (tb c.1 c.2)) y3 y4 (fun d hd => hc d (List.mem_cons_of_mem _ hd)) k1 (by omega) (.fz _) k4 k5
    refine ⟨p2, z1, z3, z4, q1, by rw [lensum_cons]; omega, fun n => ?_, q4, q5, q6, ?_⟩
    · rw [q3, k3, List.map_cons, List.sum_cons]; omega
    · rw [List.map_cons, forLoop_cons, tgName_eq, if_pos (nbo rfl h1), ← e2]
      simp only [List.set_cons_succ, List.set_cons_zero]
      rw [show unO [.fz B, .fz (tb c.1 c.2), .ow (.dct (encD p)), x3, x4] = .nx [.fz B, .fz (tb c.1 c.2), .ow (.dct (encD p1)), y3, y4] from by
        unfold unO
        rw [for_nx (E1 := [.fz B, .fz (tb c.1 c.2), .ow (.dct (encD p)), x3, x4]) (ds := encB c.2) (iseq_tb rfl) e]
        rfl]
theorem un_check {B : D} : ∀ (cs : List (Bool × List (Int × Int))) (x1 : M.Slot), (∀ c ∈ cs, Bg c.2) → Nb x1 → ∃ y1, Nb y1 ∧ forLoop (tgName 1) unC (cs.map fun c => tb c.1 c.2) [.fz B, x1, .un, .un, .un] = .nx [.fz B, y1, .un, .un, .un]
  | [], x1, _, h1 => ⟨x1, h1, rfl⟩
  | c :: cs, x1, hc, h1 => by
    obtain ⟨y1, k, e⟩ := un_check (B := B) cs (.fz (tb c.1 c.2)) (fun d hd => hc d (List.mem_cons_of_mem _ hd)) (.fz _)
    refine ⟨y1, k, ?_⟩
    have cb := check_tb (x := c.1) (hc c List.mem_cons_self)
    rw [List.map_cons, forLoop_cons, tgName_eq, if_pos (nbo rfl h1), ← e]
    generalize tb c.1 c.2 = A at cb ⊢
    simp [unC, cb]
/-! ### times -/
def timesI (c : List (Int × Int)) (k : Int) : List (Int × Int) := c.map fun q => (q.1, q.2 * k)
theorem timesI_size (k : Int) : ∀ c : List (Int × Int), sizeB (timesI c k) = sizeB c * k
  | [] => by simp [timesI, sizeB]
  | q :: c => by
    have ih := timesI_size k c
    simp only [timesI, sizeB, List.map_cons, List.sum_cons] at ih ⊢
    rw [ih, Int.add_mul]
theorem timesI_bg {c : List (Int × Int)} (h : Bg c) {k : Int} (h0 : 0 < k) : Bg (timesI c k) := ⟨by
  rw [timesI, List.map_map]; exact h.ks, fun p hp => by
  obtain ⟨q, hq, rfl⟩ := List.mem_map.mp hp
  have := h.cs q hq
  have := Int.mul_pos (show 0 < q.2 by omega) h0
  show 1 ≤ q.2 * k
  omega, by rw [timesI, List.length_map]; exact h.ln⟩
end Law

namespace Law
open PySem PySem.Spec PyProof.Rows L2 M
/-! ### difference -/
theorem pairs_enc : ∀ c : List (Int × Int), pairsD (encB c) = some (c.map fun q => (q.1, D.int q.2))
  | [] => rfl
  | q :: c => by
    have ih := pairs_enc c
    have e : encB (q :: c) = .tup [.int q.1, .int q.2] :: encB c := rfl
    rw [e, pairsD, ih]
    rfl
abbrev diI : SM := sSeq (sDPutM 2 (mVar 3) (mBin subI (mGet2 2 (mVar 3) (mC (.int 0))) (mVar 4))) (sNil)
theorem di_inner {B b : D} : ∀ (c p : List (Int × Int)) (x3 x4 : M.Slot), (c.map (·.1)).Nodup → (keysI p).Nodup → p.length + c.length ≤ 200 → Nb x3 → Nb x4 → ∃ p' y3 y4, (keysI p').Nodup ∧ p'.length ≤ p.length + c.length ∧ (∀ n, val p' n = val p n - val c n) ∧ Nb y3 ∧ Nb y4 ∧
    forLoop (tgTup [tgName 3, tgName 4]) diI (encB c) [.fz B, .fz b, .ow (.dct (encD p)), x3, x4] = .nx [.fz B, .fz b, .ow (.dct (encD p')), y3, y4]
  | [], p, x3, x4, _, hp, _, h3, h4 => ⟨p, x3, x4, hp, Nat.le_refl _, fun n => by rw [val]; omega, h3, h4, rfl⟩
  | q :: c, p, x3, x4, hc, hp, hl, h3, h4 => by
    rw [List.length_cons] at hl
    rw [List.map_cons, List.nodup_cons] at hc
    have pl := put_len p q.1 (val p q.1 - q.2)
    obtain ⟨p', y3, y4, k1, k2, k3, k4, k5, e⟩ := di_inner (B := B) (b := b) c (putI p q.1 (val p q.1 - q.2)) (.fz (.int q.1)) (.fz (.int q.2)) hc.2 (put_nodup hp) (by omega) (.fz _) (.fz _)
    refine ⟨p', y3, y4, k1, by rw [List.length_cons]; omega, fun n => ?_, k4, k5, ?_⟩
    · rw [k3, put_val, val]
      by_cases h : n = q.1
      · rw [if_pos h, if_pos h.symm, h, val_out (n := q.1) (p := c) hc.1]; omega
      · rw [if_neg h, if_neg (Ne.symm h)]
    · have ml : maxLen = 16777216 := rfl
      have g := get_enc p q.1
      have pe := put_enc p q.1 (val p q.1 - q.2)
      have ld : (encD p).length < maxLen := by rw [encD, List.length_map]; omega
      have tg : tgTup [tgName 3, tgName 4] (encE q) [.fz B, .fz b, .ow (.dct (encD p)), x3, x4] = some [.fz B, .fz b, .ow (.dct (encD p)), .fz (.int q.1), .fz (.int q.2)] := by
        rw [encE, tgTup_eq]
        show (tgs [tgName 3, tgName 4] [.int q.1, .int q.2] _) = _
        simp only [tgs, tgName_eq, nbo (E := [.fz B, .fz b, .ow (.dct (encD p)), x3, x4]) (i := 3) rfl h3, if_true, List.set_cons_succ, List.set_cons_zero, nbo (E := [.fz B, .fz b, .ow (.dct (encD p)), .fz (.int q.1), x4]) (i := 4) rfl h4]
      rw [show encB (q :: c) = encE q :: encB c from rfl, forLoop_cons, tg, ← e, ← pe]
      generalize encD p = A at g ld ⊢
      simp [diI, g, keyD, sub_ii, ld]
theorem anyD_of (l : List Bool) : anyD [.lst (l.map D.bl)] = some (.fz (.bl (l.any id))) := by
  have : ∀ l : List Bool, boolsD (l.map D.bl) = some l := fun l => by
    induction l with
    | nil => rfl
    | cons a l ih => simp [boolsD, ih]
  simp [anyD, this]
theorem neg_iff {p : List (Int × Int)} (nd : (keysI p).Nodup) : (p.any fun q => decide (q.2 < 0)) = true ↔ ∃ n, val p n < 0 := by
  rw [List.any_eq_true]
  constructor
  · rintro ⟨q, hq, h⟩
    refine ⟨q.1, ?_⟩
    rw [val_bag nd (n := q.1) (z := q.2) hq]
    exact of_decide_eq_true h
  · rintro ⟨n, h⟩
    have hn : n ∈ keysI p := Decidable.byContradiction fun q => by rw [val_out q] at h; exact absurd h (by decide)
    obtain ⟨q, hq, rfl⟩ := List.mem_map.mp hn
    rw [val_bag nd (n := q.1) (z := q.2) hq] at h
    exact ⟨q, hq, decide_eq_true h⟩
end Law

namespace Law
open PySem PySem.Spec PyProof.Rows L2 M
/-! ### at_most -/
def lvl (c : List (Int × Int)) (n : Int) : Int := ((c.filter fun q => decide (q.1 ≤ n)).map (·.2)).sum
theorem sumD_of (l : List Int) : sumD [.lst (l.map D.int)] = some (.fz (.int l.sum)) := by
  simp [sumD, orO, sumL, M.intsD_of]
def cutI : List (Int × Int) → Int → List (Int × Int) × List (Int × Int)
  | [], _ => ([], [])
  | q :: r, k => ((if 0 < (if k < q.2 then k else q.2) then [(q.1, if k < q.2 then k else q.2)] else []) ++ (cutI r (k - (if k < q.2 then k else q.2))).1,
      (if (if k < q.2 then k else q.2) < q.2 then [(q.1, q.2 - (if k < q.2 then k else q.2))] else []) ++ (cutI r (k - (if k < q.2 then k else q.2))).2)
abbrev cuB : SM := sSeq (sSet 7 (mCall min2D (aCons (mVar 6) (aCons (mVar 4) (aNil))))) (sSeq (sSet 4 (mBin subI (mVar 4) (mVar 7))) (sSeq (sIf (tCmpM gtI (mVar 7) (mC (.int 0))) (sSeq (sDrop (mAppend 2 (mTup (aCons (mVar 5) (aCons (mVar 7) (aNil)))))) (sNil)) (sNil)) (sSeq (sIf (tCmpM ltI (mVar 7) (mVar 6)) (sSeq (sDrop (mAppend 3 (mTup (aCons (mVar 5) (aCons (mBin subI (mVar 6) (mVar 7)) (aNil)))))) (sNil)) (sNil)) (sNil))))
theorem cu_body {A K : D} {n z k : Int} {lo hi : List D} {x7 : M.Slot} (h7 : Nb x7) (h1 : lo.length < maxLen) (h2 : hi.length < maxLen) :
    cuB [.fz A, .fz K, .ow (.lst lo), .ow (.lst hi), .fz (.int k), .fz (.int n), .fz (.int z), x7] = .nx [.fz A, .fz K, .ow (.lst (lo ++ if 0 < (if k < z then k else z) then [.tup [.int n, .int (if k < z then k else z)]] else [])), .ow (.lst (hi ++ if (if k < z then k else z) < z then [.tup [.int n, .int (z - (if k < z then k else z))]] else [])), .fz (.int (k - (if k < z then k else z))), .fz (.int n), .fz (.int z), .fz (.int (if k < z then k else z))] := by
  have m2 : min2D [.int z, .int k] = some (.fz (.int (if k < z then k else z))) := rfl
  unfold cuB
  rw [set_fz (E1 := [.fz A, .fz K, .ow (.lst lo), .ow (.lst hi), .fz (.int k), .fz (.int n), .fz (.int z), x7]) (d := .int (if k < z then k else z)) (by simp [m2]) rfl h7]
  simp only [List.set_cons_succ, List.set_cons_zero]
  generalize (if k < z then k else z) = t
  by_cases a : 0 < t
  · by_cases b : t < z
    · simp [sub_ii, gt_ii, lt_ii, a, b, maxLen2, h1, h2]
    · simp [sub_ii, gt_ii, lt_ii, a, b, maxLen2, h1, h2]
  · by_cases b : t < z
    · simp [sub_ii, gt_ii, lt_ii, a, b, maxLen2, h1, h2]
    · simp [sub_ii, gt_ii, lt_ii, a, b, maxLen2, h1, h2]
theorem enc_app (a b : List (Int × Int)) : encB (a ++ b) = encB a ++ encB b := List.map_append
theorem cu_loop {A K : D} : ∀ (c lo hi : List (Int × Int)) (k : Int) (x5 x6 x7 : M.Slot), lo.length + c.length ≤ 200 → hi.length + c.length ≤ 200 → Nb x5 → Nb x6 → Nb x7 → ∃ k' y5 y6 y7,
    forLoop (tgTup [tgName 5, tgName 6]) cuB (encB c) [.fz A, .fz K, .ow (.lst (encB lo)), .ow (.lst (encB hi)), .fz (.int k), x5, x6, x7] = .nx [.fz A, .fz K, .ow (.lst (encB (lo ++ (cutI c k).1))), .ow (.lst (encB (hi ++ (cutI c k).2))), .fz (.int k'), y5, y6, y7]
  | [], lo, hi, k, x5, x6, x7, _, _, _, _, _ => ⟨k, x5, x6, x7, by simp [cutI, encB]⟩
  | q :: c, lo, hi, k, x5, x6, x7, hl, hh, h5, h6, h7 => by
    rw [List.length_cons] at hl hh
    have ml : maxLen = 16777216 := rfl
    have one : ∀ (p : Prop) [Decidable p] (z : Int), (if p then [(q.1, z)] else ([] : List (Int × Int))).length ≤ 1 := fun p _ z => by split <;> simp
    obtain ⟨k', y5, y6, y7, e⟩ := cu_loop (A := A) (K := K) c (lo ++ if 0 < (if k < q.2 then k else q.2) then [(q.1, if k < q.2 then k else q.2)] else []) (hi ++ if (if k < q.2 then k else q.2) < q.2 then [(q.1, q.2 - (if k < q.2 then k else q.2))] else []) (k - (if k < q.2 then k else q.2)) (.fz (.int q.1)) (.fz (.int q.2)) (.fz (.int (if k < q.2 then k else q.2)))
      (by have := one (0 < (if k < q.2 then k else q.2)) (if k < q.2 then k else q.2); rw [List.length_append]; omega) (by have := one ((if k < q.2 then k else q.2) < q.2) (q.2 - (if k < q.2 then k else q.2)); rw [List.length_append]; omega) (.fz _) (.fz _) (.fz _)
    refine ⟨k', y5, y6, y7, ?_⟩
    have cb := cu_body (A := A) (K := K) (n := q.1) (z := q.2) (k := k) (lo := encB lo) (hi := encB hi) h7 (by rw [encB, List.length_map]; omega) (by rw [encB, List.length_map]; omega)
    have tg : tgTup [tgName 5, tgName 6] (encE q) [.fz A, .fz K, .ow (.lst (encB lo)), .ow (.lst (encB hi)), .fz (.int k), x5, x6, x7] = some [.fz A, .fz K, .ow (.lst (encB lo)), .ow (.lst (encB hi)), .fz (.int k), .fz (.int q.1), .fz (.int q.2), x7] := by
      rw [encE, tgTup_eq]
      show (tgs [tgName 5, tgName 6] [.int q.1, .int q.2] _) = _
      simp only [tgs, tgName_eq, nbo (E := [.fz A, .fz K, .ow (.lst (encB lo)), .ow (.lst (encB hi)), .fz (.int k), x5, x6, x7]) (i := 5) rfl h5, if_true, List.set_cons_succ, List.set_cons_zero, nbo (E := [.fz A, .fz K, .ow (.lst (encB lo)), .ow (.lst (encB hi)), .fz (.int k), .fz (.int q.1), x6, x7]) (i := 6) rfl h6]
    have en : ∀ (p : Prop) [Decidable p] (z : Int), encB (if p then [(q.1, z)] else []) = if p then [.tup [.int q.1, .int z]] else [] := fun p _ z => by split <;> rfl
    rw [show encB (q :: c) = encE q :: encB c from rfl, forLoop_cons, tg]
    simp only [cb]
    rw [enc_app, enc_app, en, en] at e
    rw [e, cutI, List.append_assoc, List.append_assoc]
end Law

namespace Law
open PySem PySem.Spec PyProof.Rows L2 M
/-! ### what a cut does -/
theorem cut_keys : ∀ (c : List (Int × Int)) (k : Int), ((cutI c k).1.map (·.1)).Sublist (c.map (·.1)) ∧ ((cutI c k).2.map (·.1)).Sublist (c.map (·.1))
  | [], k => ⟨List.Sublist.refl _, List.Sublist.refl _⟩
  | q :: r, k => by
    obtain ⟨h1, h2⟩ := cut_keys r (k - (if k < q.2 then k else q.2))
    have opt : ∀ (p : Prop) [Decidable p] (z : Int) (l : List (Int × Int)), (l.map (·.1)).Sublist (r.map (·.1)) → (((if p then [(q.1, z)] else []) ++ l).map (·.1)).Sublist ((q :: r).map (·.1)) := fun p _ z l h => by
      split
      · exact List.Sublist.cons_cons q.1 h
      · exact List.Sublist.cons q.1 h
    rw [cutI]
    exact ⟨opt _ _ _ h1, opt _ _ _ h2⟩
theorem cut_pos : ∀ (c : List (Int × Int)) (k : Int), (∀ p ∈ (cutI c k).1, 1 ≤ p.2) ∧ (∀ p ∈ (cutI c k).2, 1 ≤ p.2)
  | [], k => ⟨fun p h => (nomatch h), fun p h => (nomatch h)⟩
  | q :: r, k => by
    obtain ⟨h1, h2⟩ := cut_pos r (k - (if k < q.2 then k else q.2))
    rw [cutI]
    generalize (if k < q.2 then k else q.2) = t at *
    constructor
    · intro p hp
      rcases List.mem_append.mp hp with hp | hp
      · split at hp
        · rw [List.mem_singleton.mp hp]; show 1 ≤ t; omega
        · cases hp
      · exact h1 p hp
    · intro p hp
      rcases List.mem_append.mp hp with hp | hp
      · split at hp
        · rw [List.mem_singleton.mp hp]; show 1 ≤ q.2 - t; omega
        · cases hp
      · exact h2 p hp
theorem cut_bg {c : List (Int × Int)} (h : Bg c) (k : Int) : Bg (cutI c k).1 ∧ Bg (cutI c k).2 ∧ (cutI c k).1.length ≤ c.length ∧ (cutI c k).2.length ≤ c.length := by
  obtain ⟨s1, s2⟩ := cut_keys c k
  obtain ⟨p1, p2⟩ := cut_pos c k
  have l1 := s1.length_le
  have l2 := s2.length_le
  simp only [List.length_map] at l1 l2
  exact ⟨⟨h.ks.sublist s1, p1, Nat.le_trans l1 h.ln⟩, ⟨h.ks.sublist s2, p2, Nat.le_trans l2 h.ln⟩, l1, l2⟩
theorem val_opt (p : Prop) [Decidable p] (a z n : Int) (l : List (Int × Int)) : val ((if p then [(a, z)] else []) ++ l) n = if p ∧ a = n then z else val l n := by
  by_cases hp : p
  · rw [if_pos hp]
    show val ((a, z) :: l) n = _
    rw [val]
    by_cases e : a = n
    · rw [if_pos e, if_pos ⟨hp, e⟩]
    · rw [if_neg e, if_neg fun h => e h.2]
  · rw [if_neg hp, if_neg fun h => hp h.1]
    rfl
theorem cut_val : ∀ (c : List (Int × Int)) (k : Int), (c.map (·.1)).Nodup → (∀ p ∈ c, 1 ≤ p.2) → 0 ≤ k → ∀ n, val (cutI c k).1 n + val (cutI c k).2 n = val c n
  | [], k, _, _, _, n => rfl
  | q :: r, k, nd, hc, hk, n => by
    rw [List.map_cons, List.nodup_cons] at nd
    have hq := hc q List.mem_cons_self
    obtain ⟨s1, s2⟩ := cut_keys r (k - (if k < q.2 then k else q.2))
    have ih := cut_val r (k - (if k < q.2 then k else q.2)) nd.2 (fun p hp => hc p (List.mem_cons_of_mem _ hp)) (by split <;> omega) n
    have t0 : 0 ≤ (if k < q.2 then k else q.2) := by split <;> omega
    have t1 : (if k < q.2 then k else q.2) ≤ q.2 := by split <;> omega
    rw [cutI]
    generalize (if k < q.2 then k else q.2) = t at *
    show val (_ ++ _) n + val (_ ++ _) n = _
    rw [val_opt, val_opt, val]
    by_cases e : q.1 = n
    · subst e
      have o1 : val (cutI r (k - t)).1 q.1 = 0 := val_out fun h => nd.1 (s1.subset h)
      have o2 : val (cutI r (k - t)).2 q.1 = 0 := val_out fun h => nd.1 (s2.subset h)
      rw [if_pos rfl, o1, o2]
      by_cases a : 0 < t
      · rw [if_pos ⟨a, rfl⟩]
        by_cases b : t < q.2
        · rw [if_pos ⟨b, rfl⟩]; omega
        · rw [if_neg fun h => b h.1]; omega
      · rw [if_neg fun h => a h.1]
        by_cases b : t < q.2
        · rw [if_pos ⟨b, rfl⟩]; omega
        · rw [if_neg fun h => b h.1]; omega
    · rw [if_neg fun h => e h.2, if_neg fun h => e h.2, if_neg e]
      exact ih
theorem size_nn : ∀ {c : List (Int × Int)}, (∀ p ∈ c, 1 ≤ p.2) → 0 ≤ sizeB c
  | [], _ => Int.le_refl _
  | q :: c, h => by
    have := size_nn (c := c) fun p hp => h p (List.mem_cons_of_mem _ hp)
    have := h q List.mem_cons_self
    simp only [sizeB, List.map_cons, List.sum_cons] at *
    omega
theorem size_opt (p : Prop) [Decidable p] (a z : Int) (l : List (Int × Int)) : sizeB ((if p then [(a, z)] else []) ++ l) = (if p then z else 0) + sizeB l := by
  split <;> simp [sizeB]
theorem cut_size : ∀ (c : List (Int × Int)) (k : Int), (∀ p ∈ c, 1 ≤ p.2) → 0 ≤ k → sizeB (cutI c k).1 = (if sizeB c < k then sizeB c else k) ∧ sizeB (cutI c k).2 = sizeB c - (if sizeB c < k then sizeB c else k)
  | [], k, _, hk => by
    show (0 : Int) = (if (0 : Int) < k then 0 else k) ∧ (0 : Int) = 0 - (if (0 : Int) < k then 0 else k)
    split <;> omega
  | q :: r, k, hc, hk => by
    have hq := hc q List.mem_cons_self
    have hr : ∀ p ∈ r, 1 ≤ p.2 := fun p hp => hc p (List.mem_cons_of_mem _ hp)
    have nn := size_nn hr
    obtain ⟨i1, i2⟩ := cut_size r (k - (if k < q.2 then k else q.2)) hr (by split <;> omega)
    have sc : sizeB (q :: r) = q.2 + sizeB r := by simp [sizeB]
    rw [cutI, sc]
    show sizeB (_ ++ _) = _ ∧ sizeB (_ ++ _) = _
    rw [size_opt, size_opt, i1, i2]
    by_cases h : k < q.2
    · rw [if_pos h]
      constructor
      · split <;> split <;> split <;> omega
      · split <;> split <;> split <;> omega
    · rw [if_neg h]
      constructor
      · split <;> split <;> split <;> omega
      · split <;> split <;> split <;> omega
theorem cut0 : ∀ (c : List (Int × Int)), (∀ p ∈ c, 1 ≤ p.2) → (cutI c 0).1 = []
  | [], _ => rfl
  | q :: r, hc => by
    have hq := hc q List.mem_cons_self
    have ih := cut0 r fun p hp => hc p (List.mem_cons_of_mem _ hp)
    have t0 : (if (0 : Int) < q.2 then (0 : Int) else q.2) = 0 := if_pos (by omega)
    rw [cutI, t0]
    show (if (0 : Int) < 0 then [(q.1, (0 : Int))] else []) ++ (cutI r (0 - 0)).1 = []
    rw [if_neg (by omega), Int.sub_zero, ih]
    rfl
theorem cut_order : ∀ (c : List (Int × Int)) (k : Int), (c.map (·.1)).Pairwise (· < ·) → (∀ p ∈ c, 1 ≤ p.2) → ∀ a ∈ (cutI c k).1.map (·.1), ∀ b ∈ (cutI c k).2.map (·.1), a ≤ b
  | [], k, _, _, a, ha, _, _ => nomatch ha
  | q :: r, k, ks, hc, a, ha, b, hb => by
    rw [List.map_cons, List.pairwise_cons] at ks
    have hr : ∀ p ∈ r, 1 ≤ p.2 := fun p hp => hc p (List.mem_cons_of_mem _ hp)
    obtain ⟨s1, s2⟩ := cut_keys r (k - (if k < q.2 then k else q.2))
    have ih := cut_order r (k - (if k < q.2 then k else q.2)) ks.2 hr
    have mo : ∀ (p : Prop) [Decidable p] (z x : Int), x ∈ ((if p then [(q.1, z)] else ([] : List (Int × Int))).map (·.1)) → p ∧ x = q.1 := fun p _ z x h => by
      by_cases hp : p
      · rw [if_pos hp] at h
        exact ⟨hp, by simpa using h⟩
      · rw [if_neg hp] at h
        exact nomatch h
    rw [cutI] at ha hb
    rw [List.map_append, List.mem_append] at ha hb
    rcases hb with hb | hb
    · obtain ⟨hlt, rfl⟩ := mo _ _ _ hb
      rcases ha with ha | ha
      · obtain ⟨_, rfl⟩ := mo _ _ _ ha
        exact Int.le_refl _
      · have hk : k < q.2 := by
          by_cases z : k < q.2
          · exact z
          · rw [if_neg z] at hlt; omega
        rw [if_pos hk, Int.sub_self, cut0 r hr] at ha
        exact nomatch ha
    · rcases ha with ha | ha
      · obtain ⟨_, rfl⟩ := mo _ _ _ ha
        exact Int.le_of_lt (ks.1 b (s2.subset hb))
      · exact ih a ha b hb
/-! ### plain bags -/
theorem plain_ents : ∀ c : List (Int × Int), PyData.canLayAll0 (pys (encB c)) = true ∧ PyData.depthAll (pys (encB c)) ≤ 3
  | [] => ⟨rfl, by decide⟩
  | q :: c => by
    obtain ⟨h1, h2⟩ := plain_ents c
    rw [show encB (q :: c) = .tup [.int q.1, .int q.2] :: encB c from rfl, pys]
    refine ⟨by simp [PyData.canLayAll0, py, pys, PyData.canLay0, h1], ?_⟩
    simp only [PyData.depthAll, py, pys, PyData.depth]
    omega
theorem plain_bag (c : List (Int × Int)) : plainD (.tup (encB c)) = true := by
  obtain ⟨h1, h2⟩ := plain_ents c
  simp only [plainD, SeqAt.shaped, py, PyData.canLay0, PyData.depth, h1, Bool.true_and, decide_eq_true_eq]
  omega
theorem eq_nil_t (c : List (Int × Int)) : eqD (.tup (encB c)) (.tup []) = some (.fz (.bl c.isEmpty)) := by
  have p : plainD (.tup []) = true := by decide +kernel
  simp only [eqD, plain_bag c, p, Bool.and_self, if_true]
  cases c <;> simp [encB, py, pys, PyData.eqv, PyData.eqvAll]
theorem ne_nil_t (c : List (Int × Int)) : neD (.tup (encB c)) (.tup []) = some (.fz (.bl (!c.isEmpty))) := by
  have p : plainD (.tup []) = true := by decide +kernel
  simp only [neD, plain_bag c, p, Bool.and_self, if_true]
  cases c <;> simp [encB, py, pys, PyData.eqv, PyData.eqvAll]
end Law

namespace Law
open PySem PySem.Spec PyProof.Rows L2 M
/-! ### weighted sums over bags: sizes and levels -/
def wsum (w : Int → Int) (c : List (Int × Int)) : Int := (c.map fun q => w q.1 * q.2).sum
theorem wsum_cons (w : Int → Int) (q : Int × Int) (c : List (Int × Int)) : wsum w (q :: c) = w q.1 * q.2 + wsum w c := by simp [wsum]
theorem wsum_nil (w : Int → Int) : wsum w [] = 0 := rfl
theorem wsum_app (w : Int → Int) (a b : List (Int × Int)) : wsum w (a ++ b) = wsum w a + wsum w b := by simp [wsum]
theorem val_cons (q : Int × Int) (c : List (Int × Int)) (n : Int) : val (q :: c) n = if q.1 = n then q.2 else val c n := rfl
theorem sum_split (f : Int → Int) : ∀ {K : List Int} {a : Int}, K.Nodup → a ∈ K → (K.map f).sum = f a + ((K.erase a).map f).sum
  | [], a, _, h => nomatch h
  | x :: K, a, nd, h => by
    rw [List.nodup_cons] at nd
    by_cases e : x = a
    · subst e
      rw [List.erase_cons_head]
      simp
    · have ha : a ∈ K := by
        rcases List.mem_cons.mp h with z | z
        · exact absurd z.symm e
        · exact z
      rw [List.erase_cons_tail (by simpa using e), List.map_cons, List.sum_cons, List.map_cons, List.sum_cons, sum_split f nd.2 ha]
      omega
theorem zero_sum : ∀ K : List Int, (K.map fun _ => (0 : Int)).sum = 0
  | [] => rfl
  | x :: K => by rw [List.map_cons, List.sum_cons, zero_sum K]; rfl
theorem wsum_K (w : Int → Int) : ∀ {c : List (Int × Int)} {K : List Int}, (c.map (·.1)).Nodup → K.Nodup → (∀ k ∈ c.map (·.1), k ∈ K) → wsum w c = (K.map fun k => w k * val c k).sum
  | [], K, _, _, _ => by
    rw [wsum_nil]
    have : (K.map fun k => w k * val [] k) = K.map fun _ => (0 : Int) := List.map_congr_left fun k _ => by rw [val]; omega
    rw [this, zero_sum]
  | q :: c, K, nd, hK, sub => by
    rw [List.map_cons, List.nodup_cons] at nd
    have hq : q.1 ∈ K := sub _ (by simp)
    rw [sum_split _ hK hq, val_cons, if_pos rfl, wsum_cons, wsum_K w (c := c) (K := K.erase q.1) nd.2 (hK.sublist List.erase_sublist) (fun k hk => by
      have n : k ≠ q.1 := fun z => nd.1 (by rw [← z]; exact hk)
      rw [List.mem_erase_of_ne n]
      exact sub k (by rw [List.map_cons]; exact List.mem_cons_of_mem _ hk))]
    congr 2
    refine List.map_congr_left fun k hk => ?_
    have n : k ≠ q.1 := ((List.Nodup.mem_erase_iff hK).mp hk).1
    rw [val_cons, if_neg (Ne.symm n)]
theorem wsum_eq (w : Int → Int) {u c : List (Int × Int)} (hu : (u.map (·.1)).Nodup) (hc : (c.map (·.1)).Nodup) (h : ∀ n, val u n = val c n) : wsum w u = wsum w c := by
  have nd := nodup_lt (setI_sorted (u.map (·.1) ++ c.map (·.1)))
  rw [wsum_K w hu nd (fun k hk => mem_setI.mpr (List.mem_append_left _ hk)), wsum_K w hc nd (fun k hk => mem_setI.mpr (List.mem_append_right _ hk))]
  congr 1
  exact List.map_congr_left fun k _ => by rw [h]
theorem wsum_lin (w : Int → Int) {u c d : List (Int × Int)} (hu : (u.map (·.1)).Nodup) (hc : (c.map (·.1)).Nodup) (hd : (d.map (·.1)).Nodup) (h : ∀ n, val u n = val c n + val d n) : wsum w u = wsum w c + wsum w d := by
  have nd := nodup_lt (setI_sorted (u.map (·.1) ++ (c.map (·.1) ++ d.map (·.1))))
  generalize hK : setI (u.map (·.1) ++ (c.map (·.1) ++ d.map (·.1))) = K at nd
  have m : ∀ k, k ∈ u.map (·.1) ∨ k ∈ c.map (·.1) ∨ k ∈ d.map (·.1) → k ∈ K := fun k hk => by
    rw [← hK, mem_setI, List.mem_append, List.mem_append]; exact hk
  rw [wsum_K w hu nd (fun k hk => m k (.inl hk)), wsum_K w hc nd (fun k hk => m k (.inr (.inl hk))), wsum_K w hd nd (fun k hk => m k (.inr (.inr hk)))]
  clear hK m nd
  induction K with
  | nil => rfl
  | cons x K ih =>
    simp only [List.map_cons, List.sum_cons]
    rw [ih, h, Int.mul_add]
    omega
theorem size_w (c : List (Int × Int)) : sizeB c = wsum (fun _ => 1) c := by
  unfold sizeB wsum
  congr 1
  exact List.map_congr_left fun q _ => by rw [Int.one_mul]
theorem lvl_w (c : List (Int × Int)) (t : Int) : lvl c t = wsum (fun k => if k ≤ t then 1 else 0) c := by
  induction c with
  | nil => rfl
  | cons q c ih =>
    rw [wsum_cons, ← ih]
    unfold lvl
    rw [List.filter_cons]
    by_cases h : q.1 ≤ t
    · rw [if_pos (by simpa using h), List.map_cons, List.sum_cons, if_pos h, Int.one_mul]
    · rw [if_neg (by simpa using h), if_neg h]; omega
theorem size_lin {u c d : List (Int × Int)} (hu : (u.map (·.1)).Nodup) (hc : (c.map (·.1)).Nodup) (hd : (d.map (·.1)).Nodup) (h : ∀ n, val u n = val c n + val d n) : sizeB u = sizeB c + sizeB d := by
  rw [size_w, size_w, size_w]; exact wsum_lin _ hu hc hd h
theorem lvl_lin {u c d : List (Int × Int)} (hu : (u.map (·.1)).Nodup) (hc : (c.map (·.1)).Nodup) (hd : (d.map (·.1)).Nodup) (h : ∀ n, val u n = val c n + val d n) (t : Int) : lvl u t = lvl c t + lvl d t := by
  rw [lvl_w, lvl_w, lvl_w]; exact wsum_lin _ hu hc hd h
theorem lvl_cons (q : Int × Int) (c : List (Int × Int)) (t : Int) : lvl (q :: c) t = (if q.1 ≤ t then q.2 else 0) + lvl c t := by
  rw [lvl_w, lvl_w, wsum_cons]
  split
  · rw [Int.one_mul]
  · rw [Int.zero_mul]
theorem lvl_nil (t : Int) : lvl [] t = 0 := rfl
/-- the count of a number is a difference of levels -/
theorem val_lvl : ∀ {c : List (Int × Int)}, (c.map (·.1)).Nodup → ∀ n, val c n = lvl c n - lvl c (n - 1)
  | [], _, n => by rw [val, lvl_nil, lvl_nil]; rfl
  | q :: c, nd, n => by
    rw [List.map_cons, List.nodup_cons] at nd
    have ih := val_lvl nd.2 n
    rw [val_cons, lvl_cons, lvl_cons]
    by_cases e : q.1 = n
    · subst e
      have z := val_out (p := c) (n := q.1) nd.1
      rw [if_pos rfl, if_pos (Int.le_refl _), if_neg (by omega)]
      omega
    · rw [if_neg e, ih]
      by_cases h : q.1 ≤ n
      · rw [if_pos h, if_pos (by omega)]; omega
      · rw [if_neg h, if_neg (by omega)]; omega
theorem lvl_inj {c d : List (Int × Int)} (hc : Bg c) (hd : Bg d) (h : ∀ t, lvl c t = lvl d t) : c = d :=
  hc.is.unique (hd.is.congr fun n => by rw [val_lvl (nodup_lt hd.ks), val_lvl (nodup_lt hc.ks), h, h])
theorem lvl_size {c : List (Int × Int)} {t : Int} (h : ∀ k ∈ c.map (·.1), k ≤ t) : lvl c t = sizeB c := by
  induction c with
  | nil => rfl
  | cons q c ih =>
    rw [lvl_cons, if_pos (h _ (by simp)), ih (fun k hk => h k (by rw [List.map_cons]; exact List.mem_cons_of_mem _ hk))]
    simp [sizeB]
theorem lvl_low {c : List (Int × Int)} {t : Int} (h : ∀ k ∈ c.map (·.1), t < k) : lvl c t = 0 := by
  induction c with
  | nil => rfl
  | cons q c ih =>
    rw [lvl_cons, if_neg (by have := h q.1 (by simp); omega), ih (fun k hk => h k (by rw [List.map_cons]; exact List.mem_cons_of_mem _ hk))]
    rfl
theorem lvl_mono {c : List (Int × Int)} (h0 : ∀ p ∈ c, 1 ≤ p.2) {s t : Int} (h : s ≤ t) : lvl c s ≤ lvl c t := by
  induction c with
  | nil => exact Int.le_refl _
  | cons q c ih =>
    have := ih (fun p hp => h0 p (List.mem_cons_of_mem _ hp))
    have := h0 q List.mem_cons_self
    rw [lvl_cons, lvl_cons]
    split <;> split <;> omega
theorem lvl_nn {c : List (Int × Int)} (h0 : ∀ p ∈ c, 1 ≤ p.2) (t : Int) : 0 ≤ lvl c t := by
  induction c with
  | nil => exact Int.le_refl _
  | cons q c ih =>
    have := ih (fun p hp => h0 p (List.mem_cons_of_mem _ hp))
    have := h0 q List.mem_cons_self
    rw [lvl_cons]
    split <;> omega
/-- a list of entries without those that count nothing -/
theorem filt_is {K : List (Int × Int)} (h : (K.map (·.1)).Pairwise (· < ·)) : IsBag (K.filter fun p => decide (0 < p.2)) (val K) := by
  constructor
  · exact h.sublist (List.filter_sublist.map _)
  · intro n z
    rw [List.mem_filter, decide_eq_true_eq]
    constructor
    · rintro ⟨m, p⟩
      have := val_bag (nodup_lt h) m
      exact ⟨this.symm, p⟩
    · rintro ⟨rfl, p⟩
      refine ⟨?_, p⟩
      by_cases hk : n ∈ K.map (·.1)
      · obtain ⟨⟨a, b⟩, m, rfl⟩ := List.mem_map.mp hk
        rw [val_bag (nodup_lt h) m]
        exact m
      · rw [val_out hk] at p
        exact absurd p (by decide)
theorem size_memb : ∀ {K : List (Int × Int)} {q : Int × Int}, (∀ p ∈ K, 0 ≤ p.2) → q ∈ K → q.2 ≤ sizeB K
  | [], _, _, h => nomatch h
  | p :: K, q, h0, h => by
    have i : 0 ≤ sizeB K := by
      clear h
      induction K with
      | nil => exact Int.le_refl _
      | cons a K ih =>
        have := ih (fun p hp => h0 p (by
          rcases List.mem_cons.mp hp with rfl | hp
          · exact List.mem_cons_self
          · exact List.mem_cons_of_mem _ (List.mem_cons_of_mem _ hp)))
        have := h0 a (List.mem_cons_of_mem _ List.mem_cons_self)
        simp only [sizeB, List.map_cons, List.sum_cons] at *
        omega
    rw [show sizeB (p :: K) = p.2 + sizeB K by simp [sizeB]]
    rcases List.mem_cons.mp h with rfl | h
    · omega
    · have := size_memb (K := K) (fun p hp => h0 p (List.mem_cons_of_mem _ hp)) h
      have := h0 p List.mem_cons_self
      omega
end Law

namespace Law
open PySem PySem.Spec PyProof.Rows L2 M
/-! ### effects as objects -/
def effF (i s : D) (c : List (Int × Int)) (r n : Int) : List (Str × D) := [("_inserted", i), ("_removals", .int r), ("_survivors", s), ("_consumed", .tux (encB c)), ("_needed", .int n)]
def effD (i s : D) (c : List (Int × Int)) (r n : Int) : D := .ins 0 (effF i s c r n)
section
variable {I S : D} {c : List (Int × Int)} {r n : Int}
theorem lk_i : (effF I S c r n).lookup ("_inserted" : Str) = some I := rfl
theorem lk_r : (effF I S c r n).lookup ("_removals" : Str) = some (.int r) := rfl
theorem lk_s : (effF I S c r n).lookup ("_survivors" : Str) = some S := rfl
theorem lk_c : (effF I S c r n).lookup ("_consumed" : Str) = some (.tux (encB c)) := rfl
theorem lk_n : (effF I S c r n).lookup ("_needed" : Str) = some (.int n) := rfl
theorem lk_m (f : Str) (h1 : f ≠ ("_inserted" : Str)) (h2 : f ≠ ("_removals" : Str)) (h3 : f ≠ ("_survivors" : Str)) (h4 : f ≠ ("_consumed" : Str)) (h5 : f ≠ ("_needed" : Str)) : (effF I S c r n).lookup f = none := by
  unfold effF
  simp only [List.lookup, beq_eq_false_iff_ne.mpr h1, beq_eq_false_iff_ne.mpr h2, beq_eq_false_iff_ne.mpr h3, beq_eq_false_iff_ne.mpr h4, beq_eq_false_iff_ne.mpr h5]
theorem unfz2 (a b : D) : unfz [Slot.fz a, Slot.fz b] = some [a, b] := rfl
end
end Law

namespace Law
open PySem PySem.Spec PyProof.Rows L2 M
/-! ### what an effect makes of levels -/
theorem lvl_opt (p : Prop) [Decidable p] (a z t : Int) (l : List (Int × Int)) : lvl ((if p then [(a, z)] else []) ++ l) t = (if p ∧ a ≤ t then z else 0) + lvl l t := by
  by_cases h : p
  · rw [if_pos h, List.cons_append, List.nil_append, lvl_cons]
    by_cases q : a ≤ t
    · rw [if_pos q, if_pos ⟨h, q⟩]
    · rw [if_neg q, if_neg (fun z => q z.2)]
  · rw [if_neg h, List.nil_append, if_neg (fun z => h z.1)]
    omega
theorem cut_lvl : ∀ (c : List (Int × Int)) (k t : Int), (c.map (·.1)).Pairwise (· < ·) → (∀ p ∈ c, 1 ≤ p.2) → 0 ≤ k → lvl (cutI c k).2 t = max (lvl c t - k) 0 ∧ lvl (cutI c k).1 t = min (lvl c t) k
  | [], k, t, _, _, hk => by
    rw [cutI, lvl_nil]
    omega
  | q :: c, k, t, hs, hp, hk => by
    have q1 := hp q List.mem_cons_self
    rw [List.map_cons, List.pairwise_cons] at hs
    have hp' : ∀ p ∈ c, 1 ≤ p.2 := fun p h => hp p (List.mem_cons_of_mem _ h)
    have low : ¬ q.1 ≤ t → lvl c t = 0 := fun h => lvl_low fun n hn => by have := hs.1 n hn; omega
    have nn := lvl_nn hp' t
    rw [cutI]
    generalize hz : (if k < q.2 then k else q.2) = z
    have hz1 : z = min k q.2 := by rw [← hz]; split <;> omega
    obtain ⟨i1, i2⟩ := cut_lvl c (k - z) t hs.2 hp' (by omega)
    rw [lvl_opt, lvl_opt, lvl_cons, i1, i2]
    by_cases h : q.1 ≤ t
    · rw [if_pos h]
      by_cases h1 : z < q.2
      · rw [if_pos ⟨h1, h⟩]
        by_cases h2 : 0 < z
        · rw [if_pos ⟨h2, h⟩]; omega
        · rw [if_neg (fun w => h2 w.1)]; omega
      · rw [if_neg (fun w => h1 w.1)]
        by_cases h2 : 0 < z
        · rw [if_pos ⟨h2, h⟩]; omega
        · rw [if_neg (fun w => h2 w.1)]; omega
    · rw [if_neg h, if_neg (fun w => h w.2), if_neg (fun w => h w.2), low h]
      omega
/-- a bag's level of everything -/
theorem size_lvl (c : List (Int × Int)) : ∃ T, ∀ t, T ≤ t → lvl c t = sizeB c := by
  have : ∃ T, ∀ k ∈ c.map (·.1), k ≤ T := by
    induction c with
    | nil => exact ⟨0, fun k hk => nomatch hk⟩
    | cons q c ih =>
      obtain ⟨T, h⟩ := ih
      refine ⟨max T q.1, fun k hk => ?_⟩
      rw [List.map_cons] at hk
      rcases List.mem_cons.mp hk with rfl | hk
      · omega
      · have := h k hk; omega
  obtain ⟨T, h⟩ := this
  exact ⟨T, fun t ht => lvl_size fun k hk => by have := h k hk; omega⟩
/-- the result of an effect: u the heap with the consumed numbers, v the result -/
theorem result_lvl {b c s u v : List (Int × Int)} {r : Int} (hb : Bg b) (hc : Bg c) (hs : Bg s) (hu : IsBag u (fun m => val b m + val c m)) (hv : IsBag v (fun m => val (cutI u r).2 m + val s m)) (hul : u.length ≤ maxLen) (r0 : 0 ≤ r) (t : Int) : lvl v t = max (lvl b t + lvl c t - r) 0 + lvl s t := by
  have bu := hu.bg hul
  obtain ⟨_, g2, _, g4⟩ := cut_bg bu r
  have nb : ∀ n, 0 ≤ val b n := hb.val0
  have nc : ∀ n, 0 ≤ val c n := hc.val0
  have ns : ∀ n, 0 ≤ val s n := hs.val0
  have n2 : ∀ n, 0 ≤ val (cutI u r).2 n := g2.val0
  have e1 := lvl_lin (nodup_lt hu.ks) (nodup_lt hb.ks) (nodup_lt hc.ks) (fun n => hu.val (fun m => by have := nb m; have := nc m; omega) n) t
  have e2 := lvl_lin (nodup_lt hv.ks) (nodup_lt g2.ks) (nodup_lt hs.ks) (fun n => hv.val (fun m => by have := n2 m; have := ns m; omega) n) t
  rw [e2, (cut_lvl u r t bu.ks bu.cs r0).1, e1]
end Law

namespace Law
open PySem PySem.Spec PyProof.Rows L2 M
/-! ### levels_of, bag_with_levels -/
theorem lvl_const {c : List (Int × Int)} {a b : Int} (h : a ≤ b) (no : ∀ k ∈ c.map (·.1), ¬ (a < k ∧ k ≤ b)) : lvl c b = lvl c a := by
  induction c with
  | nil => rfl
  | cons q c ih =>
    have := no q.1 (by simp)
    rw [lvl_cons, lvl_cons, ih (fun k hk => no k (by rw [List.map_cons]; exact List.mem_cons_of_mem _ hk))]
    by_cases h1 : q.1 ≤ a
    · rw [if_pos h1, if_pos (by omega)]
    · rw [if_neg h1, if_neg (by omega)]
abbrev loI : SM := sSeq (sSet 4 (mBin addD (mVar 4) (mGet2 2 (mVar 5) (mC (.int 0))))) (sSeq (sDrop (mAppend 3 (mVar 4))) (sNil))
theorem lo_body {A N : D} {p : List (Int × Int)} {acc : List D} {n z : Int} (hl : acc.length < 1000) : loI [.fz A, .fz N, .ow (.dct (encD p)), .ow (.lst acc), .fz (.int z), .fz (.int n)] = .nx [.fz A, .fz N, .ow (.dct (encD p)), .ow (.lst (acc ++ [.int (z + val p n)])), .fz (.int (z + val p n)), .fz (.int n)] := by
  have g := get_enc p n
  have ml : maxLen = 16777216 := rfl
  have l1 : acc.length < maxLen := by omega
  generalize encD p = P at *
  simp [loI, -notBo_eq, notBo_list, g, keyD, add_ii, l1]
/-- running sums -/
def sumsI (p : List (Int × Int)) : Int → List Int → List Int
  | _, [] => []
  | z, n :: ns => (z + val p n) :: sumsI p (z + val p n) ns
theorem lo_loop {A N : D} {p : List (Int × Int)} : ∀ (ns : List Int) (acc : List D) (z : Int) (x5 : M.Slot), acc.length + ns.length < 1000 → nbS (some x5) = true → ∃ z' y5, nbS (some y5) = true ∧
    forLoop (tgName 5) loI (ns.map D.int) [.fz A, .fz N, .ow (.dct (encD p)), .ow (.lst acc), .fz (.int z), x5] = .nx [.fz A, .fz N, .ow (.dct (encD p)), .ow (.lst (acc ++ (sumsI p z ns).map D.int)), .fz (.int z'), y5]
  | [], acc, z, x5, _, h5 => ⟨z, x5, h5, by simp [sumsI]⟩
  | n :: ns, acc, z, x5, hl, h5 => by
    rw [List.length_cons] at hl
    obtain ⟨z', y5, k5, e⟩ := lo_loop ns (acc ++ [.int (z + val p n)]) (z + val p n) (.fz (.int n)) (by rw [List.length_append, List.length_singleton]; omega) rfl
    refine ⟨z', y5, k5, ?_⟩
    rw [List.map_cons, fl_cons (tg_set rfl h5) (lo_body (by omega)), e]
    simp [sumsI]
theorem sums_lvl {c : List (Int × Int)} (nd : (c.map (·.1)).Nodup) : ∀ (K : List Int) (t : Int), K.Pairwise (· < ·) → (∀ k ∈ K, t < k) → (∀ k ∈ c.map (·.1), t < k → k ∈ K) → sumsI c (lvl c t) K = K.map (lvl c)
  | [], _, _, _, _ => rfl
  | k :: K, t, hs, hlt, sub => by
    rw [List.pairwise_cons] at hs
    have hk := hlt k List.mem_cons_self
    have e : lvl c t + val c k = lvl c k := by
      have v := val_lvl nd k
      have z := lvl_const (c := c) (a := t) (b := k - 1) (by omega) (fun x hx w => by
        rcases List.mem_cons.mp (sub x hx w.1) with rfl | hm
        · omega
        · have := hs.1 x hm; omega)
      omega
    rw [sumsI, List.map_cons, e, sums_lvl nd K k hs.2 hs.1 (fun x hx w => by
      rcases List.mem_cons.mp (sub x hx (by omega)) with rfl | hm
      · omega
      · exact hm)]
/-- entries from levels -/
def bwl : Int → List Int → (Int → Int) → List (Int × Int)
  | _, [], _ => []
  | b, k :: K, f => (if b < f k then [(k, f k - b)] else []) ++ bwl (f k) K f
abbrev bwI : SM := sSeq (sIf (tCmpM gtI (mVar 5) (mVar 3)) (sSeq (sDrop (mAppend 2 (mTup (aCons (mVar 4) (aCons (mBin subI (mVar 5) (mVar 3)) (aNil)))))) (sNil)) (sNil)) (sSeq (sSet 3 (mVar 5)) (sNil))
theorem bw_body {A N : D} {acc : List D} {n l b : Int} (hl : acc.length < 1000) : bwI [.fz A, .fz N, .ow (.lst acc), .fz (.int b), .fz (.int n), .fz (.int l)] = .nx [.fz A, .fz N, .ow (.lst (acc ++ (if b < l then [encE (n, l - b)] else []))), .fz (.int l), .fz (.int n), .fz (.int l)] := by
  have ml : maxLen = 16777216 := rfl
  have l1 : acc.length < maxLen := by omega
  by_cases h : b < l
  · simp [bwI, -notBo_eq, notBo_list, gt_ii, h, sub_ii, l1, maxLen2, encE]
  · simp [bwI, -notBo_eq, notBo_list, gt_ii, h]
theorem enc_ifs (p : Prop) [Decidable p] (q : Int × Int) : (if p then [encE q] else []) = encB (if p then [q] else []) := by split <;> rfl
theorem bw_loop {A N : D} {f : Int → Int} : ∀ (K : List Int) (acc : List D) (b : Int) (x4 x5 : M.Slot), acc.length + K.length < 1000 → nbS (some x4) = true → nbS (some x5) = true → ∃ b' y4 y5, nbS (some y4) = true ∧ nbS (some y5) = true ∧
    forLoop (tgTup [tgName 4, tgName 5]) bwI (K.map fun k => .tup [.int k, .int (f k)]) [.fz A, .fz N, .ow (.lst acc), .fz (.int b), x4, x5] = .nx [.fz A, .fz N, .ow (.lst (acc ++ encB (bwl b K f))), .fz (.int b'), y4, y5]
  | [], acc, b, x4, x5, _, h4, h5 => ⟨b, x4, x5, h4, h5, by simp [bwl, encB]⟩
  | k :: K, acc, b, x4, x5, hl, h4, h5 => by
    rw [List.length_cons] at hl
    have li : ∀ (q : Int × Int), (if b < f k then [encE q] else []).length ≤ 1 := fun q => by split <;> simp
    obtain ⟨b', y4, y5, k4, k5, e⟩ := bw_loop K (acc ++ (if b < f k then [encE (k, f k - b)] else [])) (f k) (.fz (.int k)) (.fz (.int (f k))) (by have := li (k, f k - b); rw [List.length_append]; omega) rfl rfl
    refine ⟨b', y4, y5, k4, k5, ?_⟩
    have tg : tgTup [tgName 4, tgName 5] (.tup [.int k, .int (f k)]) [.fz A, .fz N, .ow (.lst acc), .fz (.int b), x4, x5] = some [.fz A, .fz N, .ow (.lst acc), .fz (.int b), .fz (.int k), .fz (.int (f k))] := by
      simp [-notBo_eq, notBo_list, h4, h5]
    rw [List.map_cons, fl_cons tg (bw_body (by omega)), e]
    rw [bwl, enc_app, enc_ifs, List.append_assoc]
theorem zip_map (K : List Int) (f : Int → Int) : zipD (K.map D.int) ((K.map f).map D.int) = K.map fun k => .tup [.int k, .int (f k)] := by
  unfold zipD
  apply List.ext_getElem?
  intro i
  rw [List.getElem?_map, List.getElem?_map]
  by_cases h : i < K.length
  · rw [List.getElem?_range (by simp; omega)]
    simp [List.getElem?_eq_getElem h]
  · rw [List.getElem?_eq_none (by simp; omega), List.getElem?_eq_none (by omega)]
    rfl
/-- a level function over some numbers -/
structure Lv (K : List Int) (F : Int → Int) : Prop where
  co : ∀ a b, a ≤ b → (∀ k ∈ K, ¬ (a < k ∧ k ≤ b)) → F b = F a
  mo : ∀ a b, a ≤ b → F a ≤ F b
  lo : ∀ t, (∀ k ∈ K, t < k) → F t = 0
theorem Bg.lv {c : List (Int × Int)} (h : Bg c) {K : List Int} (sub : ∀ k ∈ c.map (·.1), k ∈ K) : Lv K (lvl c) := ⟨fun a b hab no => lvl_const hab fun k hk => no k (sub k hk), fun a b hab => lvl_mono h.cs hab, fun t ht => lvl_low fun k hk => ht k (sub k hk)⟩
theorem bwl_keys {f : Int → Int} : ∀ (b : Int) (K : List Int), ((bwl b K f).map (·.1)).Sublist K
  | _, [] => List.Sublist.refl _
  | b, k :: K => by
    have ih := bwl_keys (f := f) (f k) K
    rw [bwl]
    split
    · exact ih.cons_cons k
    · exact ih.cons k
theorem bwl_pos {f : Int → Int} : ∀ (b : Int) (K : List Int), ∀ p ∈ bwl b K f, 1 ≤ p.2
  | _, [], p, h => nomatch h
  | b, k :: K, p, h => by
    rw [bwl] at h
    rcases List.mem_append.mp h with h | h
    · split at h
      · rw [List.mem_singleton] at h
        subst h
        show 1 ≤ f k - b
        omega
      · cases h
    · exact bwl_pos (f k) K p h
theorem bwl_lvl {F : Int → Int} (mo : ∀ a b, a ≤ b → F a ≤ F b) : ∀ (K : List Int) (t0 : Int), K.Pairwise (· < ·) → (∀ k ∈ K, t0 < k) → (∀ a b, t0 ≤ a → a ≤ b → (∀ k ∈ K, ¬ (a < k ∧ k ≤ b)) → F b = F a) → ∀ t, t0 ≤ t → lvl (bwl (F t0) K F) t = F t - F t0
  | [], t0, _, _, co, t, ht => by
    rw [bwl, lvl_nil, co t0 t (Int.le_refl _) ht (fun k hk => nomatch hk)]
    omega
  | k :: K, t0, hs, hlt, co, t, ht => by
    rw [List.pairwise_cons] at hs
    have hk := hlt k List.mem_cons_self
    rw [bwl, lvl_opt]
    have m1 := mo t0 k (by omega)
    by_cases h : k ≤ t
    · have ih := bwl_lvl mo K k hs.2 hs.1 (fun a b h1 h2 h3 => co a b (by omega) h2 (fun x hx w => by
        rcases List.mem_cons.mp hx with rfl | hx
        · omega
        · exact h3 x hx w)) t h
      rw [ih]
      split
      · omega
      · rename_i z
        have : ¬ F t0 < F k := fun w => z ⟨w, h⟩
        omega
    · have e : F t = F t0 := co t0 t (Int.le_refl _) ht (fun x hx w => by
        rcases List.mem_cons.mp hx with rfl | hx
        · omega
        · have := hs.1 x hx; omega)
      rw [if_neg (fun w => h w.2), lvl_low fun x hx => by
        have := (bwl_keys (f := F) (F k) K).subset hx
        have := hs.1 x this
        omega]
      omega
theorem bwl_is {K : List Int} {F : Int → Int} (hK : K.Pairwise (· < ·)) (h : Lv K F) (t : Int) : lvl (bwl 0 K F) t = F t := by
  cases K with
  | nil => rw [bwl, lvl_nil, h.lo t (fun k hk => nomatch hk)]
  | cons k K =>
    have hs := hK
    rw [List.pairwise_cons] at hK
    have lt : ∀ x ∈ k :: K, k - 1 < x := fun x hx => by
      rcases List.mem_cons.mp hx with rfl | hx
      · omega
      · have := hK.1 x hx; omega
    have z : F (k - 1) = 0 := h.lo _ lt
    by_cases ht : k - 1 ≤ t
    · have := bwl_lvl h.mo (k :: K) (k - 1) hs lt (fun a b _ => h.co a b) t ht
      rw [z] at this
      omega
    · have lt' : ∀ x ∈ k :: K, t < x := fun x hx => by have := lt x hx; omega
      rw [lvl_low fun x hx => lt' x ((bwl_keys (f := F) 0 (k :: K)).subset hx), h.lo t lt']
theorem bwl_bg {K : List Int} {F : Int → Int} (hK : K.Pairwise (· < ·)) (hl : K.length ≤ 200) : Bg (bwl 0 K F) := ⟨hK.sublist (bwl_keys 0 K), bwl_pos 0 K, by
  have ml : maxLen = 16777216 := rfl
  have := (bwl_keys (f := F) 0 K).length_le
  rw [List.length_map] at this
  omega⟩
/-! ### triples -/
structure Tp where
  i : List (Int × Int)
  r : Int
  s : List (Int × Int)
def trD (x : Tp) : D := .tup [.tux (encB x.i), .int x.r, .tux (encB x.s)]
def uniB (a b : List (Int × Int)) : List (Int × Int) := (setI (a.map (·.1) ++ b.map (·.1))).map fun n => (n, val a n + val b n)
theorem uniB_keys (a b : List (Int × Int)) : (uniB a b).map (·.1) = setI (a.map (·.1) ++ b.map (·.1)) := by
  rw [uniB, List.map_map]
  exact List.map_id _
theorem uniB_mem (a b : List (Int × Int)) (n : Int) : n ∈ (uniB a b).map (·.1) ↔ n ∈ a.map (·.1) ∨ n ∈ b.map (·.1) := by
  rw [uniB_keys, mem_setI, List.mem_append]
theorem uniB_is {a b : List (Int × Int)} (ha : Bg a) (hb : Bg b) : IsBag (uniB a b) (fun n => val a n + val b n) := by
  constructor
  · rw [uniB_keys]; exact setI_sorted _
  · intro n z
    have pa := ha.is.keys n
    have pb := hb.is.keys n
    have na := ha.val0 n
    have nb := hb.val0 n
    rw [uniB, List.mem_map]
    constructor
    · rintro ⟨m, hm, e⟩
      cases e
      rw [mem_setI, List.mem_append, pa, pb] at hm
      exact ⟨rfl, by omega⟩
    · rintro ⟨rfl, p⟩
      refine ⟨n, ?_, rfl⟩
      rw [mem_setI, List.mem_append, pa, pb]
      omega
/-- what running both gives, at each level -/
def compF (a b : Tp) (t : Int) : Int := max (lvl a.s t + (lvl b.i t - b.r)) (lvl b.s t)
def compT (a b : Tp) : Tp := ⟨uniB a.i b.i, a.r + b.r, bwl 0 ((uniB a.i b.i).map (·.1)) (compF a b)⟩
structure TOk (lo hi : Int) (x : Tp) : Prop where
  bi : Bg x.i
  bs : Bg x.s
  r0 : 0 ≤ x.r
  su : ∀ k ∈ x.s.map (·.1), k ∈ x.i.map (·.1)
  rg : ∀ k ∈ x.i.map (·.1), lo ≤ k ∧ k ≤ hi
theorem range_len {K : List Int} {lo hi : Int} (hK : K.Pairwise (· < ·)) (rg : ∀ k ∈ K, lo ≤ k ∧ k ≤ hi) (h : hi - lo ≤ 30) : K.length ≤ 31 := by
  have := List.Nodup.length_le_of_subset (l₂ := (List.range 31).map fun (j : Nat) => lo + (j : Int)) (nodup_lt hK) (fun k hk => by
    have := rg k hk
    exact List.mem_map.mpr ⟨(k - lo).toNat, List.mem_range.mpr (by omega), by omega⟩)
  simpa using this
theorem TOk.li {lo hi : Int} {x : Tp} (h : TOk lo hi x) (hr : hi - lo ≤ 30) : x.i.length ≤ 31 := by
  have := range_len h.bi.ks h.rg hr
  rwa [List.length_map] at this
theorem TOk.ls {lo hi : Int} {x : Tp} (h : TOk lo hi x) (hr : hi - lo ≤ 30) : x.s.length ≤ 31 := by
  have := range_len h.bs.ks (fun k hk => h.rg k (h.su k hk)) hr
  rwa [List.length_map] at this
theorem comp_lv {lo hi : Int} {a b : Tp} (ha : TOk lo hi a) (hb : TOk lo hi b) : Lv ((uniB a.i b.i).map (·.1)) (compF a b) := by
  have l1 := ha.bs.lv (K := (uniB a.i b.i).map (·.1)) (fun k hk => (uniB_mem _ _ _).mpr (.inl (ha.su k hk)))
  have l2 := hb.bi.lv (K := (uniB a.i b.i).map (·.1)) (fun k hk => (uniB_mem _ _ _).mpr (.inr hk))
  have l3 := hb.bs.lv (K := (uniB a.i b.i).map (·.1)) (fun k hk => (uniB_mem _ _ _).mpr (.inr (hb.su k hk)))
  have r0 := hb.r0
  refine ⟨fun x y h no => ?_, fun x y h => ?_, fun t ht => ?_⟩
  · unfold compF
    rw [l1.co x y h no, l2.co x y h no, l3.co x y h no]
  · have := l1.mo x y h
    have := l2.mo x y h
    have := l3.mo x y h
    unfold compF
    omega
  · unfold compF
    rw [l1.lo t ht, l2.lo t ht, l3.lo t ht]
    omega
theorem uniB_bg {lo hi : Int} {a b : Tp} (ha : TOk lo hi a) (hb : TOk lo hi b) (hr : hi - lo ≤ 30) : Bg (uniB a.i b.i) ∧ (uniB a.i b.i).length ≤ 31 := by
  have ml : maxLen = 16777216 := rfl
  have i := uniB_is ha.bi hb.bi
  have l := range_len i.ks (fun k hk => by
    rcases (uniB_mem _ _ _).mp hk with h | h
    · exact ha.rg k h
    · exact hb.rg k h) hr
  rw [List.length_map] at l
  exact ⟨i.bg (by omega), l⟩
theorem compT_ok {lo hi : Int} {a b : Tp} (ha : TOk lo hi a) (hb : TOk lo hi b) (hr : hi - lo ≤ 30) : TOk lo hi (compT a b) := by
  obtain ⟨b1, l1⟩ := uniB_bg ha hb hr
  have a0 := ha.r0
  have b0 := hb.r0
  refine ⟨b1, bwl_bg b1.ks (by rw [List.length_map]; omega), ?_, fun k hk => (bwl_keys 0 _).subset hk, fun k hk => ?_⟩
  · show 0 ≤ a.r + b.r
    omega
  · rcases (uniB_mem _ _ _).mp hk with h | h
    · exact ha.rg k h
    · exact hb.rg k h
theorem compT_i {lo hi : Int} {a b : Tp} (ha : TOk lo hi a) (hb : TOk lo hi b) (hr : hi - lo ≤ 30) (t : Int) : lvl (compT a b).i t = lvl a.i t + lvl b.i t := by
  obtain ⟨b1, l1⟩ := uniB_bg ha hb hr
  have na := ha.bi.val0
  have nb := hb.bi.val0
  exact lvl_lin (nodup_lt b1.ks) (nodup_lt ha.bi.ks) (nodup_lt hb.bi.ks) (fun n => (uniB_is ha.bi hb.bi).val (fun m => by have := na m; have := nb m; omega) n) t
theorem compT_s {lo hi : Int} {a b : Tp} (ha : TOk lo hi a) (hb : TOk lo hi b) (hr : hi - lo ≤ 30) (t : Int) : lvl (compT a b).s t = compF a b t := bwl_is (uniB_bg ha hb hr).1.ks (comp_lv ha hb) t
section
variable {A B AI AS BI BS U KD L1 L2 L3 SH FD : List D} {W : D} {ra rb : Int}
theorem jx2 (x y z : D) (l : List D) : ixD (.tup (x :: y :: z :: l)) (.int 2) = some (.fz z) := ixT_of (j := 2) rfl
end
theorem ixL_map {α : Type} {l : List α} {f : α → D} {i : Nat} (h : i < l.length) : ixD (.lst (l.map f)) (.int (i : Nat)) = some (.fz (f l[i])) := ixL_of (by rw [List.getElem?_map, List.getElem?_eq_getElem h]; rfl)
theorem range_get {α : Type} (l : List α) (f : α → D) : ((List.range l.length).map fun i => ((l[i]?).map f).getD .non) = l.map f := by
  apply List.ext_getElem?
  intro i
  rw [List.getElem?_map, List.getElem?_map]
  by_cases h : i < l.length
  · rw [List.getElem?_range h, List.getElem?_eq_getElem h]
    simp [List.getElem?_eq_getElem h]
  · rw [List.getElem?_eq_none (by simp; omega), List.getElem?_eq_none (by omega)]
    rfl
end Law

namespace Law
open PySem PySem.Spec PyProof.Rows L2 M
/-! ### programs -/
def tp : Bool → List D → D
  | true, l => .tux l
  | false, l => .tup l
theorem tp_bare (x : Bool) (l : List D) : bare (tp x l) = .tup l := by cases x <;> rfl
inductive Stp where
  | ins (n k : Int) | rem (k : Int) | rep (x : Bool) (k : Int) (p : List Stp)
mutual
def encS : Stp → D
  | .ins n k => .tup [.str "insert", .int n, .int k]
  | .rem k => .tup [.str "remove", .int k]
  | .rep x k p => .tup [.str "repeat", .int k, tp x (encL p)]
def encL : List Stp → List D
  | [] => []
  | s :: p => encS s :: encL p
end
mutual
def depS : Stp → Nat
  | .ins _ _ => 0
  | .rem _ => 0
  | .rep _ _ p => depL p + 1
def depL : List Stp → Nat
  | [] => 0
  | s :: p => max (depS s) (depL p)
end
mutual
def totS : Stp → Int × Int
  | .ins _ k => (k, 0)
  | .rem k => (0, k)
  | .rep _ k p => (k * (totL p).1, k * (totL p).2)
def totL : List Stp → Int × Int
  | [] => (0, 0)
  | s :: p => ((totS s).1 + (totL p).1, (totS s).2 + (totL p).2)
end
/-- counts stay below this -/
def bB : Int := 2 ^ 1000
theorem mulOk_ab {i j : Int} (i0 : -bB < i) (i1 : i < bB) (j0 : -bB < j) (j1 : j < bB) : mulOk i j = true := by
  have lg : ∀ {i : Int}, -bB < i → i < bB → i.natAbs.log2 < 1000 := fun {i} h0 h1 => by
    by_cases z : i.natAbs = 0
    · rw [z]; decide
    · rw [Nat.log2_lt z]
      have h2 : (i.natAbs : Int) < bB := by omega
      unfold bB at h2
      have : (i.natAbs : Int) < ((2 ^ 1000 : Nat) : Int) := by exact_mod_cast h2
      exact_mod_cast this
  have a := lg i0 i1
  have b := lg j0 j1
  unfold mulOk
  rw [Bool.or_eq_true]
  right
  exact decide_eq_true (by omega)
theorem mulOk_bB {i j : Int} (i0 : 0 ≤ i) (i1 : i < bB) (j0 : 0 ≤ j) (j1 : j < bB) : mulOk i j = true := mulOk_ab (by omega) i1 (by omega) j1
mutual
def okS : Stp → Prop
  | .ins _ k => 0 ≤ k
  | .rem k => 0 ≤ k
  | .rep _ k p => 0 ≤ k ∧ k < bB ∧ (totL p).1 < bB ∧ (totL p).2 < bB ∧ p.length < 64 ∧ okL p
def okL : List Stp → Prop
  | [] => True
  | s :: p => okS s ∧ okL p
end
mutual
def rgS (lo hi : Int) : Stp → Prop
  | .ins n _ => lo ≤ n ∧ n ≤ hi
  | .rem _ => True
  | .rep _ _ p => rgP lo hi p
def rgP (lo hi : Int) : List Stp → Prop
  | [] => True
  | s :: p => rgS lo hi s ∧ rgP lo hi p
end
theorem encL_map : ∀ p, encL p = p.map encS
  | [] => rfl
  | s :: p => by rw [encL, List.map_cons, encL_map p]
theorem depL_mem : ∀ {p : List Stp} {s : Stp}, s ∈ p → depS s ≤ depL p
  | [], _, h => nomatch h
  | x :: p, s, h => by
    rw [depL]
    rcases List.mem_cons.mp h with rfl | h
    · omega
    · have := depL_mem h; omega
theorem okL_mem : ∀ {p : List Stp} {s : Stp}, okL p → s ∈ p → okS s
  | [], _, _, h => nomatch h
  | x :: p, s, ok, h => by
    rw [okL] at ok
    rcases List.mem_cons.mp h with rfl | h
    · exact ok.1
    · exact okL_mem ok.2 h
theorem rgP_mem {lo hi : Int} : ∀ {p : List Stp} {s : Stp}, rgP lo hi p → s ∈ p → rgS lo hi s
  | [], _, _, h => nomatch h
  | x :: p, s, ok, h => by
    rw [rgP] at ok
    rcases List.mem_cons.mp h with rfl | h
    · exact ok.1
    · exact rgP_mem ok.2 h
theorem int_isnum (i : Int) : (F_is_number [.fz (.int i)]).rx = .ok (.fz (.bl true)) := by kernel_rfl
theorem int_iscount (i : Int) : (F_is_count [.fz (.int i)]).rx = .ok (.fz (.bl (decide (0 ≤ i)))) := by
  have e := int_isnum i
  simp [F_is_count, b_is_count, runF_eq, e, truD, ge_ii]
theorem hf (n k : Int) (p : List D) :
    (F_has_form [.fz (.tup [.str "insert", .int n, .int k]), .fz (.str "insert"), .fz (.int 3)]).rx = .ok (.fz (.bl true)) ∧
    (F_has_form [.fz (.tup [.str "remove", .int k]), .fz (.str "insert"), .fz (.int 3)]).rx = .ok (.fz (.bl false)) ∧
    (F_has_form [.fz (.tup [.str "remove", .int k]), .fz (.str "remove"), .fz (.int 2)]).rx = .ok (.fz (.bl true)) := by
  refine ⟨?_, ?_, ?_⟩ <;> kernel_rfl
theorem hf3 (k : Int) (d : D) :
    (F_has_form [.fz (.tup [.str "repeat", .int k, d]), .fz (.str "insert"), .fz (.int 3)]).rx = .ok (.fz (.bl false)) ∧
    (F_has_form [.fz (.tup [.str "repeat", .int k, d]), .fz (.str "remove"), .fz (.int 2)]).rx = .ok (.fz (.bl false)) ∧
    (F_has_form [.fz (.tup [.str "repeat", .int k, d]), .fz (.str "repeat"), .fz (.int 3)]).rx = .ok (.fz (.bl true)) := by
  refine ⟨?_, ?_, ?_⟩ <;> kernel_rfl
theorem ix0 (x : D) (l : List D) : ixD (.tup (x :: l)) (.int 0) = some (.fz x) := ixT_of (j := 0) rfl
theorem ix1 (x y : D) (l : List D) : ixD (.tup (x :: y :: l)) (.int 1) = some (.fz y) := ixT_of (j := 1) rfl
theorem ixS2 (x y z : D) (l : List D) : ixD (.tup (x :: y :: z :: l)) (.int 2) = some (.fz z) := ixT_of (j := 2) rfl
theorem isins_ins {n k : Int} (h : 0 ≤ k) : (F__is_insertion [.fz (.tup [.str "insert", .int n, .int k])]).rx = .ok (.fz (.bl true)) := by
  simp [F__is_insertion, b__is_insertion, runF_eq, (hf n k []).1, ix1, ixS2, int_isnum, int_iscount, h]
theorem isins_rem {k : Int} : (F__is_insertion [.fz (.tup [.str "remove", .int k])]).rx = .ok (.fz (.bl false)) := by
  simp [F__is_insertion, b__is_insertion, runF_eq, (hf 0 k []).2.1]
theorem isins_rep {k : Int} {d : D} : (F__is_insertion [.fz (.tup [.str "repeat", .int k, d])]).rx = .ok (.fz (.bl false)) := by
  simp [F__is_insertion, b__is_insertion, runF_eq, (hf3 k d).1]
theorem isrem_rem {k : Int} (h : 0 ≤ k) : (F__is_removal [.fz (.tup [.str "remove", .int k])]).rx = .ok (.fz (.bl true)) := by
  simp [F__is_removal, b__is_removal, runF_eq, (hf 0 k []).2.2, ix1, int_iscount, h]
theorem isrem_rep {k : Int} {d : D} : (F__is_removal [.fz (.tup [.str "repeat", .int k, d])]).rx = .ok (.fz (.bl false)) := by
  simp [F__is_removal, b__is_removal, runF_eq, (hf3 k d).2.1]
theorem isrep_rep {k : Int} {x : Bool} {p : List D} (h : 0 ≤ k) : (F__is_repeat [.fz (.tup [.str "repeat", .int k, tp x p])]).rx = .ok (.fz (.bl true)) := by
  have e := tp_bare x p
  have i := isi_tup (d := .tup p) rfl
  have f := (hf3 k (tp x p)).2.2
  generalize tp x p = B at *
  simp [F__is_repeat, b__is_repeat, runF_eq, f, ix1, ixS2, int_iscount, h, e, i]
theorem enumD_mem {ds : List D} {x : D} (h : x ∈ enumD ds) : ∃ (i : Nat) (d : D), x = .tup [.int i, d] ∧ d ∈ ds ∧ ds[i]? = some d := by
  unfold enumD at h
  obtain ⟨i, hi, rfl⟩ := List.mem_map.mp h
  have hi := List.mem_range.mp hi
  exact ⟨i, ds[i], by rw [List.getElem?_eq_getElem hi]; rfl, List.getElem_mem hi, List.getElem?_eq_getElem hi⟩
theorem ienum_tp {x : Bool} {l : List D} {j : Nat} {E : Ev} (h : E[j]? = some (.fz (tp x l))) : iEnumM (mVar j) E = .ok (enumD l) E := by
  cases x <;> simp [h, tp]
theorem iseq_tp {x : Bool} {l : List D} {j : Nat} {E : Ev} (h : E[j]? = some (.fz (tp x l))) : iSeq (mVar j) E = .ok l E := by
  cases x <;> simp [h, tp]
abbrev fiB (R1 : FM) : SM := sSeq (sSet 4 (mFnD R1 [] (aCons (mVar 3) (aCons (mVar 1) (aNil))))) (sSeq (sIf (tCmpM isNotN (mVar 4) (mC .non)) (sSeq (sRet (mTup (aCons (mVar 2) (aStar (mVar 4) (aNil))))) (sNil)) (sNil)) (sNil))
theorem fi_ok : ∀ n : Nat, (∀ (x : Bool) (p : List Stp) (d : Int), okL p → 0 ≤ d → d + depL p ≤ 8 → 2 * depL p + 2 ≤ n → (G__first_invalid n 0 [.fz (tp x (encL p)), .fz (.int d)]).rx = .ok (.fz .non)) ∧
    (∀ (s : Stp) (d : Int), okS s → 0 ≤ d → d + depS s ≤ 8 → 2 * depS s + 1 ≤ n → (G__first_invalid n 1 [.fz (encS s), .fz (.int d)]).rx = .ok (.fz .non)) := by
  intro n
  induction n with
  | zero => exact ⟨fun x p d _ _ _ h => by omega, fun s d _ _ _ h => by omega⟩
  | succ n ih =>
    obtain ⟨ihL, ihS⟩ := ih
    constructor
    · intro x p d ok h0 h8 hn
      show (runF 5 (b__first_invalid (G__first_invalid n 0) (G__first_invalid n 1)) [.fz (tp x (encL p)), .fz (.int d)]).rx = _
      obtain ⟨E', h1, a, b, c, rfl, _⟩ := forLoop_inv (C := fun E => ∃ a b c, E = [.fz (tp x (encL p)), .fz (.int d), a, b, c] ∧ nbS (some a) = true ∧ nbS (some b) = true ∧ nbS (some c) = true)
        (t := tgTup [tgName 2, tgName 3]) (b := fiB (G__first_invalid n 1)) (ds := enumD (encL p)) (E := [.fz (tp x (encL p)), .fz (.int d), .un, .un, .un]) (by
          rintro y hy E ⟨a, b, c, rfl, ha, hb, hc⟩
          obtain ⟨i, e, rfl, he, _⟩ := enumD_mem hy
          rw [encL_map] at he
          obtain ⟨s, hs, rfl⟩ := List.mem_map.mp he
          have r := ihS s d (okL_mem ok hs) h0 (by have := depL_mem hs; omega) (by have := depL_mem hs; omega)
          generalize tp x (encL p) = P at *
          generalize encS s = S at *
          generalize G__first_invalid n 1 = R1 at *
          have nn : isNotN .non .non = some (.fz (.bl false)) := rfl
          refine ⟨[.fz P, .fz (.int d), .fz (.int i), .fz S, c], [.fz P, .fz (.int d), .fz (.int i), .fz S, .fz .non], by simp [-notBo_eq, notBo_list, ha, hb], .inl (by simp [fiB, -notBo_eq, notBo_list, hc, r, nn]), _, _, _, rfl, rfl, rfl, rfl⟩) ⟨_, _, _, rfl, rfl, rfl, rfl⟩
      have it := ienum_tp (x := x) (l := encL p) (j := 0) (E := [.fz (tp x (encL p)), .fz (.int d), .un, .un, .un]) rfl
      generalize tp x (encL p) = P at *
      generalize G__first_invalid n 1 = R1 at *
      refine congrArg Res.rx (run_rt (n := 5) (as := [.fz P, .fz (.int d)]) (E := [.fz P, .fz (.int d), a, b, c]) (r := .fz .non) ?_)
      show b__first_invalid (G__first_invalid n 0) R1 [.fz P, .fz (.int d), .un, .un, .un] = _
      unfold b__first_invalid
      rw [for_nx it h1]
      rfl
    · intro s d ok h0 h8 hn
      show (runF 2 (b__invalid_in (G__first_invalid n 0) (G__first_invalid n 1)) [.fz (encS s), .fz (.int d)]).rx = _
      cases s with
      | ins m k =>
        rw [okS] at ok
        simp [runF_eq, b__invalid_in, encS, isins_ins ok, truD]
      | rem k =>
        rw [okS] at ok
        simp [runF_eq, b__invalid_in, encS, isins_rem, isrem_rem ok, truD]
      | rep x k p =>
        rw [okS] at ok
        rw [depS] at h8 hn
        have e8 : ¬ d = 8 := by omega
        have r := ihL x p (d + 1) ok.2.2.2.2.2 (by omega) (by omega) (by omega)
        have a1 := isins_rep (k := k) (d := tp x (encL p))
        have a2 := isrem_rep (k := k) (d := tp x (encL p))
        have a3 := isrep_rep (x := x) (p := encL p) ok.1
        rw [encS]
        generalize tp x (encL p) = P at *
        generalize G__first_invalid n 0 = R0 at *
        simp [runF_eq, b__invalid_in, a1, a2, a3, e8, r, truD, eq_ii, ixS2, add_ii]
theorem check_ok {x : Bool} {p : List Stp} (ok : okL p) (h8 : depL p ≤ 7) : (F_check_program [.fz (tp x (encL p))]).rx = .ok (.fz .non) := by
  have r := (fi_ok 24).1 x p 1 ok (by omega) (by omega) (by omega)
  have e := tp_bare x (encL p)
  have i := isi_tup (d := .tup (encL p)) rfl
  have nn : isNotN .non .non = some (.fz (.bl false)) := rfl
  generalize tp x (encL p) = P at *
  generalize encL p = L at *
  simp [F_check_program, b_check_program, runF_eq, F__first_invalid, e, i, truD, r, nn]
end Law

namespace Law
open PySem PySem.Spec PyProof.Rows L2 M
/-! ### composed -/
abbrev Sm : Type := Int × Int × Int
def sem (x : Tp) (t : Int) : Sm := (lvl x.i t, x.r, lvl x.s t)
def comp3 (a b : Sm) : Sm := (a.1 + b.1, a.2.1 + b.2.1, max (a.2.2 + (b.1 - b.2.1)) b.2.2)
def seqL : List Sm → Sm
  | [] => (0, 0, 0)
  | a :: l => comp3 a (seqL l)
theorem comp3_assoc (a b c : Sm) : comp3 (comp3 a b) c = comp3 a (comp3 b c) := by
  unfold comp3
  simp only [Prod.mk.injEq]
  refine ⟨by omega, by omega, by omega⟩
theorem comp3_one {a : Sm} (h : 0 ≤ a.2.2) : comp3 a (0, 0, 0) = a := by
  obtain ⟨x, y, z⟩ := a
  unfold comp3
  simp only [Prod.mk.injEq] at *
  refine ⟨by omega, by omega, by omega⟩
theorem sem_comp {lo hi : Int} {a b : Tp} (ha : TOk lo hi a) (hb : TOk lo hi b) (hr : hi - lo ≤ 30) (t : Int) : sem (compT a b) t = comp3 (sem a t) (sem b t) := by
  unfold sem comp3
  rw [compT_i ha hb hr, compT_s ha hb hr]
  rfl
theorem sem_nn {lo hi : Int} {a : Tp} (ha : TOk lo hi a) (t : Int) : 0 ≤ (sem a t).2.2 := lvl_nn ha.bs.cs t
def pairsOf : List Tp → List Tp
  | a :: b :: l => compT a b :: pairsOf l
  | _ => []
def pairUp : List Tp → List Tp
  | a :: b :: l => compT a b :: pairUp l
  | l => l
theorem pairUp_eq : ∀ l : List Tp, pairUp l = pairsOf l ++ l.drop (2 * (pairsOf l).length)
  | [] => rfl
  | [a] => rfl
  | a :: b :: l => by
    rw [pairUp, pairsOf, pairUp_eq l, List.length_cons, List.cons_append, show 2 * ((pairsOf l).length + 1) = 2 * (pairsOf l).length + 1 + 1 by omega, List.drop_succ_cons, List.drop_succ_cons]
theorem pairsOf_len : ∀ l : List Tp, (pairsOf l).length = l.length / 2
  | [] => rfl
  | [a] => by simp [pairsOf]
  | a :: b :: l => by
    rw [pairsOf, List.length_cons, pairsOf_len l, List.length_cons, List.length_cons]
    omega
theorem pairUp_len : ∀ l : List Tp, 2 ≤ l.length → (pairUp l).length < l.length
  | [], h => by simp at h
  | [a], h => by simp at h
  | a :: b :: l, _ => by
    have : ∀ l : List Tp, (pairUp l).length ≤ l.length := fun l => by
      rw [pairUp_eq, List.length_append, List.length_drop, pairsOf_len]
      omega
    have := this l
    rw [pairUp, List.length_cons, List.length_cons, List.length_cons]
    omega
theorem pairUp_ok {lo hi : Int} (hr : hi - lo ≤ 30) : ∀ {l : List Tp}, (∀ x ∈ l, TOk lo hi x) → (∀ x ∈ pairUp l, TOk lo hi x) ∧ ∀ t, seqL ((pairUp l).map (sem · t)) = seqL (l.map (sem · t))
  | [], _ => ⟨(fun x h => nomatch h), fun t => rfl⟩
  | [a], h => ⟨h, fun t => rfl⟩
  | a :: b :: l, h => by
    have ha := h a (by simp)
    have hb := h b (by simp)
    obtain ⟨i1, i2⟩ := pairUp_ok hr (l := l) (fun x hx => h x (by simp [hx]))
    rw [pairUp]
    refine ⟨fun x hx => ?_, fun t => ?_⟩
    · rcases List.mem_cons.mp hx with rfl | hx
      · exact compT_ok ha hb hr
      · exact i1 x hx
    · simp only [List.map_cons, seqL]
      rw [sem_comp ha hb hr, comp3_assoc, i2]
def pairAt (l : List Tp) (t : Nat) : D := match l[2 * t]?, l[2 * t + 1]? with
  | some a, some b => trD (compT a b)
  | _, _ => .non
theorem pairs_range : ∀ l : List Tp, ((List.range (l.length / 2)).map (pairAt l)) = (pairsOf l).map trD
  | [] => rfl
  | [a] => by simp [pairsOf]
  | a :: b :: l => by
    rw [pairsOf, List.map_cons, ← pairs_range l, show (a :: b :: l).length / 2 = l.length / 2 + 1 by simp only [List.length_cons]; omega, List.range_succ_eq_map, List.map_cons, List.map_map]
    congr 1
theorem rg2_all : ∀ m : Nat, m < 64 → 2 ≤ m → rgL [.int 0, .int ((m : Int) - 1), .int 2] = some ((List.range (m / 2)).map fun (t : Nat) => .int (0 + t * 2)) := by
  intro m hm h2
  have c : ∀ m : Fin 64, 2 ≤ m.1 → ((2 : Int) ≠ 0 ∧ (2 : Int).natAbs < 1073741824 ∧ Builtin.Range.small 0 ((m.1 : Int) - 1) 2 = true ∧ (Builtin.Range.rangeSize 0 ((m.1 : Int) - 1) 2 : Int) = (rgN 0 ((m.1 : Int) - 1) 2 : Int)) ∧ rgN 0 ((m.1 : Int) - 1) 2 = m.1 / 2 := by decide +kernel
  obtain ⟨c1, c2⟩ := c ⟨m, hm⟩ h2
  unfold rgL
  simp only at c1 c2 ⊢
  rw [if_pos c1, c2]
theorem trD_bare (x : Tp) : bare (trD x) = trD x := rfl
abbrev coT : BM := tCmpM gtI (mCall lenD (aCons (mVar 1) (aNil))) (mC (.int 1))
theorem add_ll {a b : List D} (h : a.length + b.length ≤ maxLen) : addD (.lst a) (.lst b) = some (.ow (.lst (a ++ b))) := by
  simp [addD, orO2, addI, oI, addL, h]
end Law

namespace Law
open PySem PySem.Spec PyProof.Rows L2 M
/-! ### repeated -/
theorem timesI_lvl (k : Int) : ∀ (c : List (Int × Int)) (t : Int), lvl (timesI c k) t = lvl c t * k
  | [], t => by simp [timesI, lvl_nil]
  | q :: c, t => by
    have ih := timesI_lvl k c t
    rw [show timesI (q :: c) k = (q.1, q.2 * k) :: timesI c k from rfl, lvl_cons, lvl_cons, ih, Int.add_mul]
    split <;> simp
theorem timesI_keys (k : Int) (c : List (Int × Int)) : (timesI c k).map (·.1) = c.map (·.1) := by rw [timesI, List.map_map]; rfl
section
variable {I S KD SH L1 L2 FD : List D} {T2 W : D} {r k : Int}
end
/-- what so many copies give, at each level -/
def repF (x : Tp) (k : Int) (t : Int) : Int := lvl x.s t + (k - 1) * max (lvl x.i t - x.r) 0
def repT (x : Tp) (k : Int) : Tp := if k = 0 then ⟨[], 0, []⟩ else ⟨timesI x.i k, x.r * k, bwl 0 (x.i.map (·.1)) (repF x k)⟩
theorem nil_ok (lo hi : Int) : TOk lo hi ⟨[], 0, []⟩ := ⟨⟨by simp, (fun p h => nomatch h), Nat.zero_le _⟩, ⟨by simp, (fun p h => nomatch h), Nat.zero_le _⟩, Int.le_refl _, (fun k h => nomatch h), (fun k h => nomatch h)⟩
theorem rep_lv {lo hi : Int} {x : Tp} (h : TOk lo hi x) {k : Int} (h0 : 0 < k) : Lv (x.i.map (·.1)) (repF x k) := by
  have l1 := h.bi.lv (K := x.i.map (·.1)) (fun k hk => hk)
  have l2 := h.bs.lv (K := x.i.map (·.1)) h.su
  have r0 := h.r0
  refine ⟨fun a b hab no => ?_, fun a b hab => ?_, fun t ht => ?_⟩
  · unfold repF
    rw [l1.co a b hab no, l2.co a b hab no]
  · have m1 := l1.mo a b hab
    have m2 := l2.mo a b hab
    have : (k - 1) * max (lvl x.i a - x.r) 0 ≤ (k - 1) * max (lvl x.i b - x.r) 0 := Int.mul_le_mul_of_nonneg_left (by omega) (by omega)
    unfold repF
    omega
  · unfold repF
    rw [l1.lo t ht, l2.lo t ht, show max (0 - x.r) 0 = 0 by omega]
    simp
theorem repT_ok {lo hi : Int} {x : Tp} (h : TOk lo hi x) (hr : hi - lo ≤ 30) {k : Int} (h0 : 0 ≤ k) : TOk lo hi (repT x k) := by
  unfold repT
  split
  · exact nil_ok lo hi
  · have p : 0 < k := by omega
    have l := h.li hr
    refine ⟨timesI_bg h.bi p, bwl_bg h.bi.ks (by rw [List.length_map]; omega), Int.mul_nonneg h.r0 h0, fun n hn => ?_, fun n hn => ?_⟩
    · show n ∈ (timesI x.i k).map (·.1)
      rw [timesI_keys]
      exact (bwl_keys 0 _).subset hn
    · have : n ∈ (timesI x.i k).map (·.1) := hn
      rw [timesI_keys] at this
      exact h.rg n this
def rep3 (k : Int) (a : Sm) : Sm := if k = 0 then (0, 0, 0) else (a.1 * k, a.2.1 * k, a.2.2 + (k - 1) * max (a.1 - a.2.1) 0)
theorem sem_rep {lo hi : Int} {x : Tp} (h : TOk lo hi x) {k : Int} (h0 : 0 ≤ k) (t : Int) : sem (repT x k) t = rep3 k (sem x t) := by
  unfold repT rep3
  split
  · rfl
  · have e := bwl_is h.bi.ks (rep_lv h (show 0 < k by omega)) t
    unfold sem
    simp only [timesI_lvl, e]
    rfl
end Law

namespace Law
open PySem PySem.Spec PyProof.Rows L2 M
/-! ### triple_of, Effect.of -/
mutual
def semS (t : Int) : Stp → Sm
  | .ins n k => (if n ≤ t then k else 0, 0, if n ≤ t then k else 0)
  | .rem k => (0, k, 0)
  | .rep _ k p => rep3 k (semL t p)
def semL (t : Int) : List Stp → Sm
  | [] => (0, 0, 0)
  | s :: p => comp3 (semS t s) (semL t p)
end
theorem semL_seq (t : Int) : ∀ p : List Stp, semL t p = seqL (p.map (semS t))
  | [] => by rw [semL]; rfl
  | s :: p => by rw [semL, List.map_cons, seqL, semL_seq t p]
mutual
theorem semS_tot {lo hi : Int} : ∀ {s : Stp} {t : Int}, rgS lo hi s → hi ≤ t → (semS t s).1 = (totS s).1 ∧ (semS t s).2.1 = (totS s).2
  | .ins n k, t, h, ht => by
    rw [rgS] at h
    rw [semS, totS, if_pos (show n ≤ t by omega)]
    exact ⟨rfl, rfl⟩
  | .rem k, t, h, ht => by rw [semS, totS]; exact ⟨rfl, rfl⟩
  | .rep x k p, t, h, ht => by
    rw [rgS] at h
    obtain ⟨a, b⟩ := semL_tot (t := t) h ht
    rw [semS, totS, rep3]
    split
    · rename_i z
      subst z
      simp
    · simp only
      rw [a, b]
      exact ⟨Int.mul_comm _ _, Int.mul_comm _ _⟩
theorem semL_tot {lo hi : Int} : ∀ {p : List Stp} {t : Int}, rgP lo hi p → hi ≤ t → (semL t p).1 = (totL p).1 ∧ (semL t p).2.1 = (totL p).2
  | [], t, h, ht => by rw [semL, totL]; exact ⟨rfl, rfl⟩
  | s :: p, t, h, ht => by
    rw [rgP] at h
    obtain ⟨a, b⟩ := semS_tot (t := t) h.1 ht
    obtain ⟨c, d⟩ := semL_tot (t := t) h.2 ht
    rw [semL, totL, comp3]
    simp only
    rw [a, b, c, d]
    exact ⟨rfl, rfl⟩
end
mutual
theorem semS_le : ∀ {s : Stp} {t : Int}, okS s → 0 ≤ (semS t s).1 ∧ (semS t s).1 ≤ (totS s).1 ∧ (semS t s).2.1 = (totS s).2
  | .ins n k, t, ok => by
    rw [okS] at ok
    rw [semS, totS]
    refine ⟨?_, ?_, rfl⟩ <;> (simp only; split <;> omega)
  | .rem k, t, ok => by rw [semS, totS]; simp
  | .rep x k p, t, ok => by
    rw [okS] at ok
    obtain ⟨a, b, c⟩ := semL_le (t := t) ok.2.2.2.2.2
    rw [semS, totS, rep3]
    split
    · rename_i z
      subst z
      simp
    · simp only
      rw [c, Int.mul_comm k, Int.mul_comm k]
      exact ⟨Int.mul_nonneg a ok.1, Int.mul_le_mul_of_nonneg_right b ok.1, rfl⟩
theorem semL_le : ∀ {p : List Stp} {t : Int}, okL p → 0 ≤ (semL t p).1 ∧ (semL t p).1 ≤ (totL p).1 ∧ (semL t p).2.1 = (totL p).2
  | [], t, ok => by rw [semL, totL]; simp
  | s :: p, t, ok => by
    rw [okL] at ok
    obtain ⟨a, b, c⟩ := semS_le (t := t) ok.1
    obtain ⟨d, e, f⟩ := semL_le (t := t) ok.2
    rw [semL, totL, comp3]
    simp only
    omega
end
theorem tot_size {lo hi : Int} {y : Tp} {f : Int → Sm} {n r : Int} (h : ∀ t, sem y t = f t) (ht : ∀ t, hi ≤ t → (f t).1 = n ∧ (f t).2.1 = r) : sizeB y.i = n ∧ y.r = r := by
  obtain ⟨T, hT⟩ := size_lvl y.i
  have a := h (max T hi)
  have b := ht (max T hi) (by omega)
  rw [← a] at b
  refine ⟨?_, b.2⟩
  rw [← hT (max T hi) (by omega)]
  exact b.1
theorem ev_rep1 : eqD (.str "repeat") (.str "repeat") = some (.fz (.bl true)) := by kernel_rfl
theorem ev_rep2 : eqD (.str "remove") (.str "repeat") = some (.fz (.bl false)) := by kernel_rfl
theorem ev_rep3 : eqD (.str "insert") (.str "repeat") = some (.fz (.bl false)) := by kernel_rfl
theorem ev_rem2 : eqD (.str "remove") (.str "remove") = some (.fz (.bl true)) := by kernel_rfl
theorem ev_rem3 : eqD (.str "insert") (.str "remove") = some (.fz (.bl false)) := by kernel_rfl
/-- what the levels of a program keep -/
structure Ok3 (f : Int → Sm) : Prop where
  l0 : ∀ t, 0 ≤ (f t).1
  s0 : ∀ t, 0 ≤ (f t).2.2
  r0 : ∀ t, 0 ≤ (f t).2.1
  rr : ∀ a b, (f a).2.1 = (f b).2.1
  ml : ∀ a b, a ≤ b → (f a).1 ≤ (f b).1
  ms : ∀ a b, a ≤ b → (f a).2.2 ≤ (f b).2.2
  md : ∀ a b, a ≤ b → (f b).2.2 - (f a).2.2 ≤ (f b).1 - (f a).1
  ex : ∀ t, (f t).1 - (f t).2.2 ≤ (f t).2.1
theorem Ok3.one : Ok3 (fun _ => (0, 0, 0)) := ⟨fun _ => Int.le_refl _, fun _ => Int.le_refl _, fun _ => Int.le_refl _, fun _ _ => rfl, fun _ _ _ => Int.le_refl _, fun _ _ _ => Int.le_refl _, fun _ _ _ => Int.le_refl _, fun _ => by simp⟩
theorem Ok3.comp {f g : Int → Sm} (h : Ok3 f) (k : Ok3 g) : Ok3 (fun t => comp3 (f t) (g t)) := by
  refine ⟨fun t => ?_, fun t => ?_, fun t => ?_, fun a b => ?_, fun a b hab => ?_, fun a b hab => ?_, fun a b hab => ?_, fun t => ?_⟩
  · have := h.l0 t; have := k.l0 t; simp only [comp3]; omega
  · have := h.s0 t; have := k.s0 t; simp only [comp3]; omega
  · have := h.r0 t; have := k.r0 t; simp only [comp3]; omega
  · have := h.rr a b; have := k.rr a b; simp only [comp3]; omega
  · have := h.ml a b hab; have := k.ml a b hab; simp only [comp3]; omega
  · have := h.ms a b hab; have := k.ms a b hab; have := k.ml a b hab; have := k.rr a b; simp only [comp3]; omega
  · have := h.ml a b hab; have := k.ml a b hab; have := h.md a b hab; have := k.md a b hab; have := k.rr a b; simp only [comp3]; omega
  · have := h.ex t; have := k.ex t; simp only [comp3]; omega
theorem Ok3.rep {f : Int → Sm} (h : Ok3 f) {k : Int} (h0 : 0 ≤ k) : Ok3 (fun t => rep3 k (f t)) := by
  by_cases z : k = 0
  · subst z
    exact Ok3.one
  · obtain ⟨j, rfl⟩ : ∃ j : Int, k = j + 1 := ⟨k - 1, by omega⟩
    have j0 : 0 ≤ j := by omega
    have nn : ∀ {x : Int}, 0 ≤ x → 0 ≤ j * x := fun hx => Int.mul_nonneg j0 hx
    have mm : ∀ {x y : Int}, x ≤ y → j * x ≤ j * y := fun hx => Int.mul_le_mul_of_nonneg_left hx j0
    have ex : ∀ x : Int, x * (j + 1) = j * x + x := fun x => by rw [Int.mul_add, Int.mul_one, Int.mul_comm]
    unfold rep3
    refine ⟨fun t => ?_, fun t => ?_, fun t => ?_, fun a b => ?_, fun a b hab => ?_, fun a b hab => ?_, fun a b hab => ?_, fun t => ?_⟩
    · simp only [if_neg z, ex]; have := h.l0 t; have := nn (h.l0 t); omega
    · simp only [if_neg z]; rw [show j + 1 - 1 = j by omega]; have := h.s0 t; have := nn (x := max ((f t).1 - (f t).2.1) 0) (by omega); omega
    · simp only [if_neg z, ex]; have := h.r0 t; have := nn (h.r0 t); omega
    · simp only [if_neg z, h.rr a b]
    · simp only [if_neg z, ex]; have := h.ml a b hab; have := mm (h.ml a b hab); omega
    · simp only [if_neg z]; rw [show j + 1 - 1 = j by omega]
      have := h.ms a b hab
      have := mm (x := max ((f a).1 - (f a).2.1) 0) (y := max ((f b).1 - (f b).2.1) 0) (by have := h.ml a b hab; have := h.rr a b; omega)
      omega
    · simp only [if_neg z, ex]; rw [show j + 1 - 1 = j by omega]
      have := h.md a b hab
      have q := mm (x := max ((f b).1 - (f b).2.1) 0 - max ((f a).1 - (f a).2.1) 0) (y := (f b).1 - (f a).1) (by have := h.ml a b hab; have := h.rr a b; omega)
      rw [Int.mul_sub, Int.mul_sub] at q
      omega
    · simp only [if_neg z, ex]; rw [show j + 1 - 1 = j by omega]
      have := h.ex t
      have q := mm (x := (f t).1 - (f t).2.1) (y := max ((f t).1 - (f t).2.1) 0) (by omega)
      rw [Int.mul_sub] at q
      omega
mutual
theorem semS_ok : ∀ {s : Stp}, okS s → Ok3 (fun t => semS t s)
  | .ins n k, ok => by
    rw [okS] at ok
    simp only [semS]
    refine ⟨fun t => ?_, fun t => ?_, fun t => Int.le_refl _, fun a b => rfl, fun a b hab => ?_, fun a b hab => ?_, fun a b hab => Int.le_refl _, fun t => ?_⟩
    · simp only; split <;> omega
    · simp only; split <;> omega
    · simp only; split <;> split <;> omega
    · simp only; split <;> split <;> omega
    · simp only; omega
  | .rem k, ok => by
    rw [okS] at ok
    simp only [semS]
    exact ⟨fun t => Int.le_refl _, fun t => Int.le_refl _, fun t => ok, fun a b => rfl, fun a b hab => Int.le_refl _, fun a b hab => Int.le_refl _, fun a b hab => Int.le_refl _, fun t => by simpa using ok⟩
  | .rep x k p, ok => by
    rw [okS] at ok
    simp only [semS]
    exact (semL_ok ok.2.2.2.2.2).rep ok.1
theorem semL_ok : ∀ {p : List Stp}, okL p → Ok3 (fun t => semL t p)
  | [], _ => by simp only [semL]; exact Ok3.one
  | s :: p, ok => by
    rw [okL] at ok
    simp only [semL]
    exact (semS_ok ok.1).comp (semL_ok ok.2)
end
/-- an effect and its levels -/
theorem range_lenN {K : List Int} {lo hi : Int} {N : Nat} (hK : K.Pairwise (· < ·)) (rg : ∀ k ∈ K, lo ≤ k ∧ k ≤ hi) (h : hi - lo < N) : K.length ≤ N := by
  have := List.Nodup.length_le_of_subset (l₂ := (List.range N).map fun (j : Nat) => lo + (j : Int)) (nodup_lt hK) (fun k hk => by
    have := rg k hk
    exact List.mem_map.mpr ⟨(k - lo).toNat, List.mem_range.mpr (by omega), by omega⟩)
  simpa using this
end Law

namespace Law
open PySem PySem.Spec PyProof.Rows L2 M
/-! ### the algebra: effects as objects with their levels -/
def effO (i s c : List (Int × Int)) (r : Int) : D := effD (.tux (encB i)) (.tux (encB s)) c r (r - sizeB c)
/-- the object d is the effect with the levels f -/
theorem plain_tb (c : List (Int × Int)) : plainD (.tup (encB c)) = true := plain_bag c
end Law

namespace Law
open PySem PySem.Spec PyProof.Rows L2 M
/-! ### parts, results -/
/-- how much an effect with these levels needs -/
def need (hi : Int) (f : Int → Sm) : Int := (f hi).2.1 - (f hi).1 + (f hi).2.2
end Law

namespace Law
open PySem PySem.Spec PyProof.Rows L2 M
/-! ### drawn effects as objects with levels; powers -/
theorem rep3_1 (x : Sm) : rep3 1 x = x := by
  obtain ⟨i, r, s⟩ := x
  simp [rep3]
theorem rep3_0 (x : Sm) : rep3 0 x = (0, 0, 0) := by simp [rep3]
theorem max_mul {e a : Int} (h : 0 ≤ a) : max (e * a) 0 = max e 0 * a := by
  by_cases z : 0 ≤ e
  · have := Int.mul_nonneg z h
    rw [Int.max_eq_left this, Int.max_eq_left z]
  · have := Int.mul_nonpos_of_nonpos_of_nonneg (show e ≤ 0 by omega) h
    rw [Int.max_eq_right this, Int.max_eq_right (show e ≤ 0 by omega), Int.zero_mul]
theorem rep3_mul {a b : Int} (ha : 0 ≤ a) (hb : 0 ≤ b) (x : Sm) : rep3 b (rep3 a x) = rep3 (a * b) x := by
  obtain ⟨i, r, s⟩ := x
  by_cases za : a = 0
  · subst za
    simp [rep3]
  · by_cases zb : b = 0
    · subst zb
      simp [rep3]
    · have zc : a * b ≠ 0 := by simp [za, zb]
      have m := max_mul (e := i - r) ha
      have e : i * a - r * a = (i - r) * a := by grind
      simp only [rep3, za, zb, zc, if_false, Prod.mk.injEq, e, m]
      generalize max (i - r) 0 = E at *
      refine ⟨by grind, by grind, by grind⟩
theorem rep3_add {a b : Int} (ha : 0 ≤ a) (hb : 0 ≤ b) {x : Sm} (s0 : 0 ≤ x.2.2) (ex : x.1 - x.2.1 ≤ x.2.2) : rep3 (a + b) x = comp3 (rep3 a x) (rep3 b x) := by
  obtain ⟨i, r, s⟩ := x
  simp only at s0 ex
  by_cases za : a = 0
  · subst za
    by_cases zb : b = 0
    · subst zb
      simp [rep3, comp3]
    · have h : 0 ≤ (b - 1) * max (i - r) 0 := Int.mul_nonneg (by omega) (by omega)
      have k : i * b - r * b ≤ s + (b - 1) * max (i - r) 0 := by
        have e : i * b - r * b = (i - r) + (b - 1) * (i - r) := by grind
        have l : (b - 1) * (i - r) ≤ (b - 1) * max (i - r) 0 := Int.mul_le_mul_of_nonneg_left (by omega) (by omega)
        omega
      simp only [rep3, comp3, zb, if_true, if_false, Int.zero_add, Prod.mk.injEq]
      generalize (b - 1) * max (i - r) 0 = E at *
      generalize i * b = A at *
      generalize r * b = B at *
      refine ⟨trivial, trivial, by omega⟩
  · by_cases zb : b = 0
    · subst zb
      have h : 0 ≤ (a - 1) * max (i - r) 0 := Int.mul_nonneg (by omega) (by omega)
      simp only [rep3, comp3, za, if_true, if_false, Int.add_zero, Prod.mk.injEq]
      generalize (a - 1) * max (i - r) 0 = E at *
      refine ⟨trivial, trivial, by omega⟩
    · have zc : a + b ≠ 0 := by omega
      simp only [rep3, comp3, za, zb, zc, if_false, Prod.mk.injEq]
      refine ⟨by grind, by grind, ?_⟩
      have e : i * b - r * b = b * (i - r) := by grind
      rw [e]
      by_cases z : 0 ≤ i - r
      · rw [Int.max_eq_left (a := i - r) z]
        have h1 : 0 ≤ a * (i - r) := Int.mul_nonneg ha z
        have e1 : (a + b - 1) * (i - r) = a * (i - r) + b * (i - r) - (i - r) := by grind
        have e2 : (a - 1) * (i - r) = a * (i - r) - (i - r) := by grind
        have e3 : (b - 1) * (i - r) = b * (i - r) - (i - r) := by grind
        rw [e1, e2, e3]
        omega
      · rw [Int.max_eq_right (a := i - r) (show i - r ≤ 0 by omega)]
        have h1 : b * (i - r) ≤ 0 := Int.mul_nonpos_of_nonneg_of_nonpos hb (by omega)
        simp only [Int.mul_zero]
        omega
end Law

namespace Law
open PySem PySem.Spec PyProof.Rows L2 M
/-! ### runs of elementary steps on sorted lists -/
def cnt (L : List Int) (t : Int) : Int := ((L.filter fun n => decide (n ≤ t)).length : Nat)
theorem cnt_nil (t : Int) : cnt [] t = 0 := rfl
theorem cnt_cons (n : Int) (L : List Int) (t : Int) : cnt (n :: L) t = (if n ≤ t then 1 else 0) + cnt L t := by
  unfold cnt
  by_cases h : n ≤ t <;> simp [h]
  omega
theorem cnt_app (L K : List Int) (t : Int) : cnt (L ++ K) t = cnt L t + cnt K t := by
  unfold cnt
  rw [List.filter_append, List.length_append, Int.natCast_add]
theorem cnt_perm {L K : List Int} (h : L.Perm K) (t : Int) : cnt L t = cnt K t := by
  unfold cnt
  rw [(h.filter _).length_eq]
theorem cnt_nn (L : List Int) (t : Int) : 0 ≤ cnt L t := by
  unfold cnt
  omega
theorem cnt_low {L : List Int} {t : Int} (h : ∀ n ∈ L, t < n) : cnt L t = 0 := by
  unfold cnt
  rw [List.filter_eq_nil_iff.mpr]
  · rfl
  · intro n hn
    have := h n hn
    simp
    omega
theorem cnt_all {L : List Int} {t : Int} (h : ∀ n ∈ L, n ≤ t) : cnt L t = L.length := by
  unfold cnt
  rw [List.filter_eq_self.mpr]
  intro n hn
  simpa using h n hn
/-- an elementary step: insert a number, or remove -/
def elm (t : Int) : Option Int → Sm
  | some n => (if n ≤ t then 1 else 0, 0, if n ≤ t then 1 else 0)
  | none => (0, 1, 0)
def semE (t : Int) (e : List (Option Int)) : Sm := seqL (e.map (elm t))
theorem semE_nil (t : Int) : semE t [] = (0, 0, 0) := rfl
theorem semE_cons (t : Int) (x : Option Int) (e : List (Option Int)) : semE t (x :: e) = comp3 (elm t x) (semE t e) := rfl
def runM : List Int → List Int → List (Option Int) → Option (List Int × List Int)
  | L, T, [] => some (L, T)
  | L, T, some n :: e => runM (sortI (L ++ [n])) T e
  | [], _, none :: _ => none
  | a :: L, T, none :: e => runM L (T ++ [a]) e
def needE : List (Option Int) → Int
  | [] => 0
  | some _ :: e => max 0 (needE e - 1)
  | none :: e => max 1 (needE e + 1)
theorem needE_nn : ∀ e, 0 ≤ needE e
  | [] => Int.le_refl _
  | some _ :: e => by rw [needE]; omega
  | none :: e => by rw [needE]; omega
theorem semE_s0 : ∀ (t : Int) (e : List (Option Int)), 0 ≤ (semE t e).2.2
  | t, [] => Int.le_refl _
  | t, x :: e => by
    have := semE_s0 t e
    rw [semE_cons]
    simp only [comp3]
    omega
theorem needE_sem {hi : Int} : ∀ {e : List (Option Int)}, (∀ n, some n ∈ e → n ≤ hi) → needE e = (semE hi e).2.1 - (semE hi e).1 + (semE hi e).2.2
  | [], _ => rfl
  | some n :: e, h => by
    have ih := needE_sem (hi := hi) (e := e) fun m hm => h m (List.mem_cons_of_mem _ hm)
    have := h n List.mem_cons_self
    rw [needE, ih, semE_cons, elm, if_pos this]
    simp only [comp3]
    omega
  | none :: e, h => by
    have ih := needE_sem (hi := hi) (e := e) fun m hm => h m (List.mem_cons_of_mem _ hm)
    rw [needE, ih, semE_cons, elm]
    simp only [comp3]
    omega
theorem run_none : ∀ {e : List (Option Int)} {L T : List Int}, runM L T e = none ↔ (L.length : Int) < needE e
  | [], L, T => by simp only [runM, needE]; constructor <;> intro h <;> first | exact nomatch h | omega
  | some n :: e, L, T => by
    rw [runM, run_none, needE, (sortI_perm _).length_eq, List.length_append]
    simp only [List.length_cons, List.length_nil]
    have := needE_nn e
    omega
  | none :: e, [], T => by
    rw [runM, needE]
    simp only [List.length_nil, true_iff]
    have := needE_nn e
    omega
  | none :: e, a :: L, T => by
    rw [runM, run_none, needE]
    simp only [List.length_cons]
    have := needE_nn e
    omega
theorem run_some : ∀ {e : List (Option Int)} {L T L' T' : List Int}, L.Pairwise (· ≤ ·) → runM L T e = some (L', T') →
    L'.Pairwise (· ≤ ·) ∧ (∀ t, cnt L' t = max (cnt L t + (semE t e).1 - (semE t e).2.1) (semE t e).2.2) ∧ (∀ t, cnt L' t + cnt T' t = cnt L t + cnt T t + (semE t e).1)
  | [], L, T, L', T', hs, h => by
    rw [runM, Option.some.injEq, Prod.mk.injEq] at h
    obtain ⟨rfl, rfl⟩ := h
    refine ⟨hs, fun t => ?_, fun t => ?_⟩
    · rw [semE_nil]
      have := cnt_nn L t
      simp only
      omega
    · rw [semE_nil]
      simp only
      omega
  | some n :: e, L, T, L', T', hs, h => by
    rw [runM] at h
    obtain ⟨h1, h2, h3⟩ := run_some (sortI_sorted _) h
    have c : ∀ t, cnt (sortI (L ++ [n])) t = cnt L t + (if n ≤ t then 1 else 0) := fun t => by
      rw [cnt_perm (sortI_perm _), cnt_app, cnt_cons, cnt_nil]
      omega
    refine ⟨h1, fun t => ?_, fun t => ?_⟩
    · rw [h2, c, semE_cons, elm]
      have := cnt_nn L t
      simp only [comp3]
      split <;> omega
    · rw [h3, c, semE_cons, elm]
      simp only [comp3]
      omega
  | none :: e, [], T, L', T', hs, h => nomatch h
  | none :: e, a :: L, T, L', T', hs, h => by
    rw [runM] at h
    rw [List.pairwise_cons] at hs
    obtain ⟨h1, h2, h3⟩ := run_some hs.2 h
    refine ⟨h1, fun t => ?_, fun t => ?_⟩
    · rw [h2, semE_cons, elm, cnt_cons]
      simp only [comp3]
      by_cases q : a ≤ t
      · rw [if_pos q]
        have := cnt_nn L t
        omega
      · have z : cnt L t = 0 := cnt_low fun m hm => by have := hs.1 m hm; omega
        rw [if_neg q, z]
        omega
    · rw [h3, semE_cons, elm, cnt_cons, cnt_app, cnt_cons, cnt_nil]
      simp only [comp3]
      omega
theorem semE_app (t : Int) (a b : List (Option Int)) : semE t (a ++ b) = comp3 (semE t a) (semE t b) := by
  induction a with
  | nil =>
    have s := semE_s0 t b
    rw [List.nil_append, semE_nil]
    have : ∀ x : Sm, 0 ≤ x.2.2 → x.1 - x.2.1 ≤ x.2.2 → comp3 (0, 0, 0) x = x := fun x h1 h2 => by
      obtain ⟨i, r, s⟩ := x
      unfold comp3
      simp only [Prod.mk.injEq] at *
      exact ⟨by omega, by omega, by omega⟩
    refine (this _ s ?_).symm
    clear this s
    induction b with
    | nil => exact Int.le_refl _
    | cons x b ih =>
      rw [semE_cons]
      cases x <;> simp only [elm, comp3] <;> omega
  | cons x a ih => rw [List.cons_append, semE_cons, ih, semE_cons, comp3_assoc]
theorem semE_ex (t : Int) : ∀ e, (semE t e).1 - (semE t e).2.1 ≤ (semE t e).2.2
  | [] => Int.le_refl _
  | x :: e => by
    have ih := semE_ex t e
    rw [semE_cons]
    cases x <;> simp only [elm, comp3] <;> omega
mutual
/-- a program's elementary steps -/
def exO : Stp → List (Option Int)
  | .ins n k => List.replicate k.toNat (some n)
  | .rem k => List.replicate k.toNat none
  | .rep _ k q => (List.replicate k.toNat (exP q)).flatten
def exP : List Stp → List (Option Int)
  | [] => []
  | s :: p => exO s ++ exP p
end
theorem sem_rep1 (t : Int) (x : Option Int) : ∀ k : Nat, semE t (List.replicate k x) = (match x with | some n => (if n ≤ t then (k : Int) else 0, 0, if n ≤ t then (k : Int) else 0) | none => (0, (k : Int), 0))
  | 0 => by cases x <;> simp [semE_nil]
  | k + 1 => by
    have ih := sem_rep1 t x k
    rw [List.replicate_succ, semE_cons, ih]
    cases x with
    | none =>
      simp only [elm, comp3]
      refine Prod.ext ?_ (Prod.ext ?_ ?_) <;> dsimp only <;> omega
    | some n =>
      simp only [elm, comp3]
      by_cases h : n ≤ t
      · simp only [if_pos h]
        refine Prod.ext ?_ (Prod.ext ?_ ?_) <;> dsimp only <;> omega
      · simp only [if_neg h]
        refine Prod.ext ?_ (Prod.ext ?_ ?_) <;> dsimp only <;> omega
theorem sem_repL (t : Int) (l : List (Option Int)) : ∀ k : Nat, semE t (List.replicate k l).flatten = rep3 k (semE t l)
  | 0 => by
    rw [show ((0 : Nat) : Int) = 0 from rfl, rep3_0]
    rfl
  | k + 1 => by
    have ih := sem_repL t l k
    rw [List.replicate_succ, List.flatten_cons, semE_app, ih]
    have a := rep3_add (a := 1) (b := (k : Int)) (by decide) (by omega) (x := semE t l) (semE_s0 t l) (semE_ex t l)
    rw [rep3_1] at a
    rw [← a]
    congr 1
    omega
mutual
theorem exO_sem (t : Int) : ∀ {s : Stp}, okS s → semE t (exO s) = semS t s
  | .ins n k, h => by
    rw [okS] at h
    rw [exO, sem_rep1, semS]
    simp only [Int.toNat_of_nonneg h]
  | .rem k, h => by
    rw [okS] at h
    rw [exO, sem_rep1, semS]
    simp only [Int.toNat_of_nonneg h]
  | .rep x k q, h => by
    rw [okS] at h
    rw [exO, sem_repL, exP_sem t h.2.2.2.2.2, semS, Int.toNat_of_nonneg h.1]
theorem exP_sem (t : Int) : ∀ {p : List Stp}, okL p → semE t (exP p) = semL t p
  | [], _ => by rw [exP, semL]; rfl
  | s :: p, h => by
    rw [okL] at h
    rw [exP, semE_app, exO_sem t h.1, exP_sem t h.2, semL]
end
end Law

namespace Law
open PySem PySem.Spec PyProof.Rows L2 M
/-! ### the law's bags and runs -/
def bagL (L : List Int) : List (Int × Int) := (setI L).map fun n => (n, (L.count n : Nat))
theorem bagL_is (L : List Int) : IsBag (bagL L) (fun n => (L.count n : Nat)) := by
  refine ⟨?_, fun n z => ?_⟩
  · unfold bagL
    rw [List.map_map]
    have : (setI L).map ((·.1) ∘ fun n => (n, ((L.count n : Nat) : Int))) = setI L := by simp [Function.comp_def]
    rw [this]
    exact setI_sorted L
  · unfold bagL
    rw [List.mem_map]
    constructor
    · rintro ⟨m, hm, e⟩
      rw [Prod.mk.injEq] at e
      obtain ⟨rfl, rfl⟩ := e
      have := List.count_pos_iff.mpr (mem_setI.mp hm)
      exact ⟨rfl, by omega⟩
    · rintro ⟨rfl, h⟩
      exact ⟨n, mem_setI.mpr (List.count_pos_iff.mp (by omega)), rfl⟩
theorem setI_len : ∀ l : List Int, (setI l).length ≤ l.length := fun l => by
  have nd : (setI l).Nodup := (setI_sorted l).imp (fun h => Int.ne_of_lt h)
  exact List.Nodup.length_le_of_subset nd fun a ha => mem_setI.mp ha
theorem bagL_len (L : List Int) : (bagL L).length ≤ L.length := by
  unfold bagL
  rw [List.length_map]
  exact setI_len L
theorem bagL_bg {L : List Int} (h : L.length < 64) : Bg (bagL L) := (bagL_is L).bg (by
  have ml : maxLen = 16777216 := rfl
  have := bagL_len L
  omega)
theorem bagL_val (L : List Int) (n : Int) : val (bagL L) n = (L.count n : Nat) := (bagL_is L).val (fun n => by omega) n
theorem bagL_lvl (t : Int) : ∀ {L : List Int}, L.length < 64 → lvl (bagL L) t = cnt L t
  | [], _ => rfl
  | a :: L, h => by
    have h' : L.length < 64 := by simp only [List.length_cons] at h; omega
    have ih := bagL_lvl t h'
    have nd := nodup_lt (bagL_bg h).ks
    rw [lvl_lin (u := bagL (a :: L)) (c := [(a, 1)]) (d := bagL L) nd (by simp) (nodup_lt (bagL_bg h').ks) (fun n => by
      rw [bagL_val, bagL_val, val_cons, val, List.count_cons]
      by_cases e : a = n
      · subst e
        simp
        omega
      · simp [e]) t, ih, cnt_cons, lvl_cons, lvl_nil]
    simp
theorem bag_eval {L : List Int} (h : L.length < 64) : (F__law_bag [.fz (.lst (L.map D.int))]).rx = .ok (.fz (.tux (encB (bagL L)))) := by
  have ml : maxLen = 16777216 := rfl
  have i1 := M.intsD_of L
  have lc := lc_m (t := tgName 1) (elt := mTup (aCons (mVar 1) (aCons (mCount (mVar 0) (mVar 1)) (aNil)))) (vs := [1]) (E := [.fz (.lst (L.map D.int)), .un]) (g := D.int) (f := fun n => .tup [.int n, .int (L.count n : Nat)]) (l := setI L) (fun n hn => by
    generalize L.map D.int = LD at *
    exact ⟨[.fz (.lst LD), .fz (.int n)], .fz (.tup [.int n, .int (L.count n : Nat)]), [.fz (.lst LD), .fz (.int n)], [.fz (.lst LD), .fz (.int n)], by simp, by simp [i1, maxLen2], rfl, rfl, rfl⟩) (by have := setI_len L; omega)
  have e : (setI L).map (fun n => D.tup [.int n, .int (L.count n : Nat)]) = encB (bagL L) := by
    unfold encB bagL
    rw [List.map_map]
    rfl
  rw [e] at lc
  generalize encB (bagL L) = B at *
  generalize hS : (setI L).map D.int = SL at *
  generalize hq : L.map D.int = LD at *
  have nb : allNotBo [M.Slot.fz (.lst LD), .un] [1] = true := rfl
  simp [F__law_bag, b__law_bag, runF_eq, i1, h, nb, hS, lc, tupleX]
def encO : Option Int → D
  | some n => .tup [.str "insert", .int n, .int 1]
  | none => .tup [.str "remove", .int 1]
abbrev ruB : SM := sSeq (sIf (tCmpM eqD (mBin ixD (mVar 5) (mC (.int 0))) (mC (.str "insert"))) (sSeq (sSet 2 (mCall sortedE (aCons (mBin addD (mVar 2) (mLst (aCons (mBin ixD (mVar 5) (mC (.int 1))) (aNil)))) (aNil)))) (sNil)) (sSeq (sIf (tCmpM eqD (mVar 2) (mLst (aNil))) (sSeq (sRet (mLst (aCons (mC .non) (aCons (mVar 4) (aNil))))) (sNil)) (sSeq (sDrop (mAppend 3 (mBin ixD (mVar 2) (mC (.int 0))))) (sSeq (sSet 2 (mSl (mVar 2) (oSome (mC (.int 1))) (oNone))) (sNil)))) (sNil))) (sNil)
theorem ru_ii : eqD (.str "insert") (.str "insert") = some (.fz (.bl true)) := by kernel_rfl
theorem ru_ri : eqD (.str "remove") (.str "insert") = some (.fz (.bl false)) := by kernel_rfl
theorem sortedE_of (L : List Int) : sortedE [.lst (L.map D.int)] = some (.ow (.lst ((sortI L).map D.int))) := by
  simp [sortedE, orO, sortedDD, sortedLD, M.intsD_of]
theorem addL_ll (a b : List D) (h : a.length + b.length ≤ maxLen) : addD (.lst a) (.lst b) = some (.ow (.lst (a ++ b))) := by
  simp [addD, orO2, addI, oI, addL, h]
theorem eq_nil0 : eqD (.lst []) (.lst []) = some (.fz (.bl true)) := by kernel_rfl
theorem plain_ints (L : List Int) : plainD (.lst (L.map D.int)) = true := by
  have a : ∀ L : List Int, PyData.canLayAll0 (pys (L.map D.int)) = true ∧ PyData.depthAll (pys (L.map D.int)) ≤ 1 := by
    intro L
    induction L with
    | nil => exact ⟨by simp [pys, PyData.canLayAll0], by simp [pys, PyData.depthAll]⟩
    | cons n L ih => exact ⟨by simp [pys, py, PyData.canLayAll0, PyData.canLay0, ih.1], by have := ih.2; simp only [List.map_cons, pys, py, PyData.depthAll, PyData.depth]; omega⟩
  obtain ⟨h1, h2⟩ := a L
  simp [plainD, SeqAt.shaped, py, PyData.canLay0, PyData.depth, h1]
  omega
theorem eq_nil1 (a : Int) (L : List Int) : eqD (.lst ((a :: L).map D.int)) (.lst []) = some (.fz (.bl false)) := by
  have p : plainD (.lst []) = true := by decide +kernel
  simp only [eqD, plain_ints (a :: L), p, Bool.and_self, if_true]
  simp [py, pys, PyData.eqv, PyData.eqvAll]
end Law

namespace Law
open PySem PySem.Spec PyProof.Rows L2 M
section
variable {N S : M.Slot} {T : List D} {L : List Int} {i n a : Int}
theorem ru_ins (h : L.length < 4000) : ruB [N, S, .ow (.lst (L.map D.int)), .ow (.lst T), .fz (.int i), .fz (encO (some n))] = .nx [N, S, .ow (.lst ((sortI (L ++ [n])).map D.int)), .ow (.lst T), .fz (.int i), .fz (encO (some n))] := by
  have ml : maxLen = 16777216 := rfl
  have ad := addL_ll (L.map D.int) [.int n] (by rw [List.length_map]; simp only [List.length_cons, List.length_nil]; omega)
  have so := sortedE_of (L ++ [n])
  rw [List.map_append] at so
  generalize hq : L.map D.int = LD at *
  rw [show ([n].map D.int) = [D.int n] from rfl] at so
  generalize hs : (sortI (L ++ [n])).map D.int = SD at *
  generalize LD ++ [D.int n] = LN at *
  simp [encO, ruB, jx0, jx1, ix0, ix1, ru_ii, ad, so, maxLen1]
theorem ru_rem (h : L.length < 4000) (hT : T.length < 4000) : ruB [N, S, .ow (.lst ((a :: L).map D.int)), .ow (.lst T), .fz (.int i), .fz (encO none)] = .nx [N, S, .ow (.lst (L.map D.int)), .ow (.lst (T ++ [.int a])), .fz (.int i), .fz (encO none)] := by
  have ml : maxLen = 16777216 := rfl
  have e0 := eq_nil1 a L
  have x0 : ixD (.lst ((a :: L).map D.int)) (.int 0) = some (.fz (.int a)) := by
    rw [List.map_cons]
    exact lx0 _ _
  have sl : slD (.lst ((a :: L).map D.int)) (some 1) none = some (.ow (.lst (L.map D.int))) := by
    have c := cut_lo ((a :: L).map D.int) 1
    rw [List.map_cons, List.drop_succ_cons, List.drop_zero] at c
    rw [List.map_cons]
    show some (RV.ow (.lst (M.cutD (.int a :: L.map D.int) (some ((1 : Nat) : Int)) none))) = _
    rw [c]
  have hl : T.length < maxLen := by omega
  generalize (a :: L).map D.int = AL at *
  generalize L.map D.int = LD at *
  have z0 : 0 ≤ maxLen := Nat.zero_le _
  simp [encO, ruB, jx0, ix0, ix1, ru_ri, e0, x0, sl, hl, z0]
theorem ru_fail : ∃ E', ruB [N, S, .ow (.lst []), .ow (.lst T), .fz (.int i), .fz (encO none)] = .rt (.ow (.lst [.non, .int i])) E' := by
  have z0 : 0 ≤ maxLen := Nat.zero_le _
  simp [encO, ruB, jx0, ix0, ix1, ru_ri, eq_nil0, maxLen2, z0]
end
/-- the steps with their positions -/
def enumO (k : Nat) : List (Option Int) → List D
  | [] => []
  | x :: e => .tup [.int (k : Nat), encO x] :: enumO (k + 1) e
theorem enumO_get : ∀ (e : List (Option Int)) (k i : Nat), (enumO k e)[i]? = (e[i]?).map fun x => .tup [.int ((k + i : Nat) : Int), encO x]
  | [], k, i => by simp [enumO]
  | x :: e, k, 0 => by simp [enumO]
  | x :: e, k, i + 1 => by
    have q : k + (i + 1) = k + 1 + i := by omega
    rw [enumO, List.getElem?_cons_succ, List.getElem?_cons_succ, enumO_get e (k + 1) i, q]
theorem enumD_O (e : List (Option Int)) : enumD (e.map encO) = enumO 0 e := by
  apply List.ext_getElem?
  intro i
  rw [enumO_get, enumD, List.getElem?_map]
  by_cases h : i < e.length
  · rw [List.getElem?_range (by rw [List.length_map]; exact h)]
    simp [h]
  · rw [List.getElem?_eq_none (by simpa using h), List.getElem?_eq_none (by simpa using h)]
    rfl
theorem ru_loop {N S : M.Slot} : ∀ {e : List (Option Int)} {k : Nat} {L T : List Int} {x4 x5 : M.Slot}, L.length + T.length + e.length < 3000 → nbS (some x4) = true → nbS (some x5) = true →
    match runM L T e with
    | some (L', T') => ∃ y4 y5, nbS (some y4) = true ∧ nbS (some y5) = true ∧ forLoop (tgTup [tgName 4, tgName 5]) ruB (enumO k e) [N, S, .ow (.lst (L.map D.int)), .ow (.lst (T.map D.int)), x4, x5] = .nx [N, S, .ow (.lst (L'.map D.int)), .ow (.lst (T'.map D.int)), y4, y5]
    | none => ∃ (i : Int) (E' : Ev), forLoop (tgTup [tgName 4, tgName 5]) ruB (enumO k e) [N, S, .ow (.lst (L.map D.int)), .ow (.lst (T.map D.int)), x4, x5] = .rt (.ow (.lst [.non, .int i])) E'
  | [], k, L, T, x4, x5, hl, h4, h5 => ⟨x4, x5, h4, h5, rfl⟩
  | some n :: e, k, L, T, x4, x5, hl, h4, h5 => by
    simp only [List.length_cons] at hl
    have tg : tgTup [tgName 4, tgName 5] (.tup [.int (k : Nat), encO (some n)]) [N, S, .ow (.lst (L.map D.int)), .ow (.lst (T.map D.int)), x4, x5] = some [N, S, .ow (.lst (L.map D.int)), .ow (.lst (T.map D.int)), .fz (.int (k : Nat)), .fz (encO (some n))] := by
      generalize encO (some n) = q
      simp [tgs, -notBo_eq, notBo_list, h4, h5]
    have st := ru_ins (N := N) (S := S) (T := T.map D.int) (L := L) (i := (k : Nat)) (n := n) (by omega)
    have ih := ru_loop (N := N) (S := S) (e := e) (k := k + 1) (L := sortI (L ++ [n])) (T := T) (x4 := .fz (.int (k : Nat))) (x5 := .fz (encO (some n))) (by
      rw [(sortI_perm _).length_eq, List.length_append]
      simp only [List.length_cons, List.length_nil]
      omega) rfl rfl
    rw [runM, enumO, fl_cons tg st]
    exact ih
  | none :: e, k, [], T, x4, x5, hl, h4, h5 => by
    have tg : tgTup [tgName 4, tgName 5] (.tup [.int (k : Nat), encO none]) [N, S, .ow (.lst []), .ow (.lst (T.map D.int)), x4, x5] = some [N, S, .ow (.lst []), .ow (.lst (T.map D.int)), .fz (.int (k : Nat)), .fz (encO none)] := by
      generalize encO none = q
      simp [tgs, -notBo_eq, notBo_list, h4, h5]
    obtain ⟨E', st⟩ := ru_fail (N := N) (S := S) (T := T.map D.int) (i := (k : Nat))
    rw [runM]
    refine ⟨(k : Nat), E', ?_⟩
    rw [enumO, List.map_nil, forLoop_cons, tg]
    simp only [st]
  | none :: e, k, a :: L, T, x4, x5, hl, h4, h5 => by
    simp only [List.length_cons] at hl
    have tg : tgTup [tgName 4, tgName 5] (.tup [.int (k : Nat), encO none]) [N, S, .ow (.lst ((a :: L).map D.int)), .ow (.lst (T.map D.int)), x4, x5] = some [N, S, .ow (.lst ((a :: L).map D.int)), .ow (.lst (T.map D.int)), .fz (.int (k : Nat)), .fz (encO none)] := by
      generalize encO none = q
      simp [tgs, -notBo_eq, notBo_list, h4, h5]
    have st := ru_rem (N := N) (S := S) (T := T.map D.int) (L := L) (a := a) (i := (k : Nat)) (by omega) (by rw [List.length_map]; omega)
    have ih := ru_loop (N := N) (S := S) (e := e) (k := k + 1) (L := L) (T := T ++ [a]) (x4 := .fz (.int (k : Nat))) (x5 := .fz (encO none)) (by
      rw [List.length_append]
      simp only [List.length_cons, List.length_nil]
      omega) rfl rfl
    rw [List.map_append] at ih
    rw [runM, enumO, fl_cons tg st]
    exact ih
end Law

namespace Law
open PySem PySem.Spec PyProof.Rows L2 M
/-! ### the law's run by positions -/
/-- the position of the first removal from nothing -/
def fidx : List (Option Int) → Nat → Option Nat
  | [], _ => none
  | some _ :: e, s => (fidx e (s + 1)).map (· + 1)
  | none :: _, 0 => some 0
  | none :: e, s + 1 => (fidx e s).map (· + 1)
def runI : Nat → List Int → List Int → List (Option Int) → Option (List Int) × List Int × Option Nat
  | _, L, T, [] => (some L, T, none)
  | k, L, T, some n :: e => runI (k + 1) (sortI (L ++ [n])) T e
  | k, [], T, none :: _ => (none, T, some k)
  | k, a :: L, T, none :: e => runI (k + 1) L (T ++ [a]) e
def encR (r : Option (List Int) × List Int × Option Nat) : List D := [match r.1 with | some L => .lst (L.map D.int) | none => .non, .lst (r.2.1.map D.int), match r.2.2 with | some i => .int (i : Nat) | none => .non]
theorem runI_idx : ∀ (e : List (Option Int)) (k : Nat) (L T : List Int), (runI k L T e).2.2 = (fidx e L.length).map (k + ·)
  | [], k, L, T => rfl
  | some n :: e, k, L, T => by
    rw [runI, runI_idx e, fidx, (sortI_perm _).length_eq, List.length_append, List.length_singleton, Option.map_map]
    congr 1
    funext i
    simp only [Function.comp]
    omega
  | none :: e, k, [], T => rfl
  | none :: e, k, a :: L, T => by
    rw [runI, runI_idx e, List.length_cons, fidx, Option.map_map]
    congr 1
    funext i
    simp only [Function.comp]
    omega
theorem runI_M : ∀ (e : List (Option Int)) (k : Nat) (L T : List Int), match runM L T e with
    | some (L', T') => runI k L T e = (some L', T', none)
    | none => (runI k L T e).1 = none
  | [], k, L, T => rfl
  | some n :: e, k, L, T => by
    rw [runM, runI]
    exact runI_M e _ _ _
  | none :: e, k, [], T => rfl
  | none :: e, k, a :: L, T => by
    rw [runM, runI]
    exact runI_M e _ _ _
abbrev rxB : SM := sSeq (sIf (tCmpM eqD (mBin ixD (mBin ixD (mVar 1) (mVar 4)) (mC (.int 0))) (mC (.str "insert"))) (sSeq (sSet 2 (mCall sortedE (aCons (mBin addD (mVar 2) (mLst (aCons (mBin ixD (mBin ixD (mVar 1) (mVar 4)) (mC (.int 1))) (aNil)))) (aNil)))) (sNil)) (sSeq (sIf (tCmpM eqD (mVar 2) (mLst (aNil))) (sSeq (sRet (mLst (aCons (mC .non) (aCons (mVar 3) (aCons (mVar 4) (aNil)))))) (sNil)) (sSeq (sDrop (mAppend 3 (mBin ixD (mVar 2) (mC (.int 0))))) (sSeq (sSet 2 (mSl (mVar 2) (oSome (mC (.int 1))) (oNone))) (sNil)))) (sNil))) (sNil)
section
variable {N : M.Slot} {Q T : List D} {L : List Int} {i n a : Int}
theorem rx_ins (h : L.length < 4000) (ix : ixD (.lst Q) (.int i) = some (.fz (encO (some n)))) : rxB [N, .fz (.lst Q), .ow (.lst (L.map D.int)), .ow (.lst T), .fz (.int i)] = .nx [N, .fz (.lst Q), .ow (.lst ((sortI (L ++ [n])).map D.int)), .ow (.lst T), .fz (.int i)] := by
  have ml : maxLen = 16777216 := rfl
  have q := ru_ii
  have so := sortedE_of (L ++ [n])
  have ac := addL_ll (L.map D.int) [.int n] (by rw [List.length_map]; simp only [List.length_cons, List.length_nil]; omega)
  have sm : (L ++ [n]).map D.int = L.map D.int ++ [.int n] := by simp
  rw [sm] at so
  have i0 := jx0 (.str "insert") [.int n, .int 1]
  have i1 := jx1 (.str "insert") (.int n) [.int 1]
  clear sm
  generalize (sortI (L ++ [n])).map D.int = Y at *
  generalize L.map D.int ++ [D.int n] = Z at *
  generalize L.map D.int = W at *
  unfold encO at ix
  simp [ix, i0, i1, q, ac, so, maxLen1]
theorem rx_rem (h : L.length < 4000) (hT : T.length < 4000) (ix : ixD (.lst Q) (.int i) = some (.fz (encO none))) : rxB [N, .fz (.lst Q), .ow (.lst ((a :: L).map D.int)), .ow (.lst T), .fz (.int i)] = .nx [N, .fz (.lst Q), .ow (.lst (L.map D.int)), .ow (.lst (T ++ [.int a])), .fz (.int i)] := by
  have ml : maxLen = 16777216 := rfl
  have q := ru_ri
  have i0 := jx0 (.str "remove") [.int 1]
  have e1 := eq_nil1 a L
  have z0 : 0 ≤ maxLen := Nat.zero_le _
  have sd : slD (.lst ((a :: L).map D.int)) (some 1) none = some (.ow (.lst (L.map D.int))) := by
    have c := cut_lo ((a :: L).map D.int) 1
    rw [List.map_cons, List.drop_succ_cons, List.drop_zero] at c
    rw [List.map_cons]
    show some (RV.ow (.lst (M.cutD (.int a :: L.map D.int) (some ((1 : Nat) : Int)) none))) = _
    rw [c]
  have x0 : ixD (.lst ((a :: L).map D.int)) (.int 0) = some (.fz (.int a)) := lx0 _ _
  have hT' : T.length < maxLen := by omega
  generalize (a :: L).map D.int = W at *
  generalize L.map D.int = Y at *
  unfold encO at ix
  simp [ix, i0, q, e1, sd, x0, z0, hT']
theorem rx_fail (ix : ixD (.lst Q) (.int i) = some (.fz (encO none))) : ∃ E', rxB [N, .fz (.lst Q), .ow (.lst []), .ow (.lst T), .fz (.int i)] = .rt (.ow (.lst [.non, .lst T, .int i])) E' := by
  have q := ru_ri
  have i0 := jx0 (.str "remove") [.int 1]
  have z0 : 0 ≤ maxLen := Nat.zero_le _
  unfold encO at ix
  exact ⟨_, by simp [ix, i0, q, eq_nil0, maxLen3, z0]; rfl⟩
end
theorem rx_loop {N : M.Slot} {E : List (Option Int)} : ∀ (e : List (Option Int)) (k : Nat) (L T : List Int) (x4 : M.Slot), E.drop k = e → L.length + T.length + e.length < 3000 → nbS (some x4) = true →
    (∃ y4 L' T', runI k L T e = (some L', T', none) ∧ forLoop (tgName 4) rxB ((List.range' k e.length).map fun i => .int (i : Nat)) [N, .fz (.lst (E.map encO)), .ow (.lst (L.map D.int)), .ow (.lst (T.map D.int)), x4] = .nx [N, .fz (.lst (E.map encO)), .ow (.lst (L'.map D.int)), .ow (.lst (T'.map D.int)), y4]) ∨
    (∃ E' T' i, runI k L T e = (none, T', some i) ∧ forLoop (tgName 4) rxB ((List.range' k e.length).map fun i => .int (i : Nat)) [N, .fz (.lst (E.map encO)), .ow (.lst (L.map D.int)), .ow (.lst (T.map D.int)), x4] = .rt (.ow (.lst (encR (none, T', some i)))) E')
  | [], k, L, T, x4, hd, hl, h4 => .inl ⟨x4, L, T, rfl, rfl⟩
  | x :: e, k, L, T, x4, hd, hl, h4 => by
    rw [List.length_cons] at hl
    have ek : E[k]? = some x := by
      have := congrArg (·[0]?) hd
      simpa using this
    have ix : ixD (.lst (E.map encO)) (.int (k : Nat)) = some (.fz (encO x)) := ixL_of (by rw [List.getElem?_map, ek]; rfl)
    have hd' : E.drop (k + 1) = e := by
      have := congrArg (List.drop 1) hd
      rw [List.drop_drop, List.drop_one, List.tail_cons] at this
      exact this
    rw [List.length_cons, List.range'_succ, List.map_cons]
    cases x with
    | some n =>
      rw [fl_cons (tg_set rfl h4) (rx_ins (by omega) ix), runI]
      exact rx_loop e (k + 1) (sortI (L ++ [n])) T (.fz (.int (k : Nat))) hd' (by
        rw [(sortI_perm _).length_eq, List.length_append, List.length_singleton]
        omega) rfl
    | none =>
      cases L with
      | nil =>
        obtain ⟨E', st⟩ := rx_fail (N := N) (T := T.map D.int) ix
        refine .inr ⟨E', T, k, rfl, ?_⟩
        rw [forLoop_cons, tg_set rfl h4]
        simp only
        have : [N, Slot.fz (.lst (E.map encO)), .ow (.lst (([] : List Int).map D.int)), .ow (.lst (T.map D.int)), x4].set 4 (.fz (.int (k : Nat))) = [N, .fz (.lst (E.map encO)), .ow (.lst []), .ow (.lst (T.map D.int)), .fz (.int (k : Nat))] := rfl
        rw [this, st]
        rfl
      | cons a L =>
        rw [List.length_cons] at hl
        rw [fl_cons (tg_set rfl h4) (rx_rem (by omega) (by rw [List.length_map]; omega) ix), runI]
        have := rx_loop (N := N) e (k + 1) L (T ++ [a]) (.fz (.int (k : Nat))) hd' (by
          rw [List.length_append, List.length_singleton]
          omega) rfl
        rw [List.map_append] at this
        exact this
theorem rx_s1 {LD SD : List D} {Q : D} (so : sortedE [.lst LD] = some (.ow (.lst SD))) (z : SM) : sSeq (sSet 2 (mCall sortedE (aCons (mVar 0) (aNil)))) z [.fz (.lst LD), .fz Q, .un, .un, .un] = z [.fz (.lst LD), .fz Q, .ow (.lst SD), .un, .un] := by
  simp [so]
theorem rx_s2 {LD SD : List D} {Q : D} (z : SM) : sSeq (sSet 3 (mLst (aNil))) z [.fz (.lst LD), .fz Q, .ow (.lst SD), .un, .un] = z [.fz (.lst LD), .fz Q, .ow (.lst SD), .ow (.lst []), .un] := by
  have z0 : 0 ≤ maxLen := Nat.zero_le _
  simp [z0]
theorem rx_end {LD SD TD : List D} {Q : D} {x : M.Slot} : sSeq (sRet (mLst (aCons (mVar 2) (aCons (mVar 3) (aCons (mC .non) (aNil)))))) sNil [.fz (.lst LD), .fz Q, .ow (.lst SD), .ow (.lst TD), x] = .rt (.ow (.lst [.lst SD, .lst TD, .non])) [.fz (.lst LD), .fz Q, .fz (.lst SD), .fz (.lst TD), x] := by
  simp [maxLen3]
theorem rx_bad {IR : IM} {B z : SM} {E E' : Ev} {ds : List D} {r : RV} (en : IR E = .ok ds E) (lp : forLoop (tgName 4) B ds E = .rt r E') : sSeq (sFor IR (tgName 4) B) z E = .rt r E' := by
  simp [en, lp]
theorem rx_en {LD SD TD Q : List D} {n : Nat} (h : n < 3000) (lq : lenD [.lst Q] = some (.fz (.int (n : Nat)))) : iRange1 (mCall lenD (aCons (mVar 1) (aNil))) [.fz (.lst LD), .fz (.lst Q), .ow (.lst SD), .ow (.lst TD), .un] = .ok ((List.range n).map fun i => .int (i : Nat)) [.fz (.lst LD), .fz (.lst Q), .ow (.lst SD), .ow (.lst TD), .un] := range1_nat (n := n) (r := .fz (.int (n : Nat))) (by simp [lq]) rfl (by omega)
theorem rx_one {LD SD Q : List D} {ds : List D} {r : List D} (so : sortedE [.lst LD] = some (.ow (.lst SD))) (en : iRange1 (mCall lenD (aCons (mVar 1) (aNil))) [.fz (.lst LD), .fz (.lst Q), .ow (.lst SD), .ow (.lst []), .un] = .ok ds [.fz (.lst LD), .fz (.lst Q), .ow (.lst SD), .ow (.lst []), .un])
    (lp : (∃ S' T' x, r = [.lst S', .lst T', .non] ∧ forLoop (tgName 4) rxB ds [.fz (.lst LD), .fz (.lst Q), .ow (.lst SD), .ow (.lst []), .un] = .nx [.fz (.lst LD), .fz (.lst Q), .ow (.lst S'), .ow (.lst T'), x]) ∨ (∃ E', forLoop (tgName 4) rxB ds [.fz (.lst LD), .fz (.lst Q), .ow (.lst SD), .ow (.lst []), .un] = .rt (.ow (.lst r)) E')) :
    (F__law_run [.fz (.lst LD), .fz (.lst Q)]).rx = .ok (.ow (.lst r)) := by
  rcases lp with ⟨S', T', x, rfl, lp⟩ | ⟨E', lp⟩
  · refine congrArg Res.rx (run_rt (n := 5) (as := [.fz (.lst LD), .fz (.lst Q)]) (E := [.fz (.lst LD), .fz (.lst Q), .fz (.lst S'), .fz (.lst T'), x]) ?_)
    show b__law_run [.fz (.lst LD), .fz (.lst Q), .un, .un, .un] = _
    unfold b__law_run
    rw [rx_s1 so, rx_s2, for_nx en lp, rx_end]
  · refine congrArg Res.rx (run_rt (n := 5) (as := [.fz (.lst LD), .fz (.lst Q)]) (E := E') ?_)
    show b__law_run [.fz (.lst LD), .fz (.lst Q), .un, .un, .un] = _
    unfold b__law_run
    rw [rx_s1 so, rx_s2]
    exact rx_bad en lp
theorem runx_eval {L : List Int} {e : List (Option Int)} (hl : L.length + e.length < 3000) : (F__law_run [.fz (.lst (L.map D.int)), .fz (.lst (e.map encO))]).rx = .ok (.ow (.lst (encR (runI 0 (sortI L) [] e)))) := by
  have lp := rx_loop (N := .fz (.lst (L.map D.int))) (E := e) e 0 (sortI L) [] .un rfl (by
    rw [(sortI_perm _).length_eq]
    simpa using hl) rfl
  rw [← List.range_eq_range', List.map_nil] at lp
  have lq : lenD [.lst (e.map encO)] = some (.fz (.int (e.length : Nat))) := by simp [lenD]
  refine rx_one (sortedE_of L) (rx_en (by omega) lq) ?_
  rcases lp with ⟨y4, L', T', hr, lp⟩ | ⟨E', T', i, hr, lp⟩
  · exact .inl ⟨_, _, _, by rw [hr]; rfl, lp⟩
  · exact .inr ⟨_, by rw [hr]; exact lp⟩
end Law

namespace Law
open PySem PySem.Spec PyProof.Rows L2 M
/-! ### small drawn programs: their elementary steps -/
mutual
def RqS : Nat → Stp → Prop
  | _, .ins n k => -2 ≤ n ∧ n ≤ 3 ∧ 0 ≤ k ∧ k ≤ 2
  | _, .rem k => 0 ≤ k ∧ k ≤ 2
  | 0, .rep _ _ _ => False
  | d + 1, .rep x k q => x = true ∧ 0 ≤ k ∧ k ≤ 3 ∧ q.length ≤ 3 ∧ RqL d q
def RqL : Nat → List Stp → Prop
  | _, [] => True
  | d, s :: p => RqS d s ∧ RqL d p
end
def qB (d : Nat) : Int := 2 * 9 ^ d
theorem qB_succ (d : Nat) : qB (d + 1) = 9 * qB d := by
  unfold qB
  rw [Int.pow_succ]
  omega
theorem qB_ge : ∀ d, 2 ≤ qB d
  | 0 => by decide
  | d + 1 => by
    have := qB_ge d
    rw [qB_succ]
    omega
theorem qB_le {d : Nat} (h : d ≤ 3) : qB d ≤ 1458 := by
  have : d = 0 ∨ d = 1 ∨ d = 2 ∨ d = 3 := by omega
  rcases this with rfl | rfl | rfl | rfl <;> decide
theorem mul_le3 {k x B : Int} (k0 : 0 ≤ k) (k3 : k ≤ 3) (x0 : 0 ≤ x) (h : x ≤ 3 * B) : k * x ≤ 9 * B := by
  have a : k * x ≤ 3 * x := Int.mul_le_mul_of_nonneg_right k3 x0
  omega
structure QS (d : Nat) (s : Stp) : Prop where
  t1 : 0 ≤ (totS s).1 ∧ (totS s).1 ≤ qB d
  t2 : 0 ≤ (totS s).2 ∧ (totS s).2 ≤ qB d
  ln : ((exO s).length : Int) ≤ qB d
  ok : okS s
  rg : rgS (-4) 4 s
  dp : depS s ≤ d
structure QL (d : Nat) (p : List Stp) : Prop where
  t1 : 0 ≤ (totL p).1 ∧ (totL p).1 ≤ p.length * qB d
  t2 : 0 ≤ (totL p).2 ∧ (totL p).2 ≤ p.length * qB d
  ln : ((exP p).length : Int) ≤ p.length * qB d
  ok : okL p
  rg : rgP (-4) 4 p
  dp : depL p ≤ d
theorem rep_flat_len (k : Nat) (l : List (Option Int)) : (List.replicate k l).flatten.length = k * l.length := by
  induction k with
  | zero => simp
  | succ k ih => rw [List.replicate_succ, List.flatten_cons, List.length_append, ih, Nat.succ_mul]; omega
theorem len3 {p : List Stp} {d : Nat} (h : p.length ≤ 3) {x : Int} (hx : x ≤ p.length * qB d) : x ≤ 3 * qB d := by
  have := qB_ge d
  have e : (p.length : Int) * qB d ≤ 3 * qB d := Int.mul_le_mul_of_nonneg_right (by omega) (by omega)
  omega
theorem bB_big : 10000 < bB := by decide +kernel
mutual
theorem qs_ok : ∀ {d : Nat} {s : Stp}, d ≤ 3 → RqS d s → QS d s
  | d, .ins n k, hd, h => by
    unfold RqS at h
    have b := qB_ge d
    exact ⟨by rw [totS]; simp only; omega, by rw [totS]; simp only; omega, by rw [exO, List.length_replicate]; omega, by rw [okS]; omega, by rw [rgS]; omega, by rw [depS]; omega⟩
  | d, .rem k, hd, h => by
    unfold RqS at h
    have b := qB_ge d
    exact ⟨by rw [totS]; simp only; omega, by rw [totS]; simp only; omega, by rw [exO, List.length_replicate]; omega, by rw [okS]; omega, by rw [rgS]; trivial, by rw [depS]; omega⟩
  | 0, .rep x k q, hd, h => by unfold RqS at h; exact h.elim
  | d + 1, .rep x k q, hd, h => by
    unfold RqS at h
    obtain ⟨_, k0, k3, lq, hq⟩ := h
    have Q := ql_ok (by omega) hq
    have b := qB_ge d
    have bl := qB_le (d := d) (by omega)
    have big := bB_big
    have a1 := len3 lq Q.t1.2
    have a2 := len3 lq Q.t2.2
    have a3 := len3 lq Q.ln
    have m1 := mul_le3 k0 k3 Q.t1.1 a1
    have m2 := mul_le3 k0 k3 Q.t2.1 a2
    have m3 := mul_le3 k0 k3 (show (0 : Int) ≤ ((exP q).length : Int) by omega) a3
    have dq := Q.dp
    refine ⟨by rw [totS, qB_succ]; exact ⟨Int.mul_nonneg k0 Q.t1.1, m1⟩, by rw [totS, qB_succ]; exact ⟨Int.mul_nonneg k0 Q.t2.1, m2⟩, ?_, by rw [okS]; exact ⟨k0, by omega, by omega, by omega, by omega, Q.ok⟩, by rw [rgS]; exact Q.rg, by rw [depS]; omega⟩
    rw [exO, rep_flat_len, Int.natCast_mul, Int.toNat_of_nonneg k0, qB_succ]
    exact m3
theorem ql_ok : ∀ {d : Nat} {p : List Stp}, d ≤ 3 → RqL d p → QL d p
  | d, [], hd, h => ⟨by rw [totL]; simp, by rw [totL]; simp, by rw [exP]; simp, by rw [okL]; trivial, by rw [rgP]; trivial, by rw [depL]; omega⟩
  | d, s :: p, hd, h => by
    unfold RqL at h
    have S := qs_ok hd h.1
    have Q := ql_ok hd h.2
    have a := S.t1; have b := S.t2; have c := S.ln; have e := Q.t1; have f := Q.t2; have g := Q.ln; have d1 := S.dp; have d2 := Q.dp
    have m : ((s :: p).length : Int) * qB d = p.length * qB d + qB d := by rw [List.length_cons, Int.natCast_add, Int.add_mul]; omega
    refine ⟨by rw [totL, m]; simp only; omega, by rw [totL, m]; simp only; omega, by rw [exP, List.length_append, Int.natCast_add, m]; omega, by rw [okL]; exact ⟨S.ok, Q.ok⟩, by rw [rgP]; exact ⟨S.rg, Q.rg⟩, by rw [depL]; omega⟩
end
theorem mul_lst {l : List D} {k : Int} (h0 : 0 ≤ k) (h : k < 2 ^ 63) (hl : l.length * k.toNat ≤ maxLen) : mulD (.lst l) (.int k) = some (.ow (.lst (List.replicate k.toNat l).flatten)) := by
  have e1 : decide (-(2 ^ 63) ≤ k) = true := by rw [decide_eq_true_eq]; omega
  have e2 : decide (k < 2 ^ 63) = true := by rw [decide_eq_true_eq]; exact h
  have e3 : decide (l.length * k.toNat ≤ maxLen) = true := by rw [decide_eq_true_eq]; exact hl
  simp only [mulD, orO2, mulI, oI, mulL, e1, e2, e3, Bool.and_self, if_true]
theorem rep_one (k : Nat) (d : D) : (List.replicate k [d]).flatten = List.replicate k d := by
  induction k with
  | zero => rfl
  | succ k ih => rw [List.replicate_succ, List.flatten_cons, ih, List.replicate_succ]; rfl
theorem map_flat (k : Nat) (l : List (Option Int)) : (List.replicate k l).flatten.map encO = (List.replicate k (l.map encO)).flatten := by
  induction k with
  | zero => rfl
  | succ k ih => rw [List.replicate_succ, List.flatten_cons, List.map_append, ih, List.replicate_succ, List.flatten_cons]
theorem qe_ir : eqD (.str "insert") (.str "repeat") = some (.fz (.bl false)) := by kernel_rfl
theorem qe_rr : eqD (.str "remove") (.str "repeat") = some (.fz (.bl false)) := by kernel_rfl
theorem qe_pp : eqD (.str "repeat") (.str "repeat") = some (.fz (.bl true)) := by kernel_rfl
abbrev exB (R0 : FM) : SM := sSeq (sIf (tCmpM eqD (mBin ixD (mVar 2) (mC (.int 0))) (mC (.str "repeat"))) (sSeq (sSet 1 (mBin addD (mVar 1) (mBin mulD (mFnD R0 [] (aCons (mBin ixD (mVar 2) (mC (.int 2))) (aNil))) (mBin ixD (mVar 2) (mC (.int 1)))))) (sNil)) (sSeq (sSet 1 (mBin addD (mVar 1) (mBin mulD (mLst (aCons (mBin addD (mSl (mVar 2) (oNone) (oSome (mUn negI (mC (.int 1))))) (mTup (aCons (mC (.int 1)) (aNil)))) (aNil))) (mBin ixD (mVar 2) (mUn negI (mC (.int 1))))))) (sNil))) (sNil)
section
variable {R0 : FM} {P Q : D} {F G X : List D} {n k : Int}
theorem ex_ins (k0 : 0 ≤ k) (k1 : k ≤ 100) (hF : F.length < 10000) : exB R0 [.fz P, .ow (.lst F), .fz (encS (.ins n k))] = .nx [.fz P, .ow (.lst (F ++ (exO (.ins n k)).map encO)), .fz (encS (.ins n k))] := by
  have ml : maxLen = 16777216 := rfl
  have ng : negI (.int 1) = some (.fz (.int (-1))) := rfl
  have sl : slD (.tup [.str "insert", .int n, .int k]) none (some (-1)) = some (.fz (.tup [.str "insert", .int n])) := rfl
  have ix : ixD (.tup [.str "insert", .int n, .int k]) (.int (-1)) = some (.fz (.int k)) := rfl
  have ad : addD (.tup [.str "insert", .int n]) (.tup [.int 1]) = some (.fz (.tup [.str "insert", .int n, .int 1])) := rfl
  have mu := mul_lst (l := [.tup [.str "insert", .int n, .int 1]]) (k := k) k0 (by omega) (by simp only [List.length_cons, List.length_nil]; omega)
  rw [rep_one] at mu
  have ap := addL_ll F (List.replicate k.toNat (.tup [.str "insert", .int n, .int 1])) (by rw [List.length_replicate]; omega)
  rw [exO, List.map_replicate, encS, encO]
  generalize List.replicate k.toNat (D.tup [.str "insert", .int n, .int 1]) = R at *
  simp [exB, ix0, qe_ir, ng, sl, ix, ad, mu, ap, maxLen1]
theorem ex_rem (k0 : 0 ≤ k) (k1 : k ≤ 100) (hF : F.length < 10000) : exB R0 [.fz P, .ow (.lst F), .fz (encS (.rem k))] = .nx [.fz P, .ow (.lst (F ++ (exO (.rem k)).map encO)), .fz (encS (.rem k))] := by
  have ml : maxLen = 16777216 := rfl
  have ng : negI (.int 1) = some (.fz (.int (-1))) := rfl
  have sl : slD (.tup [.str "remove", .int k]) none (some (-1)) = some (.fz (.tup [.str "remove"])) := rfl
  have ix : ixD (.tup [.str "remove", .int k]) (.int (-1)) = some (.fz (.int k)) := rfl
  have ad : addD (.tup [.str "remove"]) (.tup [.int 1]) = some (.fz (.tup [.str "remove", .int 1])) := rfl
  have mu := mul_lst (l := [.tup [.str "remove", .int 1]]) (k := k) k0 (by omega) (by simp only [List.length_cons, List.length_nil]; omega)
  rw [rep_one] at mu
  have ap := addL_ll F (List.replicate k.toNat (.tup [.str "remove", .int 1])) (by rw [List.length_replicate]; omega)
  rw [exO, List.map_replicate, encS, encO]
  generalize List.replicate k.toNat (D.tup [.str "remove", .int 1]) = R at *
  simp [exB, ix0, qe_rr, ng, sl, ix, ad, mu, ap, maxLen1]
theorem ex_rep (r : (R0 [.fz Q]).rx = .ok (.ow (.lst G))) (mu : mulD (.lst G) (.int k) = some (.ow (.lst X))) (hF : F.length + X.length ≤ maxLen) : exB R0 [.fz P, .ow (.lst F), .fz (.tup [.str "repeat", .int k, Q])] = .nx [.fz P, .ow (.lst (F ++ X)), .fz (.tup [.str "repeat", .int k, Q])] := by
  have ap := addL_ll F X hF
  simp [exB, ix0, ix1, ixS2, qe_pp, r, mu, ap]
end
end Law

namespace Law
open PySem PySem.Spec PyProof.Rows L2 M
/-! ### data fit to be shown -/
structure Shw (d : D) (n k : Nat) : Prop where
  lay : (py d).canLay0 = true
  sh : (py d).showable = true
  dep : (py d).depth ≤ k
  bulk : (py d).bulk ≤ n
  nd : (py d).hasDict = false
  tx : txts (py d) = true
theorem Shw.mono {d : D} {n k n' k' : Nat} (h : Shw d n k) (a : n ≤ n') (b : k ≤ k') : Shw d n' k' := ⟨h.lay, h.sh, Nat.le_trans h.dep b, Nat.le_trans h.bulk a, h.nd, h.tx⟩
theorem shw_all {n k : Nat} : ∀ {l : List D}, (∀ e ∈ l, Shw e n k) → PyData.canLayAll0 (pys l) = true ∧ PyData.showableAll (pys l) = true ∧ PyData.depthAll (pys l) ≤ k ∧ PyData.bulkAll (pys l) ≤ (n + 2) * l.length ∧ PyData.hasDictAll (pys l) = false ∧ txtsAll (pys l) = true
  | [], _ => ⟨by simp [pys, PyData.canLayAll0], by simp [pys, PyData.showableAll], by simp [pys, PyData.depthAll], by simp [pys, PyData.bulkAll], by simp [pys, PyData.hasDictAll], by simp [pys, txtsAll]⟩
  | e :: l, h => by
    obtain ⟨k1, k2, k3, k4, k5, k6⟩ := shw_all fun e he => h e (List.mem_cons_of_mem _ he)
    obtain ⟨g1, g2, g3, g4, g5, g6⟩ := h e List.mem_cons_self
    rw [pys]
    refine ⟨by simp [PyData.canLayAll0, g1, k1], by simp [PyData.showableAll, g2, k2], by simp only [PyData.depthAll]; omega, ?_, by simp [PyData.hasDictAll, g5, k5], by simp [txtsAll, g6, k6]⟩
    simp only [PyData.bulkAll, List.length_cons, Nat.mul_succ]
    omega
theorem shw_lst {n k : Nat} {l : List D} (h : ∀ e ∈ l, Shw e n k) : Shw (.lst l) ((n + 2) * l.length + 4) (k + 1) ∧ Shw (.tup l) ((n + 2) * l.length + 4) (k + 1) ∧ Shw (.tux l) ((n + 2) * l.length + 4) (k + 1) := by
  obtain ⟨k1, k2, k3, k4, k5, k6⟩ := shw_all h
  refine ⟨⟨?_, ?_, ?_, ?_, ?_, ?_⟩, ⟨?_, ?_, ?_, ?_, ?_, ?_⟩, ⟨?_, ?_, ?_, ?_, ?_, ?_⟩⟩ <;> (first
    | (simp only [py, PyData.depth, PyData.bulk]; omega)
    | (simp only [py, PyData.canLay0, PyData.showable, PyData.hasDict, txts, k1, k2, k5, k6]))
theorem shw_int {i : Int} (h : i.natAbs < 2 ^ 200) : Shw (.int i) 4 1 := by
  have a : i.natAbs.log2 < 1920 := by
    by_cases z : i.natAbs = 0
    · rw [z]; decide
    · have := (Nat.log2_lt z).mpr (Nat.lt_of_lt_of_le h (Nat.pow_le_pow_right (by decide) (by decide : 200 ≤ 1900)))
      omega
  refine ⟨?_, ?_, ?_, ?_, ?_, ?_⟩ <;> simp [py, PyData.canLay0, PyData.showable, PyData.depth, PyData.bulk, PyData.hasDict, txts, a]
theorem shw_non : Shw .non 4 1 := by
  refine ⟨?_, ?_, ?_, ?_, ?_, ?_⟩ <;> simp [py, PyData.canLay0, PyData.showable, PyData.depth, PyData.bulk, PyData.hasDict, txts]
theorem shw_insert : Shw (.str "insert") 8 1 := ⟨by kernel_rfl, by kernel_rfl, by decide +kernel, by decide +kernel, by kernel_rfl, by decide +kernel⟩
theorem shw_remove : Shw (.str "remove") 8 1 := ⟨by kernel_rfl, by kernel_rfl, by decide +kernel, by decide +kernel, by kernel_rfl, by decide +kernel⟩
theorem Shw.rep {d : D} {n k : Nat} (h : Shw d n k) (hn : n ≤ 4000) (hk : k ≤ 60) : reprE [d] = some (.fz (.str (py d).shown)) ∧ plainD (.str (py d).shown) = true := by
  obtain ⟨h1, h2, h3, h4, h5, h6⟩ := h
  have r : reprOk (py d) = true := by
    simp only [reprOk, h1, h2, h5, Bool.true_and, Bool.not_false, Bool.and_true, Bool.and_eq_true, decide_eq_true_eq]
    exact ⟨by omega, by omega⟩
  refine ⟨?_, shown_plain h6⟩
  unfold reprE orO reprD
  simp [r]
theorem shw_encE {p : Int × Int} (h1 : p.1.natAbs < 2 ^ 200) (h2 : p.2.natAbs < 2 ^ 200) : Shw (encE p) 16 2 := (shw_lst (l := [.int p.1, .int p.2]) (n := 4) (k := 1) fun e he => by
  simp only [List.mem_cons, List.not_mem_nil, or_false] at he
  rcases he with rfl | rfl
  · exact shw_int h1
  · exact shw_int h2).2.1
theorem shw_encB {c : List (Int × Int)} {N : Nat} (h : ∀ p ∈ c, p.1.natAbs < 2 ^ 200 ∧ p.2.natAbs < 2 ^ 200) (hl : c.length ≤ N) : Shw (.tux (encB c)) (18 * N + 4) 3 := by
  have := (shw_lst (l := encB c) (n := 16) (k := 2) fun e he => by
    unfold encB at he
    obtain ⟨p, hp, rfl⟩ := List.mem_map.mp he
    obtain ⟨h1, h2⟩ := h p hp
    exact shw_encE h1 h2).2.2
  refine this.mono ?_ (by omega)
  have : (encB c).length = c.length := by unfold encB; rw [List.length_map]
  rw [this]
  omega
theorem shw_encO {o : Option Int} (h : ∀ n, o = some n → n.natAbs < 2 ^ 200) : Shw (encO o) 34 2 := by
  cases o with
  | none => exact ((shw_lst (l := [.str "remove", .int 1]) (n := 8) (k := 1) fun e he => by
      simp only [List.mem_cons, List.not_mem_nil, or_false] at he
      rcases he with rfl | rfl
      · exact shw_remove
      · exact (shw_int (by decide)).mono (by decide) (by decide)).2.1).mono (by decide) (by decide)
  | some n => exact ((shw_lst (l := [.str "insert", .int n, .int 1]) (n := 8) (k := 1) fun e he => by
      simp only [List.mem_cons, List.not_mem_nil, or_false] at he
      rcases he with rfl | rfl | rfl
      · exact shw_insert
      · exact (shw_int (h n rfl)).mono (by decide) (by decide)
      · exact (shw_int (by decide)).mono (by decide) (by decide)).2.1).mono (by simp) (by decide)
theorem shw_steps {e : List (Option Int)} (h : ∀ n, some n ∈ e → n.natAbs < 2 ^ 200) (hl : e.length ≤ 60) : Shw (.lst (e.map encO)) 3000 3 := by
  have := (shw_lst (l := e.map encO) (n := 34) (k := 2) fun d hd => by
    obtain ⟨o, ho, rfl⟩ := List.mem_map.mp hd
    exact shw_encO fun n z => h n (z ▸ ho)).1
  refine this.mono ?_ (by omega)
  rw [List.length_map]
  omega
theorem small25 {n B : Int} (b0 : -big25 ≤ B) (b1 : B ≤ big25) (h0 : B - 1000000 ≤ n) (h1 : n ≤ B + 1000000) : n.natAbs < 2 ^ 200 := by
  have : (2 : Nat) ^ 90 ≤ 2 ^ 200 := Nat.pow_le_pow_right (by decide) (by decide)
  refine Nat.lt_of_lt_of_le ?_ this
  have p : (2 : Nat) ^ 90 = 1237940039285380274899124224 := by decide
  rw [p]
  unfold big25 at *
  omega
theorem bagL_ent {L : List Int} {p : Int × Int} (h : p ∈ bagL L) : p.1 ∈ L ∧ 0 ≤ p.2 ∧ p.2 ≤ L.length := by
  unfold bagL at h
  obtain ⟨n, hn, rfl⟩ := List.mem_map.mp h
  refine ⟨mem_setI.mp hn, by simp, ?_⟩
  have := List.count_le_length (a := n) (l := L)
  simp only
  omega
theorem mul_rp {k : Int} {n : Nat} (hk : k = (n : Nat)) (h : n < 4000) (d : D) : mulD (.lst [d]) (.int k) = some (.ow (.lst (List.replicate n d))) := by
  have ml : maxLen = 16777216 := rfl
  have := fun (l : List D) (hl : l.length = 1) => mul_lst (l := l) (k := k) (by omega) (by omega) (by rw [hl]; omega)
  rw [this [d] rfl, rep_one, show k.toNat = n by omega]
end Law

namespace Law
open PySem PySem.Spec PyProof.Rows L2 M
/-! ### drawn programs over a base -/
mutual
def RzS (lo hi : Int) : Nat → Stp → Prop
  | _, .ins n k => lo ≤ n ∧ n ≤ hi ∧ 0 ≤ k ∧ k ≤ 2
  | _, .rem k => 0 ≤ k ∧ k ≤ 2
  | 0, .rep _ _ _ => False
  | d + 1, .rep x k q => 0 ≤ k ∧ k ≤ 5 ∧ q.length ≤ 3 ∧ RzL lo hi d q
def RzL (lo hi : Int) : Nat → List Stp → Prop
  | _, [] => True
  | d, s :: p => RzS lo hi d s ∧ RzL lo hi d p
end
def zB (d : Nat) : Int := 2 * 15 ^ d
theorem zB_succ (d : Nat) : zB (d + 1) = 15 * zB d := by
  unfold zB
  rw [Int.pow_succ]
  omega
theorem zB_ge : ∀ d, 2 ≤ zB d
  | 0 => by decide
  | d + 1 => by
    have := zB_ge d
    rw [zB_succ]
    omega
theorem zB_le {d : Nat} (h : d ≤ 2) : zB d ≤ 450 := by
  have : d = 0 ∨ d = 1 ∨ d = 2 := by omega
  rcases this with rfl | rfl | rfl <;> decide
theorem mul_le5 {k x B : Int} (k0 : 0 ≤ k) (k3 : k ≤ 5) (x0 : 0 ≤ x) (h : x ≤ 3 * B) : k * x ≤ 15 * B := by
  have a : k * x ≤ 5 * x := Int.mul_le_mul_of_nonneg_right k3 x0
  omega
structure ZS (lo hi : Int) (d : Nat) (s : Stp) : Prop where
  t1 : 0 ≤ (totS s).1 ∧ (totS s).1 ≤ zB d
  t2 : 0 ≤ (totS s).2 ∧ (totS s).2 ≤ zB d
  ln : ((exO s).length : Int) ≤ zB d
  ok : okS s
  rg : rgS lo hi s
  dp : depS s ≤ d
structure ZL (lo hi : Int) (d : Nat) (p : List Stp) : Prop where
  t1 : 0 ≤ (totL p).1 ∧ (totL p).1 ≤ p.length * zB d
  t2 : 0 ≤ (totL p).2 ∧ (totL p).2 ≤ p.length * zB d
  ln : ((exP p).length : Int) ≤ p.length * zB d
  ok : okL p
  rg : rgP lo hi p
  dp : depL p ≤ d
theorem rep_flat_lenz (k : Nat) (l : List (Option Int)) : (List.replicate k l).flatten.length = k * l.length := by
  induction k with
  | zero => simp
  | succ k ih => rw [List.replicate_succ, List.flatten_cons, List.length_append, ih, Nat.succ_mul]; omega
theorem len3z {p : List Stp} {d : Nat} (h : p.length ≤ 3) {x : Int} (hx : x ≤ p.length * zB d) : x ≤ 3 * zB d := by
  have := zB_ge d
  have e : (p.length : Int) * zB d ≤ 3 * zB d := Int.mul_le_mul_of_nonneg_right (by omega) (by omega)
  omega
theorem bB_bigz : 10000 < bB := by decide +kernel
mutual
theorem zs_ok : ∀ {lo hi : Int} {d : Nat} {s : Stp}, d ≤ 2 → RzS lo hi d s → ZS lo hi d s
  | lo, hi, d, .ins n k, hd, h => by
    unfold RzS at h
    have b := zB_ge d
    exact ⟨by rw [totS]; simp only; omega, by rw [totS]; simp only; omega, by rw [exO, List.length_replicate]; omega, by rw [okS]; omega, by rw [rgS]; omega, by rw [depS]; omega⟩
  | lo, hi, d, .rem k, hd, h => by
    unfold RzS at h
    have b := zB_ge d
    exact ⟨by rw [totS]; simp only; omega, by rw [totS]; simp only; omega, by rw [exO, List.length_replicate]; omega, by rw [okS]; omega, by rw [rgS]; trivial, by rw [depS]; omega⟩
  | lo, hi, 0, .rep x k q, hd, h => by unfold RzS at h; exact h.elim
  | lo, hi, d + 1, .rep x k q, hd, h => by
    unfold RzS at h
    obtain ⟨k0, k3, lq, hq⟩ := h
    have Q := zl_ok (by omega) hq
    have b := zB_ge d
    have bl := zB_le (d := d) (by omega)
    have big := bB_bigz
    have a1 := len3z lq Q.t1.2
    have a2 := len3z lq Q.t2.2
    have a3 := len3z lq Q.ln
    have m1 := mul_le5 k0 k3 Q.t1.1 a1
    have m2 := mul_le5 k0 k3 Q.t2.1 a2
    have m3 := mul_le5 k0 k3 (show (0 : Int) ≤ ((exP q).length : Int) by omega) a3
    have dq := Q.dp
    refine ⟨by rw [totS, zB_succ]; exact ⟨Int.mul_nonneg k0 Q.t1.1, m1⟩, by rw [totS, zB_succ]; exact ⟨Int.mul_nonneg k0 Q.t2.1, m2⟩, ?_, by rw [okS]; exact ⟨k0, by omega, by omega, by omega, by omega, Q.ok⟩, by rw [rgS]; exact Q.rg, by rw [depS]; omega⟩
    rw [exO, rep_flat_lenz, Int.natCast_mul, Int.toNat_of_nonneg k0, zB_succ]
    exact m3
theorem zl_ok : ∀ {lo hi : Int} {d : Nat} {p : List Stp}, d ≤ 2 → RzL lo hi d p → ZL lo hi d p
  | lo, hi, d, [], hd, h => ⟨by rw [totL]; simp, by rw [totL]; simp, by rw [exP]; simp, by rw [okL]; trivial, by rw [rgP]; trivial, by rw [depL]; omega⟩
  | lo, hi, d, s :: p, hd, h => by
    unfold RzL at h
    have S := zs_ok hd h.1
    have Q := zl_ok hd h.2
    have a := S.t1; have b := S.t2; have c := S.ln; have e := Q.t1; have f := Q.t2; have g := Q.ln; have d1 := S.dp; have d2 := Q.dp
    have m : ((s :: p).length : Int) * zB d = p.length * zB d + zB d := by rw [List.length_cons, Int.natCast_add, Int.add_mul]; omega
    refine ⟨by rw [totL, m]; simp only; omega, by rw [totL, m]; simp only; omega, by rw [exP, List.length_append, Int.natCast_add, m]; omega, by rw [okL]; exact ⟨S.ok, Q.ok⟩, by rw [rgP]; exact ⟨S.rg, Q.rg⟩, by rw [depL]; omega⟩
end
abbrev pgB (R0 : FM) : SM := sSeq (sSet 6 (mFnB F__law_draw 0 (aCons (mC (.int 5)) (aNil)))) (sSeq (sSet 7 (mTup (aCons (mC (.str "remove")) (aCons (mBin ixD (mLst (aCons (mC (.int 1)) (aCons (mC (.int 1)) (aCons (mC (.int 2)) (aCons (mC (.int 0)) (aNil)))))) (mFnB F__law_draw 0 (aCons (mC (.int 4)) (aNil)))) (aNil))))) (sSeq (sIf (tAndM (tCmpM eqD (mVar 6) (mC (.int 4))) (tCmpM gtI (mVar 1) (mC (.int 1)))) (sSeq (sSet 7 (mTup (aCons (mC (.str "repeat")) (aCons (mFnB F__law_draw 0 (aCons (mC (.int 3)) (aNil))) (aCons (mFnB R0 0 (aCons (mBin subI (mVar 1) (mC (.int 1))) (aCons (mVar 2) (aCons (mVar 3) (aNil))))) (aNil)))))) (sNil)) (sSeq (sIf (tCmpM eqD (mBin modI (mVar 6) (mC (.int 2))) (mC (.int 0))) (sSeq (sSet 7 (mTup (aCons (mC (.str "insert")) (aCons (mBin addD (mVar 2) (mFnB F__law_draw 0 (aCons (mVar 3) (aNil)))) (aCons (mBin ixD (mVar 7) (mC (.int 1))) (aNil)))))) (sNil)) (sNil)) (sNil))) (sSeq (sSet 4 (mBin addD (mVar 4) (mTup (aCons (mVar 7) (aNil))))) (sNil))))
theorem zL_app {lo hi : Int} {d : Nat} : ∀ {p : List Stp} {s : Stp}, RzL lo hi d p → RzS lo hi d s → RzL lo hi d (p ++ [s])
  | [], s, _, h => by rw [List.nil_append]; unfold RzL; exact ⟨h, by unfold RzL; trivial⟩
  | x :: p, s, ok, h => by
    unfold RzL at ok
    rw [List.cons_append]
    unfold RzL
    exact ⟨ok.1, zL_app ok.2 h⟩
theorem addT_tt (a b : List D) (h : (a ++ b).length ≤ maxLen) : addD (.tup a) (.tup b) = some (.fz (.tup (a ++ b))) := by
  rw [List.length_append] at h
  simp [addD, orO2, addI, oI, addL, addT, h]
theorem bare_tp (x : Bool) (l : List D) : bare (tp x l) = .tup l := by cases x <;> rfl
theorem snocL (acc : List Stp) (s : Stp) : encL (acc ++ [s]) = encL acc ++ [encS s] := by rw [encL_map, encL_map, List.map_append]; rfl
section
variable {R0 : FM} {m m1 m2 m3 m4 : MO} {d B w c i k r v : Int} {x : D} {A Q : List D} {t y : Bool} {z6 z7 : M.Slot}
theorem pg_rep (h6 : nbS (some z6) = true) (h7 : nbS (some z7) = true) (hl : A.length < 100) (d1 : (F__law_draw [.bo m, .fz (.int 5)]).rxb = .ok (.fz (.int 4)) m1) (d2 : (F__law_draw [.bo m1, .fz (.int 4)]).rxb = .ok (.fz (.int i)) m2) (ix : ixD (.lst [.int 1, .int 1, .int 2, .int 0]) (.int i) = some (.fz (.int k))) (hd : 1 < d)
    (d3 : (F__law_draw [.bo m2, .fz (.int 3)]).rxb = .ok (.fz (.int r)) m3) (e : (R0 [.bo m3, .fz (.int (d - 1)), .fz (.int B), .fz (.int w)]).rxb = .ok (.fz (tp y Q)) m4) :
    pgB R0 [.bo m, .fz (.int d), .fz (.int B), .fz (.int w), .fz (tp t A), .fz x, z6, z7] = .nx [.bo m4, .fz (.int d), .fz (.int B), .fz (.int w), .fz (.tup (A ++ [.tup [.str "repeat", .int r, tp y Q]])), .fz x, .fz (.int 4), .fz (.tup [.str "repeat", .int r, tp y Q])] := by
  have g := gt_ii d 1
  rw [decide_eq_true hd] at g
  have q := eq_ii 4 4
  rw [decide_eq_true rfl] at q
  have ml : maxLen = 16777216 := rfl
  have ad : addD (.tup A) (.tup [.tup [.str "repeat", .int r, tp y Q]]) = some (.fz (.tup (A ++ [.tup [.str "repeat", .int r, tp y Q]]))) := addT_tt _ _ (by rw [List.length_append]; simp only [List.length_cons, List.length_nil]; omega)
  have b := bare_tp t A
  generalize tp t A = TA at *
  generalize tp y Q = TQ at *
  generalize A ++ [D.tup [.str "repeat", .int r, TQ]] = W at *
  simp [pgB, -notBo_eq, notBo_list, h6, h7, d1, d2, ix, g, q, d3, e, sub_ii, ad, b, maxLen4, maxLen2, maxLen3, maxLen1]
theorem pg_t {z4 z5 z7 : M.Slot} (h : ¬ (c = 4 ∧ 1 < d)) : tAndM (tCmpM eqD (mVar 6) (mC (.int 4))) (tCmpM gtI (mVar 1) (mC (.int 1))) [.bo m, .fz (.int d), .fz (.int B), .fz (.int w), z4, z5, .fz (.int c), z7] = .ok false [.bo m, .fz (.int d), .fz (.int B), .fz (.int w), z4, z5, .fz (.int c), z7] := by
  have g := gt_ii d 1
  have q := eq_ii c 4
  by_cases h4 : c = 4
  · rw [decide_eq_true h4] at q
    rw [decide_eq_false fun z => h ⟨h4, z⟩] at g
    simp [q, g]
  · rw [decide_eq_false h4] at q
    simp [q]
theorem pg_ins (h6 : nbS (some z6) = true) (h7 : nbS (some z7) = true) (hl : A.length < 100) (d1 : (F__law_draw [.bo m, .fz (.int 5)]).rxb = .ok (.fz (.int c)) m1) (d2 : (F__law_draw [.bo m1, .fz (.int 4)]).rxb = .ok (.fz (.int i)) m2) (ix : ixD (.lst [.int 1, .int 1, .int 2, .int 0]) (.int i) = some (.fz (.int k))) (hd : ¬ (c = 4 ∧ 1 < d)) (hc : c % 2 = 0)
    (d3 : (F__law_draw [.bo m2, .fz (.int w)]).rxb = .ok (.fz (.int v)) m3) :
    pgB R0 [.bo m, .fz (.int d), .fz (.int B), .fz (.int w), .fz (tp t A), .fz x, z6, z7] = .nx [.bo m3, .fz (.int d), .fz (.int B), .fz (.int w), .fz (.tup (A ++ [.tup [.str "insert", .int (B + v), .int k]])), .fz x, .fz (.int c), .fz (.tup [.str "insert", .int (B + v), .int k])] := by
  have tt := pg_t (m := m2) (B := B) (w := w) (z4 := .fz (tp t A)) (z5 := .fz x) (z7 := .fz (.tup [.str "remove", .int k])) hd
  have mo : modI (.int c) (.int 2) = some (.fz (.int (c % 2))) := mod_ii (by decide)
  have q := eq_ii (c % 2) 0
  rw [decide_eq_true hc] at q
  have ml : maxLen = 16777216 := rfl
  have ad : addD (.tup A) (.tup [.tup [.str "insert", .int (B + v), .int k]]) = some (.fz (.tup (A ++ [.tup [.str "insert", .int (B + v), .int k]]))) := addT_tt _ _ (by rw [List.length_append]; simp only [List.length_cons, List.length_nil]; omega)
  have b := bare_tp t A
  have i1 : ixD (.tup [.str "remove", .int k]) (.int 1) = some (.fz (.int k)) := ix1 _ _ _
  generalize tp t A = TA at *
  generalize A ++ [D.tup [.str "insert", .int (B + v), .int k]] = W at *
  unfold pgB
  generalize tAndM (tCmpM eqD (mVar 6) (mC (.int 4))) (tCmpM gtI (mVar 1) (mC (.int 1))) = TT at *
  simp [ -notBo_eq, notBo_list, h6, h7, d1, d2, ix, tt, mo, q, d3, i1, add_ii, ad, b, maxLen4, maxLen2, maxLen3, maxLen1]
theorem pg_rem (h6 : nbS (some z6) = true) (h7 : nbS (some z7) = true) (hl : A.length < 100) (d1 : (F__law_draw [.bo m, .fz (.int 5)]).rxb = .ok (.fz (.int c)) m1) (d2 : (F__law_draw [.bo m1, .fz (.int 4)]).rxb = .ok (.fz (.int i)) m2) (ix : ixD (.lst [.int 1, .int 1, .int 2, .int 0]) (.int i) = some (.fz (.int k))) (hd : ¬ (c = 4 ∧ 1 < d)) (hc : ¬ c % 2 = 0) :
    pgB R0 [.bo m, .fz (.int d), .fz (.int B), .fz (.int w), .fz (tp t A), .fz x, z6, z7] = .nx [.bo m2, .fz (.int d), .fz (.int B), .fz (.int w), .fz (.tup (A ++ [.tup [.str "remove", .int k]])), .fz x, .fz (.int c), .fz (.tup [.str "remove", .int k])] := by
  have tt := pg_t (m := m2) (B := B) (w := w) (z4 := .fz (tp t A)) (z5 := .fz x) (z7 := .fz (.tup [.str "remove", .int k])) hd
  have mo : modI (.int c) (.int 2) = some (.fz (.int (c % 2))) := mod_ii (by decide)
  have q := eq_ii (c % 2) 0
  rw [decide_eq_false hc] at q
  have ml : maxLen = 16777216 := rfl
  have ad : addD (.tup A) (.tup [.tup [.str "remove", .int k]]) = some (.fz (.tup (A ++ [.tup [.str "remove", .int k]]))) := addT_tt _ _ (by rw [List.length_append]; simp only [List.length_cons, List.length_nil]; omega)
  have b := bare_tp t A
  generalize tp t A = TA at *
  generalize A ++ [D.tup [.str "remove", .int k]] = W at *
  unfold pgB
  generalize tAndM (tCmpM eqD (mVar 6) (mC (.int 4))) (tCmpM gtI (mVar 1) (mC (.int 1))) = TT at *
  simp [ -notBo_eq, notBo_list, h6, h7, d1, d2, ix, tt, mo, q, ad, b, maxLen4, maxLen2, maxLen3, maxLen1]
end
theorem ix4k {i : Int} (i0 : 0 ≤ i) (i1 : i < 4) : ∃ k : Int, 0 ≤ k ∧ k ≤ 2 ∧ ixD (.lst [.int 1, .int 1, .int 2, .int 0]) (.int i) = some (.fz (.int k)) := by
  have : i = 0 ∨ i = 1 ∨ i = 2 ∨ i = 3 := by omega
  rcases this with rfl | rfl | rfl | rfl
  · exact ⟨1, by decide, by decide, rfl⟩
  · exact ⟨1, by decide, by decide, rfl⟩
  · exact ⟨2, by decide, by decide, rfl⟩
  · exact ⟨0, by decide, by decide, rfl⟩
theorem pgz_ok {B w : Int} (w0 : 0 < w) (w1 : w ≤ 100) : ∀ n d : Nat, d + 1 ≤ n → ∀ m : MO, IsPool m → ∃ x p m', IsPool m' ∧ RzL B (B + w - 1) d p ∧ p.length ≤ 3 ∧ (G__law_program n 0 [.bo m, .fz (.int ((d : Nat) + 1)), .fz (.int B), .fz (.int w)]).rxb = .ok (.fz (tp x (encL p))) m'
  | 0, d, h, _, _ => by omega
  | n + 1, d, hn, m, hm => by
    show ∃ x p m', IsPool m' ∧ RzL B (B + w - 1) d p ∧ p.length ≤ 3 ∧ (runF 8 (b__law_program (G__law_program n 0)) [.bo m, .fz (.int ((d : Nat) + 1)), .fz (.int B), .fz (.int w)]).rxb = .ok (.fz (tp x (encL p))) m'
    have body : ∀ (x : D) (m : MO) (t : Bool) (acc : List Stp) (z6 z7 : M.Slot), IsPool m → acc.length + 1 ≤ 3 → nbS (some z6) = true → nbS (some z7) = true → ∃ m' s y6 y7, IsPool m' ∧ RzS B (B + w - 1) d s ∧ nbS (some y6) = true ∧ nbS (some y7) = true ∧
        pgB (G__law_program n 0) [.bo m, .fz (.int ((d : Nat) + 1)), .fz (.int B), .fz (.int w), .fz (tp t (encL acc)), .fz x, z6, z7] = .nx [.bo m', .fz (.int ((d : Nat) + 1)), .fz (.int B), .fz (.int w), .fz (tp false (encL (acc ++ [s]))), .fz x, y6, y7] := by
      intro x m t acc z6 z7 hm hl h6 h7
      obtain ⟨c, m1, p1, c0, c5, e1⟩ := drawS hm 5 (by decide) (by decide)
      obtain ⟨i, m2, p2, i0, i4, e2⟩ := drawS p1 4 (by decide) (by decide)
      obtain ⟨k, k0, k2, ix⟩ := ix4k i0 i4
      have el : (encL acc).length < 100 := by rw [encL_map, List.length_map]; omega
      by_cases h : c = 4 ∧ 1 < ((d : Nat) : Int) + 1
      · obtain ⟨rfl, hd⟩ := h
        obtain ⟨e, rfl⟩ : ∃ e, d = e + 1 := ⟨d - 1, by omega⟩
        obtain ⟨r, m3, p3, r0, r3, e3⟩ := drawS p2 3 (by decide) (by decide)
        obtain ⟨y, q, m4, p4, hq, lq, e4⟩ := pgz_ok w0 w1 n e (by omega) m3 p3
        have e4' : (G__law_program n 0 [.bo m3, .fz (.int (((e + 1 : Nat) : Int) + 1 - 1)), .fz (.int B), .fz (.int w)]).rxb = .ok (.fz (tp y (encL q))) m4 := by
          rw [show (((e + 1 : Nat) : Int) + 1 - 1) = ((e : Nat) : Int) + 1 by omega]
          exact e4
        refine ⟨m4, .rep y r q, .fz (.int 4), .fz (.tup [.str "repeat", .int r, tp y (encL q)]), p4, by unfold RzS; exact ⟨r0, by omega, lq, hq⟩, rfl, rfl, ?_⟩
        rw [snocL, encS]
        exact pg_rep h6 h7 el e1 e2 ix hd e3 e4'
      · by_cases hc : c % 2 = 0
        · obtain ⟨v, m3, p3, v0, v1, e3⟩ := drawS p2 w w0 (by omega)
          refine ⟨m3, .ins (B + v) k, .fz (.int c), .fz (.tup [.str "insert", .int (B + v), .int k]), p3, by unfold RzS; omega, rfl, rfl, ?_⟩
          rw [snocL, encS]
          exact pg_ins h6 h7 el e1 e2 ix h hc e3
        · refine ⟨m2, .rem k, .fz (.int c), .fz (.tup [.str "remove", .int k]), p2, by unfold RzS; omega, rfl, rfl, ?_⟩
          rw [snocL, encS]
          exact pg_rem h6 h7 el e1 e2 ix h hc
    have loop : ∀ (xs : List D) (m : MO) (t : Bool) (acc : List Stp) (y z6 z7 : M.Slot), IsPool m → RzL B (B + w - 1) d acc → acc.length + xs.length ≤ 3 → nbS (some y) = true → nbS (some z6) = true → nbS (some z7) = true → ∃ m' x p y' y6 y7, IsPool m' ∧ RzL B (B + w - 1) d p ∧ p.length ≤ 3 ∧
        forLoop (tgName 5) (pgB (G__law_program n 0)) xs [.bo m, .fz (.int ((d : Nat) + 1)), .fz (.int B), .fz (.int w), .fz (tp t (encL acc)), y, z6, z7] = .nx [.bo m', .fz (.int ((d : Nat) + 1)), .fz (.int B), .fz (.int w), .fz (tp x (encL p)), y', y6, y7] := by
      intro xs
      induction xs with
      | nil => intro m t acc y z6 z7 hm ha hl _ _ _; exact ⟨m, t, acc, y, z6, z7, hm, ha, by simpa using hl, rfl⟩
      | cons x xs ih =>
        intro m t acc y z6 z7 hm ha hl hy h6 h7
        rw [List.length_cons] at hl
        obtain ⟨m1, s, y6, y7, p1, hs, k6, k7, e1⟩ := body x m t acc z6 z7 hm (by omega) h6 h7
        obtain ⟨m', u, p, y', y6', y7', k1, k2, k3, k4⟩ := ih m1 false (acc ++ [s]) (.fz x) y6 y7 p1 (zL_app ha hs) (by rw [List.length_append, List.length_singleton]; omega) rfl k6 k7
        refine ⟨m', u, p, y', y6', y7', k1, k2, k3, ?_⟩
        rw [fl_cons (tg_set rfl hy) e1]
        exact k4
    obtain ⟨c, m1, p1, c0, c4, e1⟩ := drawS hm 4 (by decide) (by decide)
    obtain ⟨m', x, p, y', y6, y7, k1, k2, k3, k4⟩ := loop ((List.range c.toNat).map fun i => .int (i : Nat)) m1 true [] .un .un .un p1 (by unfold RzL; trivial) (by simp; omega) rfl rfl rfl
    refine ⟨x, p, m', k1, k2, k3, ?_⟩
    rw [encL] at k4
    have rg := range1_int (m := mFnB F__law_draw 0 (aCons (mC (.int 4)) (aNil))) (E := [.bo m, .fz (.int ((d : Nat) + 1)), .fz (.int B), .fz (.int w), .fz (.tux []), .un, .un, .un]) (E1 := [.bo m1, .fz (.int ((d : Nat) + 1)), .fz (.int B), .fz (.int w), .fz (.tux []), .un, .un, .un]) (r := .fz (.int c)) (j := c) (by simp [e1]) rfl (by omega) (by omega)
    have z0 : 0 ≤ maxLen := Nat.zero_le _
    have r : b__law_program (G__law_program n 0) [.bo m, .fz (.int ((d : Nat) + 1)), .fz (.int B), .fz (.int w), .un, .un, .un, .un] = .rt (.fz (tp x (encL p))) [.bo m', .fz (.int ((d : Nat) + 1)), .fz (.int B), .fz (.int w), .fz (tp x (encL p)), y', y6, y7] := by
      unfold b__law_program
      unfold pgB at k4
      rw [set_fz (E1 := [.bo m, .fz (.int ((d : Nat) + 1)), .fz (.int B), .fz (.int w), .un, .un, .un, .un]) (d := .tux []) (by kernel_rfl) rfl .un]
      simp only [List.set_cons_succ, List.set_cons_zero]
      rw [for_nx rg k4]
      generalize tp x (encL p) = P
      simp
    exact congrArg Res.rxb (run_rt (n := 8) (as := [.bo m, .fz (.int ((d : Nat) + 1)), .fz (.int B), .fz (.int w)]) r)
theorem expz_ok : ∀ {lo hi : Int} (n d : Nat), d + 1 ≤ n → d ≤ 2 → ∀ (x : Bool) (p : List Stp), RzL lo hi d p → p.length ≤ 3 → (G__law_expand n 0 [.fz (tp x (encL p))]).rx = .ok (.ow (.lst ((exP p).map encO)))
  | lo, hi, 0, d, h, _, _, _, _, _ => by omega
  | lo, hi, n + 1, d, hn, hd, x, p, hp, lp => by
    have ml : maxLen = 16777216 := rfl
    show (runF 3 (b__law_expand (G__law_expand n 0)) [.fz (tp x (encL p))]).rx = _
    have qb := zB_le hd
    have loop : ∀ (r : List Stp) (acc : List (Option Int)) (z0 : M.Slot), RzL lo hi d r → (acc.length : Int) + r.length * zB d ≤ 3 * zB d → nbS (some z0) = true →
        ∃ y, forLoop (tgName 2) (exB (G__law_expand n 0)) (encL r) [.fz (tp x (encL p)), .ow (.lst (acc.map encO)), z0] = .nx [.fz (tp x (encL p)), .ow (.lst ((acc ++ exP r).map encO)), y] := by
      intro r
      induction r with
      | nil => intro acc z0 _ _ _; exact ⟨z0, by rw [encL, forLoop_nil, exP, List.append_nil]⟩
      | cons s r ih =>
        intro acc z0 hr hl hx
        unfold RzL at hr
        have m : ((s :: r).length : Int) * zB d = r.length * zB d + zB d := by rw [List.length_cons, Int.natCast_add, Int.add_mul]; omega
        rw [m] at hl
        have S := zs_ok hd hr.1
        have sl := S.ln
        have rn : 0 ≤ (r.length : Int) * zB d := Int.mul_nonneg (by omega) (by have := zB_ge d; omega)
        have st : exB (G__law_expand n 0) [.fz (tp x (encL p)), .ow (.lst (acc.map encO)), .fz (encS s)] = .nx [.fz (tp x (encL p)), .ow (.lst ((acc.map encO) ++ (exO s).map encO)), .fz (encS s)] := by
          have hF : (acc.map encO).length < 10000 := by rw [List.length_map]; omega
          cases s with
          | ins a k =>
            have h := hr.1
            unfold RzS at h
            exact ex_ins h.2.2.1 (by omega) hF
          | rem k =>
            have h := hr.1
            unfold RzS at h
            exact ex_rem h.1 (by omega) hF
          | rep z k q =>
            have h := hr.1
            obtain ⟨e, rfl⟩ : ∃ e, d = e + 1 := by
              cases d with
              | zero => unfold RzS at h; exact h.elim
              | succ e => exact ⟨e, rfl⟩
            unfold RzS at h
            obtain ⟨k0, k3, lq, hq⟩ := h
            have Q := zl_ok (by omega) hq
            have ihq := expz_ok n e (by omega) (by omega) z q hq lq
            have ql := len3z lq Q.ln
            have qb' := zB_le (d := e) (by omega)
            have mu := mul_lst (l := (exP q).map encO) (k := k) k0 (by omega) (by
              rw [List.length_map]
              have a : (exP q).length ≤ 1350 := by omega
              have b : k.toNat ≤ 5 := by omega
              have := Nat.mul_le_mul a b
              omega)
            rw [← map_flat] at mu
            rw [encS]
            refine ex_rep ihq mu ?_
            rw [List.length_map, List.length_map]
            have : ((List.replicate k.toNat (exP q)).flatten.length : Int) ≤ zB (e + 1) := sl
            omega
        obtain ⟨y, h⟩ := ih (acc ++ exO s) (.fz (encS s)) hr.2 (by rw [List.length_append, Int.natCast_add]; omega) rfl
        refine ⟨y, ?_⟩
        rw [encL, fl_cons (tg_set rfl hx) st, ← List.map_append, h, exP, List.append_assoc]
    obtain ⟨y, lp⟩ := loop p [] .un hp (by
      have := zB_ge d
      have e : (p.length : Int) * zB d ≤ 3 * zB d := Int.mul_le_mul_of_nonneg_right (by omega) (by omega)
      simpa using e) rfl
    rw [List.nil_append, List.map_nil] at lp
    have is := iseq_tp (x := x) (l := encL p) (j := 0) (E := [.fz (tp x (encL p)), .ow (.lst []), .un]) rfl
    have z0 : 0 ≤ maxLen := Nat.zero_le _
    obtain ⟨E, r⟩ : ∃ E, b__law_expand (G__law_expand n 0) [.fz (tp x (encL p)), .un, .un] = .rt (.ow (.lst ((exP p).map encO))) E := by
      unfold b__law_expand
      rw [set_ow (mo := .lst []) (E1 := [.fz (tp x (encL p)), .un, .un]) (by simp [z0]) rfl .un]
      simp only [List.set_cons_succ, List.set_cons_zero]
      rw [for_nx is lp]
      generalize (exP p).map encO = Q
      generalize tp x (encL p) = P
      simp
    exact congrArg Res.rx (run_rt (n := 3) (as := [.fz (tp x (encL p))]) r)
end Law

namespace Law
open PySem PySem.Spec PyProof.Rows L2 M
/-! ### the course of a program: its length, its gain, its need; where it fails -/
def gainE : List (Option Int) → Int
  | [] => 0
  | some _ :: e => gainE e + 1
  | none :: e => gainE e - 1
theorem gain_app : ∀ a b : List (Option Int), gainE (a ++ b) = gainE a + gainE b
  | [], b => by simp [gainE]
  | some n :: a, b => by rw [List.cons_append, gainE, gainE, gain_app a b]; omega
  | none :: a, b => by rw [List.cons_append, gainE, gainE, gain_app a b]; omega
theorem need_app : ∀ a b : List (Option Int), needE (a ++ b) = max (needE a) (needE b - gainE a)
  | [], b => by
    have := needE_nn b
    simp only [List.nil_append, needE, gainE]
    omega
  | some n :: a, b => by rw [List.cons_append, needE, needE, gainE, need_app a b]; omega
  | none :: a, b => by rw [List.cons_append, needE, needE, gainE, need_app a b]; omega
theorem gain_le : ∀ e : List (Option Int), -(e.length : Int) ≤ gainE e ∧ gainE e ≤ e.length
  | [] => by simp [gainE]
  | some n :: e => by have := gain_le e; rw [gainE, List.length_cons]; omega
  | none :: e => by have := gain_le e; rw [gainE, List.length_cons]; omega
theorem need_le' : ∀ e : List (Option Int), needE e ≤ e.length
  | [] => by simp [needE]
  | some n :: e => by have := need_le' e; rw [needE, List.length_cons]; omega
  | none :: e => by have := need_le' e; rw [needE, List.length_cons]; omega
theorem need_gain : ∀ e : List (Option Int), -gainE e ≤ needE e
  | [] => by simp [needE, gainE]
  | some n :: e => by have := need_gain e; rw [needE, gainE]; omega
  | none :: e => by have := need_gain e; rw [needE, gainE]; omega
theorem gain_rep (l : List (Option Int)) : ∀ k : Nat, gainE (List.replicate k l).flatten = k * gainE l
  | 0 => by simp [gainE]
  | k + 1 => by
    rw [List.replicate_succ, List.flatten_cons, gain_app, gain_rep l k, Int.natCast_add, Int.add_mul]
    omega
theorem need_rep (l : List (Option Int)) : ∀ k : Nat, needE (List.replicate (k + 1) l).flatten = needE l + k * max (-gainE l) 0
  | 0 => by simp
  | k + 1 => by
    rw [List.replicate_succ, List.flatten_cons, need_app, need_rep l k, Int.natCast_add, Int.add_mul]
    have M0 : 0 ≤ max (-gainE l) 0 := by omega
    have X0 : 0 ≤ (k : Int) * max (-gainE l) 0 := Int.mul_nonneg (by omega) M0
    by_cases g : 0 ≤ gainE l
    · have z : max (-gainE l) 0 = 0 := by omega
      rw [z, Int.mul_zero]
      omega
    · generalize (k : Int) * max (-gainE l) 0 = X at *
      omega
theorem one_rep (x : Option Int) : ∀ k : Nat, gainE (List.replicate k x) = (match x with | some _ => (k : Int) | none => -(k : Int)) ∧ needE (List.replicate k x) = (match x with | some _ => 0 | none => (k : Int))
  | 0 => by cases x <;> simp [gainE, needE]
  | k + 1 => by
    obtain ⟨h1, h2⟩ := one_rep x k
    cases x with
    | some n =>
      simp only at h1 h2
      rw [List.replicate_succ, gainE, needE, h1, h2]
      constructor <;> simp only [] <;> omega
    | none =>
      simp only at h1 h2
      rw [List.replicate_succ, gainE, needE, h1, h2]
      constructor <;> simp only [] <;> omega
/-! where it fails -/
theorem fidx_none : ∀ {e : List (Option Int)} {s : Nat}, fidx e s = none ↔ needE e ≤ s
  | [], s => by simp [fidx, needE]
  | some n :: e, s => by
    rw [fidx, Option.map_eq_none_iff, fidx_none, needE]
    omega
  | none :: e, 0 => by
    have := needE_nn e
    rw [fidx, needE]
    simp only [reduceCtorEq, false_iff]
    omega
  | none :: e, s + 1 => by
    rw [fidx, Option.map_eq_none_iff, fidx_none, needE]
    omega
theorem fidx_no : ∀ {a b : List (Option Int)} {s : Nat}, ¬ needE a ≤ s → fidx (a ++ b) s = fidx a s
  | [], b, s, h => by simp [needE] at h
  | some n :: a, b, s, h => by
    rw [needE] at h
    rw [List.cons_append, fidx, fidx, fidx_no (by omega)]
  | none :: a, b, 0, h => rfl
  | none :: a, b, s + 1, h => by
    rw [needE] at h
    rw [List.cons_append, fidx, fidx, fidx_no (by omega)]
theorem fidx_yes : ∀ {a b : List (Option Int)} {s t : Nat}, needE a ≤ s → (t : Int) = s + gainE a → fidx (a ++ b) s = (fidx b t).map (a.length + ·)
  | [], b, s, t, h, ht => by
    have : t = s := by simp [gainE] at ht; omega
    subst this
    rw [List.nil_append]
    cases fidx b t <;> simp
  | some n :: a, b, s, t, h, ht => by
    rw [needE] at h
    rw [gainE] at ht
    rw [List.cons_append, fidx, fidx_yes (t := t) (by omega) (by omega), Option.map_map]
    congr 1
    funext i
    simp only [Function.comp, List.length_cons]
    omega
  | none :: a, b, 0, t, h, ht => by
    have := needE_nn a
    rw [needE] at h
    omega
  | none :: a, b, s + 1, t, h, ht => by
    rw [needE] at h
    rw [gainE] at ht
    rw [List.cons_append, fidx, fidx_yes (t := t) (by omega) (by omega), Option.map_map]
    congr 1
    funext i
    simp only [Function.comp, List.length_cons]
    omega
theorem fidx_rem : ∀ {k s : Nat}, s < k → fidx (List.replicate k none) s = some s
  | 0, s, h => by omega
  | k + 1, 0, h => rfl
  | k + 1, s + 1, h => by
    rw [List.replicate_succ, fidx, fidx_rem (by omega)]
    rfl
theorem rep_split (l : List (Option Int)) (t k : Nat) (h : t < k) : (List.replicate k l).flatten = (List.replicate t l).flatten ++ (l ++ (List.replicate (k - t - 1) l).flatten) := by
  have : k = t + (1 + (k - t - 1)) := by omega
  conv => lhs; rw [this, ← List.replicate_append_replicate, List.flatten_append, ← List.replicate_append_replicate, List.flatten_append]
  simp
theorem rep_len (k : Nat) (l : List (Option Int)) : (List.replicate k l).flatten.length = k * l.length := by
  induction k with
  | zero => simp
  | succ k ih => rw [List.replicate_succ, List.flatten_cons, List.length_append, ih, Nat.succ_mul]; omega
/-- the failing turn of a repeat -/
theorem fidx_turns {l : List (Option Int)} {k s : Nat} (h : ¬ needE (List.replicate k l).flatten ≤ s) : ∃ t u : Nat, t < k ∧ (u : Int) = s + t * gainE l ∧ ¬ needE l ≤ u ∧ (t : Int) = (if 0 ≤ (s : Int) - needE l then ((s : Int) - needE l) / (-gainE l) + 1 else 0) ∧ (0 ≤ (s : Int) - needE l → 0 < -gainE l) ∧ fidx (List.replicate k l).flatten s = (fidx l u).map (t * l.length + ·) := by
  have k0 : k ≠ 0 := by
    rintro rfl
    simp [needE] at h
  by_cases c : needE l ≤ s
  · have nr := need_rep l (k - 1)
    rw [show k - 1 + 1 = k by omega] at nr
    have g : gainE l < 0 := by
      by_cases g : 0 ≤ gainE l
      · exfalso
        have z : max (-gainE l) 0 = 0 := by omega
        rw [z, Int.mul_zero] at nr
        omega
      · omega
    have mg : max (-gainE l) 0 = -gainE l := by omega
    rw [mg] at nr
    generalize hq : ((s : Int) - needE l) / (-gainE l) = q
    have q0 : 0 ≤ q := by rw [← hq]; exact Int.ediv_nonneg (by omega) (by omega)
    have q1 : q * (-gainE l) ≤ (s : Int) - needE l := by
      rw [← hq]
      exact Int.ediv_mul_le _ (by omega)
    have q2 : (s : Int) - needE l < (q + 1) * (-gainE l) := by
      rw [← hq]
      exact Int.lt_ediv_add_one_mul_self _ (by omega)
    obtain ⟨j, rfl⟩ := Int.eq_ofNat_of_zero_le q0
    have jk : j < k - 1 := by
      apply Classical.byContradiction
      intro nj
      have a : ((k - 1 : Nat) : Int) * (-gainE l) ≤ (j : Int) * (-gainE l) := Int.mul_le_mul_of_nonneg_right (by omega) (by omega)
      omega
    have nj := need_rep l j
    rw [mg] at nj
    have gj := gain_rep l (j + 1)
    have e1 : ((j + 1 : Nat) : Int) * gainE l = -(((j : Int) + 1) * (-gainE l)) := by
      rw [Int.mul_neg, Int.neg_neg, Int.natCast_add]
      rfl
    have e2 : ((j : Int) + 1) * (-gainE l) = (j : Int) * (-gainE l) + (-gainE l) := by rw [Int.add_mul, Int.one_mul]
    have u0 : 0 ≤ (s : Int) + ((j + 1 : Nat) : Int) * gainE l := by
      have := need_gain l
      rw [e1, e2]
      omega
    obtain ⟨u, hu⟩ := Int.eq_ofNat_of_zero_le u0
    refine ⟨j + 1, u, by omega, hu.symm, ?_, ?_, fun _ => by omega, ?_⟩
    · rw [← hu, e1]
      omega
    · rw [if_pos (by omega)]
      omega
    · have nu : ¬ needE l ≤ u := by rw [← hu, e1]; omega
      rw [rep_split l (j + 1) k (by omega), fidx_yes (t := u) (by rw [nj]; omega) (by rw [gj]; exact hu.symm), fidx_no nu, rep_len]
  · refine ⟨0, s, by omega, by simp, c, by rw [if_neg (by omega)]; rfl, fun z => by omega, ?_⟩
    rw [rep_split l 0 k (by omega), List.replicate_zero, List.flatten_nil, List.nil_append, fidx_no c]
    cases fidx l s <;> simp
def crsD (e : List (Option Int)) : D := .tup [.int (e.length : Nat), .int (gainE e), .int (-needE e)]
def optD : Option Nat → D
  | some i => .int (i : Nat)
  | none => .non
abbrev crB (R0 : FM) : SM := (sSeq (sAsg (tgTup [tgName 6, tgName 7, tgName 8]) (mFnD R0 [] (aCons (mVar 5) (aCons (mVar 1) (aNil))))) (sSeq (sSet 4 (mCall min2D (aCons (mVar 4) (aCons (mBin addD (mVar 3) (mVar 8)) (aNil))))) (sSeq (sSet 3 (mBin addD (mVar 3) (mVar 7))) (sSeq (sSet 2 (mBin addD (mVar 2) (mVar 6))) (sNil)))))
section
variable {R0 R1 : FM} {P S : D} {L G W l g w W' k n : Int} {x6 x7 x8 : M.Slot}
theorem cr_step (h6 : nbS (some x6) = true) (h7 : nbS (some x7) = true) (h8 : nbS (some x8) = true) (cs : (R0 [.fz S, .fz .non]).rx = .ok (.fz (.tup [.int l, .int g, .int w]))) (mn : min2D [.int W, .int (G + w)] = some (.fz (.int W'))) :
    crB R0 [.fz P, .fz .non, .fz (.int L), .fz (.int G), .fz (.int W), .fz S, x6, x7, x8] = .nx [.fz P, .fz .non, .fz (.int (L + l)), .fz (.int (G + g)), .fz (.int W'), .fz S, .fz (.int l), .fz (.int g), .fz (.int w)] := by
  simp [crB, -notBo_eq, notBo_list, h6, h7, h8, cs, mn, add_ii]
theorem cs_ins : (runF 6 (b__course_of_step R0 R1) [.fz (.tup [.str "insert", .int n, .int k]), .fz .non]).rx = .ok (.fz (.tup [.int k, .int k, .int 0])) := by
  have n1 : isN .non .non = some (.fz (.bl true)) := rfl
  simp [runF_eq, b__course_of_step, ix0, ix1, ixS2, ru_ii, n1, maxLen3]
theorem cs_rem : (runF 6 (b__course_of_step R0 R1) [.fz (.tup [.str "remove", .int k]), .fz .non]).rx = .ok (.fz (.tup [.int k, .int (-k), .int (-k)])) := by
  have ng : negI (.int k) = some (.fz (.int (-k))) := rfl
  simp [runF_eq, b__course_of_step, ix0, ix1, ru_ri, ev_rem2, ng, maxLen3]
theorem qr_i : eqD (.str "repeat") (.str "insert") = some (.fz (.bl false)) := by kernel_rfl
theorem qr_r : eqD (.str "repeat") (.str "remove") = some (.fz (.bl false)) := by kernel_rfl
theorem cs_rep0 {Q : D} (co : (R1 [.fz Q, .fz .non]).rx = .ok (.fz (.tup [.int l, .int g, .int w]))) (hk : k = 0) : (runF 6 (b__course_of_step R0 R1) [.fz (.tup [.str "repeat", .int k, Q]), .fz .non]).rx = .ok (.fz (.tup [.int 0, .int 0, .int 0])) := by
  have q := eq_ii k 0
  rw [decide_eq_true hk] at q
  simp [runF_eq, b__course_of_step, ix0, ix1, ixS2, qr_i, qr_r, co, q, maxLen3]
theorem cs_rep {Q : D} {M0 : Int} (co : (R1 [.fz Q, .fz .non]).rx = .ok (.fz (.tup [.int l, .int g, .int w]))) (hk : ¬ k = 0) (m1 : mulD (.int k) (.int l) = some (.fz (.int (k * l)))) (m2 : mulD (.int k) (.int g) = some (.fz (.int (k * g)))) (mn : min2D [.int g, .int 0] = some (.fz (.int M0))) (m3 : mulD (.int (k - 1)) (.int M0) = some (.fz (.int ((k - 1) * M0)))) :
    (runF 6 (b__course_of_step R0 R1) [.fz (.tup [.str "repeat", .int k, Q]), .fz .non]).rx = .ok (.fz (.tup [.int (k * l), .int (k * g), .int (w + (k - 1) * M0)])) := by
  have q := eq_ii k 0
  rw [decide_eq_false hk] at q
  simp [runF_eq, b__course_of_step, ix0, ix1, ixS2, qr_i, qr_r, co, q, m1, m2, mn, m3, sub_ii, add_ii, maxLen3]
theorem cr_end {x5 : M.Slot} : sSeq (sRet (mTup (aCons (mVar 2) (aCons (mVar 3) (aCons (mVar 4) (aNil)))))) sNil [.fz P, .fz .non, .fz (.int L), .fz (.int G), .fz (.int W), x5, x6, x7, x8] = .rt (.fz (.tup [.int L, .int G, .int W])) [.fz P, .fz .non, .fz (.int L), .fz (.int G), .fz (.int W), x5, x6, x7, x8] := by
  simp [maxLen3]
end
theorem fl_rt {IR : IM} {T : TgM} {B z : SM} {E E1 E' : Ev} {ds : List D} {r : RV} (en : IR E = .ok ds E1) (lp : forLoop T B ds E1 = .rt r E') : sSeq (sFor IR T B) z E = .rt r E' := by
  simp [en, lp]
theorem min2_of {a b c : Int} (h : c = if b < a then b else a) : min2D [.int a, .int b] = some (.fz (.int c)) := by rw [h]; rfl
theorem course_ok {lo hi : Int} : ∀ n : Nat, (∀ (d : Nat) (x : Bool) (p : List Stp), d ≤ 2 → RzL lo hi d p → p.length ≤ 3 → 2 * d + 2 ≤ n → (G__course_of_step n 1 [.fz (tp x (encL p)), .fz .non]).rx = .ok (.fz (crsD (exP p)))) ∧
    (∀ (d : Nat) (s : Stp), d ≤ 2 → RzS lo hi d s → 2 * d + 1 ≤ n → (G__course_of_step n 0 [.fz (encS s), .fz .non]).rx = .ok (.fz (crsD (exO s)))) := by
  intro n
  induction n with
  | zero => exact ⟨fun d x p _ _ _ h => by omega, fun d s _ _ h => by omega⟩
  | succ n ih =>
    obtain ⟨ihL, ihS⟩ := ih
    constructor
    · intro d x p hd hp lp hn
      show (runF 9 (b__course (G__course_of_step n 0) (G__course_of_step n 1)) [.fz (tp x (encL p)), .fz .non]).rx = _
      have loop : ∀ (r : List Stp) (acc : List (Option Int)) (x5 x6 x7 x8 : M.Slot), RzL lo hi d r → nbS (some x5) = true → nbS (some x6) = true → nbS (some x7) = true → nbS (some x8) = true → ∃ y5 y6 y7 y8,
          forLoop (tgName 5) (crB (G__course_of_step n 0)) (encL r) [.fz (tp x (encL p)), .fz .non, .fz (.int (acc.length : Nat)), .fz (.int (gainE acc)), .fz (.int (-needE acc)), x5, x6, x7, x8] = .nx [.fz (tp x (encL p)), .fz .non, .fz (.int ((acc ++ exP r).length : Nat)), .fz (.int (gainE (acc ++ exP r))), .fz (.int (-needE (acc ++ exP r))), y5, y6, y7, y8] := by
        intro r
        induction r with
        | nil => intro acc x5 x6 x7 x8 _ _ _ _ _; exact ⟨x5, x6, x7, x8, by rw [encL, forLoop_nil, exP, List.append_nil]⟩
        | cons s r ih =>
          intro acc x5 x6 x7 x8 hr h5 h6 h7 h8
          unfold RzL at hr
          have e := ihS d s hd hr.1 (by omega)
          unfold crsD at e
          have mn : min2D [.int (-needE acc), .int (gainE acc + -needE (exO s))] = some (.fz (.int (-needE (acc ++ exO s)))) := min2_of (by rw [need_app]; split <;> omega)
          have st := cr_step (P := tp x (encL p)) (L := (acc.length : Nat)) h6 h7 h8 e mn
          rw [← gain_app, ← Int.natCast_add, ← List.length_append] at st
          obtain ⟨y5, y6, y7, y8, l⟩ := ih (acc ++ exO s) (.fz (encS s)) (.fz (.int ((exO s).length : Nat))) (.fz (.int (gainE (exO s)))) (.fz (.int (-needE (exO s)))) hr.2 rfl rfl rfl rfl
          refine ⟨y5, y6, y7, y8, ?_⟩
          rw [encL, fl_cons (tg_set rfl h5) st, l, exP, List.append_assoc]
      obtain ⟨y5, y6, y7, y8, l⟩ := loop p [] .un .un .un .un hp rfl rfl rfl rfl
      rw [List.nil_append] at l
      have is := iseq_tp (x := x) (l := encL p) (j := 0) (E := [.fz (tp x (encL p)), .fz .non, .fz (.int 0), .fz (.int 0), .fz (.int 0), .un, .un, .un, .un]) rfl
      refine congrArg Res.rx (run_rt (n := 9) (as := [.fz (tp x (encL p)), .fz .non]) (E := [.fz (tp x (encL p)), .fz .non, .fz (.int ((exP p).length : Nat)), .fz (.int (gainE (exP p))), .fz (.int (-needE (exP p))), y5, y6, y7, y8]) ?_)
      show b__course _ _ [.fz (tp x (encL p)), .fz .non, .un, .un, .un, .un, .un, .un, .un] = _
      unfold b__course
      rw [set_fz (d := .int 0) (E1 := [.fz (tp x (encL p)), .fz .non, .un, .un, .un, .un, .un, .un, .un]) (by simp) rfl .un]
      simp only [List.set_cons_succ, List.set_cons_zero]
      rw [set_fz (d := .int 0) (E1 := [.fz (tp x (encL p)), .fz .non, .fz (.int 0), .un, .un, .un, .un, .un, .un]) (by simp) rfl .un]
      simp only [List.set_cons_succ, List.set_cons_zero]
      rw [set_fz (d := .int 0) (E1 := [.fz (tp x (encL p)), .fz .non, .fz (.int 0), .fz (.int 0), .un, .un, .un, .un, .un]) (by simp) rfl .un]
      simp only [List.set_cons_succ, List.set_cons_zero]
      rw [for_nx is l, cr_end]
      rfl
    · intro d s hd hs hn
      show (runF 6 (b__course_of_step (G__course_of_step n 0) (G__course_of_step n 1)) [.fz (encS s), .fz .non]).rx = _
      cases s with
      | ins a k =>
        unfold RzS at hs
        obtain ⟨h1, h2⟩ := one_rep (some a) k.toNat
        rw [encS, cs_ins, crsD, exO, h1, h2, List.length_replicate]
        simp only [Int.toNat_of_nonneg hs.2.2.1, Int.neg_zero]
      | rem k =>
        unfold RzS at hs
        obtain ⟨h1, h2⟩ := one_rep none k.toNat
        rw [encS, cs_rem, crsD, exO, h1, h2, List.length_replicate]
        simp only [Int.toNat_of_nonneg hs.1]
      | rep x k q =>
        obtain ⟨e, rfl⟩ : ∃ e, d = e + 1 := by
          cases d with
          | zero => unfold RzS at hs; exact hs.elim
          | succ e => exact ⟨e, rfl⟩
        unfold RzS at hs
        obtain ⟨k0, k5, lq, hq⟩ := hs
        have co := ihL e x q (by omega) hq lq (by omega)
        unfold crsD at co
        rw [encS, crsD, exO]
        obtain ⟨j, rfl⟩ := Int.eq_ofNat_of_zero_le k0
        rw [Int.toNat_natCast]
        by_cases j0 : j = 0
        · subst j0
          rw [cs_rep0 (k := ((0 : Nat) : Int)) co rfl]
          simp [gainE, needE]
        · have Z := zl_ok (d := e) (by omega) hq
          have ln := len3z lq Z.ln
          have zb := zB_le (d := e) (by omega)
          have gl := gain_le (exP q)
          have mn : min2D [.int (gainE (exP q)), .int 0] = some (.fz (.int (-(max (-gainE (exP q)) 0)))) := min2_of (by split <;> omega)
          rw [cs_rep co (by omega) (mul_ii (mulOk_r (by omega))) (mul_ii (mulOk_r (by omega))) mn (mul_ii (mulOk_r (by omega)))]
          have nr := need_rep (exP q) (j - 1)
          rw [show j - 1 + 1 = j by omega] at nr
          rw [nr, gain_rep, rep_len, Int.natCast_mul]
          have e1 : ((j : Int) - 1) * -(max (-gainE (exP q)) 0) = -(((j - 1 : Nat) : Int) * max (-gainE (exP q)) 0) := by
            rw [Int.mul_neg, show ((j - 1 : Nat) : Int) = (j : Int) - 1 by omega]
          rw [e1, Int.neg_add]
abbrev fxB (R1 : FM) : SM := (sSeq (sAsg (tgTup [tgName 6, tgName 7, tgName 8]) (mFnD F__course_of_step [] (aCons (mVar 5) (aCons (mVar 2) (aNil))))) (sSeq (sIf (tCmpM ltI (mBin addD (mVar 4) (mVar 8)) (mC (.int 0))) (sSeq (sRet (mBin addD (mVar 3) (mFnD R1 [] (aCons (mVar 4) (aCons (mVar 5) (aCons (mVar 2) (aNil))))))) (sNil)) (sNil)) (sSeq (sSet 3 (mBin addD (mVar 3) (mVar 6))) (sSeq (sSet 4 (mBin addD (mVar 4) (mVar 7))) (sNil)))))
section
variable {R0 R1 : FM} {P S Z : D} {I F l g w k n i s t : Int} {x6 x7 x8 : M.Slot}
theorem fi_go (h6 : nbS (some x6) = true) (h7 : nbS (some x7) = true) (h8 : nbS (some x8) = true) (cs : (F__course_of_step [.fz S, .fz .non]).rx = .ok (.fz (.tup [.int l, .int g, .int w]))) (h : ¬ F + w < 0) :
    fxB R1 [.fz Z, .fz P, .fz .non, .fz (.int I), .fz (.int F), .fz S, x6, x7, x8] = .nx [.fz Z, .fz P, .fz .non, .fz (.int (I + l)), .fz (.int (F + g)), .fz S, .fz (.int l), .fz (.int g), .fz (.int w)] := by
  have lt := lt_ii (F + w) 0
  rw [decide_eq_false h] at lt
  simp [fxB, -notBo_eq, notBo_list, h6, h7, h8, cs, lt, add_ii]
theorem fi_stop (h6 : nbS (some x6) = true) (h7 : nbS (some x7) = true) (h8 : nbS (some x8) = true) (cs : (F__course_of_step [.fz S, .fz .non]).rx = .ok (.fz (.tup [.int l, .int g, .int w]))) (h : F + w < 0) (r : (R1 [.fz (.int F), .fz S, .fz .non]).rx = .ok (.fz (.int i))) :
    fxB R1 [.fz Z, .fz P, .fz .non, .fz (.int I), .fz (.int F), .fz S, x6, x7, x8] = .rt (.fz (.int (I + i))) [.fz Z, .fz P, .fz .non, .fz (.int I), .fz (.int F), .fz S, .fz (.int l), .fz (.int g), .fz (.int w)] := by
  have lt := lt_ii (F + w) 0
  rw [decide_eq_true h] at lt
  simp [fxB, -notBo_eq, notBo_list, h6, h7, h8, cs, lt, r, add_ii]
theorem fw_rem : (runF 7 (b__failing_within R0 R1) [.fz (.int s), .fz (.tup [.str "remove", .int k]), .fz .non]).rx = .ok (.fz (.int s)) := by
  simp [runF_eq, b__failing_within, ix0, ev_rem2]
theorem fw_rep {Q : D} (co : (F__course [.fz Q, .fz .non]).rx = .ok (.fz (.tup [.int l, .int g, .int w]))) (ht : t = if 0 ≤ s + w then (s + w) / (-g) + 1 else 0) (hg : 0 ≤ s + w → 0 < -g) (gb : (-g).natAbs < 2 ^ 8000) (m1 : mulD (.int t) (.int l) = some (.fz (.int (t * l)))) (m2 : mulD (.int t) (.int g) = some (.fz (.int (t * g)))) (r : (R0 [.fz (.int (s + t * g)), .fz Q, .fz .non]).rx = .ok (.fz (.int i))) :
    (runF 7 (b__failing_within R0 R1) [.fz (.int s), .fz (.tup [.str "repeat", .int k, Q]), .fz .non]).rx = .ok (.fz (.int (t * l + i))) := by
  have ng : negI (.int g) = some (.fz (.int (-g))) := rfl
  have ge : geI (.int (s + w)) (.int 0) = some (.fz (.bl (decide (0 ≤ s + w)))) := rfl
  by_cases h : 0 ≤ s + w
  · rw [if_pos h] at ht
    rw [decide_eq_true h] at ge
    have dv : divI (.int (s + w)) (.int (-g)) = some (.fz (.int ((s + w) / (-g)))) := div_ii (hg h) gb
    generalize (s + w) / (-g) = q at *
    subst ht
    simp [runF_eq, b__failing_within, ix0, ixS2, qr_r, co, ge, add_ii, ng, dv, m1, m2, r]
  · rw [if_neg h] at ht
    rw [decide_eq_false h] at ge
    subst ht
    rw [Int.zero_mul] at m1 m2
    rw [Int.zero_mul, Int.add_zero] at r
    rw [Int.zero_mul, Int.zero_add]
    have a0 : addD (.int s) (.int 0) = some (.fz (.int s)) := by rw [add_ii, Int.add_zero]
    have a1 : addD (.int 0) (.int i) = some (.fz (.int i)) := by rw [add_ii, Int.zero_add]
    simp [runF_eq, b__failing_within, ix0, ixS2, qr_r, co, ge, m1, m2, r, a0, a1, add_ii]
end
theorem failing_ok {lo hi : Int} : ∀ n : Nat, n ≤ 24 → (∀ (d : Nat) (x : Bool) (p : List Stp) (s : Nat), d ≤ 2 → RzL lo hi d p → p.length ≤ 3 → 2 * d + 2 ≤ n → (G_failing_index n 0 [.fz (.int (s : Nat)), .fz (tp x (encL p)), .fz .non]).rx = .ok (.fz (optD (fidx (exP p) s)))) ∧
    (∀ (d : Nat) (st : Stp) (s : Nat), d ≤ 2 → RzS lo hi d st → ¬ needE (exO st) ≤ s → 2 * d + 1 ≤ n → ∃ i : Nat, fidx (exO st) s = some i ∧ (G_failing_index n 1 [.fz (.int (s : Nat)), .fz (encS st), .fz .non]).rx = .ok (.fz (.int (i : Nat)))) := by
  intro n
  induction n with
  | zero => exact fun _ => ⟨fun d x p s _ _ _ h => by omega, fun d st s _ _ _ h => by omega⟩
  | succ n ih =>
    intro n24
    obtain ⟨ihL, ihS⟩ := ih (by omega)
    constructor
    · intro d x p s hd hp lp hn
      show (runF 9 (b_failing_index (G_failing_index n 0) (G_failing_index n 1)) [.fz (.int (s : Nat)), .fz (tp x (encL p)), .fz .non]).rx = _
      have loop : ∀ (r : List Stp) (acc : List (Option Int)) (u : Nat) (x5 x6 x7 x8 : M.Slot), RzL lo hi d r → needE acc ≤ s → (u : Int) = s + gainE acc → nbS (some x5) = true → nbS (some x6) = true → nbS (some x7) = true → nbS (some x8) = true →
          (fidx (acc ++ exP r) s = none ∧ ∃ v y5 y6 y7 y8, forLoop (tgName 5) (fxB (G_failing_index n 1)) (encL r) [.fz (.int (s : Nat)), .fz (tp x (encL p)), .fz .non, .fz (.int (acc.length : Nat)), .fz (.int (u : Nat)), x5, x6, x7, x8] = .nx [.fz (.int (s : Nat)), .fz (tp x (encL p)), .fz .non, .fz (.int ((acc ++ exP r).length : Nat)), .fz (.int v), y5, y6, y7, y8]) ∨
          (∃ (i : Nat) (E' : Ev), fidx (acc ++ exP r) s = some i ∧ forLoop (tgName 5) (fxB (G_failing_index n 1)) (encL r) [.fz (.int (s : Nat)), .fz (tp x (encL p)), .fz .non, .fz (.int (acc.length : Nat)), .fz (.int (u : Nat)), x5, x6, x7, x8] = .rt (.fz (.int (i : Nat))) E') := by
        intro r
        induction r with
        | nil =>
          intro acc u x5 x6 x7 x8 _ ha hu _ _ _ _
          refine .inl ⟨by rw [exP, List.append_nil]; exact fidx_none.mpr ha, u, x5, x6, x7, x8, by rw [encL, forLoop_nil, exP, List.append_nil]⟩
        | cons st r ih =>
          intro acc u x5 x6 x7 x8 hr ha hu h5 h6 h7 h8
          unfold RzL at hr
          have cs := (course_ok (lo := lo) (hi := hi) 24).2 d st hd hr.1 (by omega)
          unfold crsD at cs
          rw [encL, exP, ← List.append_assoc]
          by_cases hb : needE (exO st) ≤ u
          · have na : needE (acc ++ exO st) ≤ s := by rw [need_app]; omega
            have ng := need_gain (exO st)
            obtain ⟨v, hv⟩ := Int.eq_ofNat_of_zero_le (show 0 ≤ (u : Int) + gainE (exO st) by omega)
            have go := fi_go (R1 := G_failing_index n 1) (P := tp x (encL p)) (Z := .int (s : Nat)) (I := (acc.length : Nat)) (F := (u : Nat)) h6 h7 h8 cs (by omega)
            rw [fl_cons (tg_set rfl h5) go, ← Int.natCast_add, ← List.length_append, hv]
            exact ih (acc ++ exO st) v _ _ _ _ hr.2 na (by rw [gain_app]; omega) rfl rfl rfl rfl
          · obtain ⟨i, fi, e⟩ := ihS d st u hd hr.1 hb (by omega)
            have stp := fi_stop (R1 := G_failing_index n 1) (P := tp x (encL p)) (Z := .int (s : Nat)) (I := (acc.length : Nat)) (F := (u : Nat)) h6 h7 h8 cs (by omega) e
            refine .inr ⟨acc.length + i, [.fz (.int (s : Nat)), .fz (tp x (encL p)), .fz .non, .fz (.int (acc.length : Nat)), .fz (.int (u : Nat)), .fz (encS st), .fz (.int ((exO st).length : Nat)), .fz (.int (gainE (exO st))), .fz (.int (-needE (exO st)))], ?_, ?_⟩
            rotate_left 1
            · rw [forLoop_cons, tg_set rfl h5]
              simp only
              have : [Slot.fz (.int (s : Nat)), .fz (tp x (encL p)), .fz .non, .fz (.int (acc.length : Nat)), .fz (.int (u : Nat)), x5, x6, x7, x8].set 5 (.fz (encS st)) = [.fz (.int (s : Nat)), .fz (tp x (encL p)), .fz .non, .fz (.int (acc.length : Nat)), .fz (.int (u : Nat)), .fz (encS st), x6, x7, x8] := rfl
              rw [this, stp, ← Int.natCast_add]
            · have n2 : ¬ needE (acc ++ exO st) ≤ s := by rw [need_app]; omega
              rw [fidx_no n2, fidx_yes ha hu, fi]
              rfl
      have lq := loop p [] s .un .un .un .un hp (by simp [needE]) (by simp [gainE]) rfl rfl rfl rfl
      rw [List.nil_append] at lq
      have is := iseq_tp (x := x) (l := encL p) (j := 1) (E := [.fz (.int (s : Nat)), .fz (tp x (encL p)), .fz .non, .fz (.int 0), .fz (.int (s : Nat)), .un, .un, .un, .un]) rfl
      have pre : ∀ z, sSeq (sSet 3 (mC (.int 0))) (sSeq (sSet 4 (mVar 0)) z) [.fz (.int (s : Nat)), .fz (tp x (encL p)), .fz .non, .un, .un, .un, .un, .un, .un] = z [.fz (.int (s : Nat)), .fz (tp x (encL p)), .fz .non, .fz (.int 0), .fz (.int (s : Nat)), .un, .un, .un, .un] := fun z => by
        rw [set_fz (d := .int 0) (E1 := [.fz (.int (s : Nat)), .fz (tp x (encL p)), .fz .non, .un, .un, .un, .un, .un, .un]) (by simp) rfl .un]
        simp only [List.set_cons_succ, List.set_cons_zero]
        generalize tp x (encL p) = P
        simp
      rcases lq with ⟨hf, v, y5, y6, y7, y8, l⟩ | ⟨i, E', hf, l⟩
      · rw [hf]
        refine congrArg Res.rx (run_rt (n := 9) (as := [.fz (.int (s : Nat)), .fz (tp x (encL p)), .fz .non]) (E := [.fz (.int (s : Nat)), .fz (tp x (encL p)), .fz .non, .fz (.int ((exP p).length : Nat)), .fz (.int v), y5, y6, y7, y8]) ?_)
        show b_failing_index _ _ [.fz (.int (s : Nat)), .fz (tp x (encL p)), .fz .non, .un, .un, .un, .un, .un, .un] = _
        unfold b_failing_index
        rw [pre, for_nx is l]
        simp [optD]
      · rw [hf]
        refine congrArg Res.rx (run_rt (n := 9) (as := [.fz (.int (s : Nat)), .fz (tp x (encL p)), .fz .non]) (E := E') ?_)
        show b_failing_index _ _ [.fz (.int (s : Nat)), .fz (tp x (encL p)), .fz .non, .un, .un, .un, .un, .un, .un] = _
        unfold b_failing_index
        rw [pre]
        exact fl_rt is l
    · intro d st s hd hs hb hn
      cases st with
      | ins a k =>
        exfalso
        obtain ⟨h1, h2⟩ := one_rep (some a) k.toNat
        rw [exO, h2] at hb
        simp only at hb
        omega
      | rem k =>
        unfold RzS at hs
        obtain ⟨h1, h2⟩ := one_rep none k.toNat
        rw [exO, h2] at hb
        simp only at hb
        refine ⟨s, by rw [exO]; exact fidx_rem (by omega), ?_⟩
        show (runF 7 (b__failing_within (G_failing_index n 0) (G_failing_index n 1)) [.fz (.int (s : Nat)), .fz (encS (.rem k)), .fz .non]).rx = _
        rw [encS, fw_rem]
      | rep x k q =>
        obtain ⟨e, rfl⟩ : ∃ e, d = e + 1 := by
          cases d with
          | zero => unfold RzS at hs; exact hs.elim
          | succ e => exact ⟨e, rfl⟩
        unfold RzS at hs
        obtain ⟨k0, k5, lq, hq⟩ := hs
        rw [exO] at hb
        obtain ⟨t, u, tk, hu, nu, ht, hg, hf⟩ := fidx_turns hb
        have co := (course_ok (lo := lo) (hi := hi) 24).1 e x q (by omega) hq lq (by omega)
        unfold crsD at co
        have fu := ihL e x q u (by omega) hq lq (by omega)
        obtain ⟨i, hi⟩ : ∃ i, fidx (exP q) u = some i := by
          cases h : fidx (exP q) u with
          | none => exact absurd (fidx_none.mp h) nu
          | some i => exact ⟨i, rfl⟩
        rw [hi] at fu hf
        have Z := zl_ok (d := e) (by omega) hq
        have ln := len3z lq Z.ln
        have zb := zB_le (d := e) (by omega)
        have gl := gain_le (exP q)
        refine ⟨t * (exP q).length + i, by rw [exO, hf]; rfl, ?_⟩
        show (runF 7 (b__failing_within (G_failing_index n 0) (G_failing_index n 1)) [.fz (.int (s : Nat)), .fz (encS (.rep x k q)), .fz .non]).rx = _
        rw [encS, fw_rep (t := (t : Nat)) (i := (i : Nat)) co (by rw [ht]; rfl) (fun h => hg (by omega)) (big_of (k := 60) (by omega) (by decide)) (mul_ii (mulOk_r (by omega))) (mul_ii (mulOk_r (by omega))) (by rw [← hu]; exact fu)]
        rw [Int.natCast_add, Int.natCast_mul]
end Law

namespace Law
open PySem PySem.Spec PyProof.Rows L2 M
/-! ### lists of drawn numbers -/
theorem lc_pool {i : Nat} {elt : EM} {mk : MO → M.Slot → Ev} {P : Int → Prop} (h0 : ∀ m s, (mk m s)[i]? = some s) (hs : ∀ m s t, (mk m s).set i t = mk m t)
    (step : ∀ m d, IsPool m → ∃ n m', IsPool m' ∧ P n ∧ elt (mk m (.fz d)) = .ok (.fz (.int n)) (mk m' (.fz d))) : ∀ (ds : List D) (acc : List Int) (m : MO), IsPool m → acc.length + ds.length < 4000 →
    ∃ (L : List Int) (m' : MO), IsPool m' ∧ L.length = ds.length ∧ (∀ n ∈ L, P n) ∧ lcLoop (tgName i) (tYesM) elt [i] ds (acc.map D.int) (mk m .un) = .ok (.ow (.lst ((acc ++ L).map D.int))) (mk m' .un)
  | [], acc, m, hm, _ => ⟨[], m, hm, rfl, (fun n hn => nomatch hn), by simp [lcLoop]⟩
  | d :: ds, acc, m, hm, hl => by
    have ml : maxLen = 16777216 := rfl
    rw [List.length_cons] at hl
    obtain ⟨n, m1, p1, hn, e1⟩ := step m d hm
    obtain ⟨L, m', p', ll, lb, h⟩ := lc_pool h0 hs step ds (acc ++ [n]) m1 p1 (by rw [List.length_append, List.length_singleton]; omega)
    have tg : tgName i d (mk m .un) = some (mk m (.fz d)) := by
      rw [tg_set (h0 m .un) rfl, hs]
    have nb : allNotBo (mk m1 (.fz d)) [i] = true := by
      simp only [allNotBo_cons, allNotBo_nil, Bool.and_true, notBo_list, h0]
      rfl
    have wi : wipeE (mk m1 (.fz d)) [i] = mk m1 .un := by
      simp only [wipeE_cons, wipeE_nil, hs]
    refine ⟨n :: L, m', p', by simp [ll], ?_, ?_⟩
    · intro x hx
      rcases List.mem_cons.mp hx with rfl | hx
      · exact hn
      · exact lb x hx
    · rw [lc_cons (cond := tYesM) tg rfl e1 rfl nb (by rw [List.length_map]; omega), wi]
      rw [List.map_append, List.append_assoc, List.singleton_append] at h
      exact h
theorem mlc_pool {i : Nat} {N : Nat} {elt : EM} {IR : IM} {E0 : Ev} {mk : MO → M.Slot → Ev} {P : Int → Prop} (h0 : ∀ m s, (mk m s)[i]? = some s) (hs : ∀ m s t, (mk m s).set i t = mk m t)
    (step : ∀ m d, IsPool m → ∃ n m', IsPool m' ∧ P n ∧ elt (mk m (.fz d)) = .ok (.fz (.int n)) (mk m' (.fz d))) {m : MO} (hm : IsPool m) {s : M.Slot} (hb : nbS (some s) = true) (hN : N < 4000) (rg : IR E0 = .ok ((List.range N).map fun j => .int (j : Nat)) (mk m s)) :
    ∃ (L : List Int) (m' : MO), IsPool m' ∧ L.length = N ∧ (∀ n ∈ L, P n) ∧ mLc IR (tgName i) (tYesM) elt [i] E0 = .ok (.ow (.lst (L.map D.int))) (mk m' .un) := by
  obtain ⟨L, m', p, l1, l2, h⟩ := lc_pool h0 hs step ((List.range N).map fun j => .int (j : Nat)) [] m hm (by simp; omega)
  refine ⟨L, m', p, by simpa using l1, l2, ?_⟩
  rw [List.nil_append, List.map_nil] at h
  have nb : allNotBo (mk m s) [i] = true := by
    simp only [allNotBo_cons, allNotBo_nil, Bool.and_true, notBo_list, h0]
    exact hb
  have wi : wipeE (mk m s) [i] = mk m .un := by
    simp only [wipeE_cons, wipeE_nil, hs]
  rw [mLc_eq, rg, bind_ok, nb, if_pos rfl, wi]
  exact h
theorem up_bound : ∀ L : List Int, ∃ M : Int, ∀ n ∈ L, n ≤ M
  | [] => ⟨0, fun n hn => nomatch hn⟩
  | a :: L => by
    obtain ⟨M, h⟩ := up_bound L
    refine ⟨max a M, fun n hn => ?_⟩
    rcases List.mem_cons.mp hn with rfl | hn
    · omega
    · have := h n hn; omega
theorem size_bagL {L : List Int} (h : L.length < 64) : sizeB (bagL L) = L.length := by
  obtain ⟨T, hT⟩ := size_lvl (bagL L)
  obtain ⟨M, hM⟩ := up_bound L
  rw [← hT (max T M) (by omega), bagL_lvl _ h, cnt_all]
  intro n hn
  have := hM n hn
  omega
end Law

namespace Law
open PySem PySem.Spec PyProof.Rows L2 M
theorem shw_opt (o : Option Nat) (h : ∀ i, o = some i → i < 100000) : Shw (optD o) 4 1 := by
  cases o with
  | none => exact shw_non
  | some i => exact shw_int (Nat.lt_of_lt_of_le (by have := h i rfl; simp only [Int.natAbs_natCast]; omega : _ < 2 ^ 20) (Nat.pow_le_pow_right (by decide) (by decide)))
theorem fidx_lt : ∀ {e : List (Option Int)} {s i : Nat}, fidx e s = some i → i < e.length
  | [], s, i, h => nomatch h
  | some n :: e, s, i, h => by
    rw [fidx] at h
    obtain ⟨j, hj, rfl⟩ := Option.map_eq_some_iff.mp h
    have := fidx_lt hj
    rw [List.length_cons]
    omega
  | none :: e, 0, i, h => by
    rw [fidx, Option.some.injEq] at h
    rw [List.length_cons]
    omega
  | none :: e, s + 1, i, h => by
    rw [fidx] at h
    obtain ⟨j, hj, rfl⟩ := Option.map_eq_some_iff.mp h
    have := fidx_lt hj
    rw [List.length_cons]
    omega
theorem ff_eval {B P r : D} {s : Int} (sz : (F_size_of [.fz B]).rx = .ok (.fz (.int s))) (ck : (F_check_program [.fz P]).rx = .ok (.fz .non)) (fi : (F_failing_index [.fz (.int s), .fz P, .fz .non]).rx = .ok (.fz r)) : (F_first_failure [.fz B, .fz P]).rx = .ok (.fz r) := by
  simp [F_first_failure, b_first_failure, runF_eq, sz, ck, fi]
structure PgOk (lo hi : Int) (p : List Stp) : Prop where
  rz : RzL lo hi 2 p
  l3 : p.length ≤ 3
theorem ff_ok {lo hi : Int} {L : List Int} (h : L.length < 64) {x : Bool} {p : List Stp} (P : PgOk lo hi p) : (F_first_failure [.fz (.tux (encB (bagL L))), .fz (tp x (encL p))]).rx = .ok (.fz (optD (fidx (exP p) L.length))) := by
  have Z := zl_ok (by omega) P.rz
  have dp := Z.dp
  have sz := sizex_ok (bagL_bg h)
  rw [size_bagL h] at sz
  exact ff_eval sz (check_ok Z.ok (by omega)) (((failing_ok (lo := lo) (hi := hi) 24 (by omega)).1 2 x p L.length (by omega) P.rz P.l3 (by omega)))
theorem run_eqv {lo hi : Int} {L : List Int} {p : List Stp} (h : L.length + (exP p).length < 3000) : (F__law_run [.fz (.lst (L.map D.int)), .fz (.lst ((exP p).map encO))]).rx = .ok (.ow (.lst (encR (runI 0 (sortI L) [] (exP p))))) ∧ ixD (.lst (encR (runI 0 (sortI L) [] (exP p)))) (.int 2) = some (.fz (optD (fidx (exP p) L.length))) := by
  refine ⟨runx_eval h, ?_⟩
  have := runI_idx (exP p) 0 (sortI L) []
  rw [(sortI_perm _).length_eq] at this
  unfold encR
  rw [this]
  cases fidx (exP p) L.length with
  | none => exact ixL_of (j := 2) rfl
  | some i =>
    simp only [Option.map_some, Nat.zero_add]
    exact ixL_of (j := 2) rfl
/-- the two sides of one comparison -/
theorem two_sides {lo hi : Int} {L : List Int} (h : L.length < 64) {x : Bool} {p : List Stp} (P : PgOk lo hi p) :
    ∃ (RL : List D) (r : D) (X : Str), (F__law_bag [.fz (.lst (L.map D.int))]).rx = .ok (.fz (.tux (encB (bagL L)))) ∧ (F_first_failure [.fz (.tux (encB (bagL L))), .fz (tp x (encL p))]).rx = .ok (.fz r) ∧ (F__law_expand [.fz (tp x (encL p))]).rx = .ok (.ow (.lst ((exP p).map encO))) ∧
      (F__law_run [.fz (.lst (L.map D.int)), .fz (.lst ((exP p).map encO))]).rx = .ok (.ow (.lst RL)) ∧ ixD (.lst RL) (.int 2) = some (.fz r) ∧ reprE [r] = some (.fz (.str X)) ∧ plainD (.str X) = true ∧ bare r = r := by
  have Z := zl_ok (by omega) P.rz
  have ln := len3z P.l3 Z.ln
  have zb := zB_le (d := 2) (by omega)
  have lx := run_eqv (lo := lo) (hi := hi) (L := L) (p := p) (by omega)
  obtain ⟨rp, pl⟩ := (shw_opt (fidx (exP p) L.length) fun i hi => by have := fidx_lt hi; omega).rep (by decide) (by decide)
  exact ⟨_, _, _, bag_eval h, ff_ok h P, expz_ok 24 2 (by omega) (by omega) x p P.rz P.l3, lx.1, lx.2, rp, pl, by cases fidx (exP p) L.length <;> rfl⟩
end Law

namespace Law
open PySem PySem.Spec PyProof.Rows L2 M
abbrev hpE (w : Int) : EM := mBin addD (mVar 2) (mFnB F__law_draw 1 (aCons (mC (.int w)) (aNil)))
abbrev ifB : BM := tCmpM neD (mCall reprE (aCons (mFnD F_first_failure [] (aCons (mFnD F__law_bag [] (aCons (mVar 6) (aNil))) (aCons (mVar 3) (aNil)))) (aNil))) (mCall reprE (aCons (mBin ixD (mFnD F__law_run [] (aCons (mVar 6) (aCons (mVar 4) (aNil)))) (mC (.int 2))) (aNil)))
abbrev law0 : SM := sSeq (sSet 6 (mLc (iRange1 (mFnB F__law_draw 1 (aCons (mC (.int 8)) (aNil)))) (tgName 9) (tYesM) (hpE 4) [9])) (sSeq (sIf ifB (sSeq (sRet (mC (.bl false))) (sNil)) (sNil)) (sNil))
section
variable {S P k : D} {Q LD RL BL : List D} {r : D} {X : Str} {m m1 : MO} {B w i : Int} {x4 x6 x7 x8 s : M.Slot}
theorem hp_step (d : (F__law_draw [.bo m, .fz (.int w)]).rxb = .ok (.fz (.int i)) m1) : hpE w [.fz S, .ow m, .fz (.int B), .fz P, x4, .fz k, x6, x7, x8, s] = .ok (.fz (.int (B + i))) [.fz S, .ow m1, .fz (.int B), .fz P, x4, .fz k, x6, x7, x8, s] := by
  simp [d, add_ii]
theorem if_false (h4 : x4 = .ow (.lst Q) ∨ x4 = .fz (.lst Q)) (bg : (F__law_bag [.fz (.lst LD)]).rx = .ok (.fz (.tux BL))) (ff : (F_first_failure [.fz (.tux BL), .fz P]).rx = .ok (.fz r)) (ru : (F__law_run [.fz (.lst LD), .fz (.lst Q)]).rx = .ok (.ow (.lst RL))) (ix : ixD (.lst RL) (.int 2) = some (.fz r)) (rp : reprE [r] = some (.fz (.str X))) (pl : plainD (.str X) = true) (br : bare r = r) :
    ifB [.fz S, .ow m, .fz (.int B), .fz P, x4, .fz k, .ow (.lst LD), x7, x8, s] = .ok false [.fz S, .ow m, .fz (.int B), .fz P, .fz (.lst Q), .fz k, .fz (.lst LD), x7, x8, s] := by
  have ne := ne_same pl
  rcases h4 with rfl | rfl <;> simp [bg, ff, ru, ix, rp, ne, br]
end
def J (S : D) (B : Int) (P : D) (Q : List D) (E : Ev) : Prop := ∃ m x4 x5 x6 x9, IsPool m ∧ (x4 = .ow (.lst Q) ∨ x4 = .fz (.lst Q)) ∧ nbS (some x5) = true ∧ nbS (some x6) = true ∧ nbS (some x9) = true ∧ E = [.fz S, .ow m, .fz (.int B), .fz P, x4, x5, x6, .un, .un, x9]
theorem law0_turn {lo hi : Int} {S : D} {B : Int} {x : Bool} {p : List Stp} (P : PgOk lo hi p) {d : D} {E : Ev} (h : J S B (tp x (encL p)) ((exP p).map encO) E) : ∃ E1 E2, tgName 5 d E = some E1 ∧ law0 E1 = .nx E2 ∧ J S B (tp x (encL p)) ((exP p).map encO) E2 := by
  obtain ⟨m, x4, x5, x6, x9, hm, h4, h5, h6, h9, rfl⟩ := h
  obtain ⟨N, m1, g1, N0, N1, d1⟩ := drawS hm 8 (by decide) (by decide)
  have rg := range1_int (m := mFnB F__law_draw 1 (aCons (mC (.int 8)) (aNil))) (E := [.fz S, .ow m, .fz (.int B), .fz (tp x (encL p)), x4, .fz d, x6, .un, .un, x9]) (E1 := [.fz S, .ow m1, .fz (.int B), .fz (tp x (encL p)), x4, .fz d, x6, .un, .un, x9]) (r := .fz (.int N)) (j := N) (by
    generalize tp x (encL p) = PP
    simp [d1]) rfl (by omega) (by omega)
  obtain ⟨L, m2, g2, ll, lb, lc⟩ := mlc_pool (i := 9) (N := N.toNat) (elt := hpE 4) (mk := fun m s => [.fz S, .ow m, .fz (.int B), .fz (tp x (encL p)), x4, .fz d, x6, .un, .un, s]) (P := fun _ => True) (fun _ _ => rfl) (fun _ _ _ => rfl) (fun m d' hm => by
    obtain ⟨i, m1, g1, _, _, e⟩ := drawS hm 4 (by decide) (by decide)
    exact ⟨_, m1, g1, trivial, hp_step e⟩) g1 h9 (by omega) rg
  obtain ⟨RL, r, X, bg, ff, ex, ru, ix, rp, pl, br⟩ := two_sides (L := L) (by omega) (x := x) P
  refine ⟨_, _, tg_set rfl h5, ?_, m2, .fz (.lst ((exP p).map encO)), .fz d, .fz (.lst (L.map D.int)), .un, g2, .inr rfl, rfl, rfl, rfl, rfl⟩
  show law0 [.fz S, .ow m, .fz (.int B), .fz (tp x (encL p)), x4, .fz d, x6, .un, .un, x9] = _
  unfold law0
  rw [set_ow lc rfl (Nb.of h6)]
  simp only [List.set_cons_succ, List.set_cons_zero]
  rw [if_no (if_false h4 bg ff ru ix rp pl br)]
  rfl
section
variable {S P Q8 W k : D} {Q LD RL BL : List D} {r : D} {X : Str} {m m1 : MO} {B w i : Int} {x4 x5 x6 x7 x8 s : M.Slot}
theorem wr_step (hi : (F__law_draw [.bo m, .fz (.int 5)]).rxb = .ok (.fz (.int i)) m1) (hw : bare W = W ∨ True) (ml : mulE (.tup [.tup [.str "repeat", .int (1 + i), W]]) (.int 2) = some (.fz (.tup [.tup [.str "repeat", .int (1 + i), W], .tup [.str "repeat", .int (1 + i), W]]))) :
    mBin addD (mTup (aCons (mTup (aCons (mC (.str "insert")) (aCons (mVar 2) (aCons (mC (.int 2)) (aNil))))) (aNil))) (mBin mulE (mTup (aCons (mTup (aCons (mC (.str "repeat")) (aCons (mBin addD (mC (.int 1)) (mFnB F__law_draw 1 (aCons (mC (.int 5)) (aNil)))) (aCons (mVar 7) (aNil))))) (aNil))) (mC (.int 2)))
      [.fz S, .ow m, .fz (.int B), .fz P, x4, x5, x6, .fz W, .un, s] = .ok (.fz (.tup [.tup [.str "insert", .int B, .int 2], .tup [.str "repeat", .int (1 + i), W], .tup [.str "repeat", .int (1 + i), W]])) [.fz S, .ow m1, .fz (.int B), .fz P, x4, x5, x6, .fz W, .un, s] := by
  have ad := addT_tt [.tup [.str "insert", .int B, .int 2]] [.tup [.str "repeat", .int (1 + i), W], .tup [.str "repeat", .int (1 + i), W]] (by simp [maxLen])
  simp [hi, add_ii, ml, ad, maxLen1, maxLen3]
theorem last_eq (bg : (F__law_bag [.fz (.lst LD)]).rx = .ok (.fz (.tux BL))) (ff : (F_first_failure [.fz (.tux BL), .fz W]).rx = .ok (.fz r)) (ex : (F__law_expand [.fz W]).rx = .ok (.ow (.lst Q))) (ru : (F__law_run [.fz (.lst LD), .fz (.lst Q)]).rx = .ok (.ow (.lst RL))) (ix : ixD (.lst RL) (.int 2) = some (.fz r)) (rp : reprE [r] = some (.fz (.str X))) (pl : plainD (.str X) = true) (br : bare r = r) :
    ∃ E, mBin eqD (mCall reprE (aCons (mFnD F_first_failure [] (aCons (mFnD F__law_bag [] (aCons (mVar 6) (aNil))) (aCons (mVar 8) (aNil)))) (aNil))) (mCall reprE (aCons (mBin ixD (mFnD F__law_run [] (aCons (mVar 6) (aCons (mFnD F__law_expand [] (aCons (mVar 8) (aNil))) (aNil)))) (mC (.int 2))) (aNil))) [.fz S, .ow m, .fz (.int B), .fz P, x4, x5, .ow (.lst LD), x7, .fz W, s] = .ok (.fz (.bl true)) E := by
  have eq := eq_same pl
  exact ⟨_, by simp [bg, ff, ex, ru, ix, rp, eq, br]; rfl⟩
end
theorem law_true (ns : List Int) (hl : ns.length ≤ 63) : ∃ E, F_law [.fz (.frl (ns.map D.int))] = .ok (.fz (.bl true)) E := by
  have hm0 : IsPool (.lst [.lst (ns.map D.int), .int 0, .int 0, .int 1]) := ⟨ns, 0, 0, 1, rfl, by decide, by decide⟩
  have po : mLst (aCons (mCall listD (aCons (mVar 0) (aNil))) (aCons (mC (.int 0)) (aCons (mC (.int 0)) (aCons (mC (.int 1)) (aNil))))) [.fz (.frl (ns.map D.int)), .un, .un, .un, .un, .un, .un, .un, .un, .un] = .ok (.ow (.lst [.lst (ns.map D.int), .int 0, .int 0, .int 1])) [.fz (.frl (ns.map D.int)), .un, .un, .un, .un, .un, .un, .un, .un, .un] := by
    generalize ns.map D.int = NS
    have l : listD [.frl NS] = some (.ow (.lst NS)) := rfl
    simp [l, maxLen4]
  generalize MO.lst [.lst (ns.map D.int), .int 0, .int 0, .int 1] = m0 at hm0 po
  generalize D.frl (ns.map D.int) = S at po ⊢
  obtain ⟨B, m1, g1, b0, b1, e1⟩ := base_ok hm0
  obtain ⟨x, p, m2, g2, rz, l3, e2⟩ := pgz_ok (B := B) (w := 3) (by decide) (by decide) 24 2 (by omega) m1 g1
  have P : PgOk B (B + 3 - 1) p := ⟨rz, l3⟩
  obtain ⟨_, _, _, _, _, ex, _⟩ := two_sides (L := []) (by simp) (x := x) P
  have e2 : (F__law_program [.bo m1, .fz (.int 3), .fz (.int B), .fz (.int 3)]).rxb = .ok (.fz (tp x (encL p))) m2 := e2
  obtain ⟨_, lp, m3, x4, x5, x6, x9, g3, h4, h5, h6, h9, rfl⟩ := forLoop_inv (C := J S B (tp x (encL p)) ((exP p).map encO)) (t := tgName 5) (b := law0) (ds := (List.range 4).map fun i => .int (i : Nat)) (E := [.fz S, .ow m2, .fz (.int B), .fz (tp x (encL p)), .ow (.lst ((exP p).map encO)), .un, .un, .un, .un, .un]) (fun d _ E hE => by
    obtain ⟨E1, E2, a, b, c⟩ := law0_turn P (d := d) hE
    exact ⟨E1, E2, a, .inl b, c⟩) ⟨m2, _, _, _, _, g2, .inl rfl, rfl, rfl, rfl, rfl⟩
  have r4 : iRange1 (mC (.int 4)) [.fz S, .ow m2, .fz (.int B), .fz (tp x (encL p)), .ow (.lst ((exP p).map encO)), .un, .un, .un, .un, .un] = .ok ((List.range 4).map fun i => .int (i : Nat)) [.fz S, .ow m2, .fz (.int B), .fz (tp x (encL p)), .ow (.lst ((exP p).map encO)), .un, .un, .un, .un, .un] := range1_nat (n := 4) (r := .fz (.int 4)) rfl rfl (by omega)
  obtain ⟨y, q, m4, g4, rq, lq, e4⟩ := pgz_ok (B := B) (w := 3) (by decide) (by decide) 24 1 (by omega) m3 g3
  have e4 : (F__law_program [.bo m3, .fz (.int 2), .fz (.int B), .fz (.int 3)]).rxb = .ok (.fz (tp y (encL q))) m4 := e4
  obtain ⟨N, m5, g5, N0, N1, d5⟩ := drawS g4 40 (by decide) (by decide)
  obtain ⟨i, m6, g6, i0, i1, d6⟩ := drawS g5 5 (by decide) (by decide)
  have mu := mul_rp (k := N) (n := N.toNat) (by omega) (by omega) (.int B)
  rw [show List.replicate N.toNat (D.int B) = (List.replicate N.toNat B).map D.int by rw [List.map_replicate]] at mu
  have P2 : PgOk B (B + 3 - 1) [.ins B 2, .rep y (1 + i) q, .rep y (1 + i) q] := ⟨by unfold RzL RzS; exact ⟨⟨by omega, by omega, by omega, by omega⟩, by unfold RzL RzS; exact ⟨⟨by omega, by omega, lq, rq⟩, by unfold RzL RzS; exact ⟨⟨by omega, by omega, lq, rq⟩, by unfold RzL; trivial⟩⟩⟩, by simp⟩
  obtain ⟨RL, r, X, bg, ff, ex2, ru, ix, rp, pl, br⟩ := two_sides (L := List.replicate N.toNat B) (by rw [List.length_replicate]; omega) (x := false) P2
  have ew : tp false (encL [.ins B 2, .rep y (1 + i) q, .rep y (1 + i) q]) = .tup [.tup [.str "insert", .int B, .int 2], .tup [.str "repeat", .int (1 + i), tp y (encL q)], .tup [.str "repeat", .int (1 + i), tp y (encL q)]] := by
    rw [encL, encS, encL, encS, encL, encS, encL]
    rfl
  rw [ew] at ff ex2
  have ml2 : mulE (.tup [.tup [.str "repeat", .int (1 + i), tp y (encL q)]]) (.int 2) = some (.fz (.tup [.tup [.str "repeat", .int (1 + i), tp y (encL q)], .tup [.str "repeat", .int (1 + i), tp y (encL q)]])) := by
    generalize D.tup [.str "repeat", .int (1 + i), tp y (encL q)] = Z
    rfl
  generalize tp y (encL q) = W at *
  generalize (List.replicate N.toNat B).map D.int = LD at *
  generalize hW8 : D.tup [.tup [.str "insert", .int B, .int 2], .tup [.str "repeat", .int (1 + i), W], .tup [.str "repeat", .int (1 + i), W]] = W8 at ff ex2
  obtain ⟨E9, fin⟩ := last_eq (S := S) (P := tp x (encL p)) (m := m6) (B := B) (x4 := x4) (x5 := x5) (x7 := .fz W) (s := x9) bg ff ex2 ru ix rp pl br
  refine ⟨E9, run_rt (n := 10) ?_⟩
  show b_law [.fz S, .un, .un, .un, .un, .un, .un, .un, .un, .un] = _
  unfold b_law
  rw [set_ow po rfl .un]
  simp only [List.set_cons_succ, List.set_cons_zero]
  rw [set_fz (d := .int B) (E1 := [.fz S, .ow m1, .un, .un, .un, .un, .un, .un, .un, .un]) (by simp [e1]) rfl .un]
  simp only [List.set_cons_succ, List.set_cons_zero]
  rw [set_fz (d := tp x (encL p)) (E1 := [.fz S, .ow m2, .fz (.int B), .un, .un, .un, .un, .un, .un, .un]) (by
    generalize tp x (encL p) = PP at *
    simp [e2]) rfl .un]
  simp only [List.set_cons_succ, List.set_cons_zero]
  generalize hPP : tp x (encL p) = PP at *
  generalize (exP p).map encO = QQ at *
  rw [set_ow (mo := .lst QQ) (E1 := [.fz S, .ow m2, .fz (.int B), .fz PP, .un, .un, .un, .un, .un, .un]) (by simp [ex]) rfl .un]
  simp only [List.set_cons_succ, List.set_cons_zero]
  rw [for_nx r4 lp]
  rw [set_fz (d := W) (E1 := [.fz S, .ow m4, .fz (.int B), .fz PP, x4, x5, x6, .un, .un, x9]) (by simp [e4]) rfl .un]
  simp only [List.set_cons_succ, List.set_cons_zero]
  rw [set_ow (mo := .lst LD) (E1 := [.fz S, .ow m5, .fz (.int B), .fz PP, x4, x5, x6, .fz W, .un, x9]) (by simp [d5, mu, maxLen1]) rfl (Nb.of h6)]
  simp only [List.set_cons_succ, List.set_cons_zero]
  rw [set_fz (d := W8) (E1 := [.fz S, .ow m6, .fz (.int B), .fz PP, x4, x5, .ow (.lst LD), .fz W, .un, x9]) (by rw [← hW8]; exact wr_step d6 (.inr trivial) ml2) rfl .un]
  simp only [List.set_cons_succ, List.set_cons_zero]
  exact ret_fz fin
end Law

namespace Law
open PySem PySem.Spec PyProof.Rows L2 M
theorem run_a (w : World) : Piece R 30000 w (fun s => (HandSHeadRun.looksF R.prog (PySem.W.boot_heap w.params) s.abs, HandSHeadRun.seenQ (PySem.W.view R.prog [35]) loose (PySem.importedModules R.prog.main.body) (fun s => PySem.W.xlAt (PySem.W.view R.prog [35]) [] s && PySem.W.recOk R.toRowW.records s) s.abs)) (true, PySem.W.openGood (PySem.W.view R.prog [35]) loose) := by
  intro os
  kernel_rfl
theorem run_b (w : World) : Piece R 30000 w (lookP adr fun K => (fa.all fun f => f.ok K, wr.all fun x => okA K (x.ad K) x.d, wr.map fun x => fnA K (x.ad K))) (true, true, wr.map fun x => x.d.val) := by
  intro os
  kernel_rfl
theorem run_c (w : World) : Piece R 30000 w (lookP adr fun K => exs.all fun t => t K) true := by
  intro os
  kernel_rfl
theorem run_d (w : World) : Piece R 30000 w (lookP adr fun K => (fn.all fun d => d.ok K, fn.map fun d => He.fnW K d.at_)) (true, fn.map He.DefD.val) := by
  intro os
  kernel_rfl
theorem run (w : World) : HandSHeadRun.RunEq R (PySem.W.view R.prog [35]) hk ob 30000 loose w := run_of (q := PySem.W.view R.prog [35]) (as := adr) (fa := fa) (fn := fn) (wr := wr) (ex := exs) (run_a w) (run_b w) (run_c w) (run_d w)
end Law
open PySem PySem.W PySem.Calls PyProof.Rows
theorem PySem.Challenge.cw_heapeffects_k59_first_failures_holds : PySem.Challenge.rw_heapeffects_k59_first_failures.Holds := by
  w_on; o_law
  refine HandSHeadRun.head_any (r := OpenLaw.row PySem.Challenge.rw_heapeffects_k59_first_failures) (q := view (OpenLaw.row PySem.Challenge.rw_heapeffects_k59_first_failures).prog [35]) (H := Law.hk) (ob := Law.ob) (M := 30000) (loose := Law.loose) (d := HandSHeadRun.topDef (OpenLaw.row PySem.Challenge.rw_heapeffects_k59_first_failures).prog 35) (kwd := []) Law.ob_eq
    (by kernel_rfl) (fun s => by kernel_rfl) Law.run (by kernel_rfl) (by kernel_rfl) (by kernel_rfl) (by rfl) (by first | assumption | decide +kernel) (by decide +kernel) ⟨rfl, rfl, rfl, rfl, rfl, by decide +kernel⟩ ?hw ?hc
  case hw => w_witness2
  case hc =>
    refine M.walkG (l := PySem.Challenge.rw_heapeffects_k59_first_failures) (n := 63) (k := 52) (x := "_law_script") (CX := L2.CX0) rfl (by decide) (by kernel_rfl) ⟨rfl, by decide, by decide⟩ ?F (fun _ _ _ _ z => z)
    intro w mg fa h Y G hmg0
    obtain ⟨K, KX, sw⟩ := Y
    have hmg : mg ("law" : PySem.Str) = some (.ref fa) := by
      have e : (HandSHeadRun.topDef (OpenLaw.row PySem.Challenge.rw_heapeffects_k59_first_failures).prog 35).name = ("law" : PySem.Str) := by kernel_rfl
      rw [← e]
      exact hmg0
    have A0 : Law.Facts K mg := ⟨⟨h, KX, G⟩, sw.c, sw.t, sw⟩
    obtain ⟨fd, F⟩ := A0.c.def_ 24 (d := Law.d_law) rfl
    have e := hmg.symm.trans (A0.glo (A0.c.fact 24 (f := .glo "law") rfl))
    cases e
    have b := L2.FunD.bindsA (ps := ["_law_script"]) F fun _ _ _ _ _ _ us hl => match us, hl with | [_], _ => rfl
    exact ⟨K, fd, (fun vs H Q _ => M.spM (Law.cf K) 1 Law.F_law vs H Q L2.E0), KX, fun s v => b s [v] rfl, fun H a ns hl _ hS => M.law_sp (K := K) (fun _ => trivial) rfl hS (Law.law_true ns hl), fun base _ _ => M.fnG_nox (Law.fn_law A0 F)⟩
