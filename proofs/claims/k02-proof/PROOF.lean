import PyProof.Rows.All
import Wide.All
import OpenK.AllK
import Wide.FinOn
import HandS.ForMost
import HandS.ForExc
import HandS.IsInst
import HandS.TryMany
import HandS.Deep
import HandS.Zip
import HandS.TupAny
import HandS.More
import HandS.Wide
import HandS.Style
import HandS.EndBits
import HandS.DictComp
import HandS.Text
import HandS.TupMul
import KE.SortData
import KE.DataMinMax
import KE.DataCmp
import HandS.SortKw
import PyProof.ReprRoads
import HandS.Comp
import PySem.Challenge.RW_wornstones_k02_steps_and_what_signs_come
set_option Elab.async false
set_option linter.all false
set_option maxRecDepth 100000
section
/-! layer M: what a def does with plain data (PyData), the heap hidden -/
namespace M
open PySem PySem.Spec PyProof.Rows L2

/-! ### data at a value -/
def keyD : Key → PyData
  | .inl i => .int i
  | .inr x => .str x
mutual
inductive Dd (K : PySem.W.Frag) (H : Hp) : V → PyData → Prop
  | non : Dd K H .non .none
  | bl (b : Bool) : Dd K H (.bl b) (.bool b)
  | int (i : Int) : Dd K H (.int i) (.int i)
  | str (x : Str) : Dd K H (.str x) (.str x)
  | lst {a : Addr} {xs : List V} {ds : List PyData} : SqL K H a xs → Da K H xs ds → Dd K H (.ref a) (.list ds)
  | tup {a : Addr} {xs : List V} {ds : List PyData} : SqT K H a xs → Da K H xs ds → Dd K H (.ref a) (.tuple ds)
  | dct {a : Addr} {ks : List (Key × V)} {es : List (PyData × PyData)} : Rd H a (.dK ks) → Dk K H ks es → Dd K H (.ref a) (.dict es)
inductive Da (K : PySem.W.Frag) (H : Hp) : List V → List PyData → Prop
  | nil : Da K H [] []
  | cons {v : V} {vs : List V} {d : PyData} {ds : List PyData} : Dd K H v d → Da K H vs ds → Da K H (v :: vs) (d :: ds)
inductive Dk (K : PySem.W.Frag) (H : Hp) : List (Key × V) → List (PyData × PyData) → Prop
  | nil : Dk K H [] []
  | cons {k : Key} {v : V} {ks : List (Key × V)} {d : PyData} {es : List (PyData × PyData)} : Dd K H v d → Dk K H ks es → Dk K H ((k, v) :: ks) ((keyD k, d) :: es)
end

/-- all that G knows H knows, and what is locked stays so -/
structure Sub (G H : Hp) : Prop where
  rd : ∀ a u, Rd G a u → Rd H a u
  fz : ∀ a o u, G a = some (.frz o u) → H a = some (.frz o u)
  ls : ∀ a xs, G a = some (.lst xs) → H a = some (.lst xs)
instance {G H : Hp} : CoeFun (Sub G H) (fun _ => ∀ a u, Rd G a u → Rd H a u) := ⟨Sub.rd⟩
theorem Sub.refl (G : Hp) : Sub G G := ⟨fun _ _ h => h, fun _ _ _ h => h, fun _ _ h => h⟩
theorem Sub.trans {G G1 G2 : Hp} (a : Sub G G1) (b : Sub G1 G2) : Sub G G2 := ⟨fun x o h => b.rd x o (a.rd x o h), fun x o u h => b.fz x o u (a.fz x o u h), fun x u h => b.ls x u (a.ls x u h)⟩
theorem rd_some {G : Hp} {a : Addr} {u : HO} (h : Rd G a u) : G a ≠ none := by
  rcases h with h | ⟨o, h⟩ <;> (rw [h]; intro z; cases z)
theorem rd_upd {G : Hp} {a b : Addr} {u o : HO} (h : Rd G a u) (n : G b = none) : Rd (upd G b o) a u := by
  have hb : a ≠ b := fun e => rd_some h (by rw [e]; exact n)
  rcases h with h | ⟨ob, h⟩
  · exact .inl (by rw [upd_ne hb]; exact h)
  · exact .inr ⟨ob, by rw [upd_ne hb]; exact h⟩
theorem ne_none {G : Hp} {a b : Addr} {u : HO} (h : G a = some u) (n : G b = none) : a ≠ b := fun e => by rw [e, n] at h; cases h
theorem Sub.new {G : Hp} {b : Addr} {o : HO} (n : G b = none) : Sub G (upd G b o) := ⟨fun _ _ h => rd_upd h n, fun _ _ _ h => by rw [upd_ne (ne_none h n)]; exact h, fun _ _ h => by rw [upd_ne (ne_none h n)]; exact h⟩
theorem Sub.mut {G H : Hp} {b : Addr} {o : HO} (s : Sub G H) (n : G b = none) : Sub G (upd H b o) := ⟨fun a u h => by
  have hb : a ≠ b := fun e => rd_some h (by rw [e]; exact n)
  rcases s.rd a u h with h | ⟨ob, h⟩
  · exact .inl (by rw [upd_ne hb]; exact h)
  · exact .inr ⟨ob, by rw [upd_ne hb]; exact h⟩, fun a x u h => by rw [upd_ne (ne_none h n)]; exact s.fz a x u h, fun a u h => by rw [upd_ne (ne_none h n)]; exact s.ls a u h⟩
/-- one object more on both sides -/
theorem Sub.both {G H : Hp} {b : Addr} {o : HO} (s : Sub G H) (n : G b = none) (h : H b = some o) : Sub (upd G b o) H := ⟨fun a u r => by
  by_cases e : a = b
  · subst e
    rcases r with r | ⟨ob, r⟩
    · rw [upd_same] at r; cases r; exact .inl h
    · rw [upd_same] at r; cases r; exact .inr ⟨ob, h⟩
  · refine s.rd a u ?_
    rcases r with r | ⟨ob, r⟩
    · rw [upd_ne e] at r; exact .inl r
    · rw [upd_ne e] at r; exact .inr ⟨ob, r⟩, fun a x u r => by
  by_cases e : a = b
  · subst e; rw [upd_same] at r; cases r; exact h
  · rw [upd_ne e] at r; exact s.fz a x u r, fun a u r => by
  by_cases e : a = b
  · subst e; rw [upd_same] at r; cases r; exact h
  · rw [upd_ne e] at r; exact s.ls a u r⟩
theorem Sub.ex {H H' : Hp} (e : ∀ a o, H a = some o → H' a = some o) : Sub H H' := ⟨fun a u h => by
  rcases h with h | ⟨ob, h⟩
  · exact .inl (e _ _ h)
  · exact .inr ⟨ob, e _ _ h⟩, fun a o u h => e _ _ h, fun a u h => e _ _ h⟩
theorem Sub.free {G H : Hp} (s : Sub G H) {a : Addr} (n : H a = none) : G a = none := by
  cases e : G a with
  | none => rfl
  | some o => exact absurd n (rd_some (s a o (.inl e)))
section
variable {K : PySem.W.Frag} {G H : Hp}
theorem sub_l (s : Sub G H) {a : Addr} {xs : List V} (h : SqL K G a xs) : SqL K H a xs := by
  rcases h with h | h
  · exact .inl (s _ _ h)
  · exact .inr h
theorem sub_t (s : Sub G H) {a : Addr} {xs : List V} (h : SqT K G a xs) : SqT K H a xs := by
  rcases h with h | h
  · exact .inl (s _ _ h)
  · exact .inr h
mutual
theorem Dd.mono (s : Sub G H) : ∀ {v : V} {d : PyData}, Dd K G v d → Dd K H v d
  | _, _, .non => .non
  | _, _, .bl b => .bl b
  | _, _, .int i => .int i
  | _, _, .str x => .str x
  | _, _, .lst h a => .lst (sub_l s h) (Da.mono s a)
  | _, _, .tup h a => .tup (sub_t s h) (Da.mono s a)
  | _, _, .dct h a => .dct (s _ _ h) (Dk.mono s a)
theorem Da.mono (s : Sub G H) : ∀ {v : List V} {d : List PyData}, Da K G v d → Da K H v d
  | _, _, .nil => .nil
  | _, _, .cons h t => .cons (Dd.mono s h) (Da.mono s t)
theorem Dk.mono (s : Sub G H) : ∀ {v : List (Key × V)} {d : List (PyData × PyData)}, Dk K G v d → Dk K H v d
  | _, _, .nil => .nil
  | _, _, .cons h t => .cons (Dd.mono s h) (Dk.mono s t)
end
theorem Da.length : ∀ {vs : List V} {ds : List PyData}, Da K G vs ds → vs.length = ds.length
  | _, _, .nil => rfl
  | _, _, .cons _ t => congrArg (· + 1) (Da.length t)
theorem Da.get : ∀ {vs : List V} {ds : List PyData} {i : Nat} {d : PyData}, Da K G vs ds → ds[i]? = some d → ∃ v, vs[i]? = some v ∧ Dd K G v d
  | _, _, _, _, .nil, e => by simp at e
  | _, _, 0, _, .cons r _, e => by simp at e; subst e; exact ⟨_, rfl, r⟩
  | _, _, i + 1, _, .cons _ t, e => by
    obtain ⟨u, h1, h2⟩ := Da.get (i := i) t (by simpa using e)
    exact ⟨u, by simpa using h1, h2⟩
theorem Da.getV : ∀ {vs : List V} {ds : List PyData} {i : Nat} {v : V}, Da K G vs ds → vs[i]? = some v → ∃ d, ds[i]? = some d ∧ Dd K G v d
  | _, _, _, _, .nil, e => by simp at e
  | _, _, 0, _, .cons r _, e => by simp at e; subst e; exact ⟨_, rfl, r⟩
  | _, _, i + 1, _, .cons _ t, e => by
    obtain ⟨u, h1, h2⟩ := Da.getV (i := i) t (by simpa using e)
    exact ⟨u, by simpa using h1, h2⟩
theorem Da.append : ∀ {vs ws : List V} {ds es : List PyData}, Da K G vs ds → Da K G ws es → Da K G (vs ++ ws) (ds ++ es)
  | _, _, _, _, .nil, s => s
  | _, _, _, _, .cons r t, s => .cons r (Da.append t s)
theorem Da.take : ∀ {vs : List V} {ds : List PyData} (n : Nat), Da K G vs ds → Da K G (vs.take n) (ds.take n)
  | _, _, 0, _ => .nil
  | _, _, _ + 1, .nil => .nil
  | _, _, n + 1, .cons r t => .cons r (Da.take n t)
theorem Da.drop : ∀ {vs : List V} {ds : List PyData} (n : Nat), Da K G vs ds → Da K G (vs.drop n) (ds.drop n)
  | _, _, 0, r => r
  | _, _, _ + 1, .nil => .nil
  | _, _, n + 1, .cons _ t => Da.drop n t
theorem Da.set {v : V} {d : PyData} (r : Dd K G v d) : ∀ {vs : List V} {ds : List PyData} (i : Nat), Da K G vs ds → Da K G (vs.set i v) (ds.set i d)
  | _, _, _, .nil => .nil
  | _, _, 0, .cons _ t => .cons r t
  | _, _, i + 1, .cons q t => .cons q (Da.set r i t)
theorem Da.one {v : V} {d : PyData} (r : Dd K G v d) : Da K G [v] [d] := .cons r .nil

/-! ### cells, the state -/
/-- what a slot holds: nothing known; data that stays as it is; a list, a dict of one's own that may be changed -/
inductive Cell where
  | no | val (d : PyData) | lst (ds : List PyData) | dct (es : List (PyData × PyData)) | exc (cls : Value) (pl : Option PyData) | adr (a : Addr)
abbrev DEnv := List Cell
/-- what a slot holds when its thing has gone on -/
def Cell.rest : Cell → Cell
  | .val d => .val d
  | .exc cls pl => .exc cls pl
  | .adr a => .adr a
  | _ => .no
/-- what a cell's content is -/
def Cell.data : Cell → Option PyData
  | .no => none
  | .val d => some d
  | .lst ds => some (.list ds)
  | .dct es => some (.dict es)
  | .exc _ _ => none
  | .adr _ => none
/-- the object at a is a caught exception of this class, its dict at d -/
def ofCls (a : Addr) (cls : Value) (d : Option Addr) : Heap → Prop := fun h => ∃ o vs, h.get? a = some o ∧ o.cls = cls ∧ o.dict = d ∧ o.data = .fields vs
/-- v is a caught exception of the class cls, its field place being pl -/
def ExAt (K : PySem.W.Frag) (G : Hp) (v : V) (cls : Value) (pl : Option PyData) : Prop :=
  ∃ a d, v = .ref a ∧ Rd G a (.ext (ofCls a cls d)) ∧ ((d = none ∧ pl = none) ∨ ∃ b u x, d = some b ∧ pl = some x ∧ Rd G b (.xd [(("place" : Str), u)]) ∧ Dd K G u x)
theorem ExAt.mono {K : PySem.W.Frag} {G H : Hp} (s : Sub G H) {v : V} {cls : Value} {pl : Option PyData} (h : ExAt K G v cls pl) : ExAt K H v cls pl := by
  obtain ⟨a, d, e, r, h⟩ := h
  refine ⟨a, d, e, s _ _ r, h.imp id ?_⟩
  rintro ⟨b, u, x, e1, e2, r1, r2⟩
  exact ⟨b, u, x, e1, e2, s _ _ r1, r2.mono s⟩

def CellOk (K : PySem.W.Frag) (Out G H : Hp) (s : Option (Option V)) : Option Cell → Prop
  | some (.val d) => ∃ v, s = some (some v) ∧ Dd K G v d
  | some (.exc cls pl) => ∃ v, s = some (some v) ∧ ExAt K G v cls pl
  | some (.adr a) => ∃ v, s = some (some v) ∧ v = .ref a
  | some (.lst ds) => ∃ a vs, s = some (some (.ref a)) ∧ H a = some (.lst vs) ∧ G a = none ∧ Out a = none ∧ Da K G vs ds
  | some (.dct es) => ∃ a ks, s = some (some (.ref a)) ∧ H a = some (.dK ks) ∧ G a = none ∧ Out a = none ∧ Dk K G ks es
  | _ => True
/-- the address of the thing of one's own in slot i -/
def ownA (σ : L2.St) (env : DEnv) (i : Nat) : Option Addr :=
  match env[i]?, σ[i]? with
  | some (.lst _), some (some (.ref a)) => some a
  | some (.dct _), some (some (.ref a)) => some a
  | _, _ => none
structure Rel (K : PySem.W.Frag) (Out : Hp) (io : List Nat) (σ0 : L2.St) (G H : Hp) (σ : L2.St) (env : DEnv) : Prop where
  sub : Sub G H
  out : ∀ a o, Out a = some o → H a = some o
  apart : ∀ a o, Out a = some o → G a = none
  len : env.length = σ.length
  io : ∀ i ∈ io, σ[i]? = σ0[i]?
  cell : ∀ i : Nat, CellOk K Out G H σ[i]? env[i]?
  sep : ∀ i j a, ownA σ env i = some a → ownA σ env j = some a → i = j
/-- a value on its way -/
def Tmp (K : PySem.W.Frag) (Out G H : Hp) (σ : L2.St) (env : DEnv) (v : V) : Cell → Prop
  | .no => True
  | .val d => Dd K G v d
  | .exc cls pl => ExAt K G v cls pl
  | .adr a => v = .ref a
  | .lst ds => ∃ a vs, v = .ref a ∧ H a = some (.lst vs) ∧ G a = none ∧ Out a = none ∧ (∀ i, ownA σ env i ≠ some a) ∧ Da K G vs ds
  | .dct es => ∃ a ks, v = .ref a ∧ H a = some (.dK ks) ∧ G a = none ∧ Out a = none ∧ (∀ i, ownA σ env i ≠ some a) ∧ Dk K G ks es

theorem ownA_val {σ : L2.St} {env : DEnv} {i : Nat} {d : PyData} (h : env[i]? = some (.val d)) : ownA σ env i = none := by
  unfold ownA; rw [h] <;> rfl
theorem ownA_no {σ : L2.St} {env : DEnv} {i : Nat} (h : env[i]? = some .no) : ownA σ env i = none := by
  unfold ownA; rw [h] <;> rfl
theorem ownA_none {σ : L2.St} {env : DEnv} {i : Nat} (h : env[i]? = none) : ownA σ env i = none := by
  unfold ownA; rw [h] <;> rfl
end
section
variable {K : PySem.W.Frag} {Out G H G' H' : Hp} {io : List Nat} {σ0 σ : L2.St} {env env' : DEnv}
/-- what is known of an owned address -/
theorem Rel.owned (R : Rel K Out io σ0 G H σ env) {i : Nat} {a : Addr} (h : ownA σ env i = some a) : G a = none ∧ Out a = none ∧ H a ≠ none := by
  have c := R.cell i
  unfold ownA at h
  cases e : env[i]? with
  | none => rw [e] at h; cases h
  | some x =>
    rw [e] at h c
    cases x with
    | no => cases h
    | val d => cases h
    | exc cl pl => cases h
    | adr ad => cases h
    | lst ds =>
      obtain ⟨b, vs, s, h1, h2, h3, _⟩ := c
      rw [s] at h
      cases h
      exact ⟨h2, h3, by rw [h1]; intro z; cases z⟩
    | dct es =>
      obtain ⟨b, vs, s, h1, h2, h3, _⟩ := c
      rw [s] at h
      cases h
      exact ⟨h2, h3, by rw [h1]; intro z; cases z⟩
/-- a place that the state does not speak of changes or is new; the frozen part may grow by it -/
theorem Rel.frame (R : Rel K Out io σ0 G H σ env) (s : Sub G G') (s' : Sub G' H') (ho : ∀ a o, Out a = some o → H' a = some o) (ha : ∀ a o, Out a = some o → G' a = none)
    (hk : ∀ i a, ownA σ env i = some a → H' a = H a ∧ G' a = none) : Rel K Out io σ0 G' H' σ env where
  sub := s'
  out := ho
  apart := ha
  len := R.len
  io := R.io
  cell := fun i => by
    have c := R.cell i
    cases e : env[i]? with
    | none => trivial
    | some x =>
      rw [e] at c
      cases x with
      | no => trivial
      | val d =>
        obtain ⟨v, h1, h2⟩ := c
        exact ⟨v, h1, h2.mono s⟩
      | exc cl pl =>
        obtain ⟨v, h1, h2⟩ := c
        exact ⟨v, h1, h2.mono s⟩
      | adr ad =>
        obtain ⟨v, h1, h2⟩ := c
        exact ⟨v, h1, h2⟩
      | lst ds =>
        obtain ⟨b, vs, h0, h1, h2, h3, h4⟩ := c
        have q := hk i b (by unfold ownA; rw [e, h0])
        exact ⟨b, vs, h0, by rw [q.1]; exact h1, q.2, h3, h4.mono s⟩
      | dct es =>
        obtain ⟨b, vs, h0, h1, h2, h3, h4⟩ := c
        have q := hk i b (by unfold ownA; rw [e, h0])
        exact ⟨b, vs, h0, by rw [q.1]; exact h1, q.2, h3, h4.mono s⟩
  sep := R.sep
/-- a new object, frozen at once -/
theorem Rel.laid (R : Rel K Out io σ0 G H σ env) {p : Addr} {o : HO} (n : H p = none) : Rel K Out io σ0 (upd G p o) (upd H p o) σ env := by
  have ng : G p = none := R.sub.free n
  have no : Out p = none := by
    cases e : Out p with
    | none => rfl
    | some x => rw [R.out p x e] at n; cases n
  refine R.frame (Sub.new ng) (Sub.both (R.sub.mut ng) ng upd_same) (fun a x h => ?_) (fun a x h => ?_) fun i a h => ?_
  · rw [upd_ne (fun e => by rw [e, no] at h; cases h)]
    exact R.out a x h
  · rw [upd_ne (fun e => by rw [e, no] at h; cases h)]
    exact R.apart a x h
  · obtain ⟨h1, h2, h3⟩ := R.owned h
    have ne : a ≠ p := fun e => h3 (by rw [e]; exact n)
    exact ⟨upd_ne ne, by rw [upd_ne ne]; exact h1⟩
/-- a new object, not frozen -/
theorem Rel.fresh (R : Rel K Out io σ0 G H σ env) {p : Addr} {o : HO} (n : H p = none) : Rel K Out io σ0 G (upd H p o) σ env := by
  have ng : G p = none := R.sub.free n
  have no : Out p = none := by
    cases e : Out p with
    | none => rfl
    | some x => rw [R.out p x e] at n; cases n
  refine R.frame (Sub.refl G) (R.sub.mut ng) (fun a x h => ?_) R.apart fun i a h => ?_
  · rw [upd_ne (fun e => by rw [e, no] at h; cases h)]
    exact R.out a x h
  · obtain ⟨h1, h2, h3⟩ := R.owned h
    have ne : a ≠ p := fun e => h3 (by rw [e]; exact n)
    exact ⟨upd_ne ne, h1⟩
theorem Rel.outNone (R : Rel K Out io σ0 G H σ env) {p : Addr} (n : H p = none) : Out p = none := by
  cases e : Out p with
  | none => rfl
  | some x => rw [R.out p x e] at n; cases n
theorem Rel.notOwn (R : Rel K Out io σ0 G H σ env) {p : Addr} (n : H p = none) : ∀ i, ownA σ env i ≠ some p := fun i h => (R.owned h).2.2 n
/-- a thing on its way is frozen -/
theorem Rel.freeze (R : Rel K Out io σ0 G H σ env) {v : V} {c : Cell} {d : PyData} (t : Tmp K Out G H σ env v c) (e : c.data = some d) :
    ∃ G', Rel K Out io σ0 G' H σ env ∧ Sub G G' ∧ Dd K G' v d := by
  cases c with
  | no => cases e
  | val x =>
    cases e
    exact ⟨G, R, Sub.refl G, t⟩
  | exc cl pl => cases e
  | adr ad => cases e
  | lst ds =>
    cases e
    obtain ⟨a, vs, rfl, h1, h2, h3, h4, h5⟩ := t
    refine ⟨upd G a (.lst vs), R.frame (Sub.new h2) (Sub.both R.sub h2 h1) R.out (fun b o h => ?_) (fun i b h => ⟨rfl, ?_⟩), Sub.new h2, .lst (.inl (.inl upd_same)) (h5.mono (Sub.new h2))⟩
    · rw [upd_ne (fun z => by rw [z, h3] at h; cases h)]
      exact R.apart b o h
    · rw [upd_ne (fun z => h4 i (by rw [← z]; exact h))]
      exact (R.owned h).1
  | dct es =>
    cases e
    obtain ⟨a, vs, rfl, h1, h2, h3, h4, h5⟩ := t
    refine ⟨upd G a (.dK vs), R.frame (Sub.new h2) (Sub.both R.sub h2 h1) R.out (fun b o h => ?_) (fun i b h => ⟨rfl, ?_⟩), Sub.new h2, .dct (.inl upd_same) (h5.mono (Sub.new h2))⟩
    · rw [upd_ne (fun z => by rw [z, h3] at h; cases h)]
      exact R.apart b o h
    · rw [upd_ne (fun z => h4 i (by rw [← z]; exact h))]
      exact (R.owned h).1
/-- its content, in the whole heap -/
theorem Tmp.dd (R : Rel K Out io σ0 G H σ env) {v : V} {c : Cell} {d : PyData} (t : Tmp K Out G H σ env v c) (e : c.data = some d) : Dd K H v d := by
  cases c with
  | no => cases e
  | val x => cases e; exact Dd.mono R.sub t
  | exc cl pl => cases e
  | adr ad => cases e
  | lst ds =>
    cases e
    obtain ⟨a, vs, rfl, h1, h2, h3, h4, h5⟩ := t
    exact .lst (.inl (.inl h1)) (h5.mono R.sub)
  | dct es =>
    cases e
    obtain ⟨a, vs, rfl, h1, h2, h3, h4, h5⟩ := t
    exact .dct (.inl h1) (h5.mono R.sub)
/-- a slot's content -/
theorem Rel.look (R : Rel K Out io σ0 G H σ env) {i : Nat} {c : Cell} {d : PyData} (h : env[i]? = some c) (e : c.data = some d) : ∃ v, σ[i]? = some (some v) ∧ Dd K H v d := by
  have k := R.cell i
  rw [h] at k
  cases c with
  | no => cases e
  | val x =>
    cases e
    obtain ⟨v, h1, h2⟩ := k
    exact ⟨v, h1, h2.mono R.sub⟩
  | exc cl pl => cases e
  | adr ad => cases e
  | lst ds =>
    cases e
    obtain ⟨a, vs, h0, h1, h2, h3, h4⟩ := k
    exact ⟨_, h0, .lst (.inl (.inl h1)) (h4.mono R.sub)⟩
  | dct es =>
    cases e
    obtain ⟨a, vs, h0, h1, h2, h3, h4⟩ := k
    exact ⟨_, h0, .dct (.inl h1) (h4.mono R.sub)⟩
/-- a slot that holds a thing of one's own is forgotten: the thing is on its way -/
theorem Rel.moved (R : Rel K Out io σ0 G H σ env) {i : Nat} {c : Cell} (h : env[i]? = some c) (hc : c ≠ .no) : ∃ v, σ[i]? = some (some v) ∧ Rel K Out io σ0 G H σ (env.set i c.rest) ∧ Tmp K Out G H σ (env.set i c.rest) v c := by
  have k := R.cell i
  rw [h] at k
  have hi : i < env.length := (List.getElem?_eq_some_iff.mp h).1
  have own_of : ∀ (c' : Cell), (∀ ds, c' ≠ .lst ds) → (∀ ds, c' ≠ .dct ds) → ∀ j a, ownA σ (env.set i c') j = some a → j ≠ i ∧ ownA σ env j = some a := fun c' n1 n2 j a z => by
    by_cases hj : j = i
    · subst hj
      unfold ownA at z
      rw [List.getElem?_set_self hi] at z
      cases c' with
      | no => cases z
      | val d => cases z
      | exc cl pl => cases z
      | adr ad => cases z
      | lst ds => exact absurd rfl (n1 ds)
      | dct ds => exact absurd rfl (n2 ds)
    · refine ⟨hj, ?_⟩
      unfold ownA at z ⊢
      rw [List.getElem?_set_ne (fun e => hj e.symm)] at z
      exact z
  have relOf : ∀ (c' : Cell), (∀ ds, c' ≠ .lst ds) → (∀ ds, c' ≠ .dct ds) → CellOk K Out G H σ[i]? (some c') → Rel K Out io σ0 G H σ (env.set i c') := fun c' n1 n2 ck =>
    { sub := R.sub, out := R.out, apart := R.apart, len := by rw [List.length_set]; exact R.len, io := R.io,
      cell := fun j => by
        by_cases hj : j = i
        · subst hj
          rw [List.getElem?_set_self hi]
          exact ck
        · rw [List.getElem?_set_ne (fun e => hj e.symm)]
          exact R.cell j
      sep := fun j l a z1 z2 => R.sep j l a (own_of c' n1 n2 j a z1).2 (own_of c' n1 n2 l a z2).2 }
  cases c with
  | no => exact absurd rfl hc
  | val d =>
    obtain ⟨v, h1, h2⟩ := k
    exact ⟨v, h1, relOf (.val d) (fun _ z => nomatch z) (fun _ z => nomatch z) ⟨v, h1, h2⟩, h2⟩
  | exc cl pl =>
    obtain ⟨v, h1, h2⟩ := k
    exact ⟨v, h1, relOf (.exc cl pl) (fun _ z => nomatch z) (fun _ z => nomatch z) ⟨v, h1, h2⟩, h2⟩
  | adr ad =>
    obtain ⟨v, h1, h2⟩ := k
    exact ⟨v, h1, relOf (.adr ad) (fun _ z => nomatch z) (fun _ z => nomatch z) ⟨v, h1, h2⟩, h2⟩
  | lst ds =>
    obtain ⟨a, vs, h0, h1, h2, h3, h4⟩ := k
    refine ⟨_, h0, relOf .no (fun _ z => nomatch z) (fun _ z => nomatch z) trivial, a, vs, rfl, h1, h2, h3, fun j z => ?_, h4⟩
    obtain ⟨n, z⟩ := own_of .no (fun _ z => nomatch z) (fun _ z => nomatch z) j a z
    exact n (R.sep j i a z (by unfold ownA; rw [h, h0]))
  | dct ds =>
    obtain ⟨a, vs, h0, h1, h2, h3, h4⟩ := k
    refine ⟨_, h0, relOf .no (fun _ z => nomatch z) (fun _ z => nomatch z) trivial, a, vs, rfl, h1, h2, h3, fun j z => ?_, h4⟩
    obtain ⟨n, z⟩ := own_of .no (fun _ z => nomatch z) (fun _ z => nomatch z) j a z
    exact n (R.sep j i a z (by unfold ownA; rw [h, h0]))
/-- a value is stored in slot i -/
theorem Rel.store (R : Rel K Out io σ0 G H σ env) {v : V} {c : Cell} (t : Tmp K Out G H σ env v c) {i : Nat} (hi : i ∉ io) : Rel K Out io σ0 G H (σ.set i (some v)) (env.set i c) := by
  by_cases hl : i < env.length
  · have hs : i < σ.length := by rw [← R.len]; exact hl
    have own_of : ∀ j a, ownA (σ.set i (some v)) (env.set i c) j = some a → (j = i ∧ v = .ref a ∧ ∀ k, ownA σ env k ≠ some a) ∨ (j ≠ i ∧ ownA σ env j = some a) := fun j a z => by
      by_cases hj : j = i
      · subst hj
        unfold ownA at z
        rw [List.getElem?_set_self hl, List.getElem?_set_self hs] at z
        cases c with
        | no => cases z
        | val d => cases z
        | exc cl pl => cases z
        | adr ad => cases z
        | lst ds =>
          obtain ⟨b, vs, rfl, _, _, _, h4, _⟩ := t
          cases z
          exact .inl ⟨rfl, rfl, h4⟩
        | dct ds =>
          obtain ⟨b, vs, rfl, _, _, _, h4, _⟩ := t
          cases z
          exact .inl ⟨rfl, rfl, h4⟩
      · refine .inr ⟨hj, ?_⟩
        unfold ownA at z ⊢
        rw [List.getElem?_set_ne (fun e => hj e.symm), List.getElem?_set_ne (fun e => hj e.symm)] at z
        exact z
    exact
    { sub := R.sub, out := R.out, apart := R.apart, len := by rw [List.length_set, List.length_set]; exact R.len
      io := fun j hj => by
        rw [List.getElem?_set_ne (fun e => hi (by rw [e]; exact hj))]
        exact R.io j hj
      cell := fun j => by
        by_cases hj : j = i
        · subst hj
          rw [List.getElem?_set_self hl, List.getElem?_set_self hs]
          cases c with
          | no => trivial
          | val d => exact ⟨v, rfl, t⟩
          | exc cl pl => exact ⟨v, rfl, t⟩
          | adr ad => exact ⟨v, rfl, t⟩
          | lst ds =>
            obtain ⟨b, vs, rfl, h1, h2, h3, h4, h5⟩ := t
            exact ⟨b, vs, rfl, h1, h2, h3, h5⟩
          | dct ds =>
            obtain ⟨b, vs, rfl, h1, h2, h3, h4, h5⟩ := t
            exact ⟨b, vs, rfl, h1, h2, h3, h5⟩
        · rw [List.getElem?_set_ne (fun e => hj e.symm), List.getElem?_set_ne (fun e => hj e.symm)]
          exact R.cell j
      sep := fun j l a z1 z2 => by
        rcases own_of j a z1 with ⟨e1, _, f1⟩ | ⟨e1, f1⟩
        · rcases own_of l a z2 with ⟨e2, _, f2⟩ | ⟨e2, f2⟩
          · rw [e1, e2]
          · exact absurd f2 (f1 l)
        · rcases own_of l a z2 with ⟨e2, _, f2⟩ | ⟨e2, f2⟩
          · exact absurd f1 (f2 j)
          · exact R.sep j l a f1 f2 }
  · have e1 : env.set i c = env := List.set_eq_of_length_le (by omega)
    have e2 : σ.set i (some v) = σ := List.set_eq_of_length_le (by rw [← R.len]; omega)
    rw [e1, e2]
    exact R
/-- the list of one's own in slot i is changed -/
theorem Rel.writeL (R : Rel K Out io σ0 G H σ env) {i : Nat} {ds es : List PyData} {a : Addr} {ws : List V} (h : env[i]? = some (.lst ds)) (hs : σ[i]? = some (some (.ref a))) (w : Da K G ws es) :
    Rel K Out io σ0 G (upd H a (.lst ws)) σ (env.set i (.lst es)) := by
  have hi : i < env.length := (List.getElem?_eq_some_iff.mp h).1
  have oa : ownA σ env i = some a := by unfold ownA; rw [h, hs]
  obtain ⟨g, o, _⟩ := R.owned oa
  have own_of : ∀ j b, ownA σ (env.set i (.lst es)) j = some b → ownA σ env j = some b := fun j b z => by
    by_cases hj : j = i
    · subst hj
      unfold ownA at z
      rw [List.getElem?_set_self hi, hs] at z
      cases z
      exact oa
    · unfold ownA at z ⊢
      rw [List.getElem?_set_ne (fun e => hj e.symm)] at z
      exact z
  exact
  { sub := R.sub.mut g
    out := fun b x z => by
      rw [upd_ne (fun e => by rw [e, o] at z; cases z)]
      exact R.out b x z
    apart := R.apart
    len := by rw [List.length_set]; exact R.len
    io := R.io
    cell := fun j => by
      by_cases hj : j = i
      · subst hj
        rw [List.getElem?_set_self hi]
        exact ⟨a, ws, hs, upd_same, g, o, w⟩
      · rw [List.getElem?_set_ne (fun e => hj e.symm)]
        have k := R.cell j
        cases e : env[j]? with
        | none => trivial
        | some x =>
          rw [e] at k
          cases x with
          | no => trivial
          | val d => exact k
          | exc cl pl => exact k
          | adr ad => exact k
          | lst ds =>
            obtain ⟨b, vs, h0, h1, h2, h3, h4⟩ := k
            have ne : b ≠ a := fun z => hj (R.sep j i a (by unfold ownA; rw [e, h0, z]) oa)
            exact ⟨b, vs, h0, by rw [upd_ne ne]; exact h1, h2, h3, h4⟩
          | dct ds =>
            obtain ⟨b, vs, h0, h1, h2, h3, h4⟩ := k
            have ne : b ≠ a := fun z => hj (R.sep j i a (by unfold ownA; rw [e, h0, z]) oa)
            exact ⟨b, vs, h0, by rw [upd_ne ne]; exact h1, h2, h3, h4⟩
    sep := fun j l b z1 z2 => R.sep j l b (own_of j b z1) (own_of l b z2) }
theorem Rel.writeD (R : Rel K Out io σ0 G H σ env) {i : Nat} {ds es : List (PyData × PyData)} {a : Addr} {ws : List (Key × V)} (h : env[i]? = some (.dct ds)) (hs : σ[i]? = some (some (.ref a))) (w : Dk K G ws es) :
    Rel K Out io σ0 G (upd H a (.dK ws)) σ (env.set i (.dct es)) := by
  have hi : i < env.length := (List.getElem?_eq_some_iff.mp h).1
  have oa : ownA σ env i = some a := by unfold ownA; rw [h, hs]
  obtain ⟨g, o, _⟩ := R.owned oa
  have own_of : ∀ j b, ownA σ (env.set i (.dct es)) j = some b → ownA σ env j = some b := fun j b z => by
    by_cases hj : j = i
    · subst hj
      unfold ownA at z
      rw [List.getElem?_set_self hi, hs] at z
      cases z
      exact oa
    · unfold ownA at z ⊢
      rw [List.getElem?_set_ne (fun e => hj e.symm)] at z
      exact z
  exact
  { sub := R.sub.mut g
    out := fun b x z => by
      rw [upd_ne (fun e => by rw [e, o] at z; cases z)]
      exact R.out b x z
    apart := R.apart
    len := by rw [List.length_set]; exact R.len
    io := R.io
    cell := fun j => by
      by_cases hj : j = i
      · subst hj
        rw [List.getElem?_set_self hi]
        exact ⟨a, ws, hs, upd_same, g, o, w⟩
      · rw [List.getElem?_set_ne (fun e => hj e.symm)]
        have k := R.cell j
        cases e : env[j]? with
        | none => trivial
        | some x =>
          rw [e] at k
          cases x with
          | no => trivial
          | val d => exact k
          | exc cl pl => exact k
          | adr ad => exact k
          | lst ds =>
            obtain ⟨b, vs, h0, h1, h2, h3, h4⟩ := k
            have ne : b ≠ a := fun z => hj (R.sep j i a (by unfold ownA; rw [e, h0, z]) oa)
            exact ⟨b, vs, h0, by rw [upd_ne ne]; exact h1, h2, h3, h4⟩
          | dct ds =>
            obtain ⟨b, vs, h0, h1, h2, h3, h4⟩ := k
            have ne : b ≠ a := fun z => hj (R.sep j i a (by unfold ownA; rw [e, h0, z]) oa)
            exact ⟨b, vs, h0, by rw [upd_ne ne]; exact h1, h2, h3, h4⟩
    sep := fun j l b z1 z2 => R.sep j l b (own_of j b z1) (own_of l b z2) }
/-- the state of the rest of a body, a value on its way held apart: it counts as an outer thing -/
theorem Rel.hold (R : Rel K Out io σ0 G H σ env) {v : V} {c : Cell} (t : Tmp K Out G H σ env v c) :
    ∃ Out', Rel K Out' io σ0 G H σ env ∧ (∀ a, Out a ≠ none → Out' a = Out a) ∧
      ∀ {G' H' σ' env'}, Rel K Out' io σ0 G' H' σ' env' → Sub G G' → Rel K Out io σ0 G' H' σ' env' ∧ Tmp K Out G' H' σ' env' v c := by
  have base : ∀ {a : Addr} {o : HO}, H a = some o → G a = none → Out a = none → (∀ i, ownA σ env i ≠ some a) → Rel K (upd Out a o) io σ0 G H σ env := fun {a o} h1 h2 h3 h4 =>
    { sub := R.sub
      out := fun b x z => by
        by_cases e : b = a
        · subst e; rw [upd_same] at z; cases z; exact h1
        · rw [upd_ne e] at z; exact R.out b x z
      apart := fun b x z => by
        by_cases e : b = a
        · subst e; exact h2
        · rw [upd_ne e] at z; exact R.apart b x z
      len := R.len
      io := R.io
      cell := fun i => by
        have k := R.cell i
        cases e : env[i]? with
        | none => trivial
        | some x =>
          rw [e] at k
          cases x with
          | no => trivial
          | val d => exact k
          | exc cl pl => exact k
          | adr ad => exact k
          | lst ds =>
            obtain ⟨b, vs, z0, z1, z2, z3, z4⟩ := k
            have ne : b ≠ a := fun z => h4 i (by unfold ownA; rw [e, z0, z])
            exact ⟨b, vs, z0, z1, z2, by rw [upd_ne ne]; exact z3, z4⟩
          | dct ds =>
            obtain ⟨b, vs, z0, z1, z2, z3, z4⟩ := k
            have ne : b ≠ a := fun z => h4 i (by unfold ownA; rw [e, z0, z])
            exact ⟨b, vs, z0, z1, z2, by rw [upd_ne ne]; exact z3, z4⟩
      sep := R.sep }
  have back : ∀ {a : Addr} {o : HO} {G' H' : Hp} {σ' : L2.St} {env' : DEnv}, Out a = none → Rel K (upd Out a o) io σ0 G' H' σ' env' → Rel K Out io σ0 G' H' σ' env' ∧ H' a = some o ∧ G' a = none ∧ ∀ i, ownA σ' env' i ≠ some a := fun {a o G' H' σ' env'} h3 R' => by
    refine ⟨{ sub := R'.sub, out := fun b x z => R'.out b x (by rw [upd_ne (fun e => by rw [e, h3] at z; cases z)]; exact z), apart := fun b x z => R'.apart b x (by rw [upd_ne (fun e => by rw [e, h3] at z; cases z)]; exact z), len := R'.len, io := R'.io, cell := fun i => ?_, sep := R'.sep }, R'.out a o upd_same, R'.apart a o upd_same, fun i z => ?_⟩
    · have k := R'.cell i
      cases e : env'[i]? with
      | none => trivial
      | some x =>
        rw [e] at k
        cases x with
        | no => trivial
        | val d => exact k
        | exc cl pl => exact k
        | adr ad => exact k
        | lst ds =>
          obtain ⟨b, vs, z0, z1, z2, z3, z4⟩ := k
          have ne : b ≠ a := fun z => by rw [z, upd_same] at z3; cases z3
          exact ⟨b, vs, z0, z1, z2, by rw [upd_ne ne] at z3; exact z3, z4⟩
        | dct ds =>
          obtain ⟨b, vs, z0, z1, z2, z3, z4⟩ := k
          have ne : b ≠ a := fun z => by rw [z, upd_same] at z3; cases z3
          exact ⟨b, vs, z0, z1, z2, by rw [upd_ne ne] at z3; exact z3, z4⟩
    · have q := (R'.owned z).2.1
      rw [upd_same] at q; cases q
  cases c with
  | no => exact ⟨Out, R, fun _ _ => rfl, fun R' _ => ⟨R', trivial⟩⟩
  | val d => exact ⟨Out, R, fun _ _ => rfl, fun R' s => ⟨R', Dd.mono s t⟩⟩
  | exc cl pl => exact ⟨Out, R, fun _ _ => rfl, fun R' s => ⟨R', ExAt.mono s t⟩⟩
  | adr ad => exact ⟨Out, R, fun _ _ => rfl, fun R' s => ⟨R', t⟩⟩
  | lst ds =>
    obtain ⟨a, vs, rfl, h1, h2, h3, h4, h5⟩ := t
    refine ⟨upd Out a (.lst vs), base h1 h2 h3 h4, fun b hb => upd_ne fun e => hb (by rw [e]; exact h3), fun R' s => ?_⟩
    obtain ⟨q1, q2, q3, q4⟩ := back h3 R'
    exact ⟨q1, a, vs, rfl, q2, q3, h3, q4, h5.mono s⟩
  | dct es =>
    obtain ⟨a, vs, rfl, h1, h2, h3, h4, h5⟩ := t
    refine ⟨upd Out a (.dK vs), base h1 h2 h3 h4, fun b hb => upd_ne fun e => hb (by rw [e]; exact h3), fun R' s => ?_⟩
    obtain ⟨q1, q2, q3, q4⟩ := back h3 R'
    exact ⟨q1, a, vs, rfl, q2, q3, h3, q4, h5.mono s⟩
end
end M
end
section
namespace M
open PySem PySem.Spec PyProof.Rows L2

/-- an operand's content: frozen, or a thing of one's own -/
inductive Dx (K : PySem.W.Frag) (G H : Hp) : V → PyData → Prop
  | g {v : V} {d : PyData} : Dd K G v d → Dx K G H v d
  | l {a : Addr} {vs : List V} {ds : List PyData} : H a = some (.lst vs) → Da K G vs ds → Dx K G H (.ref a) (.list ds)
  | d {a : Addr} {ks : List (Key × V)} {es : List (PyData × PyData)} : H a = some (.dK ks) → Dk K G ks es → Dx K G H (.ref a) (.dict es)
section
variable {K : PySem.W.Frag} {Out G H G' H' : Hp} {io : List Nat} {σ0 σ : L2.St} {env env' : DEnv}
theorem Dx.dd (s : Sub G H) {v : V} {d : PyData} (h : Dx K G H v d) : Dd K H v d := by
  cases h with
  | g h => exact h.mono s
  | l h a => exact .lst (.inl (.inl h)) (a.mono s)
  | d h a => exact .dct (.inl h) (a.mono s)
theorem Dx.list (s : Sub G H) {v : V} {ds : List PyData} (h : Dx K G H v (.list ds)) : ∃ a vs, v = .ref a ∧ SqL K H a vs ∧ Da K G vs ds := by
  cases h with
  | g h => cases h with | lst h a => exact ⟨_, _, rfl, sub_l s h, a⟩
  | l h a => exact ⟨_, _, rfl, .inl (.inl h), a⟩
theorem Dx.tuple (s : Sub G H) {v : V} {ds : List PyData} (h : Dx K G H v (.tuple ds)) : ∃ a vs, v = .ref a ∧ SqT K H a vs ∧ Da K G vs ds := by
  cases h with
  | g h => cases h with | tup h a => exact ⟨_, _, rfl, sub_t s h, a⟩
theorem Dx.dict (s : Sub G H) {v : V} {es : List (PyData × PyData)} (h : Dx K G H v (.dict es)) : ∃ a ks, v = .ref a ∧ Rd H a (.dK ks) ∧ Dk K G ks es := by
  cases h with
  | g h => cases h with | dct h a => exact ⟨_, _, rfl, s _ _ h, a⟩
  | d h a => exact ⟨_, _, rfl, .inl h, a⟩
theorem Dx.int (s : Sub G H) {v : V} {i : Int} (h : Dx K G H v (.int i)) : v = .int i := by
  cases h with | g h => cases h with | int => rfl
theorem Dx.str (s : Sub G H) {v : V} {i : Str} (h : Dx K G H v (.str i)) : v = .str i := by
  cases h with | g h => cases h with | str => rfl
theorem Dx.bool (s : Sub G H) {v : V} {i : Bool} (h : Dx K G H v (.bool i)) : v = .bl i := by
  cases h with | g h => cases h with | bl => rfl
theorem Dx.none (s : Sub G H) {v : V} (h : Dx K G H v .none) : v = .non := by
  cases h with | g h => cases h with | non => rfl
theorem Dd.vInt {v : V} {i : Int} (h : Dd K G v (.int i)) : v = .int i := by cases h with | int => rfl
theorem Dd.vStr {v : V} {i : Str} (h : Dd K G v (.str i)) : v = .str i := by cases h with | str => rfl
theorem Dd.vBool {v : V} {i : Bool} (h : Dd K G v (.bool i)) : v = .bl i := by cases h with | bl => rfl
theorem Dd.vNone {v : V} (h : Dd K G v .none) : v = .non := by cases h with | non => rfl
mutual
/-- without a dict it is the library's -/
theorem Dd.dp : ∀ {v : V} {d : PyData}, Dd K G v d → PyData.hasDict d = false → Dp K G v d
  | _, _, .non, _ => .non
  | _, _, .bl b, _ => .bl b
  | _, _, .int i, _ => .int i
  | _, _, .str x, _ => .str x
  | _, _, .lst h a, n => .lst h (Da.dp a (by simpa [PyData.hasDict] using n))
  | _, _, .tup h a, n => .tup h (Da.dp a (by simpa [PyData.hasDict] using n))
  | _, _, .dct h a, n => by simp [PyData.hasDict] at n
theorem Da.dp : ∀ {v : List V} {d : List PyData}, Da K G v d → PyData.hasDictAll d = false → DpAll K G v d
  | _, _, .nil, _ => .nil
  | _, _, .cons h t, n => by
    simp only [PyData.hasDictAll, Bool.or_eq_false_iff] at n
    exact .cons (Dd.dp h n.1) (Da.dp t n.2)
end
theorem Rel.fill (R : Rel K Out io σ0 G H σ env) {i : Nat} {v : V} {d : PyData} (hs : σ[i]? = some (some v)) (h : Dd K G v d) : Rel K Out io σ0 G H σ (env.set i (.val d)) := by
  by_cases hi : i < env.length
  · have own_of : ∀ j b, ownA σ (env.set i (.val d)) j = some b → ownA σ env j = some b := fun j b z => by
      by_cases hj : j = i
      · subst hj
        rw [ownA_val (List.getElem?_set_self hi)] at z
        cases z
      · unfold ownA at z ⊢
        rw [List.getElem?_set_ne (fun e => hj e.symm)] at z
        exact z
    exact
    { sub := R.sub, out := R.out, apart := R.apart, len := by rw [List.length_set]; exact R.len, io := R.io,
      cell := fun j => by
        by_cases hj : j = i
        · subst hj
          rw [List.getElem?_set_self hi]
          exact ⟨v, hs, h⟩
        · rw [List.getElem?_set_ne (fun e => hj e.symm)]
          exact R.cell j
      sep := fun j l a z1 z2 => R.sep j l a (own_of j a z1) (own_of l a z2) }
  · rw [List.set_eq_of_length_le (by omega)]
    exact R
theorem Rel.lookX (R : Rel K Out io σ0 G H σ env) {i : Nat} {c : Cell} {d : PyData} (h : env[i]? = some c) (e : c.data = some d) : ∃ v, σ[i]? = some (some v) ∧ Dx K G H v d := by
  have k := R.cell i
  rw [h] at k
  cases c with
  | no => cases e
  | val x =>
    cases e
    obtain ⟨v, h1, h2⟩ := k
    exact ⟨v, h1, .g h2⟩
  | exc cl pl => cases e
  | adr ad => cases e
  | lst ds =>
    cases e
    obtain ⟨a, vs, h0, h1, h2, h3, h4⟩ := k
    exact ⟨_, h0, .l h1 h4⟩
  | dct es =>
    cases e
    obtain ⟨a, vs, h0, h1, h2, h3, h4⟩ := k
    exact ⟨_, h0, .d h1 h4⟩
theorem Tmp.dx {v : V} {c : Cell} {d : PyData} (t : Tmp K Out G H σ env v c) (e : c.data = some d) : Dx K G H v d := by
  cases c with
  | no => cases e
  | val x => cases e; exact .g t
  | exc cl pl => cases e
  | adr ad => cases e
  | lst ds =>
    cases e
    obtain ⟨a, vs, rfl, h1, h2, h3, h4, h5⟩ := t
    exact .l h1 h5
  | dct es =>
    cases e
    obtain ⟨a, vs, rfl, h1, h2, h3, h4, h5⟩ := t
    exact .d h1 h5
end

/-! ### the judgements -/
abbrev MX := Value → Option PyData → DEnv → Prop
abbrev MK := Cell → DEnv → Prop
abbrev ME := MX → DEnv → MK → Prop
abbrev MT := MX → DEnv → (Bool → DEnv → Prop) → Prop
abbrev MA := MX → DEnv → (List PyData → DEnv → Prop) → Prop
inductive Opd where
  | tmp (c : Cell) | slot (i : Nat)
def Opd.data (env : DEnv) : Opd → Option PyData
  | .tmp c => c.data
  | .slot i => env[i]?.bind Cell.data
abbrev MO := MX → DEnv → (Opd → DEnv → Prop) → Prop
def PlOk (K : PySem.W.Frag) (G H : Hp) (d : Option Addr) (pl : Option PyData) : Prop :=
  (d = none ∧ pl = none) ∨ ∃ a v x, d = some a ∧ pl = some x ∧ Rd G a (.xd [(("place" : Str), v)]) ∧ Dd K G v x
def XOk (K : PySem.W.Frag) (Out : Hp) (io : List Nat) (σ0 : L2.St) (G : Hp) (W : WX) (xk : MX) : Prop :=
  ∀ cls d pl env G' H' σ, Rel K Out io σ0 G' H' σ env → Sub G G' → PlOk K G' H' d pl → xk cls pl env → W cls d σ H'
theorem XOk.mono {K : PySem.W.Frag} {Out : Hp} {io : List Nat} {σ0 : L2.St} {G G1 : Hp} {W : WX} {xk : MX} (h : XOk K Out io σ0 G W xk) (s : Sub G G1) : XOk K Out io σ0 G1 W xk :=
  fun cls d pl env G' H' σ R s' p x => h cls d pl env G' H' σ R (s.trans s') p x
def TmpO (K : PySem.W.Frag) (Out G H : Hp) (σ : L2.St) (env : DEnv) (v : V) : Opd → Prop
  | .tmp c => Tmp K Out G H σ env v c
  | .slot i => σ[i]? = some (some v)
structure SE (X : Cx) (W : WX) (io : List Nat) (e : Expr) (m : ME) : Prop where
  run : ∃ te, PE X e te ∧ ∀ (Out : Hp) (σ0 : L2.St) (G H : Hp) (σ : L2.St) (env : DEnv) (xk : MX) (Kd : MK) (Q : VK), Rel X.K Out io σ0 G H σ env → XOk X.K Out io σ0 G W xk → m xk env Kd →
    (∀ c env' v G' H', Kd c env' → Rel X.K Out io σ0 G' H' σ env' → Sub G G' → Tmp X.K Out G' H' σ env' v c → Q v H') → te σ H Q
structure SO (X : Cx) (W : WX) (io : List Nat) (e : Expr) (m : MO) : Prop where
  run : ∃ te, PE X e te ∧ ∀ (Out : Hp) (σ0 : L2.St) (G H : Hp) (σ : L2.St) (env : DEnv) (xk : MX) (Kd : Opd → DEnv → Prop) (Q : VK), Rel X.K Out io σ0 G H σ env → XOk X.K Out io σ0 G W xk → m xk env Kd →
    (∀ o env' v G' H', Kd o env' → Rel X.K Out io σ0 G' H' σ env' → Sub G G' → TmpO X.K Out G' H' σ env' v o → Q v H') → te σ H Q
structure ST (X : Cx) (W : WX) (io : List Nat) (e : Expr) (m : MT) : Prop where
  run : ∃ te, PT X e te ∧ ∀ (Out : Hp) (σ0 : L2.St) (G H : Hp) (σ : L2.St) (env : DEnv) (xk : MX) (Kd : Bool → DEnv → Prop) (Q : Bool → Hp → Prop), Rel X.K Out io σ0 G H σ env → XOk X.K Out io σ0 G W xk → m xk env Kd →
    (∀ b env' G' H', Kd b env' → Rel X.K Out io σ0 G' H' σ env' → Sub G G' → Q b H') → te σ H Q
structure SW (X : Cx) (W : WX) (io : List Nat) (e : Expr) (m : MT) : Prop where
  run : ∃ te, PW X e te ∧ ∀ (Out : Hp) (σ0 : L2.St) (G H : Hp) (σ : L2.St) (env : DEnv) (xk : MX) (Kd : Bool → DEnv → Prop) (Q : Bool → Hp → Prop), Rel X.K Out io σ0 G H σ env → XOk X.K Out io σ0 G W xk → m xk env Kd →
    (∀ b env' G' H', Kd b env' → Rel X.K Out io σ0 G' H' σ env' → Sub G G' → Q b H') → te σ H Q
/-- arguments, frozen one after the other -/
structure SA (X : Cx) (W : WX) (io : List Nat) (es : List Expr) (m : MA) : Prop where
  run : ∃ ta, PA X es ta ∧ ∀ (Out : Hp) (σ0 : L2.St) (G H : Hp) (σ : L2.St) (env : DEnv) (xk : MX) (Kd : List PyData → DEnv → Prop) (Q : List V → Hp → Prop), Rel X.K Out io σ0 G H σ env → XOk X.K Out io σ0 G W xk → m xk env Kd →
    (∀ ds env' vs G' H', Kd ds env' → ds.length = es.length → Rel X.K Out io σ0 G' H' σ env' → Sub G G' → Da X.K G' vs ds → Q vs H') → ta σ H Q

/-! ### names, constants -/
section
variable {X : Cx} {W : WX} {io : List Nat}
def mVar (i : Nat) : ME := fun _ env Kd => ∃ c d, env[i]? = some c ∧ c.data = some d ∧ Kd (.val d) (env.set i (.val d))
theorem se_var (i : Nat) {x : Str} {pos : Pos} (hN : X.N[i]? = some x := by rfl) (hv : Vis X.env.scope x := by first | exact Or.inl rfl | exact Or.inr (Or.inl rfl) | exact Or.inr (Or.inr rfl)) (hd : (x == ("__debug__" : Str)) = false := by decide)
    (hcd : (x == ("__classdict__" : Str)) = false := by decide) : SE X W io (.Name x pos) (mVar i) := ⟨tVar i, pe_var hN hv hd hcd, fun Out σ0 G H σ env xk Kd Q R _ hm hq => by
  obtain ⟨c, d, h1, h2, h3⟩ := hm
  have hc : c ≠ .no := fun z => by rw [z] at h2; cases h2
  obtain ⟨v, hs, R1, t⟩ := R.moved h1 hc
  obtain ⟨G1, R2, s, dd⟩ := R1.freeze t h2
  have R3 := R2.fill hs dd
  rw [List.set_set] at R3
  exact ⟨v, hs, hq _ _ v G1 H h3 R3 s dd⟩⟩
/-- a name whose thing goes on alone -/
def mMv (i : Nat) : ME := fun _ env Kd => ∃ c, env[i]? = some c ∧ c.data ≠ none ∧ Kd c (env.set i c.rest)
theorem se_mv (i : Nat) {x : Str} {pos : Pos} (hN : X.N[i]? = some x := by rfl) (hv : Vis X.env.scope x := by first | exact Or.inl rfl | exact Or.inr (Or.inl rfl) | exact Or.inr (Or.inr rfl)) (hd : (x == ("__debug__" : Str)) = false := by decide)
    (hcd : (x == ("__classdict__" : Str)) = false := by decide) : SE X W io (.Name x pos) (mMv i) := ⟨tVar i, pe_var hN hv hd hcd, fun Out σ0 G H σ env xk Kd Q R _ hm hq => by
  obtain ⟨c, h1, h2, h3⟩ := hm
  have hc : c ≠ .no := fun z => by rw [z] at h2; exact h2 rfl
  obtain ⟨v, hs, R1, t⟩ := R.moved h1 hc
  exact ⟨v, hs, hq _ _ v G H h3 R1 (Sub.refl G) t⟩⟩
def mSlot (i : Nat) : MO := fun _ env Kd => ∃ c d, env[i]? = some c ∧ c.data = some d ∧ Kd (.slot i) env
theorem so_var (i : Nat) {x : Str} {pos : Pos} (hN : X.N[i]? = some x := by rfl) (hv : Vis X.env.scope x := by first | exact Or.inl rfl | exact Or.inr (Or.inl rfl) | exact Or.inr (Or.inr rfl)) (hd : (x == ("__debug__" : Str)) = false := by decide)
    (hcd : (x == ("__classdict__" : Str)) = false := by decide) : SO X W io (.Name x pos) (mSlot i) := ⟨tVar i, pe_var hN hv hd hcd, fun Out σ0 G H σ env xk Kd Q R _ hm hq => by
  obtain ⟨c, d, h1, h2, h3⟩ := hm
  obtain ⟨v, hs, _⟩ := R.lookX h1 h2
  exact ⟨v, hs, hq _ _ v G H h3 R (Sub.refl G) hs⟩⟩
def mTmp (m : ME) : MO := fun xk env Kd => m xk env fun c env' => Kd (.tmp c) env'
theorem so_of {e : Expr} {m : ME} (h : SE X W io e m) : SO X W io e (mTmp m) := by
  obtain ⟨te, h1, h2⟩ := h.run
  exact ⟨te, h1, fun Out σ0 G H σ env xk Kd Q R x hm hq => h2 Out σ0 G H σ env xk _ Q R x hm fun c env' v G' H' k R' s t => hq (.tmp c) env' v G' H' k R' s t⟩
def mC (d : PyData) : ME := fun _ env Kd => Kd (.val d) env
theorem se_cst {e : Expr} {v : V} {d : PyData} (h : PE X e (tC v)) (r : ∀ G, Dd X.K G v d) : SE X W io e (mC d) := ⟨tC v, h, fun Out σ0 G H σ env xk Kd Q R _ hm hq => hq _ _ v G H hm R (Sub.refl G) (r G)⟩
theorem se_int {i j pos} : SE X W io (.Constant (.int i) j pos) (mC (.int i)) := se_cst pe_int fun _ => .int i
theorem se_bl {b j pos} : SE X W io (.Constant (.bool b) j pos) (mC (.bool b)) := se_cst pe_bl fun _ => .bl b
theorem se_non {j pos} : SE X W io (.Constant .none j pos) (mC .none) := se_cst pe_non fun _ => .non
theorem se_str {x j pos} : SE X W io (.Constant (.str x) j pos) (mC (.str x)) := se_cst pe_str fun _ => .str x
/-- a constant of the module -/
theorem se_glob {x : Str} {v : V} {u : Value} {pos : Pos} {d : PyData} (hg : Gl X x) (hm : X.mg x = some u) (r : RelV v u) (rd : ∀ G, Dd X.K G v d) (hd : (x == ("__debug__" : Str)) = false := by decide) : SE X W io (.Name x pos) (mC d) :=
  se_cst (pe_glob hg hm r hd) rd

/-! ### operators -/
/-- what an operation on two contents asks and gives -/
abbrev MF2 := PyData → PyData → (Cell → Prop) → Prop
def OpS (X : Cx) (r : R2) (f : MF2) : Prop := ∀ (Out : Hp) (io : List Nat) (σ0 : L2.St) (G H : Hp) (σ : L2.St) (env : DEnv) (v1 v2 : V) (x y : PyData) (k : Cell → Prop) (Q : VK), Rel X.K Out io σ0 G H σ env → Dx X.K G H v1 x → Dx X.K G H v2 y → f x y k →
  (∀ c v G' H', k c → Rel X.K Out io σ0 G' H' σ env → Sub G G' → Tmp X.K Out G' H' σ env v c → Q v H') → r v1 v2 H Q
def mOp2 (f : MF2) (ma mb : MO) : ME := fun xk env Kd => ma xk env fun o1 env1 => mb xk env1 fun o2 env2 => ∃ x y, o1.data env2 = some x ∧ o2.data env2 = some y ∧ f x y fun c => Kd c env2
theorem op2 {a b : Expr} {r : R2} {f : MF2} {ma mb : MO} (hf : OpS X r f) (ha : SO X W io a ma) (hb : SO X W io b mb) : ∃ ta tb, PE X a ta ∧ PE X b tb ∧ ∀ (Out : Hp) (σ0 : L2.St) (G H : Hp) (σ : L2.St) (env : DEnv) (xk : MX) (Kd : MK) (Q : VK), Rel X.K Out io σ0 G H σ env → XOk X.K Out io σ0 G W xk → mOp2 f ma mb xk env Kd →
    (∀ c env' v G' H', Kd c env' → Rel X.K Out io σ0 G' H' σ env' → Sub G G' → Tmp X.K Out G' H' σ env' v c → Q v H') → tOp r ta tb σ H Q := by
  obtain ⟨ta, pa, ra⟩ := ha.run
  obtain ⟨tb, pb, rb⟩ := hb.run
  refine ⟨ta, tb, pa, pb, fun Out σ0 G H σ env xk Kd Q R x hm hq => ?_⟩
  refine ra Out σ0 G H σ env xk _ _ R x hm fun o1 env1 v1 G1 H1 k1 R1 s1 t1 => ?_
  cases o1 with
  | slot i =>
    refine rb Out σ0 G1 H1 σ env1 xk _ _ R1 (x.mono s1) k1 fun o2 env2 v2 G2 H2 k2 R2 s2 t2 => ?_
    obtain ⟨p, q, e1, e2, hfx⟩ := k2
    have d1 : Dx X.K G2 H2 v1 p := by
      have e1 : (env2[i]?.bind Cell.data) = some p := e1
      cases hc : env2[i]? with
      | none => rw [hc] at e1; cases e1
      | some c =>
        rw [hc] at e1
        obtain ⟨v, hs, hd⟩ := R2.lookX hc e1
        have t1 : σ[i]? = some (some v1) := t1
        rw [t1] at hs
        cases hs
        exact hd
    have d2 : Dx X.K G2 H2 v2 q := by
      cases o2 with
      | tmp c => exact Tmp.dx t2 e2
      | slot j =>
        have e2 : (env2[j]?.bind Cell.data) = some q := e2
        cases hc : env2[j]? with
        | none => rw [hc] at e2; cases e2
        | some c =>
          rw [hc] at e2
          obtain ⟨v, hs, hd⟩ := R2.lookX hc e2
          have t2 : σ[j]? = some (some v2) := t2
          rw [t2] at hs
          cases hs
          exact hd
    exact hf Out io σ0 G2 H2 σ env2 v1 v2 p q _ Q R2 d1 d2 hfx fun c v G' H' k R' s t => hq c env2 v G' H' k R' ((s1.trans s2).trans s) t
  | tmp c1 =>
    obtain ⟨Out', R1', ho, back⟩ := R1.hold t1
    refine rb Out' σ0 G1 H1 σ env1 xk _ _ R1' (fun cls d pl env G' H' σ' R' s' p xx => x cls d pl env G' H' σ' (back R' s').1 (s1.trans s') p xx) k1 fun o2 env2 v2 G2 H2 k2 R2 s2 t2 => ?_
    obtain ⟨p, q, e1, e2, hfx⟩ := k2
    obtain ⟨R2', t1'⟩ := back R2 s2
    have d1 : Dx X.K G2 H2 v1 p := Tmp.dx t1' e1
    have d2 : Dx X.K G2 H2 v2 q := by
      cases o2 with
      | tmp c => exact Tmp.dx t2 e2
      | slot j =>
        have e2 : (env2[j]?.bind Cell.data) = some q := e2
        cases hc : env2[j]? with
        | none => rw [hc] at e2; cases e2
        | some c =>
          rw [hc] at e2
          obtain ⟨v, hs, hd⟩ := R2.lookX hc e2
          have t2 : σ[j]? = some (some v2) := t2
          rw [t2] at hs
          cases hs
          exact hd
    exact hf Out io σ0 G2 H2 σ env2 v1 v2 p q _ Q R2' d1 d2 hfx fun c v G' H' k R' s t => hq c env2 v G' H' k R' ((s1.trans s2).trans s) t
theorem se_bin {a b : Expr} {op : Operator} {r : R2} {f : MF2} {ma mb : MO} {pos : Pos} (ho : OpR X (binaryOp op) r) (hf : OpS X r f) (ha : SO X W io a ma) (hb : SO X W io b mb) : SE X W io (.BinOp a op b pos) (mOp2 f ma mb) := by
  obtain ⟨ta, tb, pa, pb, h⟩ := op2 hf ha hb
  exact ⟨tOp r ta tb, pe_op ho pa pb, h⟩
theorem se_cmp {a b : Expr} {op : CmpOp} {r : R2} {f : MF2} {ma mb : MO} {pos : Pos} (ho : OpR X (compareOp op) r) (hf : OpS X r f) (ha : SO X W io a ma) (hb : SO X W io b mb) (hm : behindInMarks op b = false := by rfl) : SE X W io (.Compare a [op] [b] pos) (mOp2 f ma mb) := by
  obtain ⟨ta, tb, pa, pb, h⟩ := op2 hf ha hb
  exact ⟨tOp r ta tb, pe_cmpR ho pa pb hm, h⟩
def mTest (m : ME) : MT := fun xk env Kd => m xk env fun c env' => ∃ b, c = .val (.bool b) ∧ Kd b env'
theorem st_cmp {a b : Expr} {op : CmpOp} {r : R2} {f : MF2} {ma mb : MO} {pos : Pos} (ho : OpR X (compareOp op) r) (hf : OpS X r f) (ha : SO X W io a ma) (hb : SO X W io b mb) (hm : behindInMarks op b = false := by rfl) : ST X W io (.Compare a [op] [b] pos) (mTest (mOp2 f ma mb)) := by
  obtain ⟨ta, tb, pa, pb, h⟩ := op2 hf ha hb
  refine ⟨tTest (tOp r ta tb), pt_cmpR ho pa pb hm, fun Out σ0 G H σ env xk Kd Q R x hm hq => ?_⟩
  refine h Out σ0 G H σ env xk _ _ R x hm fun c env' v G' H' k R' s t => ?_
  obtain ⟨b, rfl, k⟩ := k
  cases Dd.vBool t
  exact ⟨b, rfl, hq b env' G' H' k R' s⟩
/-- an expression that gives True or False, as a test -/
theorem st_val {e : Expr} {m : ME} (h : SE X W io e m) (he : ∀ whole, isTrue e X.env whole = (do let v ← whole; standAt e.pos; holding [v] (truthy v)) := by intro _; rfl) : ST X W io e (mTest m) := by
  obtain ⟨te, h1, h2⟩ := h.run
  refine ⟨tB te, pt_val h1 he, fun Out σ0 G H σ env xk Kd Q R x hm hq => ?_⟩
  refine h2 Out σ0 G H σ env xk _ _ R x hm fun c env' v G' H' k R' s t => ?_
  obtain ⟨b, rfl, k⟩ := k
  cases Dd.vBool t
  exact ⟨b, rfl, hq b env' G' H' k R' s⟩
def truthD : PyData → Option Bool
  | .none => some false
  | .bool b => some b
  | .int i => some (i != 0)
  | .str x => if x.length ≤ sizeLine then some ((x.length : Int) != 0) else none
  | .list ds => some (!ds.isEmpty)
  | .tuple ds => some (!ds.isEmpty)
  | .dict _ => none
def mTruth (m : MO) : MT := fun xk env Kd => m xk env fun o env' => ∃ d b, o.data env' = some d ∧ truthD d = some b ∧ Kd b env'
theorem st_truth {e : Expr} {m : MO} (h : SO X W io e m) (he : ∀ whole, isTrue e X.env whole = (do let v ← whole; standAt e.pos; holding [v] (truthy v)) := by intro _; rfl) : ST X W io e (mTruth m) := by
  obtain ⟨te, h1, h2⟩ := h.run
  refine ⟨_, pt_truth h1 he, fun Out σ0 G H σ env xk Kd Q R x hm hq => ?_⟩
  refine h2 Out σ0 G H σ env xk _ _ R x hm fun o env' v G' H' k R' s t => ?_
  obtain ⟨d, b, e1, e2, k⟩ := k
  have dx : Dx X.K G' H' v d := by
    cases o with
    | tmp c => exact Tmp.dx t e1
    | slot i =>
      have e1 : (env'[i]?.bind Cell.data) = some d := e1
      cases hc : env'[i]? with
      | none => rw [hc] at e1; cases e1
      | some c =>
        rw [hc] at e1
        obtain ⟨v', hs, hd⟩ := R'.lookX hc e1
        have t : σ[i]? = some (some v) := t
        rw [t] at hs
        cases hs
        exact hd
  refine ⟨b, ?_, hq b env' G' H' k R' s⟩
  have emp : ∀ {vs : List V} {ds : List PyData}, Da X.K G' vs ds → vs.isEmpty = ds.isEmpty := fun {vs ds} h => by cases h <;> rfl
  cases d with
  | none => cases dx.none R'.sub; cases e2; rfl
  | bool c => cases dx.bool R'.sub; cases e2; rfl
  | int i => cases dx.int R'.sub; cases e2; rfl
  | str y =>
    cases dx.str R'.sub
    simp only [truthD] at e2
    by_cases hl : y.length ≤ sizeLine
    · rw [if_pos hl] at e2; cases e2; exact ⟨hl, rfl⟩
    · rw [if_neg hl] at e2; cases e2
  | list ds =>
    obtain ⟨a, vs, rfl, h1, h2⟩ := dx.list R'.sub
    cases e2
    exact .inl ⟨vs, h1, by rw [emp h2]⟩
  | tuple ds =>
    obtain ⟨a, vs, rfl, h1, h2⟩ := dx.tuple R'.sub
    cases e2
    exact .inr (.inl ⟨vs, h1, by rw [emp h2]⟩)
  | dict es => cases e2

/-! ### and, or, not, if -/
def mAndV (ma mb : ME) : ME := fun xk env Kd => ma xk env fun c env' => ∃ b, c = .val (.bool b) ∧ if b = true then mb xk env' Kd else Kd (.val (.bool false)) env'
def mOrV (ma mb : ME) : ME := fun xk env Kd => ma xk env fun c env' => ∃ b, c = .val (.bool b) ∧ if b = true then Kd (.val (.bool true)) env' else mb xk env' Kd
def mNotV (ma : ME) : ME := fun xk env Kd => ma xk env fun c env' => ∃ b, c = .val (.bool b) ∧ Kd (.val (.bool (!b))) env'
theorem se_one {op a pos m} (h : SE X W io a m) : SE X W io (.BoolOp op [a] pos) m := by
  obtain ⟨te, h1, h2⟩ := h.run
  exact ⟨te, pe_one h1, h2⟩
theorem se_and {a b : Expr} {rest : List Expr} {pos : Pos} {ma mb : ME} (ha : SE X W io a ma) (hb : SE X W io (.BoolOp .And (b :: rest) pos) mb) : SE X W io (.BoolOp .And (a :: b :: rest) pos) (mAndV ma mb) := by
  obtain ⟨ta, pa, ra⟩ := ha.run
  obtain ⟨tb, pb, rb⟩ := hb.run
  refine ⟨tAndV ta tb, pe_and pa pb, fun Out σ0 G H σ env xk Kd Q R x hm hq => ?_⟩
  refine ra Out σ0 G H σ env xk _ _ R x hm fun c env1 v G1 H1 k R1 s1 t => ?_
  obtain ⟨b, rfl, k⟩ := k
  cases Dd.vBool t
  refine ⟨b, rfl, ?_⟩
  cases b with
  | true => exact iteT (rb Out σ0 G1 H1 σ env1 xk _ _ R1 (x.mono s1) (by simpa using k) fun c env' v G' H' k R' s t => hq c env' v G' H' k R' (s1.trans s) t)
  | false => exact iteF (hq (.val (.bool false)) env1 _ G1 H1 (by simpa using k) R1 s1 (Dd.bl false))
theorem se_or {a b : Expr} {rest : List Expr} {pos : Pos} {ma mb : ME} (ha : SE X W io a ma) (hb : SE X W io (.BoolOp .Or (b :: rest) pos) mb) : SE X W io (.BoolOp .Or (a :: b :: rest) pos) (mOrV ma mb) := by
  obtain ⟨ta, pa, ra⟩ := ha.run
  obtain ⟨tb, pb, rb⟩ := hb.run
  refine ⟨tOrV ta tb, pe_or pa pb, fun Out σ0 G H σ env xk Kd Q R x hm hq => ?_⟩
  refine ra Out σ0 G H σ env xk _ _ R x hm fun c env1 v G1 H1 k R1 s1 t => ?_
  obtain ⟨b, rfl, k⟩ := k
  cases Dd.vBool t
  refine ⟨b, rfl, ?_⟩
  cases b with
  | true => exact iteT (hq (.val (.bool true)) env1 _ G1 H1 (by simpa using k) R1 s1 (Dd.bl true))
  | false => exact iteF (rb Out σ0 G1 H1 σ env1 xk _ _ R1 (x.mono s1) (by simpa using k) fun c env' v G' H' k R' s t => hq c env' v G' H' k R' (s1.trans s) t)
theorem se_not {a : Expr} {pos : Pos} {ma : ME} (ha : SE X W io a ma) : SE X W io (.UnaryOp .Not a pos) (mNotV ma) := by
  obtain ⟨ta, pa, ra⟩ := ha.run
  refine ⟨tNotV ta, pe_not pa, fun Out σ0 G H σ env xk Kd Q R x hm hq => ?_⟩
  refine ra Out σ0 G H σ env xk _ _ R x hm fun c env1 v G1 H1 k R1 s1 t => ?_
  obtain ⟨b, rfl, k⟩ := k
  cases Dd.vBool t
  exact ⟨b, rfl, hq _ env1 _ G1 H1 k R1 s1 (Dd.bl _)⟩
def mAndT (ma mb : MT) : MT := fun xk env Kd => ma xk env fun b env' => if b = true then mb xk env' Kd else Kd false env'
def mOrT (ma mb : MT) : MT := fun xk env Kd => ma xk env fun b env' => if b = true then Kd true env' else mb xk env' Kd
def mNotT (ma : MT) : MT := fun xk env Kd => ma xk env fun b env' => Kd (!b) env'
theorem SW.st {e : Expr} {m : MT} (h : SW X W io e m) : ST X W io e m := by
  obtain ⟨te, h1, h2⟩ := h.run
  exact ⟨te, h1.pt, h2⟩
theorem sw_and1 {a : Expr} {pos : Pos} {ma : MT} (h : ST X W io a ma) : SW X W io (.BoolOp .And [a] pos) ma := by
  obtain ⟨te, h1, h2⟩ := h.run
  exact ⟨te, pw_and1 h1, h2⟩
theorem sw_or1 {a : Expr} {pos : Pos} {ma : MT} (h : ST X W io a ma) : SW X W io (.BoolOp .Or [a] pos) ma := by
  obtain ⟨te, h1, h2⟩ := h.run
  exact ⟨te, pw_or1 h1, h2⟩
theorem sw_and {a b : Expr} {rest : List Expr} {pos : Pos} {ma mb : MT} (ha : ST X W io a ma) (hb : SW X W io (.BoolOp .And (b :: rest) pos) mb) : SW X W io (.BoolOp .And (a :: b :: rest) pos) (mAndT ma mb) := by
  obtain ⟨ta, pa, ra⟩ := ha.run
  obtain ⟨tb, pb, rb⟩ := hb.run
  refine ⟨tAnd ta tb, pw_and pa pb, fun Out σ0 G H σ env xk Kd Q R x hm hq => ?_⟩
  refine ra Out σ0 G H σ env xk _ _ R x hm fun b env1 G1 H1 k R1 s1 => ?_
  cases b with
  | true => exact iteT (rb Out σ0 G1 H1 σ env1 xk _ _ R1 (x.mono s1) (by simpa using k) fun c env' G' H' k R' s => hq c env' G' H' k R' (s1.trans s))
  | false => exact iteF (hq _ env1 G1 H1 (by simpa using k) R1 s1)
theorem sw_or {a b : Expr} {rest : List Expr} {pos : Pos} {ma mb : MT} (ha : ST X W io a ma) (hb : SW X W io (.BoolOp .Or (b :: rest) pos) mb) : SW X W io (.BoolOp .Or (a :: b :: rest) pos) (mOrT ma mb) := by
  obtain ⟨ta, pa, ra⟩ := ha.run
  obtain ⟨tb, pb, rb⟩ := hb.run
  refine ⟨tOr ta tb, pw_or pa pb, fun Out σ0 G H σ env xk Kd Q R x hm hq => ?_⟩
  refine ra Out σ0 G H σ env xk _ _ R x hm fun b env1 G1 H1 k R1 s1 => ?_
  cases b with
  | true => exact iteT (hq _ env1 G1 H1 (by simpa using k) R1 s1)
  | false => exact iteF (rb Out σ0 G1 H1 σ env1 xk _ _ R1 (x.mono s1) (by simpa using k) fun c env' G' H' k R' s => hq c env' G' H' k R' (s1.trans s))
theorem st_not {a : Expr} {pos : Pos} {ma : MT} (ha : ST X W io a ma) : ST X W io (.UnaryOp .Not a pos) (mNotT ma) := by
  obtain ⟨ta, pa, ra⟩ := ha.run
  refine ⟨tNot ta, pt_not pa, fun Out σ0 G H σ env xk Kd Q R x hm hq => ?_⟩
  exact ra Out σ0 G H σ env xk _ _ R x hm fun b env1 G1 H1 k R1 s1 => hq _ env1 G1 H1 k R1 s1
def mIf (mt : MT) (ma mb : ME) : ME := fun xk env Kd => mt xk env fun b env' => if b = true then ma xk env' Kd else mb xk env' Kd
theorem se_if {c a b : Expr} {pos : Pos} {mc : MT} {ma mb : ME} (hc : ST X W io c mc) (ha : SE X W io a ma) (hb : SE X W io b mb) : SE X W io (.IfExp c a b pos) (mIf mc ma mb) := by
  obtain ⟨tc, pc, rc⟩ := hc.run
  obtain ⟨ta, pa, ra⟩ := ha.run
  obtain ⟨tb, pb, rb⟩ := hb.run
  refine ⟨tIf tc ta tb, pe_ifExp pc pa pb, fun Out σ0 G H σ env xk Kd Q R x hm hq => ?_⟩
  refine rc Out σ0 G H σ env xk _ _ R x hm fun b env1 G1 H1 k R1 s1 => ?_
  cases b with
  | true => exact iteT (ra Out σ0 G1 H1 σ env1 xk _ _ R1 (x.mono s1) (by simpa using k) fun c env' v G' H' k R' s t => hq c env' v G' H' k R' (s1.trans s) t)
  | false => exact iteF (rb Out σ0 G1 H1 σ env1 xk _ _ R1 (x.mono s1) (by simpa using k) fun c env' v G' H' k R' s t => hq c env' v G' H' k R' (s1.trans s) t)

/-! ### arguments, displays -/
def mNil : MA := fun _ env Kd => Kd [] env
def mCons (me : ME) (ma : MA) : MA := fun xk env Kd => me xk env fun c env' => ∃ d, c.data = some d ∧ ma xk env' fun ds env'' => Kd (d :: ds) env''
theorem sa_nil : SA X W io [] mNil := ⟨tNil, pa_nil, fun Out σ0 G H σ env xk Kd Q R _ hm hq => hq [] env [] G H hm rfl R (Sub.refl G) .nil⟩
theorem sa_cons {e : Expr} {es : List Expr} {me : ME} {ma : MA} (he : SE X W io e me) (hr : SA X W io es ma) (hs : starEach (e :: es) X.env = (false, eval e X.env) :: starEach es X.env := by rfl) : SA X W io (e :: es) (mCons me ma) := by
  obtain ⟨te, pe, re⟩ := he.run
  obtain ⟨ta, pa, ra⟩ := hr.run
  refine ⟨tCons te ta, pa_cons pe pa hs, fun Out σ0 G H σ env xk Kd Q R x hm hq => ?_⟩
  refine re Out σ0 G H σ env xk _ _ R x hm fun c env1 v G1 H1 k R1 s1 t => ?_
  obtain ⟨d, e1, k⟩ := k
  obtain ⟨G2, R2, s2, dd⟩ := R1.freeze t e1
  refine ra Out σ0 G2 H1 σ env1 xk _ _ R2 (x.mono (s1.trans s2)) k fun ds env' vs G' H' k l R' s da => ?_
  exact hq _ env' _ G' H' k (congrArg (· + 1) l) R' ((s1.trans s2).trans s) (.cons (dd.mono s) da)
def mTup (ma : MA) : ME := fun xk env Kd => ma xk env fun ds env' => ds.length ≤ sizeLine ∧ Kd (.val (.tuple ds)) env'
theorem se_tup {es : List Expr} {k} {pos : Pos} {ma : MA} (h : SA X W io es ma) : SE X W io (.Tuple es k pos) (mTup ma) := by
  obtain ⟨ta, pa, ra⟩ := h.run
  refine ⟨tTup ta, pe_tup pa, fun Out σ0 G H σ env xk Kd Q R x hm hq => ?_⟩
  refine ra Out σ0 G H σ env xk _ _ R x hm fun ds env' vs G' H' k l R' s da => ?_
  refine ⟨by rw [da.length]; exact k.1, fun p hp => ?_⟩
  have ng := R'.sub.free hp
  exact hq _ env' _ _ _ k.2 (R'.laid hp) (s.trans (Sub.new ng)) (.tup (.inl (.inl upd_same)) (da.mono (Sub.new ng)))
def mLst (ma : MA) : ME := fun xk env Kd => ma xk env fun ds env' => ds.length ≤ sizeLine ∧ Kd (.lst ds) env'
theorem Rel.newL {K : PySem.W.Frag} {Out G H : Hp} {io : List Nat} {σ0 σ : L2.St} {env : DEnv} (R : Rel K Out io σ0 G H σ env) {p : Addr} (hp : H p = none) {vs : List V} {ds : List PyData} (da : Da K G vs ds) :
    Rel K Out io σ0 G (upd H p (.lst vs)) σ env ∧ Tmp K Out G (upd H p (.lst vs)) σ env (.ref p) (.lst ds) :=
  ⟨R.fresh hp, p, vs, rfl, upd_same, R.sub.free hp, R.outNone hp, R.notOwn hp, da⟩
theorem Rel.newD {K : PySem.W.Frag} {Out G H : Hp} {io : List Nat} {σ0 σ : L2.St} {env : DEnv} (R : Rel K Out io σ0 G H σ env) {p : Addr} (hp : H p = none) {vs : List (Key × V)} {ds : List (PyData × PyData)} (da : Dk K G vs ds) :
    Rel K Out io σ0 G (upd H p (.dK vs)) σ env ∧ Tmp K Out G (upd H p (.dK vs)) σ env (.ref p) (.dct ds) :=
  ⟨R.fresh hp, p, vs, rfl, upd_same, R.sub.free hp, R.outNone hp, R.notOwn hp, da⟩
theorem se_lst {es : List Expr} {pos : Pos} {ma : MA} (h : SA X W io es ma) : SE X W io (.List es pos) (mLst ma) := by
  obtain ⟨ta, pa, ra⟩ := h.run
  refine ⟨tLst ta, pe_lst pa, fun Out σ0 G H σ env xk Kd Q R x hm hq => ?_⟩
  refine ra Out σ0 G H σ env xk _ _ R x hm fun ds env' vs G' H' k l R' s da => ?_
  refine ⟨by rw [da.length]; exact k.1, fun p hp => ?_⟩
  obtain ⟨R2, t⟩ := R'.newL hp da
  exact hq _ env' _ _ _ k.2 R2 s t
def mDnew : ME := fun _ env Kd => Kd (.dct []) env
theorem se_dnew {pos : Pos} : SE X W io (.Dict [] [] pos) mDnew := ⟨tDNewK, pe_dnewK, fun Out σ0 G H σ env xk Kd Q R x hm hq => fun p hp => by
  obtain ⟨R2, t⟩ := R.newD (vs := []) hp .nil
  exact hq _ env _ _ _ hm R2 (Sub.refl G) t⟩

/-! ### calls of built-ins by values -/
abbrev MF1 := List PyData → (Cell → Prop) → Prop
def CallS (X : Cx) (r : List V → Hp → VK → Prop) (f : MF1) : Prop := ∀ (Out : Hp) (io : List Nat) (σ0 : L2.St) (G H : Hp) (σ : L2.St) (env : DEnv) (vs : List V) (ds : List PyData) (k : Cell → Prop) (Q : VK), Rel X.K Out io σ0 G H σ env → Da X.K G vs ds → f ds k →
  (∀ c v G' H', k c → Rel X.K Out io σ0 G' H' σ env → Sub G G' → Tmp X.K Out G' H' σ env v c → Q v H') → r vs H Q
def mCall1 (f : MF1) (ma : MA) : ME := fun xk env Kd => ma xk env fun ds env' => f ds fun c => Kd c env'
theorem cb_run {es : List Expr} {r : List V → Hp → VK → Prop} {f : MF1} {ma : MA} (hf : CallS X r f) (ha : SA X W io es ma) : ∃ ta, PA X es ta ∧ ∀ (Out : Hp) (σ0 : L2.St) (G H : Hp) (σ : L2.St) (env : DEnv) (xk : MX) (Kd : MK) (Q : VK), Rel X.K Out io σ0 G H σ env → XOk X.K Out io σ0 G W xk → mCall1 f ma xk env Kd →
    (∀ c env' v G' H', Kd c env' → Rel X.K Out io σ0 G' H' σ env' → Sub G G' → Tmp X.K Out G' H' σ env' v c → Q v H') → tCB r ta σ H Q := by
  obtain ⟨ta, pa, ra⟩ := ha.run
  refine ⟨ta, pa, fun Out σ0 G H σ env xk Kd Q R x hm hq => ?_⟩
  refine ra Out σ0 G H σ env xk _ _ R x hm fun ds env' vs G' H' k l R' s da => ?_
  exact hf Out io σ0 G' H' σ env' vs ds _ Q R' da k fun c v G2 H2 k R2 s2 t => hq c env' v G2 H2 k R2 (s.trans s2) t
theorem se_callB {id : String} {x : Str} {e : Expr} {es : List Expr} {p pos : Pos} {r : List V → Hp → VK → Prop} {f : MF1} {ma : MA} (hc : CallR X (.builtin id) r) (hf : CallS X r f) (hg : Gl X x) (hm : X.mg x = none) (hv : bootBuiltins x = some (.builtin id)) (ha : SA X W io (e :: es) ma) (hn : x ≠ "__name__" := by decide) (hdb : (x == ("__debug__" : Str)) = false := by decide)
    (he : starEach (e :: es) X.env = (false, eval e X.env) :: starEach es X.env := by rfl) (hpl : (backTo pos (starEach es X.env)).any (·.1) = false := by rfl) : SE X W io (.Call (.Name x p) (e :: es) [] pos) (mCall1 f ma) := by
  obtain ⟨ta, pa, h⟩ := cb_run hf ha
  exact ⟨tCB r ta, pe_callB hc hg hm hv pa hn hdb he hpl, h⟩
theorem se_callTy {T : String} {x : Str} {e : Expr} {es : List Expr} {p pos : Pos} {r : List V → Hp → VK → Prop} {f : MF1} {ma : MA} (hc : CallR X (.type T) r) (hf : CallS X r f) (hg : Gl X x) (hm : X.mg x = none) (hv : bootBuiltins x = some (.type T)) (ha : SA X W io (e :: es) ma) (hn : x ≠ "__name__" := by decide) (hdb : (x == ("__debug__" : Str)) = false := by decide)
    (he : starEach (e :: es) X.env = (false, eval e X.env) :: starEach es X.env := by rfl) (hpl : (backTo pos (starEach es X.env)).any (·.1) = false := by rfl) : SE X W io (.Call (.Name x p) (e :: es) [] pos) (mCall1 f ma) := by
  obtain ⟨ta, pa, h⟩ := cb_run hf ha
  exact ⟨tCB r ta, pe_callTy hc hg hm hv pa hn hdb he hpl, h⟩
end
end M
end
section
namespace M
open PySem PySem.Spec PyProof.Rows L2

/-! ### statements -/
structure MEnds where
  nx : DEnv → Prop
  rt : Cell → DEnv → Prop
  bk : DEnv → Prop := fun _ => False
  ct : DEnv → Prop := fun _ => False
abbrev MS := MX → MEnds → DEnv → Prop
structure EOk (K : PySem.W.Frag) (Out : Hp) (io : List Nat) (σ0 : L2.St) (G : Hp) (D : MEnds) (Dh : Ends) : Prop where
  nx : ∀ env G' H' σ, Rel K Out io σ0 G' H' σ env → Sub G G' → D.nx env → Dh.nx σ H'
  rt : ∀ c env v G' H' σ, Rel K Out io σ0 G' H' σ env → Sub G G' → Tmp K Out G' H' σ env v c → D.rt c env → Dh.rt v H'
  bk : ∀ env G' H' σ, Rel K Out io σ0 G' H' σ env → Sub G G' → D.bk env → Dh.bk σ H'
  ct : ∀ env G' H' σ, Rel K Out io σ0 G' H' σ env → Sub G G' → D.ct env → Dh.ct σ H'
theorem EOk.mono {K : PySem.W.Frag} {Out : Hp} {io : List Nat} {σ0 : L2.St} {G G1 : Hp} {D : MEnds} {Dh : Ends} (h : EOk K Out io σ0 G D Dh) (s : Sub G G1) : EOk K Out io σ0 G1 D Dh :=
  ⟨fun env G' H' σ R s' => h.nx env G' H' σ R (s.trans s'), fun c env v G' H' σ R s' => h.rt c env v G' H' σ R (s.trans s'), fun env G' H' σ R s' => h.bk env G' H' σ R (s.trans s'), fun env G' H' σ R s' => h.ct env G' H' σ R (s.trans s')⟩
structure SS (X : Cx) (W : WX) (io : List Nat) (st : Stmt) (m : MS) : Prop where
  run : ∃ ts, PS X st ts ∧ ∀ (Out : Hp) (σ0 : L2.St) (G H : Hp) (σ : L2.St) (env : DEnv) (xk : MX) (D : MEnds) (Dh : Ends), Rel X.K Out io σ0 G H σ env → XOk X.K Out io σ0 G W xk → EOk X.K Out io σ0 G D Dh → m xk D env → ts Dh σ H
structure SSs (X : Cx) (W : WX) (io : List Nat) (sts : List Stmt) (m : MS) : Prop where
  run : ∃ ts, PSs X sts ts ∧ ∀ (Out : Hp) (σ0 : L2.St) (G H : Hp) (σ : L2.St) (env : DEnv) (xk : MX) (D : MEnds) (Dh : Ends), Rel X.K Out io σ0 G H σ env → XOk X.K Out io σ0 G W xk → EOk X.K Out io σ0 G D Dh → m xk D env → ts Dh σ H
section
variable {X : Cx} {W : WX} {io : List Nat}
def mNext : MS := fun _ D env => D.nx env
def mSeq (m n : MS) : MS := fun xk D env => m xk { D with nx := n xk D } env
theorem sss_nil : SSs X W io [] mNext := ⟨tNext, pss_nil, fun Out σ0 G H σ env xk D Dh R x e hm => e.nx env G H σ R (Sub.refl G) hm⟩
theorem sss_cons {st : Stmt} {rest : List Stmt} {m n : MS} (h1 : SS X W io st m) (h2 : SSs X W io rest n) : SSs X W io (st :: rest) (mSeq m n) := by
  obtain ⟨t, p, r⟩ := h1.run
  obtain ⟨u, q, s⟩ := h2.run
  refine ⟨tSeq t u, pss_cons p q, fun Out σ0 G H σ env xk D Dh R x e hm => ?_⟩
  refine r Out σ0 G H σ env xk { D with nx := n xk D } { Dh with nx := u Dh } R x ⟨fun env' G' H' σ' R' s' k => ?_, e.rt, e.bk, e.ct⟩ hm
  exact s Out σ0 G' H' σ' env' xk D Dh R' (x.mono s') (e.mono s') k
theorem sss_one {st : Stmt} {m : MS} (h1 : SS X W io st m) : SSs X W io [st] m := by
  obtain ⟨t, p, r⟩ := h1.run
  exact ⟨t, pss_one p, r⟩
theorem ss_pass {pos} : SS X W io (.Pass pos) mNext := ⟨tNext, ps_pass, fun Out σ0 G H σ env xk D Dh R x e hm => e.nx env G H σ R (Sub.refl G) hm⟩
def mBreak : MS := fun _ D env => D.bk env
def mCont : MS := fun _ D env => D.ct env
theorem ss_break {pos} : SS X W io (.Break pos) mBreak := ⟨tBreak, ps_break, fun Out σ0 G H σ env xk D Dh R x e hm => e.bk env G H σ R (Sub.refl G) hm⟩
theorem ss_continue {pos} : SS X W io (.Continue pos) mCont := ⟨tCont, ps_continue, fun Out σ0 G H σ env xk D Dh R x e hm => e.ct env G H σ R (Sub.refl G) hm⟩
def mSet (i : Nat) (m : ME) : MS := fun xk D env => m xk env fun c env' => D.nx (env'.set i c)
theorem ss_set (i : Nat) {x : Str} {e : Expr} {m : ME} {pos pos' : Pos} (hN : X.N.Nodup) (hi : X.N[i]? = some x) (hx : Loc X.env.scope x) (he : SE X W io e m) (hs : swapsWith e (some (.Name x pos')) pos.line X.env = pure false := by rfl)
    (hf : X.fn x = true ∨ X.env.scope.names.lookup x = some .local := by first | exact .inl rfl | exact .inr rfl) (hio : i ∉ io := by decide) : SS X W io (.Assign [.Name x pos'] e pos) (mSet i m) := by
  obtain ⟨te, p, r⟩ := he.run
  refine ⟨tAsg te (gName i), ps_set hN hi hx p hs hf, fun Out σ0 G H σ env xk D Dh R x e hm => ?_⟩
  refine r Out σ0 G H σ env xk _ _ R x hm fun c env' v G' H' k R' s t => ?_
  exact e.nx _ G' H' _ (R'.store t hio) s k
def mDrop (m : ME) : MS := fun xk D env => m xk env fun _ env' => D.nx env'
theorem ss_expr {e : Expr} {m : ME} {pos : Pos} (he : SE X W io e m) (hs : swapsWith e none pos.line X.env = pure false := by rfl) : SS X W io (.Expr e pos) (mDrop m) := by
  obtain ⟨te, p, r⟩ := he.run
  refine ⟨tDrop te, ps_expr p hs, fun Out σ0 G H σ env xk D Dh R x e hm => ?_⟩
  exact r Out σ0 G H σ env xk _ _ R x hm fun c env' v G' H' k R' s t => e.nx _ G' H' _ R' s k
def mRet (m : ME) : MS := fun xk D env => m xk env D.rt
theorem ss_ret {e : Expr} {m : ME} {pos : Pos} (he : SE X W io e m) : SS X W io (.Return (some e) pos) (mRet m) := by
  obtain ⟨te, p, r⟩ := he.run
  refine ⟨tRet te, ps_ret p, fun Out σ0 G H σ env xk D Dh R x e hm => ?_⟩
  exact r Out σ0 G H σ env xk _ _ R x hm fun c env' v G' H' k R' s t => e.rt c env' v G' H' σ R' s t k
def mIfS (c : MT) (m n : MS) : MS := fun xk D env => c xk env fun b env' => if b = true then m xk D env' else n xk D env'
theorem ss_if {c : Expr} {a b : List Stmt} {pos : Pos} {mc : MT} {m n : MS} (hc : ST X W io c mc) (ha : SSs X W io a m) (hb : SSs X W io b n) : SS X W io (.If c a b pos) (mIfS mc m n) := by
  obtain ⟨tc, pc, rc⟩ := hc.run
  obtain ⟨ta, pa, ra⟩ := ha.run
  obtain ⟨tb, pb, rb⟩ := hb.run
  refine ⟨tIfS tc ta tb, ps_if pc pa pb, fun Out σ0 G H σ env xk D Dh R x e hm => ?_⟩
  refine rc Out σ0 G H σ env xk _ _ R x hm fun b env1 G1 H1 k R1 s1 => ?_
  cases b with
  | true => exact iteT (ra Out σ0 G1 H1 σ env1 xk D Dh R1 (x.mono s1) (e.mono s1) (by simpa using k))
  | false => exact iteF (rb Out σ0 G1 H1 σ env1 xk D Dh R1 (x.mono s1) (e.mono s1) (by simpa using k))

/-! ### targets of loops and of unpacking: names by slot, one or a tuple of names -/
/-- the slots that a target names: one, or several -/
inductive Tgt where
  | one (i : Nat) | many (is : List Nat)
def setAll : List Nat → List PyData → DEnv → DEnv
  | i :: is, d :: ds, env => setAll is ds (env.set i (.val d))
  | _, _, env => env
/-- d is taken by the target -/
def Tgt.take (t : Tgt) (d : PyData) (env : DEnv) (k : DEnv → Prop) : Prop :=
  match t with
  | .one i => k (env.set i (.val d))
  | .many is => ∃ ds, d = .tuple ds ∧ ds.length = is.length ∧ k (setAll is ds env)
def Tgt.slots : Tgt → List Nat
  | .one i => [i]
  | .many is => is
theorem wipe_set {σ : L2.St} {i : Nat} {x : Option V} : ∀ {vs : List Nat}, i ∈ vs → wipe (σ.set i x) vs = wipe σ vs
  | v :: vs, h => by
    unfold wipe
    by_cases e : i ∈ vs
    · rw [wipe_set e]
    · have ei : i = v := by
        rcases List.mem_cons.mp h with h | h
        · exact h
        · exact absurd h e
      subst ei
      have q : ∀ (ws : List Nat), i ∉ ws → wipe (σ.set i x) ws = (wipe σ ws).set i x := fun ws => by
        induction ws with
        | nil => intro _; rfl
        | cons w ws ih =>
          intro n
          simp only [List.mem_cons, not_or] at n
          unfold wipe
          rw [ih n.2, List.set_comm _ _ n.1]
      rw [q vs e, List.set_set]
structure SG (X : Cx) (io : List Nat) (tg : Expr) (t : Tgt) : Prop where
  run : ∃ g, PG X tg g ∧ ∀ (Out : Hp) (σ0 : L2.St) (G H : Hp) (σ : L2.St) (env : DEnv) (v : V) (d : PyData) (k : DEnv → Prop) (Q : L2.St → Hp → Prop), Rel X.K Out io σ0 G H σ env → Dd X.K G v d → t.take d env k →
    (∀ σ' env', k env' → Rel X.K Out io σ0 G H σ' env' → (∀ ws, (∀ i ∈ t.slots, i ∈ ws) → wipe σ' ws = wipe σ ws) → Q σ' H) → g v σ H Q
theorem sg_one (i : Nat) {x : Str} {pos : Pos} (hN : X.N.Nodup) (hi : X.N[i]? = some x) (hx : Loc X.env.scope x) (hf : X.fn x = true ∨ X.env.scope.names.lookup x = some .local := by first | exact .inl rfl | exact .inr rfl) (hio : i ∉ io := by decide) : SG X io (.Name x pos) (.one i) :=
  ⟨gName i, pg_name hN hi hx hf, fun Out σ0 G H σ env v d k Q R hd ht hq => hq _ _ ht (R.store (c := .val d) hd hio) fun ws h => wipe_set (h i List.mem_cons_self)⟩
/-- several names, one after the other -/
structure SGs (X : Cx) (io : List Nat) (tgs : List Expr) (is : List Nat) : Prop where
  run : ∃ g, PGs X tgs g ∧ ∀ (Out : Hp) (σ0 : L2.St) (G H : Hp) (σ : L2.St) (env : DEnv) (vs : List V) (ds : List PyData) (Q : L2.St → Hp → Prop), Rel X.K Out io σ0 G H σ env → Da X.K G vs ds → ds.length = is.length →
    (∀ σ', Rel X.K Out io σ0 G H σ' (setAll is ds env) → (∀ ws, (∀ i ∈ is, i ∈ ws) → wipe σ' ws = wipe σ ws) → Q σ' H) → g vs σ H Q
theorem sgs_nil : SGs X io [] [] := ⟨gNil, pgs_nil, fun Out σ0 G H σ env vs ds Q R hd hl hq => by
  cases ds with
  | nil => cases hd; exact ⟨rfl, hq σ R fun _ _ => rfl⟩
  | cons d ds => cases hl⟩
theorem sgs_cons (i : Nat) {x : Str} {pos : Pos} {es : List Expr} {is : List Nat} (hN : X.N.Nodup) (hi : X.N[i]? = some x) (hx : Loc X.env.scope x) (h : SGs X io es is) (hf : X.fn x = true ∨ X.env.scope.names.lookup x = some .local := by first | exact .inl rfl | exact .inr rfl) (hio : i ∉ io := by decide) :
    SGs X io (.Name x pos :: es) (i :: is) := by
  obtain ⟨g, p, r⟩ := h.run
  refine ⟨gCons (gName i) g, pgs_cons (pg_name hN hi hx hf) p, fun Out σ0 G H σ env vs ds Q R hd hl hq => ?_⟩
  cases hd with
  | nil => cases hl
  | cons h1 h2 => exact ⟨_, _, rfl, r Out σ0 G H _ _ _ _ Q (R.store (c := .val _) h1 hio) h2 (by simpa using hl) fun σ' R' hw => hq σ' R' fun ws h => (hw ws fun k hk => h k (List.mem_cons_of_mem _ hk)).trans (wipe_set (h i List.mem_cons_self))⟩
theorem sg_many {es : List Expr} {is : List Nat} {kk : Nat} {pos : Pos} (h : SGs X io es is) (hp : ∀ t, PGs X es t → PG X (.Tuple es kk pos) (gTup X.K is.length t)) : SG X io (.Tuple es kk pos) (.many is) := by
  obtain ⟨g, p, r⟩ := h.run
  refine ⟨gTup X.K is.length g, hp g p, fun Out σ0 G H σ env v d k Q R hd ht hq => ?_⟩
  obtain ⟨ds, rfl, hl, hk⟩ := ht
  cases hd with
  | tup ha hds => exact ⟨_, _, rfl, sub_t R.sub ha, by rw [hds.length, hl], r Out σ0 G H σ env _ ds Q R hds hl fun σ' R' hw => hq σ' _ hk R' hw⟩
def mAsgT (t : Tgt) (m : ME) : MS := fun xk D env => m xk env fun c env' => ∃ d, c.data = some d ∧ t.take d env' D.nx
theorem ss_asgT {tg e : Expr} {m : ME} {t : Tgt} {pos : Pos} (he : SE X W io e m) (hg : SG X io tg t) (mk : ∀ te g, PE X e te → PG X tg g → PS X (.Assign [tg] e pos) (tAsg te g)) : SS X W io (.Assign [tg] e pos) (mAsgT t m) := by
  obtain ⟨te, p, r⟩ := he.run
  obtain ⟨g, pg, rg⟩ := hg.run
  refine ⟨tAsg te g, mk te g p pg, fun Out σ0 G H σ env xk D Dh R x e hm => ?_⟩
  refine r Out σ0 G H σ env xk _ _ R x hm fun c env' v G' H' k R' s t => ?_
  obtain ⟨d, e1, k⟩ := k
  obtain ⟨G2, R2, s2, dd⟩ := R'.freeze t e1
  exact rg Out σ0 G2 H' σ env' v d _ _ R2 dd k fun σ' env2 hk R3 _ => e.nx env2 G2 H' σ' R3 (s.trans s2) hk

/-! ### loops -/
/-- J goes through ds, whatever else happens, while G stands -/
structure JOk (K : PySem.W.Frag) (G : Hp) (J : It) (ds : List PyData) : Prop where
  go : ∀ i H, Sub G H → i < ds.length → J.go i H
  stop : ∀ i H, Sub G H → ds.length ≤ i → J.stop i H
  yld : ∀ i H x H' d, Sub G H → ds[i]? = some d → J.yld i H x H' → (H' = H ∧ Dd K G x d) ∨ ∃ T vs es, x = .ref T ∧ H T = none ∧ H' = upd H T (.tup vs) ∧ d = .tuple es ∧ Da K G vs es
theorem JOk.mono {K : PySem.W.Frag} {G G1 : Hp} {J : It} {ds : List PyData} (h : JOk K G J ds) (s : Sub G G1) : JOk K G1 J ds :=
  ⟨fun i H s' => h.go i H (s.trans s'), fun i H s' => h.stop i H (s.trans s'), fun i H x H' d s' e y => by
    rcases h.yld i H x H' d (s.trans s') e y with ⟨a, b⟩ | ⟨T, vs, es, a, b, c, d, f⟩
    · exact .inl ⟨a, b.mono s⟩
    · exact .inr ⟨T, vs, es, a, b, c, d, f.mono s⟩⟩
abbrev MI := MX → DEnv → (List PyData → DEnv → Prop) → Prop
structure SI (X : Cx) (W : WX) (io : List Nat) (tg iter : Expr) (mi : MI) : Prop where
  run : ∃ wi, PI X tg iter wi ∧ ∀ (Out : Hp) (σ0 : L2.St) (G H : Hp) (σ : L2.St) (env : DEnv) (xk : MX) (Kd : List PyData → DEnv → Prop) (Rr : It → Hp → Prop), Rel X.K Out io σ0 G H σ env → XOk X.K Out io σ0 G W xk → mi xk env Kd →
    (∀ ds env' G' H' J, Kd ds env' → Rel X.K Out io σ0 G' H' σ env' → Sub G G' → JOk X.K G' J ds → Rr J H') → wi σ H Rr
/-- the loop, by a word of the turn and the slots -/
def mFor (mi : MI) (t : Tgt) (body : MS) : MS := fun xk D env => mi xk env fun ds env1 => ∃ Wd : Nat → DEnv → Prop, Wd 0 env1 ∧
  (∀ k d env, ds[k]? = some d → Wd k env → t.take d env fun env' => body xk { nx := Wd (k + 1), ct := Wd (k + 1), bk := D.nx, rt := D.rt } env') ∧ ∀ env, Wd ds.length env → D.nx env
theorem ss_for {tg iter : Expr} {body : List Stmt} {pos : Pos} {mi : MI} {t : Tgt} {mb : MS} (hi : SI X W io tg iter mi) (hg : SG X io tg t) (hb : SSs X W io body mb)
    (mk : ∀ wi g tb, PI X tg iter wi → PG X tg g → PSs X body tb → PS X (.For tg iter body [] pos) (tFor wi g tb)) : SS X W io (.For tg iter body [] pos) (mFor mi t mb) := by
  obtain ⟨wi, pi, ri⟩ := hi.run
  obtain ⟨g, pg, rg⟩ := hg.run
  obtain ⟨tb, pb, rb⟩ := hb.run
  refine ⟨tFor wi g tb, mk wi g tb pi pg pb, fun Out σ0 G H σ env xk D Dh R x e hm => ?_⟩
  refine ri Out σ0 G H σ env xk _ _ R x hm fun ds env1 G1 H1 J k R1 s1 hJ => ?_
  obtain ⟨Wd, w0, ws, we⟩ := k
  refine ⟨fun i m σ' H' => i + m = ds.length ∧ ∃ G' env', Rel X.K Out io σ0 G' H' σ' env' ∧ Sub G1 G' ∧ Wd i env', ⟨ds.length, by omega, G1, env1, R1, Sub.refl G1, w0⟩, fun i m σ' H' hw => ?_⟩
  obtain ⟨im, G', env', R', s', w⟩ := hw
  have hJ' := hJ.mono s'
  by_cases hi : i < ds.length
  · refine .inr ⟨hJ'.go i H' R'.sub hi, fun σ2 H2 => ∃ G2 env2, Rel X.K Out io σ0 G2 H2 σ2 env2 ∧ Sub G1 G2 ∧ Wd (i + 1) env2, fun σ2 H2 ⟨G2, env2, q1, q2, q3⟩ => ⟨m - 1, by omega, by omega, G2, env2, q1, q2, q3⟩, fun v H2 hy => ?_⟩
    have hd : ds[i]? = some ds[i] := List.getElem?_eq_getElem hi
    have tk := ws i _ env' hd w
    have after : ∀ {G2 H2 : Hp} {σ2 : L2.St} {env2 : DEnv}, Sub G1 G2 → Rel X.K Out io σ0 G2 H2 σ2 env2 → mb xk { nx := Wd (i + 1), ct := Wd (i + 1), bk := D.nx, rt := D.rt } env2 → tb { nx := fun σ2 H2 => ∃ G2 env2, Rel X.K Out io σ0 G2 H2 σ2 env2 ∧ Sub G1 G2 ∧ Wd (i + 1) env2, rt := Dh.rt, bk := Dh.nx, ct := fun σ2 H2 => ∃ G2 env2, Rel X.K Out io σ0 G2 H2 σ2 env2 ∧ Sub G1 G2 ∧ Wd (i + 1) env2 } σ2 H2 := fun {G2 H2 σ2 env2} s2 R2 hb => by
      refine rb Out σ0 G2 H2 σ2 env2 xk _ _ R2 (x.mono (s1.trans s2)) ⟨fun env3 G3 H3 σ3 R3 s3 k3 => ⟨G3, env3, R3, s2.trans s3, k3⟩, fun c env3 v3 G3 H3 σ3 R3 s3 t3 k3 => ?_, fun env3 G3 H3 σ3 R3 s3 k3 => ?_, fun env3 G3 H3 σ3 R3 s3 k3 => ⟨G3, env3, R3, s2.trans s3, k3⟩⟩ hb
      · exact e.rt c env3 v3 G3 H3 σ3 R3 ((s1.trans s2).trans s3) t3 k3
      · exact e.nx env3 G3 H3 σ3 R3 ((s1.trans s2).trans s3) k3
    rcases hJ'.yld i H' v H2 _ R'.sub hd hy with ⟨rfl, dd⟩ | ⟨T, vs, es, rfl, hT, rfl, e2, da⟩
    · exact rg Out σ0 G' H2 σ' env' v _ _ _ R' dd tk fun σ2 env2 hb R2 _ => after s' R2 hb
    · have nG := R'.sub.free hT
      have sn : Sub G' (upd G' T (.tup vs)) := Sub.new nG
      refine rg Out σ0 (upd G' T (.tup vs)) _ σ' env' _ _ _ _ (R'.laid hT) (by rw [e2]; exact .tup (.inl (.inl upd_same)) (da.mono sn)) tk fun σ2 env2 hb R2 _ => after (s'.trans sn) R2 hb
  · have ei : i = ds.length := by omega
    subst ei
    exact .inl ⟨hJ'.stop _ H' R'.sub (Nat.le_refl _), e.nx env' G' H' σ' R' (s1.trans s') (we env' w)⟩
/-- while, by a word that falls -/
def mWhile (c : MT) (body : MS) : MS := fun xk D env => ∃ Wd : Nat → DEnv → Prop, (∃ n, Wd n env) ∧ ∀ n env, Wd n env → c xk env fun b env' => if b = true then body xk { nx := fun e => ∃ m, m < n ∧ Wd m e, ct := fun e => ∃ m, m < n ∧ Wd m e, bk := D.nx, rt := D.rt } env' else D.nx env'

/-! ### what loops go through -/
theorem jok_list {K : PySem.W.Frag} {G : Hp} {a : Addr} {vs : List V} {ds : List PyData} (h : SqL K G a vs) (da : Da K G vs ds) : JOk K G (Itl K a) ds where
  go := fun i H s hi => by
    obtain ⟨v, e, _⟩ := da.get (List.getElem?_eq_getElem hi)
    exact ⟨vs, v, sub_l s h, e⟩
  stop := fun i H s hi => ⟨vs, sub_l s h, by rw [da.length]; exact hi⟩
  yld := fun i H x H' d s e y => by
    obtain ⟨rfl, f⟩ := y
    obtain ⟨v, e1, dd⟩ := da.get e
    have e2 := f vs (sub_l s h)
    rw [e1] at e2
    cases e2
    exact .inl ⟨rfl, dd⟩
theorem jok_tup {K : PySem.W.Frag} {G : Hp} {a : Addr} {vs : List V} {ds : List PyData} (h : SqT K G a vs) (da : Da K G vs ds) : JOk K G (Itt K a) ds where
  go := fun i H s hi => by
    obtain ⟨v, e, _⟩ := da.get (List.getElem?_eq_getElem hi)
    exact ⟨vs, v, sub_t s h, e⟩
  stop := fun i H s hi => ⟨vs, sub_t s h, by rw [da.length]; exact hi⟩
  yld := fun i H x H' d s e y => by
    obtain ⟨rfl, f⟩ := y
    obtain ⟨v, e1, dd⟩ := da.get e
    have e2 := f vs (sub_t s h)
    rw [e1] at e2
    cases e2
    exact .inl ⟨rfl, dd⟩
/-- the signs of a text, one by one -/
def signsD (x : Str) : List PyData := x.cps.toList.map fun c => .str ⟨#[c]⟩
theorem jok_str {K : PySem.W.Frag} {G : Hp} {x : Str} : JOk K G (Its x) (signsD x) where
  go := fun i H s hi => by
    show i < x.cps.size
    simpa [signsD] using hi
  stop := fun i H s hi => by
    show x.cps.size ≤ i
    simpa [signsD] using hi
  yld := fun i H v H' d s e y => by
    obtain ⟨rfl, c, hc, rfl⟩ := y
    refine .inl ⟨rfl, ?_⟩
    have e2 : (signsD x)[i]? = some (.str ⟨#[c]⟩) := by
      unfold signsD
      rw [List.getElem?_map, Array.getElem?_toList, hc]
      rfl
    rw [e2] at e
    cases e
    exact .str _
def rangeD (lo : Int) (n : Nat) : List PyData := (List.range n).map fun (i : Nat) => .int (lo + (i : Int))
theorem jok_range {K : PySem.W.Frag} {G : Hp} {lo : Int} {n : Nat} : JOk K G (Itr lo n) (rangeD lo n) where
  go := fun i H s hi => by
    show i < n
    simpa [rangeD] using hi
  stop := fun i H s hi => by
    show n ≤ i
    simpa [rangeD] using hi
  yld := fun i H v H' d s e y => by
    obtain ⟨rfl, rfl⟩ := y
    refine .inl ⟨rfl, ?_⟩
    have hi : i < n := by
      have := (List.getElem?_eq_some_iff.mp e).1
      simpa [rangeD] using this
    have e2 : (rangeD lo n)[i]? = some (.int (lo + (i : Int))) := by
      unfold rangeD
      rw [List.getElem?_map, List.getElem?_range hi]
      rfl
    rw [e2] at e
    cases e
    exact .int _
/-- the items of a list, a tuple -/
def mItL (m : ME) : MI := fun xk env Kd => m xk env fun c env' => ∃ ds, c.data = some (.list ds) ∧ Kd ds env'
def mItT (m : ME) : MI := fun xk env Kd => m xk env fun c env' => ∃ ds, c.data = some (.tuple ds) ∧ Kd ds env'
def mItS (m : ME) : MI := fun xk env Kd => m xk env fun c env' => ∃ x, c.data = some (.str x) ∧ Kd (signsD x) env'
theorem si_list {tg e : Expr} {m : ME} (h : SE X W io e m) : SI X W io tg e (mItL m) := by
  obtain ⟨te, p, r⟩ := h.run
  refine ⟨iList X.K te, pi_list p, fun Out σ0 G H σ env xk Kd Rr R x hm hq => ?_⟩
  refine r Out σ0 G H σ env xk _ _ R x hm fun c env' v G' H' k R' s t => ?_
  obtain ⟨ds, e1, k⟩ := k
  obtain ⟨G2, R2, s2, dd⟩ := R'.freeze t e1
  cases dd with
  | lst h da => exact ⟨_, rfl, ⟨_, sub_l R2.sub h⟩, hq ds env' G2 H' _ k R2 (s.trans s2) (jok_list h da)⟩
theorem si_tup {tg e : Expr} {m : ME} (h : SE X W io e m) : SI X W io tg e (mItT m) := by
  obtain ⟨te, p, r⟩ := h.run
  refine ⟨iTup X.K te, pi_tup p, fun Out σ0 G H σ env xk Kd Rr R x hm hq => ?_⟩
  refine r Out σ0 G H σ env xk _ _ R x hm fun c env' v G' H' k R' s t => ?_
  obtain ⟨ds, e1, k⟩ := k
  obtain ⟨G2, R2, s2, dd⟩ := R'.freeze t e1
  cases dd with
  | tup h da => exact ⟨_, rfl, ⟨_, sub_t R2.sub h⟩, hq ds env' G2 H' _ k R2 (s.trans s2) (jok_tup h da)⟩
theorem si_str {tg e : Expr} {m : ME} (h : SE X W io e m) : SI X W io tg e (mItS m) := by
  obtain ⟨te, p, r⟩ := h.run
  refine ⟨iStr te, pi_str p, fun Out σ0 G H σ env xk Kd Rr R x hm hq => ?_⟩
  refine r Out σ0 G H σ env xk _ _ R x hm fun c env' v G' H' k R' s t => ?_
  obtain ⟨y, e1, k⟩ := k
  obtain ⟨G2, R2, s2, dd⟩ := R'.freeze t e1
  cases dd.vStr
  exact ⟨y, rfl, hq _ env' G2 H' _ k R2 (s.trans s2) jok_str⟩
def mRng1 (ma : MA) : MI := fun xk env Kd => ma xk env fun ds env' => ∃ j : Int, ds = [.int j] ∧ -(2 ^ 62) ≤ j ∧ j < 2 ^ 62 ∧ Kd (rangeD 0 j.toNat) env'
theorem si_rng1 {tg a : Expr} {ma : MA} {p pos : Pos} (hg : Gl X "range") (hm : X.mg "range" = none) (h : SA X W io [a] ma) (hs : starEach [a] X.env = [(false, eval a X.env)] := by rfl) : SI X W io tg (.Call (.Name "range" p) [a] [] pos) (mRng1 ma) := by
  obtain ⟨ta, pa, r⟩ := h.run
  refine ⟨iRng1 ta, pi_range1 hg hm pa hs, fun Out σ0 G H σ env xk Kd Rr R x hm hq => ?_⟩
  refine r Out σ0 G H σ env xk _ _ R x hm fun ds env' vs G' H' k l R' s da => ?_
  obtain ⟨j, rfl, h1, h2, k⟩ := k
  cases da with
  | cons d1 d2 => cases d2; cases d1.vInt; exact ⟨j, rfl, h1, h2, hq _ env' G' H' _ k R' s jok_range⟩
def mRng2 (ma : MA) : MI := fun xk env Kd => ma xk env fun ds env' => ∃ i j : Int, ds = [.int i, .int j] ∧ (-(2 ^ 62) ≤ i ∧ i < 2 ^ 62 ∧ -(2 ^ 62) ≤ j ∧ j < 2 ^ 62) ∧ Kd (rangeD i (j - i).toNat) env'
theorem si_rng2 {tg a b : Expr} {ma : MA} {p pos : Pos} (hg : Gl X "range") (hm : X.mg "range" = none) (h : SA X W io [a, b] ma) (hs : starEach [a, b] X.env = [(false, eval a X.env), (false, eval b X.env)] := by rfl) (hs2 : starEach [b] X.env = [(false, eval b X.env)] := by rfl) : SI X W io tg (.Call (.Name "range" p) [a, b] [] pos) (mRng2 ma) := by
  obtain ⟨ta, pa, r⟩ := h.run
  refine ⟨iRng2 ta, pi_range2 hg hm pa hs hs2, fun Out σ0 G H σ env xk Kd Rr R x hm hq => ?_⟩
  refine r Out σ0 G H σ env xk _ _ R x hm fun ds env' vs G' H' k l R' s da => ?_
  obtain ⟨i, j, rfl, h1, k⟩ := k
  cases da with
  | cons d1 d2 => cases d2 with | cons d2 d3 => cases d3; cases d1.vInt; cases d2.vInt; exact ⟨i, j, rfl, h1, hq _ env' G' H' _ k R' s jok_range⟩
end
end M
end
section
namespace M
open PySem PySem.Spec PyProof.Rows L2
open Classical in
/-- all that a callee must leave alone: the outer things and the caller's own, but for those at the addresses in ex -/
noncomputable def outer (Out H : Hp) (σ : L2.St) (env : DEnv) (ex : List Addr) : Hp := fun a => if a ∈ ex then Out a else if ∃ i, ownA σ env i = some a then H a else Out a
section
variable {K : PySem.W.Frag} {Out G H G' H' : Hp} {io : List Nat} {σ0 σ : L2.St} {env env' : DEnv}
theorem outer_own {i : Nat} {a : Addr} {ex : List Addr} (h : ownA σ env i = some a) (n : a ∉ ex) : outer Out H σ env ex a = H a := by
  unfold outer
  rw [if_neg n, if_pos ⟨i, h⟩]
theorem outer_out (R : Rel K Out io σ0 G H σ env) {ex : List Addr} {a : Addr} {o : HO} (h : Out a = some o) : outer Out H σ env ex a = some o := by
  unfold outer
  by_cases n : a ∈ ex
  · rw [if_pos n]; exact h
  · rw [if_neg n]
    by_cases q : ∃ i, ownA σ env i = some a
    · obtain ⟨i, hi⟩ := q
      rw [(R.owned hi).2.1] at h; cases h
    · rw [if_neg q]; exact h
theorem outer_in (R : Rel K Out io σ0 G H σ env) {ex : List Addr} {a : Addr} {o : HO} (h : outer Out H σ env ex a = some o) : H a = some o ∧ G a = none := by
  unfold outer at h
  by_cases n : a ∈ ex
  · rw [if_pos n] at h; exact ⟨R.out a o h, R.apart a o h⟩
  · rw [if_neg n] at h
    by_cases q : ∃ i, ownA σ env i = some a
    · rw [if_pos q] at h
      obtain ⟨i, hi⟩ := q
      exact ⟨h, (R.owned hi).1⟩
    · rw [if_neg q] at h; exact ⟨R.out a o h, R.apart a o h⟩
theorem getElem?_mapsome {vs : List V} {i : Nat} {v : V} (h : (vs.map some)[i]? = some (some v)) : vs[i]? = some v := by
  rw [List.getElem?_map] at h
  cases e : vs[i]? with
  | none => rw [e] at h; cases h
  | some u => rw [e] at h; cases h; rfl
/-- the callee's state: its arguments frozen -/
theorem Rel.callee (R : Rel K Out io σ0 G H σ env) {vs : List V} {ds : List PyData} (da : Da K G vs ds) : Rel K (outer Out H σ env []) [] (vs.map some) G H (vs.map some) (ds.map .val) where
  sub := R.sub
  out := fun a o h => (outer_in R h).1
  apart := fun a o h => (outer_in R h).2
  len := by rw [List.length_map, List.length_map, da.length]
  io := fun i hi => by cases hi
  cell := fun i => by
    rw [List.getElem?_map, List.getElem?_map]
    cases e : ds[i]? with
    | none => trivial
    | some d =>
      obtain ⟨v, hv, hd⟩ := da.get e
      exact ⟨v, by rw [hv] <;> rfl, hd⟩
  sep := fun i j a h1 _ => by
    unfold ownA at h1
    rw [List.getElem?_map] at h1
    cases e : ds[i]? with
    | none => rw [e] at h1; cases h1
    | some d => rw [e] at h1; cases h1
/-- behind the call -/
theorem Rel.behind (R : Rel K Out io σ0 G H σ env) {io' : List Nat} {σ0' σ' : L2.St} {env' : DEnv} (R' : Rel K (outer Out H σ env []) io' σ0' G' H' σ' env') (s : Sub G G') : Rel K Out io σ0 G' H' σ env :=
  R.frame s R'.sub (fun a o h => R'.out a o (outer_out R h)) (fun a o h => R'.apart a o (outer_out R h)) fun i a h => by
    have q := outer_own (Out := Out) (H := H) (ex := []) h (by intro z; cases z)
    cases e : H a with
    | none => exact absurd e (R.owned h).2.2
    | some o =>
      rw [e] at q
      exact ⟨R'.out a o q, R'.apart a o q⟩
theorem Tmp.behind (R : Rel K Out io σ0 G H σ env) {σ' : L2.St} {env' : DEnv} {v : V} {c : Cell} (t : Tmp K (outer Out H σ env []) G' H' σ' env' v c) : Tmp K Out G' H' σ env v c := by
  have key : ∀ {a : Addr}, outer Out H σ env [] a = none → Out a = none ∧ ∀ i, ownA σ env i ≠ some a := fun {a} n => by
    refine ⟨?_, fun i h => ?_⟩
    · cases e : Out a with
      | none => rfl
      | some o => rw [outer_out R e] at n; cases n
    · rw [outer_own h (by intro z; cases z)] at n
      exact (R.owned h).2.2 n
  cases c with
  | no => trivial
  | val d => exact t
  | exc cl pl => exact t
  | adr ad => exact t
  | lst ds =>
    obtain ⟨a, vs, e, h1, h2, h3, _, h5⟩ := t
    exact ⟨a, vs, e, h1, h2, (key h3).1, (key h3).2, h5⟩
  | dct ds =>
    obtain ⟨a, vs, e, h1, h2, h3, _, h5⟩ := t
    exact ⟨a, vs, e, h1, h2, (key h3).1, (key h3).2, h5⟩
end

/-! ### a def's promise over plain data -/
def spM (K : PySem.W.Frag) (io : List Nat) (n : Nat) (sem : ME) : Sp := fun vs H Q E => ∃ (Out G : Hp) (args : DEnv) (xk : MX) (Kd : MK), vs.length = n ∧ args.length = n ∧ Rel K Out io (vs.map some) G H (vs.map some) args ∧ sem xk args Kd ∧
  (∀ c args' v G' H', Kd c args' → Rel K Out io (vs.map some) G' H' (vs.map some) args' → Sub G G' → Tmp K Out G' H' (vs.map some) args' v c → Q v H') ∧
  ∀ cls d pl args' G' H', xk cls pl args' → Rel K Out io (vs.map some) G' H' (vs.map some) args' → Sub G G' → PlOk K G' H' d pl → E cls d H'
/-- what the caller sees of the parameters behind the call -/
def clear (io : List Nat) (n : Nat) (env : DEnv) : DEnv := (List.range n).map fun i => if i ∈ io then env[i]?.getD .no else .no
def bodySem (ms : MS) (io : List Nat) (n m : Nat) : ME := fun xk args Kd => ms (fun cls pl env => xk cls pl (clear io n env)) { nx := fun env => Kd (.val .none) (clear io n env), rt := fun c env => Kd c (clear io n env) } (args ++ List.replicate (m - n) .no)
theorem clear_get {io : List Nat} {n : Nat} {env : DEnv} {i : Nat} {c : Cell} (h : (clear io n env)[i]? = some c) : c = .no ∨ (i ∈ io ∧ i < n ∧ env[i]? = some c) := by
  unfold clear at h
  rw [List.getElem?_map] at h
  by_cases hi : i < n
  · rw [List.getElem?_range hi] at h
    have h : (if i ∈ io then env[i]?.getD .no else .no) = c := Option.some.inj h
    by_cases m : i ∈ io
    · rw [if_pos m] at h
      cases e : env[i]? with
      | none => rw [e] at h; exact .inl h.symm
      | some x => rw [e] at h; exact .inr ⟨m, hi, by rw [show x = c from h]⟩
    · rw [if_neg m] at h; exact .inl h.symm
  · rw [List.getElem?_eq_none (by simpa using hi)] at h
    cases h
section
variable {K : PySem.W.Frag} {Out G H G' H' : Hp} {io : List Nat} {σ : L2.St} {env : DEnv} {N : List Str} {vs : List V}
theorem start_get {i : Nat} (h : i < vs.length) : (L2.start N vs)[i]? = (vs.map some)[i]? := by
  unfold L2.start
  rw [List.getElem?_append_left (by simpa using h)]
theorem ownA_clear (hio : ∀ i ∈ io, σ[i]? = (L2.start N vs)[i]?) {i : Nat} {a : Addr} (h : ownA (vs.map some) (clear io vs.length env) i = some a) : ownA σ env i = some a := by
  unfold ownA at h ⊢
  cases e : (clear io vs.length env)[i]? with
  | none => rw [e] at h; cases h
  | some c =>
    rcases clear_get e with rfl | ⟨m, hi, e2⟩
    · rw [e] at h; cases h
    · rw [e, ← start_get hi (N := N), ← hio i m] at h
      rw [e2]
      exact h
theorem Rel.clear (R : Rel K Out io (L2.start N vs) G H σ env) : Rel K Out io (vs.map some) G H (vs.map some) (clear io vs.length env) where
  sub := R.sub
  out := R.out
  apart := R.apart
  len := by unfold M.clear; simp
  io := fun i _ => rfl
  cell := fun i => by
    cases e : (M.clear io vs.length env)[i]? with
    | none => trivial
    | some c =>
      rcases clear_get e with rfl | ⟨m, hi, e2⟩
      · trivial
      · have k := R.cell i
        rw [e2, R.io i m, start_get hi] at k
        exact k
  sep := fun i j a h1 h2 => R.sep i j a (ownA_clear R.io h1) (ownA_clear R.io h2)
theorem Tmp.clear (R : Rel K Out io (L2.start N vs) G H σ env) {v : V} {c : Cell} (t : Tmp K Out G H σ env v c) : Tmp K Out G H (vs.map some) (M.clear io vs.length env) v c := by
  cases c with
  | no => trivial
  | val d => exact t
  | exc cl pl => exact t
  | adr ad => exact t
  | lst ds =>
    obtain ⟨a, vs, e, h1, h2, h3, h4, h5⟩ := t
    exact ⟨a, vs, e, h1, h2, h3, fun i h => h4 i (ownA_clear R.io h), h5⟩
  | dct ds =>
    obtain ⟨a, vs, e, h1, h2, h3, h4, h5⟩ := t
    exact ⟨a, vs, e, h1, h2, h3, fun i h => h4 i (ownA_clear R.io h), h5⟩
theorem Rel.start (R : Rel K Out io (vs.map some) G H (vs.map some) env) (hl : env.length = vs.length) (hN : vs.length ≤ N.length) (hio : ∀ i ∈ io, i < vs.length) : Rel K Out io (L2.start N vs) G H (L2.start N vs) (env ++ List.replicate (N.length - vs.length) .no) := by
  have get : ∀ i c, (env ++ List.replicate (N.length - vs.length) Cell.no)[i]? = some c → c = .no ∨ (i < vs.length ∧ env[i]? = some c) := fun i c h => by
    by_cases hi : i < env.length
    · rw [List.getElem?_append_left hi] at h
      exact .inr ⟨by omega, h⟩
    · rw [List.getElem?_append_right (by omega)] at h
      exact .inl (List.eq_of_mem_replicate (List.mem_of_getElem? h))
  have own : ∀ i a, ownA (L2.start N vs) (env ++ List.replicate (N.length - vs.length) Cell.no) i = some a → ownA (vs.map some) env i = some a := fun i a h => by
    unfold ownA at h ⊢
    cases e : (env ++ List.replicate (N.length - vs.length) Cell.no)[i]? with
    | none => rw [e] at h; cases h
    | some c =>
      rcases get i c e with rfl | ⟨hi, e2⟩
      · rw [e] at h; cases h
      · rw [e, start_get hi] at h
        rw [e2]
        exact h
  exact
  { sub := R.sub, out := R.out, apart := R.apart
    len := by unfold L2.start; simp [hl]
    io := fun i hi => rfl
    cell := fun i => by
      cases e : (env ++ List.replicate (N.length - vs.length) Cell.no)[i]? with
      | none => trivial
      | some c =>
        rcases get i c e with rfl | ⟨hi, e2⟩
        · trivial
        · have k := R.cell i
          rw [e2] at k
          rw [start_get hi]
          exact k
    sep := fun i j a h1 h2 => R.sep i j a (own i a h1) (own j a h2) }
end
section
variable {P : Program} {w : World} {K : PySem.W.Frag} {mg : Str → Option Value} {base : Heap}
/-- THE RULE for a def -/
theorem fnM {x qual : Str} {st : Stmt} {f : Addr} {fd : FuncData} {N ps : List Str} {k : Nat} (F : Fun K x qual st f fd) (S : FnScope N ps (defScope st)) (io : List Nat) (ms : MS) (sem : ME)
    (hsem : ∀ xk args Kd, args.length = ps.length → sem xk args Kd → bodySem ms io ps.length N.length xk args Kd)
    (hbody : ∀ (cdv : Value) (A : Around) (outer : List Env) (s : Shared) (H : Hp) (E : XK), Room k (A.deeper (envOfC qual (defScope st) s.heap.objs.size f cdv)) →
      SSs (cxOf (L2.CX P w) P w K mg base N qual (defScope st) f cdv A outer s H E) (fun cls d _ H => E cls d H) io (defBody st) ms) (hio : ∀ i ∈ io, i < ps.length := by decide) (hN : ps.length ≤ N.length := by decide) :
    FnOk P w K mg base (L2.CX P w) (k + 1) f fd ps (spM K io ps.length sem) := by
  refine F.okX S (fun vs H Q E h => ?_) (fun cdv A outer s H vs Q E hr h => ?_)
  · obtain ⟨_, _, _, _, _, h, _⟩ := h
    exact h
  · obtain ⟨Out, G, args, xk, Kd, h1, h2, R, hs, hq, hx⟩ := h
    obtain ⟨t, p, r⟩ := (hbody cdv A outer s H E hr).run
    have hs' := hsem xk args Kd h2 hs
    unfold bodySem at hs'
    rw [← h1] at hs'
    refine ⟨t, p, ?_⟩
    refine r Out (L2.start N vs) G H (L2.start N vs) _ _ _ _ (R.start (by rw [h1, h2]) (by rw [h1]; exact hN) (by rw [h1]; exact hio)) (fun cls d pl env G' H' σ' R' s' pk x => ?_) ⟨fun env G' H' σ' R' s' k => ?_, fun c env v G' H' σ' R' s' t k => ?_, fun _ _ _ _ _ _ k => False.elim k, fun _ _ _ _ _ _ k => False.elim k⟩ hs'
    · exact hx cls d pl _ G' H' x R'.clear s' pk
    · exact hq _ _ _ G' H' k R'.clear s' (show Dd K G' .non .none from .non)
    · exact hq _ _ v G' H' k R'.clear s' (t.clear R')
end

/-! ### calls of own defs -/
section
variable {X : Cx} {W : WX} {io : List Nat}
def mCallP (sem : ME) (ma : MA) : ME := fun xk env Kd => ma xk env fun ds env' => sem (fun cls pl _ => xk cls pl env') (ds.map .val) fun c _ => Kd c env'
theorem se_callP {k : Nat} {f : Addr} {fd : FuncData} {ps : List Str} {n : Nat} {sem : ME} {x : Str} {p pos : Pos} {e : Expr} {es : List Expr} {ma : MA} (F : FnOk X.prog X.w X.K X.mg X.base (L2.CX X.prog X.w) k f fd ps (spM X.K [] n sem)) (hr : Room k X.A) (hg : Gl X x) (hm : X.mg x = some (.ref f))
    (hk : PySem.W.keepIn X.K (.ref f) = true) (hb : Binds X.K fd ps []) (tk : Takes X W) (ha : SA X W io (e :: es) ma) (hn : (e :: es).length = n := by rfl) (hdb : (x == ("__debug__" : Str)) = false := by decide)
    (he : starEach (e :: es) X.env = (false, eval e X.env) :: starEach es X.env := by rfl) (hpl : (backTo pos (starEach es X.env)).any (·.1) = false := by rfl) : SE X W io (.Call (.Name x p) (e :: es) [] pos) (mCallP sem ma) := by
  obtain ⟨ta, pa, ra⟩ := ha.run
  refine ⟨tCallS (spM X.K [] n sem) (WE W) ta, pe_callS F hr hg hm hk hb (fun σ => passAt tk σ) pa hdb he hpl, fun Out σ0 G H σ env xk Kd Q R x hm hq => ?_⟩
  refine ra Out σ0 G H σ env xk _ _ R x hm fun ds env1 vs G1 H1 k l R1 s1 da => ?_
  refine ⟨outer Out H1 σ env1 [], G1, ds.map .val, _, _, by rw [da.length, l, hn], by rw [List.length_map, l, hn], R1.callee da, k, fun c args' v G' H' kk R' s' t => ?_, fun cls d pl args' G' H' kk R' s' pk => ?_⟩
  · exact hq c env1 v G' H' kk (R1.behind R' s') (s1.trans s') (Tmp.behind R1 t)
  · exact x cls d pl env1 G' H' σ (R1.behind R' s') (s1.trans s') pk kk
end
end M
end
section
namespace M
open PySem PySem.Spec PyProof.Rows L2
section
variable {X : Cx} {W : WX} {io : List Nat}
theorem ss_while {c : Expr} {body : List Stmt} {pos : Pos} {mc : MT} {mb : MS} (hp : PassesOwn (model X.prog X.w) X.A X.env X.xe) (hc : ST X W io c mc) (hb : SSs X W io body mb) : SS X W io (.While c body [] pos) (mWhile mc mb) := by
  obtain ⟨tc, pc, rc⟩ := hc.run
  obtain ⟨tb, pb, rb⟩ := hb.run
  refine ⟨tWhile tc tb, ps_while hp pc pb, fun Out σ0 G H σ env xk D Dh R x e hm => ?_⟩
  obtain ⟨Wd, ⟨n0, w0⟩, ws⟩ := hm
  refine ⟨fun m σ' H' => ∃ G' env', Rel X.K Out io σ0 G' H' σ' env' ∧ Sub G G' ∧ Wd m env', ⟨n0, G, env, R, Sub.refl G, w0⟩, fun m σ' H' hw => ?_⟩
  obtain ⟨G', env', R', s', w⟩ := hw
  refine rc Out σ0 G' H' σ' env' xk _ _ R' (x.mono s') (ws m env' w) fun b env2 G2 H2 k R2 s2 => ?_
  cases b with
  | true =>
    refine iteT ⟨fun σ3 H3 => ∃ m', m' < m ∧ ∃ G' env', Rel X.K Out io σ0 G' H3 σ3 env' ∧ Sub G G' ∧ Wd m' env', fun _ _ h => h, ?_⟩
    refine rb Out σ0 G2 H2 σ' env2 xk { nx := fun e => ∃ m', m' < m ∧ Wd m' e, ct := fun e => ∃ m', m' < m ∧ Wd m' e, bk := D.nx, rt := D.rt } _ R2 (x.mono (s'.trans s2)) ⟨fun env3 G3 H3 σ3 R3 s3 ⟨m', h1, h2⟩ => ⟨m', h1, G3, env3, R3, (s'.trans s2).trans s3, h2⟩, fun c env3 v3 G3 H3 σ3 R3 s3 t3 k3 => ?_, fun env3 G3 H3 σ3 R3 s3 k3 => ?_, fun env3 G3 H3 σ3 R3 s3 ⟨m', h1, h2⟩ => ⟨m', h1, G3, env3, R3, (s'.trans s2).trans s3, h2⟩⟩ (by simpa using k)
    · exact e.rt c env3 v3 G3 H3 σ3 R3 ((s'.trans s2).trans s3) t3 k3
    · exact e.nx env3 G3 H3 σ3 R3 ((s'.trans s2).trans s3) k3
  | false => exact iteF (e.nx env2 G2 H2 σ' R2 (s'.trans s2) (by simpa using k))

/-! ### a call whose first argument is a list of one's own, which the callee changes -/
def mCallB (j : Nat) (sem : ME) (ma : MA) : ME := fun xk env Kd => (∃ c d, env[j]? = some c ∧ c.data = some d) ∧ ma xk env fun ds env' => ∃ bs, env'[j]? = some (.lst bs) ∧
  sem (fun cls pl as => xk cls pl (env'.set j (as[0]?.getD .no))) (.lst bs :: ds.map .val) fun c as => Kd c (env'.set j (as[0]?.getD .no))
section
variable {K : PySem.W.Frag} {Out G H G' H' : Hp} {σ0 σ : L2.St} {env env' : DEnv}
theorem Rel.calleeB (R : Rel K Out io σ0 G H σ env) {j : Nat} {bs : List PyData} {a : Addr} {vs : List V} {ds : List PyData} (hj : env[j]? = some (.lst bs)) (hs : σ[j]? = some (some (.ref a))) (da : Da K G vs ds) :
    Rel K (outer Out H σ env [a]) [0] (some (V.ref a) :: vs.map some) G H (some (V.ref a) :: vs.map some) (.lst bs :: ds.map .val) := by
  have oa : ownA σ env j = some a := by unfold ownA; rw [hj, hs]
  have tailno : ∀ i b, ownA (some (V.ref a) :: vs.map some) (.lst bs :: ds.map Cell.val) i = some b → i = 0 := fun i b h => by
    cases i with
    | zero => rfl
    | succ i =>
      unfold ownA at h
      rw [List.getElem?_cons_succ, List.getElem?_map] at h
      cases e : ds[i]? with
      | none => rw [e] at h; cases h
      | some d => rw [e] at h; cases h
  exact
  { sub := R.sub
    out := fun b o h => (outer_in R h).1
    apart := fun b o h => (outer_in R h).2
    len := by simp [da.length]
    io := fun i hi => rfl
    cell := fun i => by
      cases i with
      | zero =>
        have k := R.cell j
        rw [hj] at k
        obtain ⟨b, ws, e, h1, h2, h3, h4⟩ := k
        rw [hs] at e
        cases e
        refine ⟨a, ws, rfl, h1, h2, ?_, h4⟩
        unfold outer
        rw [if_pos List.mem_cons_self]
        exact h3
      | succ i =>
        rw [List.getElem?_cons_succ, List.getElem?_cons_succ, List.getElem?_map, List.getElem?_map]
        cases e : ds[i]? with
        | none => trivial
        | some d =>
          obtain ⟨v, hv, hd⟩ := da.get e
          exact ⟨v, by rw [hv] <;> rfl, hd⟩
    sep := fun i l b h1 h2 => by rw [tailno i b h1, tailno l b h2] }
theorem Rel.behindB (R : Rel K Out io σ0 G H σ env) {j : Nat} {bs : List PyData} {a : Addr} {vs : List V} {as : DEnv} (hj : env[j]? = some (.lst bs)) (hs : σ[j]? = some (some (.ref a)))
    (R' : Rel K (outer Out H σ env [a]) [0] (some (V.ref a) :: vs.map some) G' H' (some (V.ref a) :: vs.map some) as) (s : Sub G G') : Rel K Out io σ0 G' H' σ (env.set j (as[0]?.getD .no)) := by
  have hi : j < env.length := (List.getElem?_eq_some_iff.mp hj).1
  have oa : ownA σ env j = some a := by unfold ownA; rw [hj, hs]
  have own_of : ∀ i b, ownA σ (env.set j (as[0]?.getD .no)) i = some b → ownA σ env i = some b ∧ (i = j → ownA (some (V.ref a) :: vs.map some) as 0 = some b) := fun i b h => by
    by_cases e : i = j
    · subst e
      unfold ownA at h
      rw [List.getElem?_set_self hi, hs] at h
      cases q : as[0]? with
      | none => rw [q] at h; cases h
      | some c =>
        rw [q] at h
        have hb : a = b := by
          cases c with
          | no => cases h
          | val d => cases h
          | exc cl pl => cases h
          | adr ad => cases h
          | lst d => cases h; rfl
          | dct d => cases h; rfl
        subst hb
        refine ⟨oa, fun _ => ?_⟩
        unfold ownA
        rw [q]
        exact h
    · refine ⟨?_, fun z => absurd z e⟩
      unfold ownA at h ⊢
      rw [List.getElem?_set_ne (fun z => e z.symm)] at h
      exact h
  have kept : ∀ i b, i ≠ j → ownA σ env i = some b → H' b = H b ∧ G' b = none := fun i b n h => by
    have nb : b ∉ [a] := fun m => n (R.sep i j a (by rw [List.mem_singleton.mp m] at h; exact h) oa)
    have q := outer_own (Out := Out) (H := H) (ex := [a]) h nb
    cases e : H b with
    | none => exact absurd e (R.owned h).2.2
    | some o =>
      rw [e] at q
      exact ⟨R'.out b o q, R'.apart b o q⟩
  exact
  { sub := R'.sub
    out := fun b o h => R'.out b o (outer_out R h)
    apart := fun b o h => R'.apart b o (outer_out R h)
    len := by rw [List.length_set]; exact R.len
    io := R.io
    cell := fun i => by
      by_cases e : i = j
      · subst e
        rw [List.getElem?_set_self hi, hs]
        have k := R'.cell 0
        cases q : as[0]? with
        | none => trivial
        | some c =>
          rw [q] at k
          have oo : ∀ {b : Addr}, outer Out H σ env [a] b = none → Out b = none := fun {b} n => by
            cases e : Out b with
            | none => rfl
            | some o => rw [outer_out R e] at n; cases n
          cases c with
          | no => trivial
          | val d => exact k
          | exc cl pl => exact k
          | adr ad => exact k
          | lst d =>
            obtain ⟨b, ws, e, h1, h2, h3, h4⟩ := k
            exact ⟨b, ws, e, h1, h2, oo h3, h4⟩
          | dct d =>
            obtain ⟨b, ws, e, h1, h2, h3, h4⟩ := k
            exact ⟨b, ws, e, h1, h2, oo h3, h4⟩
      · rw [List.getElem?_set_ne (fun z => e z.symm)]
        have k := R.cell i
        cases q : env[i]? with
        | none => trivial
        | some c =>
          rw [q] at k
          cases c with
          | no => trivial
          | val d =>
            obtain ⟨v, h1, h2⟩ := k
            exact ⟨v, h1, h2.mono s⟩
          | exc cl pl =>
            obtain ⟨v, h1, h2⟩ := k
            exact ⟨v, h1, h2.mono s⟩
          | adr ad =>
            obtain ⟨v, h1, h2⟩ := k
            exact ⟨v, h1, h2⟩
          | lst d =>
            obtain ⟨b, ws, h0, h1, h2, h3, h4⟩ := k
            have kk := kept i b e (by unfold ownA; rw [q, h0])
            exact ⟨b, ws, h0, by rw [kk.1]; exact h1, kk.2, h3, h4.mono s⟩
          | dct d =>
            obtain ⟨b, ws, h0, h1, h2, h3, h4⟩ := k
            have kk := kept i b e (by unfold ownA; rw [q, h0])
            exact ⟨b, ws, h0, by rw [kk.1]; exact h1, kk.2, h3, h4.mono s⟩
    sep := fun i l b h1 h2 => R.sep i l b (own_of i b h1).1 (own_of l b h2).1 }
theorem Tmp.behindB (R : Rel K Out io σ0 G H σ env) {j : Nat} {bs : List PyData} {a : Addr} {vs : List V} {as : DEnv} (hj : env[j]? = some (.lst bs)) (hs : σ[j]? = some (some (.ref a)))
    {v : V} {c : Cell} (t : Tmp K (outer Out H σ env [a]) G' H' (some (V.ref a) :: vs.map some) as v c) : Tmp K Out G' H' σ (env.set j (as[0]?.getD .no)) v c := by
  have hi : j < env.length := (List.getElem?_eq_some_iff.mp hj).1
  have oa : ownA σ env j = some a := by unfold ownA; rw [hj, hs]
  have key : ∀ {b : Addr}, outer Out H σ env [a] b = none → (∀ i, ownA (some (V.ref a) :: vs.map some) as i ≠ some b) → Out b = none ∧ ∀ i, ownA σ (env.set j (as[0]?.getD .no)) i ≠ some b := fun {b} n no => by
    refine ⟨?_, fun i h => ?_⟩
    · cases e : Out b with
      | none => rfl
      | some o => rw [outer_out R e] at n; cases n
    · by_cases e : i = j
      · subst e
        unfold ownA at h
        rw [List.getElem?_set_self hi, hs] at h
        cases q : as[0]? with
        | none => rw [q] at h; cases h
        | some c =>
          rw [q] at h
          refine no 0 ?_
          unfold ownA
          rw [q]
          exact h
      · have h2 : ownA σ env i = some b := by
          unfold ownA at h ⊢
          rw [List.getElem?_set_ne (fun z => e z.symm)] at h
          exact h
        have nb : b ∉ [a] := fun m => e (R.sep i j a (by rw [List.mem_singleton.mp m] at h2; exact h2) oa)
        rw [outer_own h2 nb] at n
        exact (R.owned h2).2.2 n
  cases c with
  | no => trivial
  | val d => exact t
  | exc cl pl => exact t
  | adr ad => exact t
  | lst ds =>
    obtain ⟨b, ws, e, h1, h2, h3, h4, h5⟩ := t
    exact ⟨b, ws, e, h1, h2, (key h3 h4).1, (key h3 h4).2, h5⟩
  | dct ds =>
    obtain ⟨b, ws, e, h1, h2, h3, h4, h5⟩ := t
    exact ⟨b, ws, e, h1, h2, (key h3 h4).1, (key h3 h4).2, h5⟩
end
theorem se_callB0 (j : Nat) {k : Nat} {f : Addr} {fd : FuncData} {ps : List Str} {n : Nat} {sem : ME} {x y : Str} {p p2 pos : Pos} {es : List Expr} {ma : MA} (F : FnOk X.prog X.w X.K X.mg X.base (L2.CX X.prog X.w) k f fd ps (spM X.K [0] n sem)) (hr : Room k X.A) (hg : Gl X x) (hm : X.mg x = some (.ref f))
    (hk : PySem.W.keepIn X.K (.ref f) = true) (hb : Binds X.K fd ps []) (tk : Takes X W) (hy : PE X (.Name y p2) (tVar j)) (ha : SA X W io es ma) (hn : es.length + 1 = n := by rfl) (hdb : (x == ("__debug__" : Str)) = false := by decide)
    (he : starEach (.Name y p2 :: es) X.env = (false, eval (.Name y p2) X.env) :: starEach es X.env := by rfl) (hpl : (backTo pos (starEach es X.env)).any (·.1) = false := by rfl) : SE X W io (.Call (.Name x p) (.Name y p2 :: es) [] pos) (mCallB j sem ma) := by
  obtain ⟨ta, pa, ra⟩ := ha.run
  refine ⟨tCallS (spM X.K [0] n sem) (WE W) (tCons (tVar j) ta), pe_callS F hr hg hm hk hb (fun σ => passAt tk σ) (pa_cons hy pa he) hdb he hpl, fun Out σ0 G H σ env xk Kd Q R x hm hq => ?_⟩
  obtain ⟨⟨c0, d0, e0, e1⟩, hm⟩ := hm
  obtain ⟨v0, hs0, _⟩ := R.lookX e0 e1
  refine ⟨v0, hs0, ?_⟩
  refine ra Out σ0 G H σ env xk _ _ R x hm fun ds env1 vs G1 H1 k l R1 s1 da => ?_
  obtain ⟨bs, hj, k⟩ := k
  have kc := R1.cell j
  rw [hj] at kc
  obtain ⟨a, ws, hs, _⟩ := kc
  have hs0' := hs0
  rw [hs] at hs0'
  cases hs0'
  refine ⟨outer Out H1 σ env1 [a], G1, .lst bs :: ds.map .val, _, _, by simp [da.length, l, ← hn], by simp [l, ← hn], R1.calleeB hj hs da, k, fun c args' v G' H' kk R' s' t => ?_, fun cls d pl args' G' H' kk R' s' pk => ?_⟩
  · exact hq c _ v G' H' kk (R1.behindB hj hs R' s') (s1.trans s') (Tmp.behindB R1 hj hs t)
  · exact x cls d pl _ G' H' σ (R1.behindB hj hs R' s') (s1.trans s') pk kk

/-! ### raise -/
def mRaise (cls : Value) : MS := fun xk _ env => xk cls none env
theorem ss_raise {C : Addr} {e : Expr} {pos : Pos} (hc : X.calm = true) (tk : Takes X W) (mk : PMk X e (fun _ H Q => Q (.ref C) none H)) : SS X W io (.Raise (some e) none pos) (mRaise (.ref C)) :=
  ⟨fun _ σ H => W (.ref C) none σ H, ps_raise hc tk mk, fun Out σ0 G H σ env xk D Dh R x e hm => x (.ref C) none none env G H σ R (Sub.refl G) (.inl ⟨rfl, rfl⟩) hm⟩

/-! ### try, several clauses without a name -/
def handle (K : PySem.W.Frag) (xk : MX) (D : MEnds) : List (Value × MS) → MX
  | [] => xk
  | (c, m) :: r => fun cls pl env => ∃ b, PySem.W.exmOne K cls c = some b ∧ if b = true then m xk D env else handle K xk D r cls pl env
inductive HOk2 (X : Cx) (W : WX) (io : List Nat) : List ExceptHandler → List (Value × (Addr → Value → Option Addr → TS)) → List (Value × MS) → Prop
  | nil : HOk2 X W io [] [] []
  | cons {x : Str} {c : Value} {ts : TS} {m : MS} {b₀ : Stmt} {suite : List Stmt} {np pos' : Pos} {hds : List ExceptHandler} {l : List (Value × (Addr → Value → Option Addr → TS))} {ms : List (Value × MS)} (hc : Names X x c)
      (hsu : ∀ (a : Addr) (oe : Obj) (cls : Value) (d : Option Addr) (pn : List (Addr × Obj)), Zc cls d oe → (∃ vs, oe.data = .fields vs) → PSs (X.suite a ((a, oe) :: pn)) (b₀ :: suite) ts)
      (hrd : ∀ (Out : Hp) (σ0 : L2.St) (G H : Hp) (σ : L2.St) (env : DEnv) (xk : MX) (D : MEnds) (Dh : Ends), Rel X.K Out io σ0 G H σ env → XOk X.K Out io σ0 G W xk → EOk X.K Out io σ0 G D Dh → m xk D env → ts Dh σ H) (r : HOk2 X W io hds l ms) :
      HOk2 X W io (.ExceptHandler (some (.Name x np)) none (b₀ :: suite) pos' :: hds) ((c, fun _ _ _ => ts) :: l) ((c, m) :: ms)
theorem hok_nil : ∃ l, HOk2 X W io [] l [] := ⟨[], .nil⟩
/-- what a block of data does, as a reading -/
def tsM (K : PySem.W.Frag) (W : WX) (io : List Nat) (m : MS) : TS := fun Dh σ H => ∃ (Out : Hp) (σ0 : L2.St) (G : Hp) (env : DEnv) (xk : MX) (D : MEnds), Rel K Out io σ0 G H σ env ∧ XOk K Out io σ0 G W xk ∧ EOk K Out io σ0 G D Dh ∧ m xk D env
theorem SSs.tsM {sts : List Stmt} {m : MS} (h : SSs X W io sts m) : PSs X sts (M.tsM X.K W io m) := by
  obtain ⟨ts, p, r⟩ := h.run
  refine ⟨fun pins s σ H D I hw => ?_⟩
  obtain ⟨Out, σ0, G, env, xk, Dm, R, x, e, hm⟩ := hw
  exact p.run pins s σ H D I (r Out σ0 G H σ env xk Dm D R x e hm)
abbrev W0 : WX := fun _ _ _ _ => False
theorem hok_cons {x : Str} {c : Value} {m : MS} {b₀ : Stmt} {suite : List Stmt} {np pos' : Pos} {hds : List ExceptHandler} {ms : List (Value × MS)} (hc : Names X x c)
    (hsu : ∀ (a : Addr) (oe : Obj) (pn : List (Addr × Obj)), SSs (X.suite a ((a, oe) :: pn)) W0 io (b₀ :: suite) m)
    (r : ∃ l, HOk2 X W io hds l ms) : ∃ l, HOk2 X W io (.ExceptHandler (some (.Name x np)) none (b₀ :: suite) pos' :: hds) l ((c, fun _ => m fun _ _ _ => False) :: ms) := by
  obtain ⟨l, r⟩ := r
  refine ⟨_, .cons (ts := M.tsM X.K W0 io fun _ => m fun _ _ _ => False) hc (fun a oe cls d pn _ _ => ?_) (fun Out σ0 G H σ env xk D Dh R x e hm => ⟨Out, σ0, G, env, fun _ _ _ => False, D, R, fun _ _ _ _ _ _ _ _ _ _ z => z, e, hm⟩) r⟩
  obtain ⟨ts, p, rr⟩ := (hsu a oe pn).run
  refine ⟨fun pins s σ H D I hw => ?_⟩
  obtain ⟨Out, σ0, G, env, xk, Dm, R, x, e, hm⟩ := hw
  exact p.run pins s σ H D I (rr Out σ0 G H σ env _ Dm D R (fun _ _ _ _ _ _ _ _ _ _ z => False.elim z) e hm)
theorem HOk2.hds {hds : List ExceptHandler} {l : List (Value × (Addr → Value → Option Addr → TS))} {ms : List (Value × MS)} (h : HOk2 X W io hds l ms) : HdsOk X hds l := by
  induction h with
  | nil => exact .nil
  | cons hc hsu hrd r ih => exact .cons hc (fun a oe cls d pn z f => hsu a oe cls d pn z f) ih
theorem HOk2.xok {hds : List ExceptHandler} {l : List (Value × (Addr → Value → Option Addr → TS))} {ms : List (Value × MS)} (h : HOk2 X W io hds l ms) {Out : Hp} {σ0 : L2.St} {G : Hp} {xk : MX} {D : MEnds} {Dh : Ends} (x : XOk X.K Out io σ0 G W xk) (e : EOk X.K Out io σ0 G D Dh) :
    XOk X.K Out io σ0 G (wMany X.K W Dh l) (handle X.K xk D ms) := by
  induction h with
  | nil => exact x
  | cons hc hsu hrd r ih =>
    intro cls d pl env G' H' σ R s p k
    obtain ⟨b, hb, k⟩ := k
    refine ⟨b, hb, fun z a _ => ?_, fun z => ?_⟩
    · subst z
      exact hrd Out σ0 G' H' σ env xk D Dh R (x.mono s) (e.mono s) (by simpa using k)
    · subst z
      exact ih cls d pl env G' H' σ R s p (by simpa using k)
def mTry (K : PySem.W.Frag) (mb : MS) (hs : List (Value × MS)) : MS := fun xk D env => mb (handle K xk D hs) D env
theorem ss_try {body : List Stmt} {h₀ : ExceptHandler} {hds : List ExceptHandler} {ms : List (Value × MS)} {pos : Pos} {mb : MS} (hs : X.stack = X.env :: X.outer) (hf : X.env.frame = some X.env.locals) (tk : Takes X W)
    (hb : ∀ (W' : WX) (pn : List (Addr × Obj)) (xe : Value → Shared → Prop), Takes (X.tr pn xe) W' → PassesOwn (model X.prog X.w) X.A X.env xe → SSs (X.tr pn xe) W' io body mb)
    (hh : ∃ l, HOk2 X W io (h₀ :: hds) l ms) : SS X W io (.Try body (h₀ :: hds) [] [] pos) (mTry X.K mb ms) := by
  obtain ⟨l, hh⟩ := hh
  exact ⟨_, ps_try_many (tb := fun W' => M.tsM X.K W' io mb) hs hf tk (fun W' pn xe t p => (hb W' pn xe t p).tsM) hh.hds, fun Out σ0 G H σ env xk D Dh R x e hm => ⟨Out, σ0, G, env, _, D, R, hh.xok x e, e, hm⟩⟩

/-! ### list comprehensions -/
def wipeE (env : DEnv) : List Nat → DEnv
  | [] => env
  | v :: vs => (wipeE env vs).set v .no
theorem wipeE_len (env : DEnv) : ∀ vs, (wipeE env vs).length = env.length
  | [] => rfl
  | v :: vs => by unfold wipeE; rw [List.length_set, wipeE_len env vs]
theorem wipeE_get {env : DEnv} {i : Nat} {c : Cell} : ∀ {vs : List Nat}, (wipeE env vs)[i]? = some c → c = .no ∨ (i ∉ vs ∧ env[i]? = some c)
  | [], h => .inr ⟨by simp, h⟩
  | v :: vs, h => by
    unfold wipeE at h
    by_cases e : v = i
    · subst e
      by_cases hv : v < (wipeE env vs).length
      · rw [List.getElem?_set_self hv] at h; exact .inl (Option.some.inj h).symm
      · rw [List.getElem?_eq_none (by simpa using hv)] at h; cases h
    · rw [List.getElem?_set_ne e] at h
      rcases wipeE_get h with h | ⟨h1, h2⟩
      · exact .inl h
      · exact .inr ⟨by simp only [List.mem_cons, not_or]; exact ⟨fun z => e z.symm, h1⟩, h2⟩
theorem wipe_twice {σ : L2.St} : ∀ {vs : List Nat}, wipe (wipe σ vs) vs = wipe σ vs := fun {vs} => by
  have key : ∀ (us : List Nat) (τ : L2.St), (∀ i ∈ us, i < τ.length → τ[i]? = some none) → wipe τ us = τ := fun us => by
    induction us with
    | nil => intro τ _; rfl
    | cons u us ih =>
      intro τ h
      unfold wipe
      rw [ih τ fun i hi hl => h i (List.mem_cons_of_mem _ hi) hl]
      refine List.ext_getElem? fun i => ?_
      by_cases e : u = i
      · subst e
        by_cases hu : u < τ.length
        · rw [List.getElem?_set_self hu, h u List.mem_cons_self hu]
        · rw [List.getElem?_eq_none (by simpa using hu), List.getElem?_eq_none (by simpa using hu)]
      · rw [List.getElem?_set_ne e]
  refine key vs _ fun i hi hl => ?_
  cases e : (wipe σ vs)[i]? with
  | none => exact absurd hl (by simpa using List.getElem?_eq_none_iff.mp e)
  | some c =>
    cases c with
    | none => rfl
    | some v => exact absurd hi (wipe_some e).2
theorem wipe_get {σ : L2.St} {i : Nat} : ∀ {vs : List Nat}, i ∉ vs → (wipe σ vs)[i]? = σ[i]?
  | [], _ => rfl
  | v :: vs, h => by
    simp only [List.mem_cons, not_or] at h
    unfold wipe
    rw [List.getElem?_set_ne (fun e => h.1 e.symm), wipe_get h.2]
section
variable {K : PySem.W.Frag} {Out G H : Hp} {σ0 σ : L2.St} {env : DEnv}
/-- the slots of the block's names forgotten -/
theorem Rel.wipe (R : Rel K Out io σ0 G H σ env) {vs : List Nat} (hv : ∀ i ∈ io, i ∉ vs) : Rel K Out io σ0 G H (L2.wipe σ vs) (wipeE env vs) := by
  have own : ∀ i a, ownA (L2.wipe σ vs) (wipeE env vs) i = some a → ownA σ env i = some a := fun i a h => by
    unfold ownA at h ⊢
    cases e : (wipeE env vs)[i]? with
    | none => rw [e] at h; cases h
    | some c =>
      rcases wipeE_get e with rfl | ⟨n, e2⟩
      · rw [e] at h; cases h
      · rw [e, wipe_get n] at h
        rw [e2]; exact h
  exact
  { sub := R.sub, out := R.out, apart := R.apart
    len := by rw [wipeE_len, wipe_length]; exact R.len
    io := fun i hi => by rw [wipe_get (hv i hi)]; exact R.io i hi
    cell := fun i => by
      cases e : (wipeE env vs)[i]? with
      | none => trivial
      | some c =>
        rcases wipeE_get e with rfl | ⟨n, e2⟩
        · trivial
        · have k := R.cell i
          rw [e2, ← wipe_get n (vs := vs)] at k
          exact k
    sep := fun i j a h1 h2 => R.sep i j a (own i a h1) (own j a h2) }
/-- from two lists of slots that agree where something is known -/
theorem Rel.slots (R : Rel K Out io σ0 G H σ env) {σ' : L2.St} (hl : σ'.length = σ.length) (h : ∀ (i : Nat) c, env[i]? = some c → c ≠ .no → σ'[i]? = σ[i]?) (hio : ∀ i ∈ io, σ'[i]? = σ0[i]?) : Rel K Out io σ0 G H σ' env := by
  have own : ∀ i a, ownA σ' env i = some a → ownA σ env i = some a := fun i a z => by
    unfold ownA at z ⊢
    cases e : env[i]? with
    | none => rw [e] at z; cases z
    | some c =>
      rw [e] at z
      by_cases n : c = .no
      · subst n; cases z
      · rw [h i c e n] at z; exact z
  exact
  { sub := R.sub, out := R.out, apart := R.apart
    len := by rw [hl]; exact R.len
    io := hio
    cell := fun i => by
      have k := R.cell i
      cases e : env[i]? with
      | none => trivial
      | some c =>
        rw [e] at k
        by_cases n : c = .no
        · subst n; trivial
        · rw [h i c e n]; exact k
    sep := fun i j a h1 h2 => R.sep i j a (own i a h1) (own j a h2) }
theorem wipe_all {vs : List Nat} : ∀ {i : Nat}, i ∈ vs → ∀ c, (wipeE env vs)[i]? = some c → c = .no := fun {i} hi c h => by
  rcases wipeE_get h with e | ⟨n, _⟩
  · exact e
  · exact absurd hi n
/-- an outer thing is changed -/
theorem Rel.outSet (R : Rel K Out io σ0 G H σ env) {D : Addr} {o o' : HO} (hd : Out D = some o) : Rel K (upd Out D o') io σ0 G (upd H D o') σ env := by
  have g := R.apart D o hd
  have hn : ∀ i, ownA σ env i ≠ some D := fun i h => by rw [(R.owned h).2.1] at hd; cases hd
  exact
  { sub := R.sub.mut g
    out := fun b x z => by
      by_cases e : b = D
      · subst e; rw [upd_same] at z ⊢; exact z
      · rw [upd_ne e] at z ⊢; exact R.out b x z
    apart := fun b x z => by
      by_cases e : b = D
      · subst e; exact g
      · rw [upd_ne e] at z; exact R.apart b x z
    len := R.len, io := R.io
    cell := fun i => by
      have k := R.cell i
      cases e : env[i]? with
      | none => trivial
      | some x =>
        rw [e] at k
        cases x with
        | no => trivial
        | val d => exact k
        | exc cl pl => exact k
        | adr ad => exact k
        | lst ds =>
          obtain ⟨b, vs, z0, z1, z2, z3, z4⟩ := k
          have ne : b ≠ D := fun z => hn i (by unfold ownA; rw [e, z0, z])
          exact ⟨b, vs, z0, by rw [upd_ne ne]; exact z1, z2, by rw [upd_ne ne]; exact z3, z4⟩
        | dct ds =>
          obtain ⟨b, vs, z0, z1, z2, z3, z4⟩ := k
          have ne : b ≠ D := fun z => hn i (by unfold ownA; rw [e, z0, z])
          exact ⟨b, vs, z0, by rw [upd_ne ne]; exact z1, z2, by rw [upd_ne ne]; exact z3, z4⟩
    sep := R.sep }
end
def teM (K : PySem.W.Frag) (io : List Nat) (m : ME) : TE := fun σ H Q => ∃ (Out : Hp) (σ0 : L2.St) (G : Hp) (env : DEnv) (Kd : MK), Rel K Out io σ0 G H σ env ∧ m (fun _ _ _ => False) env Kd ∧ ∀ c env' v G' H', Kd c env' → Rel K Out io σ0 G' H' σ env' → Sub G G' → Tmp K Out G' H' σ env' v c → Q v H'
def ttM (K : PySem.W.Frag) (io : List Nat) (m : MT) : TT := fun σ H Q => ∃ (Out : Hp) (σ0 : L2.St) (G : Hp) (env : DEnv) (Kd : Bool → DEnv → Prop), Rel K Out io σ0 G H σ env ∧ m (fun _ _ _ => False) env Kd ∧ ∀ b env' G' H', Kd b env' → Rel K Out io σ0 G' H' σ env' → Sub G G' → Q b H'
def tgM (K : PySem.W.Frag) (io : List Nat) (t : Tgt) : TG := fun v σ H Q => ∃ (Out : Hp) (σ0 : L2.St) (G : Hp) (env : DEnv) (d : PyData) (k : DEnv → Prop), Rel K Out io σ0 G H σ env ∧ Dd K G v d ∧ t.take d env k ∧ ∀ σ' env', k env' → Rel K Out io σ0 G H σ' env' → (∀ ws, (∀ i ∈ t.slots, i ∈ ws) → L2.wipe σ' ws = L2.wipe σ ws) → Q σ' H
theorem SE.teM {e : Expr} {m : ME} (h : SE X W0 io e m) : PE X e (M.teM X.K io m) := by
  obtain ⟨te, p, r⟩ := h.run
  refine ⟨fun pins s σ H Q I hw => ?_⟩
  obtain ⟨Out, σ0, G, env, Kd, R, hm, hq⟩ := hw
  exact p.run pins s σ H Q I (r Out σ0 G H σ env _ Kd Q R (fun _ _ _ _ _ _ _ _ _ _ z => z) hm hq)
theorem SG.tgM {e : Expr} {t : Tgt} (h : SG X io e t) : PG X e (M.tgM X.K io t) := by
  obtain ⟨g, p, r⟩ := h.run
  refine ⟨fun pins s σ H v u Q I rv hw => ?_⟩
  obtain ⟨Out, σ0, G, env, d, k, R, hd, ht, hq⟩ := hw
  exact p.run pins s σ H v u Q I rv (r Out σ0 G H σ env v d k Q R hd ht hq)
/-- the tests of a comprehension: none or one -/
structure STs (X : Cx) (io : List Nat) (ifs : List Expr) (m : MT) : Prop where
  run : PTs X ifs (M.ttM X.K io m)
def mYes : MT := fun _ env Kd => Kd true env
theorem sts_nil : STs X io [] mYes := ⟨⟨fun pins s σ H Q I hw => by
  obtain ⟨Out, σ0, G, env, Kd, R, hm, hq⟩ := hw
  exact (pts_nil (X := X)).run pins s σ H Q I (hq true env G H hm R (Sub.refl G))⟩⟩
theorem sts_one {c : Expr} {m : MT} (h : ST X W0 io c m) : STs X io [c] m := by
  obtain ⟨t, p, r⟩ := h.run
  refine ⟨⟨fun pins s σ H Q I hw => ?_⟩⟩
  obtain ⟨Out, σ0, G, env, Kd, R, hm, hq⟩ := hw
  exact (pts_one p).run pins s σ H Q I (r Out σ0 G H σ env _ Kd Q R (fun _ _ _ _ _ _ _ _ _ _ z => z) hm hq)
section
variable {K : PySem.W.Frag} {Out G H : Hp} {σ0 σ : L2.St} {env : DEnv}
theorem Rel.addOut (R : Rel K Out io σ0 G H σ env) {a : Addr} {o : HO} (h1 : H a = some o) (h2 : G a = none) (h3 : Out a = none) (h4 : ∀ i, ownA σ env i ≠ some a) : Rel K (upd Out a o) io σ0 G H σ env where
  sub := R.sub
  out := fun b x z => by
    by_cases e : b = a
    · subst e; rw [upd_same] at z; cases z; exact h1
    · rw [upd_ne e] at z; exact R.out b x z
  apart := fun b x z => by
    by_cases e : b = a
    · subst e; exact h2
    · rw [upd_ne e] at z; exact R.apart b x z
  len := R.len
  io := R.io
  cell := fun i => by
    have k := R.cell i
    cases e : env[i]? with
    | none => trivial
    | some x =>
      rw [e] at k
      cases x with
      | no => trivial
      | val d => exact k
      | exc cl pl => exact k
      | adr ad => exact k
      | lst ds =>
        obtain ⟨b, vs, z0, z1, z2, z3, z4⟩ := k
        have ne : b ≠ a := fun z => h4 i (by unfold ownA; rw [e, z0, z])
        exact ⟨b, vs, z0, z1, z2, by rw [upd_ne ne]; exact z3, z4⟩
      | dct ds =>
        obtain ⟨b, vs, z0, z1, z2, z3, z4⟩ := k
        have ne : b ≠ a := fun z => h4 i (by unfold ownA; rw [e, z0, z])
        exact ⟨b, vs, z0, z1, z2, by rw [upd_ne ne]; exact z3, z4⟩
  sep := R.sep
theorem Rel.dropOut {a : Addr} {o : HO} (h3 : Out a = none) (R : Rel K (upd Out a o) io σ0 G H σ env) : Rel K Out io σ0 G H σ env ∧ H a = some o ∧ G a = none ∧ ∀ i, ownA σ env i ≠ some a := by
  refine ⟨{ sub := R.sub, out := fun b x z => R.out b x (by rw [upd_ne (fun e => by rw [e, h3] at z; cases z)]; exact z), apart := fun b x z => R.apart b x (by rw [upd_ne (fun e => by rw [e, h3] at z; cases z)]; exact z), len := R.len, io := R.io, cell := fun i => ?_, sep := R.sep }, R.out a o upd_same, R.apart a o upd_same, fun i z => ?_⟩
  · have k := R.cell i
    cases e : env[i]? with
    | none => trivial
    | some x =>
      rw [e] at k
      cases x with
      | no => trivial
      | val d => exact k
      | exc cl pl => exact k
      | adr ad => exact k
      | lst ds =>
        obtain ⟨b, vs, z0, z1, z2, z3, z4⟩ := k
        have ne : b ≠ a := fun z => by rw [z, upd_same] at z3; cases z3
        exact ⟨b, vs, z0, z1, z2, by rw [upd_ne ne] at z3; exact z3, z4⟩
      | dct ds =>
        obtain ⟨b, vs, z0, z1, z2, z3, z4⟩ := k
        have ne : b ≠ a := fun z => by rw [z, upd_same] at z3; cases z3
        exact ⟨b, vs, z0, z1, z2, by rw [upd_ne ne] at z3; exact z3, z4⟩
  · have q := (R.owned z).2.1
    rw [upd_same] at q; cases q
end
/-- [e for t in it if c]: by a word of the turn, what is made so far, the slots -/
def mLc (mi : MI) (t : Tgt) (mc : MT) (me : ME) (vs : List Nat) : ME := fun xk env Kd => mi xk env fun ds env1 => ∃ Wd : Nat → List PyData → DEnv → Prop, Wd 0 [] (wipeE env1 vs) ∧
  (∀ k d acc env, ds[k]? = some d → Wd k acc env → t.take d env fun env' => mc (fun _ _ _ => False) env' fun b env2 => if b = true then me (fun _ _ _ => False) env2 fun c env3 => ∃ x, c.data = some x ∧ acc.length < sizeLine ∧ Wd (k + 1) (acc ++ [x]) (wipeE env3 vs) else Wd (k + 1) acc (wipeE env2 vs)) ∧
  ∀ acc env, Wd ds.length acc env → Kd (.lst acc) env
theorem lc_run {wi : TI} {mi : MI} {t : Tgt} {mc : MT} {me : ME} {vs : List Nat} (ri : ∀ (Out : Hp) (σ0 : L2.St) (G H : Hp) (σ : L2.St) (env : DEnv) (xk : MX) (Kd : List PyData → DEnv → Prop) (Rr : It → Hp → Prop), Rel X.K Out io σ0 G H σ env → XOk X.K Out io σ0 G W xk → mi xk env Kd →
    (∀ ds env' G' H' J, Kd ds env' → Rel X.K Out io σ0 G' H' σ env' → Sub G G' → JOk X.K G' J ds → Rr J H') → wi σ H Rr) (hv : ∀ i ∈ io, i ∉ vs) (ht : ∀ i ∈ t.slots, i ∈ vs) (Out : Hp) (σ0 : L2.St) (G H : Hp) (σ : L2.St) (env : DEnv) (xk : MX) (Kd : MK) (Q : VK) (R : Rel X.K Out io σ0 G H σ env) (x : XOk X.K Out io σ0 G W xk) (hm : mLc mi t mc me vs xk env Kd)
    (hq : ∀ c env' v G' H', Kd c env' → Rel X.K Out io σ0 G' H' σ env' → Sub G G' → Tmp X.K Out G' H' σ env' v c → Q v H') : tLc wi (M.tgM X.K io t) (M.ttM X.K io mc) (M.teM X.K io me) vs σ H Q := by
  refine ri Out σ0 G H σ env xk _ _ R x hm fun ds env1 G1 H1 J k R1 s1 hJ => ?_
  obtain ⟨Wd, w0, ws, we⟩ := k
  intro D hD
  have gD := R1.sub.free hD
  have oD := R1.outNone hD
  have start : Rel X.K (upd Out D (.lst [])) io σ0 G1 (upd H1 D (.lst [])) (L2.wipe σ vs) (wipeE env1 vs) :=
    ((R1.fresh (o := .lst []) hD).addOut upd_same gD oD (R1.notOwn hD)).wipe hv
  refine ⟨fun i m H' => i + m = ds.length ∧ ∃ G' env' acc accV, Rel X.K (upd Out D (.lst accV)) io σ0 G' H' (L2.wipe σ vs) env' ∧ Sub G1 G' ∧ Wd i acc env' ∧ Da X.K G' accV acc ∧ ∀ j ∈ vs, ∀ c, env'[j]? = some c → c = .no,
    ⟨ds.length, by omega, G1, _, [], [], start, Sub.refl G1, w0, .nil, fun j hj => wipe_all hj⟩, fun i m H' hw => ?_⟩
  obtain ⟨im, G', env', acc, accV, R', s', w, da, hno⟩ := hw
  have hJ' := hJ.mono s'
  by_cases hi : i < ds.length
  · refine .inr ⟨hJ'.go i H' R'.sub hi, fun H2 => ∃ G2 env2 acc accV, Rel X.K (upd Out D (.lst accV)) io σ0 G2 H2 (L2.wipe σ vs) env2 ∧ Sub G1 G2 ∧ Wd (i + 1) acc env2 ∧ Da X.K G2 accV acc ∧ ∀ j ∈ vs, ∀ c, env2[j]? = some c → c = .no, fun H2 ⟨G2, env2, acc2, accV2, q1, q2, q3, q4, q5⟩ => ⟨m - 1, by omega, by omega, G2, env2, acc2, accV2, q1, q2, q3, q4, q5⟩, fun v H2 hy => ?_⟩
    have hd : ds[i]? = some ds[i] := List.getElem?_eq_getElem hi
    have tk := ws i _ acc env' hd w
    have upd2 : ∀ {a b : HO}, upd (upd Out D a) D b = upd Out D b := upd_upd
    have after : ∀ {G2 H2 : Hp} {σ2 : L2.St} {env2 : DEnv}, Sub G' G2 → Rel X.K (upd Out D (.lst accV)) io σ0 G2 H2 σ2 env2 → L2.wipe σ2 vs = L2.wipe σ vs →
        (mc (fun _ _ _ => False) env2 fun b env3 => if b = true then me (fun _ _ _ => False) env3 fun c env4 => ∃ x, c.data = some x ∧ acc.length < sizeLine ∧ Wd (i + 1) (acc ++ [x]) (wipeE env4 vs) else Wd (i + 1) acc (wipeE env3 vs)) →
        L2.wipe σ2 vs = L2.wipe σ vs ∧ M.ttM X.K io mc σ2 H2 fun b H3 => if b = true then M.teM X.K io me σ2 H3 fun y H4 => ∃ accV, H4 D = some (.lst accV) ∧ accV.length < sizeLine ∧ ∃ G2 env2 acc accV', Rel X.K (upd Out D (.lst accV')) io σ0 G2 (upd H4 D (.lst (accV ++ [y]))) (L2.wipe σ vs) env2 ∧ Sub G1 G2 ∧ Wd (i + 1) acc env2 ∧ Da X.K G2 accV' acc ∧ ∀ j ∈ vs, ∀ c, env2[j]? = some c → c = .no
          else ∃ G2 env2 acc accV', Rel X.K (upd Out D (.lst accV')) io σ0 G2 H3 (L2.wipe σ vs) env2 ∧ Sub G1 G2 ∧ Wd (i + 1) acc env2 ∧ Da X.K G2 accV' acc ∧ ∀ j ∈ vs, ∀ c, env2[j]? = some c → c = .no := fun {G2 H2 σ2 env2} s2 R2 hw hb => by
      refine ⟨hw, upd Out D (.lst accV), σ0, G2, env2, _, R2, hb, fun b env3 G3 H3 k3 R3 s3 => ?_⟩
      cases b with
      | true =>
        refine iteT ⟨upd Out D (.lst accV), σ0, G3, env3, _, R3, (by simpa using k3), fun c env4 y G4 H4 k4 R4 s4 t4 => ?_⟩
        obtain ⟨xd, e1, sz, k4⟩ := k4
        obtain ⟨G5, R5, s5, dd⟩ := R4.freeze t4 e1
        have hlen : accV.length < sizeLine := by rw [da.length]; exact sz
        have R6 := (R5.outSet (o' := .lst (accV ++ [y])) (D := D) upd_same).wipe hv (vs := vs)
        rw [upd2, hw] at R6
        have ss := ((s2.trans s3).trans s4).trans s5
        exact ⟨accV, R4.out D _ upd_same, hlen, G5, wipeE env4 vs, acc ++ [xd], accV ++ [y], R6, s'.trans ss, k4, (da.mono ss).append (Da.one dd), fun j hj => wipe_all hj⟩
      | false =>
        have R6 := R3.wipe hv (vs := vs)
        rw [hw] at R6
        exact iteF ⟨G3, wipeE env3 vs, acc, accV, R6, s'.trans (s2.trans s3), (by simpa using k3), da.mono (s2.trans s3), fun j hj => wipe_all hj⟩
    rcases hJ'.yld i H' v H2 _ R'.sub hd hy with ⟨rfl, dd⟩ | ⟨T, us, es, rfl, hT, rfl, e2, dt⟩
    · exact ⟨upd Out D (.lst accV), σ0, G', env', _, _, R', dd, tk, fun σ2 env2 hb R2 hw => after (Sub.refl G') R2 (by rw [hw vs ht]; exact wipe_twice) hb⟩
    · have nG := R'.sub.free hT
      have sn : Sub G' (upd G' T (.tup us)) := Sub.new nG
      exact ⟨upd Out D (.lst accV), σ0, upd G' T (.tup us), env', _, _, R'.laid hT, (by rw [e2]; exact .tup (.inl (.inl upd_same)) (dt.mono sn)), tk, fun σ2 env2 hb R2 hw => after sn R2 (by rw [hw vs ht]; exact wipe_twice) hb⟩
  · have ei : i = ds.length := by omega
    subst ei
    obtain ⟨R2, hD2, gD2, nD2⟩ := R'.dropOut oD
    have nox : ∀ (j : Nat) c, env'[j]? = some c → c ≠ .no → (L2.wipe σ vs)[j]? = σ[j]? := fun j c e n => by
      by_cases hj : j ∈ vs
      · exact absurd (hno j hj c e) n
      · exact wipe_get hj
    refine .inl ⟨hJ'.stop _ H' R'.sub (Nat.le_refl _), hq (.lst acc) env' _ G' H' (we acc env' w) (R2.slots (by rw [wipe_length]) (fun j c e n => (nox j c e n).symm) fun j hj => by rw [← wipe_get (hv j hj) (σ := σ)]; exact R2.io j hj) (s1.trans s') ⟨D, accV, rfl, hD2, gD2, oD, fun j h => nD2 j ?_, da⟩⟩
    unfold ownA at h ⊢
    cases e : env'[j]? with
    | none => rw [e] at h; cases h
    | some c =>
      rw [e] at h
      by_cases n : c = .no
      · subst n; cases h
      · rw [nox j c e n]; exact h
theorem se_lc {elt tg iter : Expr} {ifs : List Expr} {scope : Scope} {own : List (Str × Nat)} {pos : Pos} {mi : MI} {t : Tgt} {mc : MT} {me : ME} (hc : X.calm = true) (hN : X.N.Nodup) (hi : SI X W io tg iter mi) (ok : BlkOk X.N X.env.scope scope own)
    (hg : ∀ (s : Shared) (H : Hp) (C : Addr) (cl : List (Str × Addr)) (fp : List Addr), SG (X.blk s H scope (compEnvC scope cl C X.env) fp) io tg t)
    (hts : ∀ (s : Shared) (H : Hp) (C : Addr) (cl : List (Str × Addr)) (fp : List Addr), STs (X.blk s H scope (compEnvC scope cl C X.env) fp) io ifs mc)
    (he : ∀ (s : Shared) (H : Hp) (C : Addr) (cl : List (Str × Addr)) (fp : List Addr), SE (X.blk s H scope (compEnvC scope cl C X.env) fp) W0 io elt me)
    (mk : ∀ wi g tt te, PI X tg iter wi → (∀ (s : Shared) (H : Hp) (C : Addr) (cl : List (Str × Addr)) (fp : List Addr), PG (X.blk s H scope (compEnvC scope cl C X.env) fp) tg g) → (∀ (s : Shared) (H : Hp) (C : Addr) (cl : List (Str × Addr)) (fp : List Addr), PTs (X.blk s H scope (compEnvC scope cl C X.env) fp) ifs tt) →
      (∀ (s : Shared) (H : Hp) (C : Addr) (cl : List (Str × Addr)) (fp : List Addr), PE (X.blk s H scope (compEnvC scope cl C X.env) fp) elt te) → PE X (.ListComp elt [{ target := tg, iter := iter, ifs := ifs, is_async := 0 }] scope pos) (tLc wi g tt te (own.map (·.2))))
    (hv : ∀ i ∈ io, i ∉ own.map (·.2) := by decide) (ht : ∀ i ∈ t.slots, i ∈ own.map (·.2) := by decide) : SE X W io (.ListComp elt [{ target := tg, iter := iter, ifs := ifs, is_async := 0 }] scope pos) (mLc mi t mc me (own.map (·.2))) := by
  obtain ⟨wi, pi, ri⟩ := hi.run
  exact ⟨tLc wi (M.tgM X.K io t) (M.ttM X.K io mc) (M.teM X.K io me) (own.map (·.2)), mk wi (M.tgM X.K io t) (M.ttM X.K io mc) (M.teM X.K io me) pi (fun s H C cl fp => (hg s H C cl fp).tgM) (fun s H C cl fp => (hts s H C cl fp).run) (fun s H C cl fp => (he s H C cl fp).teM), fun Out σ0 G H σ env xk Kd Q R x hm hq => lc_run ri hv ht Out σ0 G H σ env xk Kd Q R x hm hq⟩
/-- y = [e for ..], the swapped way -/
theorem ss_setLc (i : Nat) {y : Str} {py : Pos} {elt tg iter : Expr} {ifs : List Expr} {scope : Scope} {own : List (Str × Nat)} {pos spos : Pos} {mi : MI} {t : Tgt} {mc : MT} {me : ME} (hi : SI X W io tg iter mi)
    (hg : ∀ (s : Shared) (H : Hp) (C : Addr) (cl : List (Str × Addr)) (fp : List Addr), SG (X.blk s H scope (compEnvC scope cl C X.env) fp) io tg t)
    (hts : ∀ (s : Shared) (H : Hp) (C : Addr) (cl : List (Str × Addr)) (fp : List Addr), STs (X.blk s H scope (compEnvC scope cl C X.env) fp) io ifs mc)
    (he : ∀ (s : Shared) (H : Hp) (C : Addr) (cl : List (Str × Addr)) (fp : List Addr), SE (X.blk s H scope (compEnvC scope cl C X.env) fp) W0 io elt me)
    (mk : ∀ wi g tt te, PI X tg iter wi → (∀ (s : Shared) (H : Hp) (C : Addr) (cl : List (Str × Addr)) (fp : List Addr), PG (X.blk s H scope (compEnvC scope cl C X.env) fp) tg g) → (∀ (s : Shared) (H : Hp) (C : Addr) (cl : List (Str × Addr)) (fp : List Addr), PTs (X.blk s H scope (compEnvC scope cl C X.env) fp) ifs tt) →
      (∀ (s : Shared) (H : Hp) (C : Addr) (cl : List (Str × Addr)) (fp : List Addr), PE (X.blk s H scope (compEnvC scope cl C X.env) fp) elt te) → PS X (.Assign [.Name y py] (.ListComp elt [{ target := tg, iter := iter, ifs := ifs, is_async := 0 }] scope pos) spos) (tAsg (tLc wi g tt te (own.map (·.2))) (gName i)))
    (hv : ∀ i ∈ io, i ∉ own.map (·.2) := by decide) (ht : ∀ i ∈ t.slots, i ∈ own.map (·.2) := by decide) (hio : i ∉ io := by decide) : SS X W io (.Assign [.Name y py] (.ListComp elt [{ target := tg, iter := iter, ifs := ifs, is_async := 0 }] scope pos) spos) (mSet i (mLc mi t mc me (own.map (·.2)))) := by
  obtain ⟨wi, pi, ri⟩ := hi.run
  refine ⟨_, mk wi (M.tgM X.K io t) (M.ttM X.K io mc) (M.teM X.K io me) pi (fun s H C cl fp => (hg s H C cl fp).tgM) (fun s H C cl fp => (hts s H C cl fp).run) (fun s H C cl fp => (he s H C cl fp).teM), fun Out σ0 G H σ env xk D Dh R x e hm => ?_⟩
  exact lc_run ri hv ht Out σ0 G H σ env xk _ _ R x hm fun c env' v G' H' k R' s t => e.nx _ G' H' _ (R'.store t hio) s k
end
end M
end
section
namespace M
open PySem PySem.Spec PyProof.Rows L2
section
variable {X : Cx} {W : WX} {io : List Nat}
/-! ### ints -/
def fInt (g : Int → Int → PyData) : MF2 := fun x y k => ∃ i j, x = .int i ∧ y = .int j ∧ k (.val (g i j))
def fIntC (C : Int → Int → Prop) (g : Int → Int → PyData) : MF2 := fun x y k => ∃ i j, x = .int i ∧ y = .int j ∧ C i j ∧ k (.val (g i j))
theorem os_int {gV : Int → Int → V} {gD : Int → Int → PyData} (h : ∀ i j G, Dd X.K G (gV i j) (gD i j)) : OpS X (rI0 gV) (fInt gD) := fun Out io σ0 G H σ env v1 v2 x y k Q R d1 d2 hf hq => by
  obtain ⟨i, j, rfl, rfl, hk⟩ := hf
  exact ⟨i, j, d1.int R.sub, d2.int R.sub, hq _ _ G H hk R (Sub.refl G) (h i j G)⟩
theorem os_intC {C : Int → Int → Prop} {gV : Int → Int → V} {gD : Int → Int → PyData} (h : ∀ i j G, Dd X.K G (gV i j) (gD i j)) : OpS X (rI C gV) (fIntC C gD) := fun Out io σ0 G H σ env v1 v2 x y k Q R d1 d2 hf hq => by
  obtain ⟨i, j, rfl, rfl, hc, hk⟩ := hf
  exact ⟨i, j, d1.int R.sub, d2.int R.sub, hc, hq _ _ G H hk R (Sub.refl G) (h i j G)⟩
theorem os_add : OpS X (rI0 fun i j => .int (i + j)) (fInt fun i j => .int (i + j)) := os_int fun _ _ _ => .int _
theorem os_sub : OpS X (rI0 fun i j => .int (i - j)) (fInt fun i j => .int (i - j)) := os_int fun _ _ _ => .int _
theorem os_lt : OpS X (rI0 fun i j => .bl (decide (i < j))) (fInt fun i j => .bool (decide (i < j))) := os_int fun _ _ _ => .bl _
theorem os_le : OpS X (rI0 fun i j => .bl (decide (i ≤ j))) (fInt fun i j => .bool (decide (i ≤ j))) := os_int fun _ _ _ => .bl _
theorem os_gt : OpS X (rI0 fun i j => .bl (decide (j < i))) (fInt fun i j => .bool (decide (j < i))) := os_int fun _ _ _ => .bl _
theorem os_ge : OpS X (rI0 fun i j => .bl (decide (j ≤ i))) (fInt fun i j => .bool (decide (j ≤ i))) := os_int fun _ _ _ => .bl _
theorem os_mulW : OpS X (rI CMulW fun i j => .int (i * j)) (fIntC CMulW fun i j => .int (i * j)) := os_intC fun _ _ _ => .int _
theorem os_divW : OpS X (rI CDivW fun i j => .int (i / j)) (fIntC CDivW fun i j => .int (i / j)) := os_intC fun _ _ _ => .int _
theorem os_mod : OpS X (rI (fun _ j => 0 < j) fun i j => .int (i % j)) (fIntC (fun _ j => 0 < j) fun i j => .int (i % j)) := os_intC fun _ _ _ => .int _
/-! ### equality, in, is -/
def okD (d : PyData) : Bool := SeqAt.shaped d && !PyData.hasDict d
theorem okD_s {d : PyData} (h : okD d = true) : SeqAt.shaped d = true ∧ PyData.hasDict d = false := by
  unfold okD at h
  simp only [Bool.and_eq_true, Bool.not_eq_true'] at h
  exact h
def fEqD (neg : Bool) : MF2 := fun x y k => okD x = true ∧ okD y = true ∧ k (.val (.bool (if neg then !PyData.eqv x y else PyData.eqv x y)))
theorem os_eqD : OpS X (rEqD X.K) (fEqD false) := fun Out io σ0 G H σ env v1 v2 x y k Q R d1 d2 hf hq => by
  obtain ⟨h1, h2, hk⟩ := hf
  exact ⟨x, y, (d1.dd R.sub).dp (okD_s h1).2, (d2.dd R.sub).dp (okD_s h2).2, (okD_s h1).1, (okD_s h2).1, hq _ _ G H hk R (Sub.refl G) (Dd.bl _)⟩
theorem os_neD : OpS X (rNeD X.K) (fEqD true) := fun Out io σ0 G H σ env v1 v2 x y k Q R d1 d2 hf hq => by
  obtain ⟨h1, h2, hk⟩ := hf
  exact ⟨x, y, (d1.dd R.sub).dp (okD_s h1).2, (d2.dd R.sub).dp (okD_s h2).2, (okD_s h1).1, (okD_s h2).1, hq _ _ G H hk R (Sub.refl G) (Dd.bl _)⟩
/-- scalars of one kind, or None beside one -/
def eqS : PyData → PyData → Option Bool
  | .none, .none => some true
  | .none, .int _ => some false
  | .int _, .none => some false
  | .none, .bool _ => some false
  | .bool _, .none => some false
  | .none, .str _ => some false
  | .str _, .none => some false
  | .int i, .int j => some (decide (i = j))
  | .bool i, .bool j => some (decide (i = j))
  | .str i, .str j => some (decide (i = j))
  | .int _, .str _ => some false
  | .str _, .int _ => some false
  | .bool _, .str _ => some false
  | .str _, .bool _ => some false
  | _, _ => none
def fEqS (neg : Bool) : MF2 := fun x y k => ∃ b, eqS x y = some b ∧ k (.val (.bool (if neg then !b else b)))
theorem eqS_ok {K : PySem.W.Frag} {G H : Hp} {v1 v2 : V} {x y : PyData} {b : Bool} (s : Sub G H) (d1 : Dx K G H v1 x) (d2 : Dx K G H v2 y) (h : eqS x y = some b) : scal v1 v2 = true ∧ decide (v1 = v2) = b := by
  cases x <;> cases y <;> simp only [eqS, Option.some.injEq, reduceCtorEq] at h <;> subst h
  · cases d1.none s; cases d2.none s; exact ⟨rfl, by simp⟩
  · cases d1.none s; cases d2.bool s; exact ⟨rfl, by simp⟩
  · cases d1.none s; cases d2.int s; exact ⟨rfl, by simp⟩
  · cases d1.none s; cases d2.str s; exact ⟨rfl, by simp⟩
  · cases d1.bool s; cases d2.none s; exact ⟨rfl, by simp⟩
  · cases d1.bool s; cases d2.bool s; exact ⟨rfl, by simp⟩
  · cases d1.bool s; cases d2.str s; exact ⟨rfl, by simp⟩
  · cases d1.int s; cases d2.none s; exact ⟨rfl, by simp⟩
  · cases d1.int s; cases d2.int s; exact ⟨rfl, by simp⟩
  · cases d1.int s; cases d2.str s; exact ⟨rfl, by simp⟩
  · cases d1.str s; cases d2.none s; exact ⟨rfl, by simp⟩
  · cases d1.str s; cases d2.bool s; exact ⟨rfl, by simp⟩
  · cases d1.str s; cases d2.int s; exact ⟨rfl, by simp⟩
  · cases d1.str s; cases d2.str s; exact ⟨rfl, by simp⟩
theorem os_eqS : OpS X rEq (fEqS false) := fun Out io σ0 G H σ env v1 v2 x y k Q R d1 d2 hf hq => by
  obtain ⟨b, hb, hk⟩ := hf
  obtain ⟨h1, h2⟩ := eqS_ok R.sub d1 d2 hb
  exact ⟨h1, by rw [h2]; exact hq _ _ G H hk R (Sub.refl G) (Dd.bl _)⟩
theorem os_neS : OpS X rNe (fEqS true) := fun Out io σ0 G H σ env v1 v2 x y k Q R d1 d2 hf hq => by
  obtain ⟨b, hb, hk⟩ := hf
  obtain ⟨h1, h2⟩ := eqS_ok R.sub d1 d2 hb
  exact ⟨h1, by rw [h2]; exact hq _ _ G H hk R (Sub.refl G) (Dd.bl _)⟩
def flatD : PyData → Bool
  | .none => true | .bool _ => true | .int _ => true | .str _ => true | _ => false
def eqF : PyData → PyData → Bool
  | .none, .none => true
  | .bool a, .bool b => a == b
  | .bool a, .int b => (if a = true then (1 : Int) else 0) == b
  | .int a, .bool b => a == if b = true then (1 : Int) else 0
  | .int a, .int b => a == b
  | .str a, .str b => a == b
  | _, _ => false
theorem flat_v {K : PySem.W.Frag} {G : Hp} {v : V} {d : PyData} (h : Dd K G v d) (f : flatD d = true) : flatV v = true ∧ ∀ {w : V} {e : PyData}, Dd K G w e → flatD e = true → eqV v w = eqF d e := by
  cases h <;> simp only [flatD, Bool.false_eq_true] at f <;> refine ⟨rfl, fun {w e} hw fe => ?_⟩ <;> cases hw <;> simp only [flatD, Bool.false_eq_true] at fe <;> rfl
theorem flat_all {K : PySem.W.Frag} {G : Hp} {w : V} {e : PyData} (hw : Dd K G w e) (fe : flatD e = true) : ∀ {vs : List V} {ds : List PyData}, Da K G vs ds → ds.all flatD = true → vs.all flatV = true ∧ inV w vs = ds.any fun y => eqF y e
  | _, _, .nil, _ => ⟨rfl, rfl⟩
  | _, _, .cons h t, f => by
    simp only [List.all_cons, Bool.and_eq_true] at f
    obtain ⟨a, b⟩ := flat_v h f.1
    obtain ⟨c, d⟩ := flat_all hw fe t f.2
    refine ⟨by simp only [List.all_cons, a, c, Bool.and_self], ?_⟩
    unfold inV at d ⊢
    simp only [List.any_cons, d, b hw fe]
/-- x in a list or tuple of plain things -/
def fInS (neg : Bool) : MF2 := fun x y k => ∃ ds, (y = .list ds ∨ y = .tuple ds) ∧ flatD x = true ∧ ds.all flatD = true ∧ k (.val (.bool (if neg then !(ds.any fun z => eqF z x) else ds.any fun z => eqF z x)))
theorem os_inS (neg : Bool) : OpS X (rIn X.K neg) (fInS neg) := fun Out io σ0 G H σ env v1 v2 x y k Q R d1 d2 hf hq => by
  obtain ⟨ds, hy, fx, fa, hk⟩ := hf
  have dx : Dd X.K H v1 x := d1.dd R.sub
  have go : ∀ {p : Addr} {vs : List V}, (SqL X.K H p vs ∨ SqT X.K H p vs) → Da X.K G vs ds → v2 = .ref p → rIn X.K neg v1 v2 H Q := fun {p vs} h1 h2 e => by
    obtain ⟨c, d⟩ := flat_all dx fx (h2.mono R.sub) fa
    have fv : flatV v1 = true := (flat_v dx fx).1
    refine ⟨p, vs, e, h1, fv, c, ?_⟩
    rw [d]
    exact hq _ _ G H hk R (Sub.refl G) (by cases neg <;> exact Dd.bl _)
  rcases hy with rfl | rfl
  · obtain ⟨a, vs, e, h1, h2⟩ := d2.list R.sub
    exact go (.inl h1) h2 e
  · obtain ⟨a, vs, e, h1, h2⟩ := d2.tuple R.sub
    exact go (.inr h1) h2 e
/-- x in a list or tuple of data of any depth -/
def rInT (K : PySem.W.Frag) (neg : Bool) : R2 := fun x y H Q => ∃ d ds, Dp K H x d ∧ (Dp K H y (.list ds) ∨ Dp K H y (.tuple ds)) ∧ SeqAt.shaped d = true ∧ SeqAt.shaped (.list ds) = true ∧ Q (.bl (if neg then !(ds.any fun z => PyData.eqv z d) else ds.any fun z => PyData.eqv z d)) H
theorem op_inT (hu : X.A.units + 65 < cLine) : OpR X (compareOp .In) (rInT X.K false) := by
  intro pins s σ H x y v u Q I rx ry h
  obtain ⟨d, ds, hd, he, sd, se, q⟩ := h
  obtain ⟨as, r1⟩ := Dp.reads I d x v hd rx
  rcases he with he | he
  · obtain ⟨bs, r2⟩ := Dp.reads I (.list ds) y u he ry
    exact SeqAt.in_list_reads r2 r1 (SeqAt.canLay_of_shaped se) (SeqAt.canLay_of_shaped sd) (room_in_shaped sd hu) ⟨.bl _, H, I, rfl, q⟩
  · obtain ⟨bs, r2⟩ := Dp.reads I (.tuple ds) y u he ry
    exact SeqAt.in_tuple_reads r2 r1 (SeqAt.canLay_of_shaped se) (SeqAt.canLay_of_shaped sd) (room_in_shaped sd hu) ⟨.bl _, H, I, rfl, q⟩
theorem op_niT (hu : X.A.units + 65 < cLine) : OpR X (compareOp .NotIn) (rInT X.K true) := by
  intro pins s σ H x y v u Q I rx ry h
  obtain ⟨d, ds, hd, he, sd, se, q⟩ := h
  obtain ⟨as, r1⟩ := Dp.reads I d x v hd rx
  rcases he with he | he
  · obtain ⟨bs, r2⟩ := Dp.reads I (.list ds) y u he ry
    exact SeqAt.notIn_list_reads r2 r1 (SeqAt.canLay_of_shaped se) (SeqAt.canLay_of_shaped sd) (room_in_shaped sd hu) ⟨.bl _, H, I, rfl, q⟩
  · obtain ⟨bs, r2⟩ := Dp.reads I (.tuple ds) y u he ry
    exact SeqAt.notIn_tuple_reads r2 r1 (SeqAt.canLay_of_shaped se) (SeqAt.canLay_of_shaped sd) (room_in_shaped sd hu) ⟨.bl _, H, I, rfl, q⟩
def fInD (neg : Bool) : MF2 := fun x y k => ∃ ds, (y = .list ds ∨ y = .tuple ds) ∧ okD x = true ∧ okD (.list ds) = true ∧ k (.val (.bool (if neg then !(ds.any fun z => PyData.eqv z x) else ds.any fun z => PyData.eqv z x)))
theorem os_inD (neg : Bool) : OpS X (rInT X.K neg) (fInD neg) := fun Out io σ0 G H σ env v1 v2 x y k Q R d1 d2 hf hq => by
  obtain ⟨ds, hy, fx, fa, hk⟩ := hf
  refine ⟨x, ds, (d1.dd R.sub).dp (okD_s fx).2, ?_, (okD_s fx).1, (okD_s fa).1, hq _ _ G H hk R (Sub.refl G) (Dd.bl _)⟩
  rcases hy with rfl | rfl
  · exact .inl ((d2.dd R.sub).dp (okD_s fa).2)
  · exact .inr ((d2.dd R.sub).dp (by have := (okD_s fa).2; simpa [PyData.hasDict] using this))
def isNoneD : PyData → Bool
  | .none => true
  | _ => false
def fIsN (neg : Bool) : MF2 := fun x y k => y = .none ∧ k (.val (.bool (if neg then !isNoneD x else isNoneD x)))
theorem isN_ok {K : PySem.W.Frag} {G H : Hp} (s : Sub G H) {v : V} {x : PyData} (d : Dx K G H v x) : decide (v = V.non) = isNoneD x := by
  have q := d.dd s
  cases q <;> simp [isNoneD]
theorem os_isN : OpS X (fun x y H Q => y = .non ∧ Q (.bl (decide (x = .non))) H) (fIsN false) := fun Out io σ0 G H σ env v1 v2 x y k Q R d1 d2 hf hq => by
  obtain ⟨rfl, hk⟩ := hf
  refine ⟨d2.none R.sub, ?_⟩
  rw [isN_ok R.sub d1]
  exact hq _ _ G H hk R (Sub.refl G) (Dd.bl _)
theorem os_notN : OpS X (fun x y H Q => y = .non ∧ Q (.bl (!decide (x = .non))) H) (fIsN true) := fun Out io σ0 G H σ env v1 v2 x y k Q R d1 d2 hf hq => by
  obtain ⟨rfl, hk⟩ := hf
  refine ⟨d2.none R.sub, ?_⟩
  rw [isN_ok R.sub d1]
  exact hq _ _ G H hk R (Sub.refl G) (Dd.bl _)
def fIsB (neg : Bool) : MF2 := fun x y k => ∃ a b, x = .bool a ∧ y = .bool b ∧ k (.val (.bool (if neg then !decide (a = b) else decide (a = b))))
theorem os_isB : OpS X rIsB (fIsB false) := fun Out io σ0 G H σ env v1 v2 x y k Q R d1 d2 hf hq => by
  obtain ⟨a, b, rfl, rfl, hk⟩ := hf
  exact ⟨a, b, d1.bool R.sub, d2.bool R.sub, hq _ _ G H hk R (Sub.refl G) (Dd.bl _)⟩
theorem os_notB : OpS X rNotB (fIsB true) := fun Out io σ0 G H σ env v1 v2 x y k Q R d1 d2 hf hq => by
  obtain ⟨a, b, rfl, rfl, hk⟩ := hf
  exact ⟨a, b, d1.bool R.sub, d2.bool R.sub, hq _ _ G H hk R (Sub.refl G) (Dd.bl _)⟩
/-! ### texts -/
def fLtS : MF2 := fun x y k => ∃ i j, x = .str i ∧ y = .str j ∧ k (.val (.bool (decide (i.cps.toList < j.cps.toList))))
theorem os_ltS : OpS X (fun x y H Q => ∃ i j, x = .str i ∧ y = .str j ∧ Q (.bl (decide (i.cps.toList < j.cps.toList))) H) fLtS := fun Out io σ0 G H σ env v1 v2 x y k Q R d1 d2 hf hq => by
  obtain ⟨i, j, rfl, rfl, hk⟩ := hf
  exact ⟨i, j, d1.str R.sub, d2.str R.sub, hq _ _ G H hk R (Sub.refl G) (Dd.bl _)⟩
def fAddS : MF2 := fun x y k => ∃ i j : Str, x = .str i ∧ y = .str j ∧ i.length + j.length ≤ sizeLine ∧ k (.val (.str (i ++ j)))
theorem os_addS : OpS X (fun x y H Q => ∃ i j, x = .str i ∧ y = .str j ∧ i.length + j.length ≤ sizeLine ∧ Q (.str (i ++ j)) H) fAddS := fun Out io σ0 G H σ env v1 v2 x y k Q R d1 d2 hf hq => by
  obtain ⟨i, j, rfl, rfl, hl, hk⟩ := hf
  exact ⟨i, j, d1.str R.sub, d2.str R.sub, hl, hq _ _ G H hk R (Sub.refl G) (Dd.str _)⟩
/-! ### lists, tuples put together -/
def rCatS (K : PySem.W.Frag) : R2 := fun x y H Q => ∃ l b xs zs, x = .ref l ∧ y = .ref b ∧ SqL K H l xs ∧ SqL K H b zs ∧ xs.length + zs.length ≤ sizeLine ∧ ∀ p, H p = none → Q (.ref p) (upd H p (.lst (xs ++ zs)))
theorem op_catS : OpR X (binaryOp .Add) (rCatS X.K) := by
  intro pins s σ H x y v u Q I rx ry h
  obtain ⟨l, b, xs, zs, rfl, rfl, hH, hB, hz, q⟩ := h
  cases rx
  cases ry
  obtain ⟨i1, r1, ⟨o1, n1, e1, c1, d1, t1⟩, _⟩ := I.list hH
  obtain ⟨i2, r2, ⟨o2, n2, e2, c2, d2, t2⟩, _⟩ := I.list hB
  obtain ⟨oc1, od1, dt1, sl1⟩ := o1
  obtain ⟨oc2, od2, dt2, sl2⟩ := o2
  simp only at c1 d1 t1 c2 d2 t2
  subst c1 d1 t1 c2 d2 t2
  refine concat_meets ⟨_, e1, rfl⟩ ⟨_, e2, rfl⟩ noFill_list_add seq_list_add PySem.F.slot_list_add PySem.F.entry_list_add (PySem.F.args_list_add_2 _ _) (list_addW l b i1.toArray i2.toArray n1 n2 none none sl1 sl2 (by simpa [← r1.length, ← r2.length] using hz)) ⟨e1, e2, ?_⟩
  have ea : i1.toArray ++ i2.toArray = (i1 ++ i2).toArray := by simp
  rw [ea]
  exact ⟨.ref _, _, I.lnew (t' := s.toks) (r1.append r2) (by rw [List.length_append]; exact hz), rfl, q _ I.fresh⟩
def fCat : MF2 := fun x y k => ∃ as bs, x = .list as ∧ y = .list bs ∧ as.length + bs.length ≤ sizeLine ∧ k (.lst (as ++ bs))
theorem os_cat : OpS X (rCatS X.K) fCat := fun Out io σ0 G H σ env v1 v2 x y k Q R d1 d2 hf hq => by
  obtain ⟨as, bs, rfl, rfl, hl, hk⟩ := hf
  obtain ⟨a, vs, e1, h1, da⟩ := d1.list R.sub
  obtain ⟨b, ws, e2, h2, db⟩ := d2.list R.sub
  refine ⟨a, b, vs, ws, e1, e2, h1, h2, by rw [da.length, db.length]; exact hl, fun p hp => ?_⟩
  obtain ⟨R2, t⟩ := R.newL hp (da.append db)
  exact hq _ _ G _ hk R2 (Sub.refl G) t
def fCatT : MF2 := fun x y k => ∃ as bs, x = .tuple as ∧ y = .tuple bs ∧ as.length + bs.length ≤ sizeLine ∧ k (.val (.tuple (as ++ bs)))
theorem os_catT : OpS X (rCatA X.K) fCatT := fun Out io σ0 G H σ env v1 v2 x y k Q R d1 d2 hf hq => by
  obtain ⟨as, bs, rfl, rfl, hl, hk⟩ := hf
  have e1 := d1.dd R.sub
  have e2 := d2.dd R.sub
  cases d1 with
  | g d1 =>
    cases d2 with
    | g d2 =>
      cases d1 with
      | tup h1 da =>
        cases d2 with
        | tup h2 db =>
          rename_i a vs b ws
          refine ⟨a, b, vs, ws, rfl, rfl, sub_t R.sub h1, sub_t R.sub h2, by rw [da.length, db.length]; exact hl, fun z => ?_, fun _ z => ?_, fun _ _ p hp => ?_⟩
          · subst z
            cases da
            exact hq _ _ G H hk R (Sub.refl G) (Dd.tup h2 db)
          · subst z
            cases db
            rw [List.append_nil] at hk
            exact hq _ _ G H hk R (Sub.refl G) (Dd.tup h1 da)
          · have ng := R.sub.free hp
            exact hq _ _ _ _ hk (R.laid hp) (Sub.new ng) (Dd.tup (.inl (.inl upd_same)) ((da.append db).mono (Sub.new ng)))
/-! ### subscripts -/
theorem se_ix {a b : Expr} {r : R2} {f : MF2} {ma mb : MO} {pos : Pos} (hr : IxR X r) (hf : OpS X r f) (ha : SO X W io a ma) (hb : SO X W io b mb) (hs : PlainIx b := by exact fun _ _ => rfl) : SE X W io (.Subscript a b pos) (mOp2 f ma mb) := by
  obtain ⟨ta, tb, pa, pb, h⟩ := op2 hf ha hb
  exact ⟨tOp r ta tb, pe_ix hr pa pb hs, h⟩
def fIxL : MF2 := fun x y k => ∃ ds i d, x = .list ds ∧ y = .int i ∧ atI ds i = some d ∧ k (.val d)
theorem atI_map {K : PySem.W.Frag} {G : Hp} {vs : List V} {ds : List PyData} {i : Int} {d : PyData} (da : Da K G vs ds) (h : atI ds i = some d) : ∃ v, atI vs i = some v ∧ Dd K G v d := by
  unfold atI at h ⊢
  rw [da.length]
  cases e : ixN ds.length i with
  | none => rw [e] at h; cases h
  | some j => rw [e] at h; exact da.get h
theorem os_ixL : OpS X (rIxL X.K) fIxL := fun Out io σ0 G H σ env v1 v2 x y k Q R d1 d2 hf hq => by
  obtain ⟨ds, i, d, rfl, rfl, hi, hk⟩ := hf
  obtain ⟨a, vs, e1, h1, da⟩ := d1.list R.sub
  obtain ⟨v, hv, dv⟩ := atI_map da hi
  exact ⟨a, vs, i, v, e1, d2.int R.sub, h1, hv, hq (.val d) v G H hk R (Sub.refl G) dv⟩
def fIxT : MF2 := fun x y k => ∃ ds i d, x = .tuple ds ∧ y = .int i ∧ atI ds i = some d ∧ k (.val d)
theorem os_ixT : OpS X (rIxT X.K) fIxT := fun Out io σ0 G H σ env v1 v2 x y k Q R d1 d2 hf hq => by
  obtain ⟨ds, i, d, rfl, rfl, hi, hk⟩ := hf
  obtain ⟨a, vs, e1, h1, da⟩ := d1.tuple R.sub
  obtain ⟨v, hv, dv⟩ := atI_map da hi
  exact ⟨a, vs, i, v, e1, d2.int R.sub, h1, hv, hq (.val d) v G H hk R (Sub.refl G) dv⟩
def fIxS : MF2 := fun x y k => ∃ z i c, x = .str z ∧ y = .int i ∧ z.length ≤ sizeLine ∧ atI z.cps.toList i = some c ∧ k (.val (.str ⟨#[c]⟩))
theorem os_ixS : OpS X rIxS fIxS := fun Out io σ0 G H σ env v1 v2 x y k Q R d1 d2 hf hq => by
  obtain ⟨z, i, c, rfl, rfl, hz, hi, hk⟩ := hf
  exact ⟨z, i, c, d1.str R.sub, d2.int R.sub, hz, hi, hq _ _ G H hk R (Sub.refl G) (Dd.str _)⟩
/-! ### dicts -/
def keyOf : PyData → Option Key
  | .int i => some (.inl i)
  | .str x => some (.inr x)
  | _ => none
theorem keyOf_v {K : PySem.W.Frag} {G H : Hp} (s : Sub G H) {v : V} {x : PyData} {k : Key} (d : Dx K G H v x) (h : keyOf x = some k) : v = kV k ∧ keyD k = x := by
  cases x <;> simp only [keyOf, Option.some.injEq, reduceCtorEq] at h <;> subst h
  · exact ⟨d.int s, rfl⟩
  · exact ⟨d.str s, rfl⟩
/-- the value at a key -/
def getK (es : List (PyData × PyData)) (k : Key) : Option PyData := match es with
  | [] => none
  | (x, d) :: r => if keyOf x = some k then some d else getK r k
theorem keyOf_keyD (k : Key) : keyOf (keyD k) = some k := by cases k <;> rfl
theorem dk_get {K : PySem.W.Frag} {G : Hp} {k : Key} : ∀ {ks : List (Key × V)} {es : List (PyData × PyData)}, Dk K G ks es → match getK es k with | some d => ∃ v, valV ks k = some v ∧ Dd K G v d | none => valV ks k = none
  | _, _, .nil => rfl
  | _, _, @Dk.cons _ _ k' v ks d es h t => by
    have ih := dk_get (k := k) t
    unfold getK valV
    rw [keyOf_keyD, List.find?_cons]
    by_cases e : k' = k
    · subst e
      rw [if_pos rfl, show (decide ((k', v).fst = k')) = true from decide_eq_true rfl]
      exact ⟨v, rfl, h⟩
    · rw [if_neg (fun z => e (Option.some.inj z)), show (decide ((k', v).fst = k)) = false from decide_eq_false e]
      exact ih
def fDIn (neg : Bool) : MF2 := fun x y k => ∃ es q, keyOf x = some q ∧ y = .dict es ∧ k (.val (.bool (if neg then !(getK es q).isSome else (getK es q).isSome)))
def rDIn (neg : Bool) : R2 := fun y x H Q => ∃ a o, x = V.ref a ∧ DGet H a y o ∧ Q (.bl (if neg then !o.isSome else o.isSome)) H
theorem os_dIn (neg : Bool) : OpS X (rDIn neg) (fDIn neg) := fun Out io σ0 G H σ env v1 v2 x y k Q R d1 d2 hf hq => by
  obtain ⟨es, q, hx, rfl, hk⟩ := hf
  obtain ⟨a, ks, e2, h2, dk⟩ := d2.dict R.sub
  obtain ⟨e1, _⟩ := keyOf_v R.sub d1 hx
  refine ⟨a, valV ks q, e2, .inl ⟨ks, q, h2, e1, rfl⟩, ?_⟩
  have g := dk_get (k := q) dk
  cases e : getK es q with
  | none =>
    rw [e] at g hk
    have g : valV ks q = none := g
    rw [g]
    exact hq _ _ G H hk R (Sub.refl G) (Dd.bl _)
  | some d =>
    rw [e] at g hk
    obtain ⟨v, g, _⟩ := g
    rw [g]
    exact hq _ _ G H hk R (Sub.refl G) (Dd.bl _)
theorem se_dIn {a b : Expr} {ma mb : MO} {pos : Pos} (hu : X.A.units + 1 < cLine) (ha : SO X W io a ma) (hb : SO X W io b mb) (hm : behindInMarks .In b = false := by rfl) : SE X W io (.Compare a [.In] [b] pos) (mOp2 (fDIn false) ma mb) := by
  obtain ⟨ta, tb, pa, pb, h⟩ := op2 (os_dIn false) ha hb
  exact ⟨tDIn ta tb, pe_cmp (pc_din hu pa pb) hm, h⟩
theorem se_dNotIn {a b : Expr} {ma mb : MO} {pos : Pos} (hu : X.A.units + 1 < cLine) (ha : SO X W io a ma) (hb : SO X W io b mb) (hm : behindInMarks .NotIn b = false := by rfl) : SE X W io (.Compare a [.NotIn] [b] pos) (mOp2 (fDIn true) ma mb) := by
  obtain ⟨ta, tb, pa, pb, h⟩ := op2 (os_dIn true) ha hb
  exact ⟨_, pe_cmp (pc_dnotin hu pa pb) hm, h⟩
def fDGet : MF2 := fun x y k => ∃ es q d, x = .dict es ∧ keyOf y = some q ∧ getK es q = some d ∧ k (.val d)
def rDGet : R2 := fun x y H Q => ∃ a v, x = V.ref a ∧ DGet H a y (some v) ∧ Q v H
theorem os_dGet : OpS X rDGet fDGet := fun Out io σ0 G H σ env v1 v2 x y k Q R d1 d2 hf hq => by
  obtain ⟨es, q, d, rfl, hy, hg, hk⟩ := hf
  obtain ⟨a, ks, e2, h2, dk⟩ := d1.dict R.sub
  obtain ⟨e1, _⟩ := keyOf_v R.sub d2 hy
  have g := dk_get (k := q) dk
  rw [hg] at g
  obtain ⟨v, g, dv⟩ := g
  exact ⟨a, v, e2, .inl ⟨ks, q, h2, e1, g.symm⟩, hq (.val d) v G H hk R (Sub.refl G) dv⟩
theorem se_dGet {a b : Expr} {ma mb : MO} {pos : Pos} (hu : X.A.units + 1 < cLine) (ha : SO X W io a ma) (hb : SO X W io b mb) (hs : NoSl b := by exact fun _ _ => rfl) : SE X W io (.Subscript a b pos) (mOp2 fDGet ma mb) := by
  obtain ⟨ta, tb, pa, pb, h⟩ := op2 os_dGet ha hb
  exact ⟨tDGet ta tb, pe_dget hu pa pb hs, h⟩
/-- d.get(k) -/
def fDGet1 : MF2 := fun x y k => ∃ es q, x = .dict es ∧ keyOf y = some q ∧ k (.val ((getK es q).getD .none))
/-- d[k] = v, d in slot i -/
def putD (es : List (PyData × PyData)) (k : Key) (v : PyData) : List (PyData × PyData) := match es with
  | [] => [(keyD k, v)]
  | (x, d) :: r => if keyOf x = some k then (x, v) :: r else (x, d) :: putD r k v
end
end M
end
section
namespace M
open PySem PySem.Spec PyProof.Rows L2
theorem opd_dx {K : PySem.W.Frag} {Out G H : Hp} {io : List Nat} {σ0 σ : L2.St} {env : DEnv} (R : Rel K Out io σ0 G H σ env) {v : V} {o : Opd} {d : PyData} (t : TmpO K Out G H σ env v o) (e : o.data env = some d) : Dx K G H v d := by
  cases o with
  | tmp c => exact Tmp.dx t e
  | slot i =>
    have e : (env[i]?.bind Cell.data) = some d := e
    cases hc : env[i]? with
    | none => rw [hc] at e; cases e
    | some c =>
      rw [hc] at e
      obtain ⟨v', hs, hd⟩ := R.lookX hc e
      have t : σ[i]? = some (some v) := t
      rw [t] at hs
      cases hs
      exact hd
section
variable {X : Cx} {W : WX} {io : List Nat}
/-! ### built-ins of one argument, whose content is read -/
abbrev MF := PyData → (Cell → Prop) → Prop
def CallS1 (X : Cx) (r : List V → Hp → VK → Prop) (f : MF) : Prop := ∀ (Out : Hp) (io : List Nat) (σ0 : L2.St) (G H : Hp) (σ : L2.St) (env : DEnv) (v : V) (x : PyData) (k : Cell → Prop) (Q : VK), Rel X.K Out io σ0 G H σ env → Dx X.K G H v x → f x k →
  (∀ c v G' H', k c → Rel X.K Out io σ0 G' H' σ env → Sub G G' → Tmp X.K Out G' H' σ env v c → Q v H') → r [v] H Q
def mUn (f : MF) (m : MO) : ME := fun xk env Kd => m xk env fun o env' => ∃ x, o.data env' = some x ∧ f x fun c => Kd c env'
theorem un_run {e : Expr} {r : List V → Hp → VK → Prop} {f : MF} {m : MO} (hf : CallS1 X r f) (he : SO X W io e m) (hs : starEach [e] X.env = (false, eval e X.env) :: starEach [] X.env) : ∃ ta, PA X [e] ta ∧ ∀ (Out : Hp) (σ0 : L2.St) (G H : Hp) (σ : L2.St) (env : DEnv) (xk : MX) (Kd : MK) (Q : VK), Rel X.K Out io σ0 G H σ env → XOk X.K Out io σ0 G W xk → mUn f m xk env Kd →
    (∀ c env' v G' H', Kd c env' → Rel X.K Out io σ0 G' H' σ env' → Sub G G' → Tmp X.K Out G' H' σ env' v c → Q v H') → tCB r ta σ H Q := by
  obtain ⟨te, pe, re⟩ := he.run
  refine ⟨tCons te tNil, pa_cons pe pa_nil hs, fun Out σ0 G H σ env xk Kd Q R x hm hq => ?_⟩
  refine re Out σ0 G H σ env xk _ _ R x hm fun o env1 v G1 H1 k R1 s1 t => ?_
  obtain ⟨d, e1, k⟩ := k
  exact hf Out io σ0 G1 H1 σ env1 v d _ Q R1 (opd_dx R1 t e1) k fun c v2 G2 H2 k2 R2 s2 t2 => hq c env1 v2 G2 H2 k2 R2 (s1.trans s2) t2
theorem se_unB {id : String} {x : Str} {e : Expr} {p pos : Pos} {r : List V → Hp → VK → Prop} {f : MF} {m : MO} (hc : CallR X (.builtin id) r) (hf : CallS1 X r f) (hg : Gl X x) (hm : X.mg x = none) (hv : bootBuiltins x = some (.builtin id)) (he : SO X W io e m) (hn : x ≠ "__name__" := by decide) (hdb : (x == ("__debug__" : Str)) = false := by decide)
    (hs : starEach [e] X.env = (false, eval e X.env) :: starEach [] X.env := by rfl) (hpl : (backTo pos (starEach [] X.env)).any (·.1) = false := by rfl) : SE X W io (.Call (.Name x p) [e] [] pos) (mUn f m) := by
  obtain ⟨ta, pa, h⟩ := un_run hf he hs
  exact ⟨tCB r ta, pe_callB hc hg hm hv pa hn hdb hs hpl, h⟩
theorem se_unTy {T : String} {x : Str} {e : Expr} {p pos : Pos} {r : List V → Hp → VK → Prop} {f : MF} {m : MO} (hc : CallR X (.type T) r) (hf : CallS1 X r f) (hg : Gl X x) (hm : X.mg x = none) (hv : bootBuiltins x = some (.type T)) (he : SO X W io e m) (hn : x ≠ "__name__" := by decide) (hdb : (x == ("__debug__" : Str)) = false := by decide)
    (hs : starEach [e] X.env = (false, eval e X.env) :: starEach [] X.env := by rfl) (hpl : (backTo pos (starEach [] X.env)).any (·.1) = false := by rfl) : SE X W io (.Call (.Name x p) [e] [] pos) (mUn f m) := by
  obtain ⟨ta, pa, h⟩ := un_run hf he hs
  exact ⟨tCB r ta, pe_callTy hc hg hm hv pa hn hdb hs hpl, h⟩
def lenD : PyData → Option Nat
  | .str x => if x.length ≤ sizeLine then some x.length else none
  | .list ds => some ds.length
  | .tuple ds => some ds.length
  | _ => none
def fLen : MF := fun x k => ∃ n, lenD x = some n ∧ k (.val (.int (n : Int)))
theorem cs_len : CallS1 X (fun xs H Q => ∃ x n, xs = [x] ∧ LenV X.K x H n ∧ Q (.int (n : Int)) H) fLen := fun Out io σ0 G H σ env v x k Q R d hf hq => by
  obtain ⟨n, hn, hk⟩ := hf
  refine ⟨v, n, rfl, ?_, hq _ _ G H hk R (Sub.refl G) (Dd.int _)⟩
  cases x with
  | none => cases hn
  | bool b => cases hn
  | int i => cases hn
  | str y =>
    cases d.str R.sub
    simp only [lenD] at hn
    by_cases hl : y.length ≤ sizeLine
    · rw [if_pos hl] at hn; cases hn; exact ⟨hl, rfl⟩
    · rw [if_neg hl] at hn; cases hn
  | list ds => obtain ⟨a, vs, rfl, h1, h2⟩ := d.list R.sub; cases hn; exact .inl ⟨vs, h1, h2.length.symm⟩
  | tuple ds => obtain ⟨a, vs, rfl, h1, h2⟩ := d.tuple R.sub; cases hn; exact .inr ⟨vs, h1, h2.length.symm⟩
  | dict es => cases hn
theorem se_len {e : Expr} {p pos : Pos} {m : MO} (hg : Gl X "len") (hm : X.mg "len" = none) (he : SO X W io e m) (hs : starEach [e] X.env = (false, eval e X.env) :: starEach [] X.env := by rfl) (hpl : (backTo pos (starEach [] X.env)).any (·.1) = false := by rfl) : SE X W io (.Call (.Name "len" p) [e] [] pos) (mUn fLen m) :=
  se_unB call_len cs_len hg hm PySem.boot_len he (by decide) (by decide) hs hpl
def fInt1 : MF := fun x k => (∃ i, x = .int i ∧ k (.val (.int i))) ∨ ∃ b, x = .bool b ∧ k (.val (.int (if b = true then 1 else 0)))
theorem cs_int : CallS1 X (fun xs H Q => (∃ i, xs = [.int i] ∧ Q (.int i) H) ∨ ∃ k, xs = [.bl k] ∧ Q (.int (if k then 1 else 0)) H) fInt1 := fun Out io σ0 G H σ env v x k Q R d hf hq => by
  rcases hf with ⟨i, rfl, hk⟩ | ⟨b, rfl, hk⟩
  · cases d.int R.sub
    exact .inl ⟨i, rfl, hq _ _ G H hk R (Sub.refl G) (Dd.int _)⟩
  · cases d.bool R.sub
    exact .inr ⟨b, rfl, hq _ _ G H hk R (Sub.refl G) (Dd.int _)⟩
/-- list(x): a new list -/
def fList : MF := fun x k => ∃ ds, (x = .list ds ∨ x = .tuple ds) ∧ k (.lst ds)
theorem cs_list : CallS1 X (fun xs H Q => ∃ p ys, xs = [.ref p] ∧ (SqL X.K H p ys ∨ SqT X.K H p ys) ∧ ∀ l, H l = none → Q (.ref l) (upd H l (.lst ys))) fList := fun Out io σ0 G H σ env v x k Q R d hf hq => by
  obtain ⟨ds, hx, hk⟩ := hf
  rcases hx with rfl | rfl
  · obtain ⟨a, vs, rfl, h1, h2⟩ := d.list R.sub
    refine ⟨a, vs, rfl, .inl h1, fun l hl => ?_⟩
    obtain ⟨R2, t⟩ := R.newL hl h2
    exact hq _ _ G _ hk R2 (Sub.refl G) t
  · obtain ⟨a, vs, rfl, h1, h2⟩ := d.tuple R.sub
    refine ⟨a, vs, rfl, .inr h1, fun l hl => ?_⟩
    obtain ⟨R2, t⟩ := R.newL hl h2
    exact hq _ _ G _ hk R2 (Sub.refl G) t
/-- tuple(x), x a list -/
def fTuple : MF := fun x k => ∃ ds, x = .list ds ∧ k (.val (.tuple ds))
theorem cs_tuple : CallS1 X (fun xs H Q => ∃ p ys, xs = [.ref p] ∧ ((SqL X.K H p ys ∧ ∀ l, H l = none → Q (.ref l) (upd H l (.tup ys))) ∨ (SqT X.K H p ys ∧ Q (.ref p) H))) fTuple := fun Out io σ0 G H σ env v x k Q R d hf hq => by
  obtain ⟨ds, rfl, hk⟩ := hf
  obtain ⟨a, vs, rfl, h1, h2⟩ := d.list R.sub
  refine ⟨a, vs, rfl, .inl ⟨h1, fun l hl => ?_⟩⟩
  have ng := R.sub.free hl
  exact hq _ _ _ _ hk (R.laid hl) (Sub.new ng) (Dd.tup (.inl (.inl upd_same)) (h2.mono (Sub.new ng)))
/-- all(x), x a list of bools -/
def boolsD : List PyData → Option (List Bool)
  | [] => some []
  | .bool b :: r => (boolsD r).map (b :: ·)
  | _ => none
theorem bools_v {K : PySem.W.Frag} {G : Hp} : ∀ {vs : List V} {ds : List PyData} {bs : List Bool}, Da K G vs ds → boolsD ds = some bs → vs = bs.map V.bl
  | _, _, bs, .nil, h => by cases h; rfl
  | _, _, bs, @Da.cons _ _ v vs d ds h t, e => by
    cases h with
    | bl b =>
      simp only [boolsD] at e
      cases q : boolsD ds with
      | none => rw [q] at e; cases e
      | some r =>
        rw [q] at e
        cases e
        rw [bools_v t q]; rfl
    | non => simp [boolsD] at e
    | int => simp [boolsD] at e
    | str => simp [boolsD] at e
    | lst => simp [boolsD] at e
    | tup => simp [boolsD] at e
    | dct => simp [boolsD] at e
def fAll : MF := fun x k => ∃ ds bs, x = .list ds ∧ boolsD ds = some bs ∧ k (.val (.bool (bs.all id)))
theorem cs_all : CallS1 X (rAll X.K) fAll := fun Out io σ0 G H σ env v x k Q R d hf hq => by
  obtain ⟨ds, bs, rfl, hb, hk⟩ := hf
  obtain ⟨a, vs, rfl, h1, h2⟩ := d.list R.sub
  exact ⟨a, bs, rfl, by rw [← bools_v h2 hb]; exact h1, hq _ _ G H hk R (Sub.refl G) (Dd.bl _)⟩
/-- sum(x), x a list of ints -/
def intsD : List PyData → Option (List Int)
  | [] => some []
  | .int b :: r => (intsD r).map (b :: ·)
  | _ => none
theorem ints_v {K : PySem.W.Frag} {G : Hp} : ∀ {vs : List V} {ds : List PyData} {bs : List Int}, Da K G vs ds → intsD ds = some bs → vs = bs.map V.int
  | _, _, bs, .nil, h => by cases h; rfl
  | _, _, bs, @Da.cons _ _ v vs d ds h t, e => by
    cases h with
    | int b =>
      simp only [intsD] at e
      cases q : intsD ds with
      | none => rw [q] at e; cases e
      | some r =>
        rw [q] at e
        cases e
        rw [ints_v t q]; rfl
    | non => simp [intsD] at e
    | bl => simp [intsD] at e
    | str => simp [intsD] at e
    | lst => simp [intsD] at e
    | tup => simp [intsD] at e
    | dct => simp [intsD] at e
def fSum : MF := fun x k => ∃ ds bs, x = .list ds ∧ intsD ds = some bs ∧ k (.val (.int bs.sum))
theorem cs_sum : CallS1 X (rSum X.K) fSum := fun Out io σ0 G H σ env v x k Q R d hf hq => by
  obtain ⟨ds, bs, rfl, hb, hk⟩ := hf
  obtain ⟨a, vs, rfl, h1, h2⟩ := d.list R.sub
  exact ⟨a, bs, rfl, by rw [← ints_v h2 hb]; exact h1, hq _ _ G H hk R (Sub.refl G) (Dd.int _)⟩
def strsD : List PyData → Option (List Str)
  | [] => some []
  | .str b :: r => (strsD r).map (b :: ·)
  | _ => none
theorem strs_v {K : PySem.W.Frag} {G : Hp} : ∀ {vs : List V} {ds : List PyData} {bs : List Str}, Da K G vs ds → strsD ds = some bs → vs = bs.map V.str
  | _, _, bs, .nil, h => by cases h; rfl
  | _, _, bs, @Da.cons _ _ v vs d ds h t, e => by
    cases h with
    | str b =>
      simp only [strsD] at e
      cases q : strsD ds with
      | none => rw [q] at e; cases e
      | some r =>
        rw [q] at e
        cases e
        rw [strs_v t q]; rfl
    | non => simp [strsD] at e
    | bl => simp [strsD] at e
    | int => simp [strsD] at e
    | lst => simp [strsD] at e
    | tup => simp [strsD] at e
    | dct => simp [strsD] at e
theorem strsD_map (xs : List Str) : strsD (xs.map .str) = some xs := by
  induction xs with
  | nil => rfl
  | cons x xs ih => simp [strsD, ih]
theorem intsD_map (xs : List Int) : intsD (xs.map .int) = some xs := by
  induction xs with
  | nil => rfl
  | cons x xs ih => simp [intsD, ih]
theorem boolsD_map (xs : List Bool) : boolsD (xs.map .bool) = some xs := by
  induction xs with
  | nil => rfl
  | cons x xs ih => simp [boolsD, ih]
theorem da_strs {K : PySem.W.Frag} {G : Hp} : ∀ xs : List Str, Da K G (xs.map V.str) (xs.map .str)
  | [] => .nil
  | x :: xs => .cons (.str x) (da_strs xs)
theorem da_ints {K : PySem.W.Frag} {G : Hp} : ∀ xs : List Int, Da K G (xs.map V.int) (xs.map .int)
  | [] => .nil
  | x :: xs => .cons (.int x) (da_ints xs)
/-- sorted(x), x a dict with text keys -/
def keysS : List (PyData × PyData) → Option (List Str)
  | [] => some []
  | (.str x, _) :: r => (keysS r).map (x :: ·)
  | _ => none
theorem keysS_v {K : PySem.W.Frag} {G : Hp} : ∀ {ks : List (Key × V)} {es : List (PyData × PyData)} {xs : List Str}, Dk K G ks es → keysS es = some xs → ks.map (·.1) = xs.map Sum.inr
  | _, _, _, .nil, h => by cases h; rfl
  | _, _, xs, @Dk.cons _ _ k v ks d es h t, e => by
    cases k with
    | inl i => simp [keyD, keysS] at e
    | inr x =>
      simp only [keyD, keysS] at e
      cases q : keysS es with
      | none => rw [q] at e; cases e
      | some r =>
        rw [q] at e
        cases e
        simp only [List.map_cons, keysS_v t q]
def fSortedDk : MF := fun x k => ∃ es xs, x = .dict es ∧ keysS es = some xs ∧ xs.length < 64 ∧ ∀ ys, ys.Perm xs → PyProof.Rows.sortedS ys = true → k (.lst (ys.map .str))
theorem cs_sortedDk : CallS1 X (fun xs H Q => ∃ (a : Addr) (kvs : List (Key × V)) (ks : List Str), xs = [.ref a] ∧ Rd H a (.dK kvs) ∧ kvs.map (·.1) = ks.map Sum.inr ∧ ks.length < 64 ∧ ∀ ys p, ys.Perm ks → sortedS ys = true → H p = none → Q (.ref p) (upd H p (.lst (ys.map V.str)))) fSortedDk := fun Out io σ0 G H σ env v x k Q R d hf hq => by
  obtain ⟨es, xs, rfl, hk1, hl, hk⟩ := hf
  obtain ⟨a, ks, rfl, h1, h2⟩ := d.dict R.sub
  refine ⟨a, ks, xs, rfl, h1, keysS_v h2 hk1, hl, fun ys p hp hs hn => ?_⟩
  obtain ⟨R2, t⟩ := R.newL hn (da_strs ys)
  exact hq _ _ G _ (hk ys hp hs) R2 (Sub.refl G) t
/-- sorted(x), x a list of texts -/
def fSortedS : MF := fun x k => ∃ ds xs, x = .list ds ∧ strsD ds = some xs ∧ xs.length < 64 ∧ ∀ ys, ys.Perm xs → PyProof.Rows.sortedS ys = true → k (.lst (ys.map .str))
theorem cs_sortedS : CallS1 X (rSortedS X.K) fSortedS := fun Out io σ0 G H σ env v x k Q R d hf hq => by
  obtain ⟨ds, xs, rfl, hk1, hl, hk⟩ := hf
  obtain ⟨a, vs, rfl, h1, h2⟩ := d.list R.sub
  refine ⟨a, xs, rfl, by rw [← strs_v h2 hk1]; exact h1, hl, fun ys p hp hs hn => ?_⟩
  obtain ⟨R2, t⟩ := R.newL hn (da_strs ys)
  exact hq _ _ G _ (hk ys hp hs) R2 (Sub.refl G) t

/-! ### isinstance(x, T) -/
def tyD : PyData → String
  | .none => "NoneType" | .bool _ => "bool" | .int _ => "int" | .str _ => "str" | .list _ => "list" | .tuple _ => "tuple" | .dict _ => "dict"
theorem ty_of {K : PySem.W.Frag} {H : Hp} {v : V} {d : PyData} (h : Dd K H v d) : TyX K H v (.type (tyD d)) := by
  cases h with
  | non => exact .base .non
  | bl b => exact .base (.bl b)
  | int i => exact .base (.int i)
  | str x => exact .base (.str x)
  | lst h _ =>
    rcases h with (h | ⟨o, h⟩) | ⟨o, its, n, h, c, _⟩
    · exact .base (.lst h)
    · exact .base (.frz h)
    · exact .kList h c
  | tup h _ =>
    rcases h with (h | ⟨o, h⟩) | ⟨o, its, n, h, c, _⟩
    · exact .base (.tup h)
    · exact .fTuple h
    · exact .kTuple h c
  | dct h _ =>
    rcases h with h | ⟨o, h⟩
    · exact .base (.dK h)
    · exact .fDict h
def isT2 (T s : String) : Bool := s == T || (T == "int" && s == "bool")
def isTy (T : String) (d : PyData) : Bool := isT2 T (tyD d)
def fIsi (T : String) : MF := fun x k => k (.val (.bool (isTy T x)))
theorem se_isi {T : String} {x : Str} {e : Expr} {p p2 pos : Pos} {m : MO} (hg : Gl X "isinstance") (hm : X.mg "isinstance" = none) (hgT : Gl X x) (hmT : X.mg x = none) (hvT : bootBuiltins x = some (.type T)) (he : SO X W io e m) (hk : ∀ d, kitB (tyD d) T = some (isTy T d))
    (hv : bootBuiltins "isinstance" = some (.builtin "isinstance") := by decide +kernel) (hnT : x ≠ "__name__" := by decide) (hdT : (x == ("__debug__" : Str)) = false := by decide)
    (hs : starEach [e, .Name x p2] X.env = (false, eval e X.env) :: starEach [.Name x p2] X.env := by rfl) (hs2 : starEach [.Name x p2] X.env = (false, eval (.Name x p2) X.env) :: starEach [] X.env := by rfl) (hpl : (backTo pos (starEach [.Name x p2] X.env)).any (·.1) = false := by rfl) :
    SE X W io (.Call (.Name "isinstance" p) [e, .Name x p2] [] pos) (mUn (fIsi T) m) := by
  obtain ⟨te, pe, re⟩ := he.run
  refine ⟨tCB (rIsi X.K) (tCons te (tCons (tC (.ty T)) tNil)), pe_callB call_isi hg hm hv (pa_cons pe (pa_cons (pe_bltn hgT hmT hvT rfl hnT hdT) pa_nil hs2) hs) (by decide) (by decide) hs hpl, fun Out σ0 G H σ env xk Kd Q R x hm hq => ?_⟩
  refine re Out σ0 G H σ env xk _ _ R x hm fun o env1 v G1 H1 k R1 s1 t => ?_
  obtain ⟨d, e1, k⟩ := k
  exact ⟨v, .ty T, _, _, isTy T d, rfl, .ty T, ty_of ((opd_dx R1 t e1).dd R1.sub), kit_ty (hk d), hq _ env1 _ G1 H1 k R1 s1 (Dd.bl _)⟩
theorem tyD_mem (d : PyData) : tyD d ∈ ["NoneType", "bool", "int", "str", "list", "tuple", "dict"] := by cases d <;> simp [tyD]
theorem kit_str (d : PyData) : kitB (tyD d) "str" = some (isTy "str" d) := (by decide +kernel : ∀ s ∈ ["NoneType", "bool", "int", "str", "list", "tuple", "dict"], kitB s "str" = some (isT2 "str" s)) _ (tyD_mem d)
theorem kit_int (d : PyData) : kitB (tyD d) "int" = some (isTy "int" d) := (by decide +kernel : ∀ s ∈ ["NoneType", "bool", "int", "str", "list", "tuple", "dict"], kitB s "int" = some (isT2 "int" s)) _ (tyD_mem d)
theorem kit_bool (d : PyData) : kitB (tyD d) "bool" = some (isTy "bool" d) := (by decide +kernel : ∀ s ∈ ["NoneType", "bool", "int", "str", "list", "tuple", "dict"], kitB s "bool" = some (isT2 "bool" s)) _ (tyD_mem d)
theorem kit_tuple (d : PyData) : kitB (tyD d) "tuple" = some (isTy "tuple" d) := (by decide +kernel : ∀ s ∈ ["NoneType", "bool", "int", "str", "list", "tuple", "dict"], kitB s "tuple" = some (isT2 "tuple" s)) _ (tyD_mem d)
theorem kit_list (d : PyData) : kitB (tyD d) "list" = some (isTy "list" d) := (by decide +kernel : ∀ s ∈ ["NoneType", "bool", "int", "str", "list", "tuple", "dict"], kitB s "list" = some (isT2 "list" s)) _ (tyD_mem d)
end
end M
end
section
namespace M
open PySem PySem.Spec PyProof.Rows L2
section
variable {X : Cx} {W : WX} {io : List Nat}
/-! ### slices -/
def mNoPart : MX → DEnv → (Option Int → DEnv → Prop) → Prop := fun _ env k => k none env
def mPart (m : ME) : MX → DEnv → (Option Int → DEnv → Prop) → Prop := fun xk env k => m xk env fun c env' => ∃ i, c = .val (.int i) ∧ k (some i) env'
structure SP2 (X : Cx) (W : WX) (io : List Nat) (e : Option Expr) (m : MX → DEnv → (Option Int → DEnv → Prop) → Prop) : Prop where
  run : ∃ t, PO X e t ∧ ∀ (Out : Hp) (σ0 : L2.St) (G H : Hp) (σ : L2.St) (env : DEnv) (xk : MX) (Kd : Option Int → DEnv → Prop) (Q : Option Int → Hp → Prop), Rel X.K Out io σ0 G H σ env → XOk X.K Out io σ0 G W xk → m xk env Kd →
    (∀ o env' G' H', Kd o env' → Rel X.K Out io σ0 G' H' σ env' → Sub G G' → Q o H') → t σ H Q
theorem sp_none : SP2 X W io none mNoPart := ⟨tNoPart, po_none, fun Out σ0 G H σ env xk Kd Q R x hm hq => hq none env G H hm R (Sub.refl G)⟩
theorem sp_some {e : Expr} {m : ME} (h : SE X W io e m) : SP2 X W io (some e) (mPart m) := by
  obtain ⟨te, p, r⟩ := h.run
  refine ⟨tPart te, po_some p, fun Out σ0 G H σ env xk Kd Q R x hm hq => ?_⟩
  refine r Out σ0 G H σ env xk _ _ R x hm fun c env' v G' H' k R' s t => ?_
  obtain ⟨i, rfl, k⟩ := k
  cases Dd.vInt t
  exact ⟨i, rfl, hq (some i) env' G' H' k R' s⟩
def cutD (xs : List PyData) (lo hi : Option Int) : List PyData := (xs.drop (HT.sIx xs.length 0 lo)).take (HT.sIx xs.length xs.length hi - HT.sIx xs.length 0 lo)
theorem cut_da {K : PySem.W.Frag} {G : Hp} {vs : List V} {ds : List PyData} (h : Da K G vs ds) (lo hi : Option Int) : Da K G (cutV vs lo hi) (cutD ds lo hi) := by
  unfold cutV cutD
  rw [h.length]
  exact (h.drop _).take _
/-- what a slice asks of the content and gives -/
abbrev MSl := PyData → Option Int → Option Int → (Cell → Prop) → Prop
def SlS (X : Cx) (r : V → Option Int → Option Int → Hp → VK → Prop) (f : MSl) : Prop := ∀ (Out : Hp) (io : List Nat) (σ0 : L2.St) (G H : Hp) (σ : L2.St) (env : DEnv) (v : V) (x : PyData) (lo hi : Option Int) (k : Cell → Prop) (Q : VK), Rel X.K Out io σ0 G H σ env → Dx X.K G H v x → f x lo hi k →
  (∀ c v G' H', k c → Rel X.K Out io σ0 G' H' σ env → Sub G G' → Tmp X.K Out G' H' σ env v c → Q v H') → r v lo hi H Q
def mSl (f : MSl) (me : MO) (ml mh : MX → DEnv → (Option Int → DEnv → Prop) → Prop) : ME := fun xk env Kd => me xk env fun o env1 => ml xk env1 fun lo env2 => mh xk env2 fun hi env3 => ∃ x, o.data env3 = some x ∧ f x lo hi fun c => Kd c env3
theorem se_sl {e : Expr} {lo hi : Option Expr} {p2 pos : Pos} {r : V → Option Int → Option Int → Hp → VK → Prop} {f : MSl} {me : MO} {ml mh} (hr : SlR X r) (hf : SlS X r f) (he : SO X W io e me) (hl : SP2 X W io lo ml) (hh : SP2 X W io hi mh) : SE X W io (.Subscript e (.Slice lo hi none p2) pos) (mSl f me ml mh) := by
  obtain ⟨te, pe, re⟩ := he.run
  obtain ⟨tl, pl, rl⟩ := hl.run
  obtain ⟨th, ph, rh⟩ := hh.run
  refine ⟨tSl r te tl th, pe_slice hr pe pl ph, fun Out σ0 G H σ env xk Kd Q R x hm hq => ?_⟩
  refine re Out σ0 G H σ env xk _ _ R x hm fun o env1 v G1 H1 k R1 s1 t => ?_
  cases o with
  | slot i =>
    refine rl Out σ0 G1 H1 σ env1 xk _ _ R1 (x.mono s1) k fun lo env2 G2 H2 k2 R2 s2 => ?_
    refine rh Out σ0 G2 H2 σ env2 xk _ _ R2 (x.mono (s1.trans s2)) k2 fun hi env3 G3 H3 k3 R3 s3 => ?_
    obtain ⟨d, e1, k3⟩ := k3
    exact hf Out io σ0 G3 H3 σ env3 v d lo hi _ Q R3 (opd_dx R3 (o := .slot i) t e1) k3 fun c v2 G4 H4 k4 R4 s4 t4 => hq c env3 v2 G4 H4 k4 R4 (((s1.trans s2).trans s3).trans s4) t4
  | tmp c =>
    obtain ⟨Out', R1', ho, back⟩ := R1.hold t
    refine rl Out' σ0 G1 H1 σ env1 xk _ _ R1' (fun cls d pl env G' H' σ' R' s' p xx => x cls d pl env G' H' σ' (back R' s').1 (s1.trans s') p xx) k fun lo env2 G2 H2 k2 R2 s2 => ?_
    refine rh Out' σ0 G2 H2 σ env2 xk _ _ R2 (fun cls d pl env G' H' σ' R' s' p xx => x cls d pl env G' H' σ' (back R' (s2.trans s')).1 ((s1.trans s2).trans s') p xx) k2 fun hi env3 G3 H3 k3 R3 s3 => ?_
    obtain ⟨d, e1, k3⟩ := k3
    obtain ⟨R3', t3⟩ := back R3 (s2.trans s3)
    exact hf Out io σ0 G3 H3 σ env3 v d lo hi _ Q R3' (Tmp.dx t3 e1) k3 fun c v2 G4 H4 k4 R4 s4 t4 => hq c env3 v2 G4 H4 k4 R4 (((s1.trans s2).trans s3).trans s4) t4
def fSlL : MSl := fun x lo hi k => ∃ ds, x = .list ds ∧ k (.lst (cutD ds lo hi))
theorem ss_slL : SlS X (rSlL X.K) fSlL := fun Out io σ0 G H σ env v x lo hi k Q R d hf hq => by
  obtain ⟨ds, rfl, hk⟩ := hf
  obtain ⟨a, vs, rfl, h1, h2⟩ := d.list R.sub
  refine ⟨a, vs, rfl, h1, fun p hp => ?_⟩
  obtain ⟨R2, t⟩ := R.newL hp (cut_da h2 lo hi)
  exact hq _ _ G _ hk R2 (Sub.refl G) t
def fSlS : MSl := fun x lo hi k => ∃ z, x = .str z ∧ z.length ≤ sizeLine ∧ k (.val (.str (cutS z lo hi)))
theorem ss_slS : SlS X rSlS fSlS := fun Out io σ0 G H σ env v x lo hi k Q R d hf hq => by
  obtain ⟨z, rfl, hz, hk⟩ := hf
  exact ⟨z, d.str R.sub, hz, hq _ _ G H hk R (Sub.refl G) (Dd.str _)⟩
def fSlT : MSl := fun x lo hi k => ∃ ds, x = .tuple ds ∧ k (.val (.tuple (cutD ds lo hi)))
theorem ss_slT : SlS X (rSlA X.K) fSlT := fun Out io σ0 G H σ env v x lo hi k Q R d hf hq => by
  obtain ⟨ds, rfl, hk⟩ := hf
  cases d with
  | g d =>
    cases d with
    | tup h da =>
      rename_i a vs
      refine ⟨a, vs, rfl, sub_t R.sub h, fun z => ?_, fun _ p hp => ?_⟩
      · rw [da.length] at z
        have e : cutD ds lo hi = ds := by
          unfold cutD
          rw [z.1, z.2]
          simp
        rw [e] at hk
        exact hq _ _ G H hk R (Sub.refl G) (Dd.tup h da)
      · have ng := R.sub.free hp
        exact hq _ _ _ _ hk (R.laid hp) (Sub.new ng) (Dd.tup (.inl (.inl upd_same)) ((cut_da da lo hi).mono (Sub.new ng)))
/-! ### dicts: d[k] = v, d.get(k), d.get(k, v) -/
theorem dk_put {K : PySem.W.Frag} {G : Hp} {k : Key} {v : V} {d : PyData} (hd : Dd K G v d) : ∀ {ks : List (Key × V)} {es : List (PyData × PyData)}, Dk K G ks es → (ks.map (·.1)).Nodup → Dk K G (putK ks k v) (putD es k d)
  | _, _, .nil, _ => .cons hd .nil
  | _, _, @Dk.cons _ _ k' v' ks d' es h t, n => by
    simp only [List.map_cons, List.nodup_cons] at n
    unfold putD
    rw [keyOf_keyD]
    by_cases e : k' = k
    · subst e
      rw [if_pos rfl]
      have nk : ∀ kv ∈ ks, kv.1 ≠ k' := fun kv hm z => n.1 (List.mem_map.mpr ⟨kv, hm, z⟩)
      have e2 : putK ((k', v') :: ks) k' v = (k', v) :: ks := by
        unfold putK
        rw [if_pos (by simp)]
        simp only [List.map_cons, if_pos]
        congr 1
        refine (List.map_congr_left fun kv hm => ?_).trans (List.map_id ks)
        rw [if_neg (nk kv hm)]; rfl
      rw [e2]
      exact .cons hd t
    · rw [if_neg (fun z => e (Option.some.inj z))]
      have ih := dk_put (k := k) hd t n.2
      have e2 : putK ((k', v') :: ks) k v = (k', v') :: putK ks k v := by
        unfold putK
        simp only [List.any_cons, decide_eq_false e, Bool.false_or, List.map_cons, if_neg e, List.cons_append]
        split <;> rfl
      rw [e2]
      exact .cons h ih
/-- d[k] = v, d a dict of one's own in slot j; no key stands twice in it -/
def nodupD (es : List (PyData × PyData)) : Prop := (es.map (·.1)).Nodup
theorem keyD_inj {a b : Key} (h : keyD a = keyD b) : a = b := by cases a <;> cases b <;> cases h <;> rfl
theorem dk_keys {K : PySem.W.Frag} {G : Hp} : ∀ {ks : List (Key × V)} {es : List (PyData × PyData)}, Dk K G ks es → es.map (·.1) = ks.map fun kv => keyD kv.1
  | _, _, .nil => rfl
  | _, _, .cons h t => by simp only [List.map_cons, dk_keys t]
theorem dk_nodup {K : PySem.W.Frag} {G : Hp} {ks : List (Key × V)} {es : List (PyData × PyData)} (h : Dk K G ks es) (n : nodupD es) : (ks.map (·.1)).Nodup := by
  unfold nodupD at n
  rw [dk_keys h] at n
  have e : (ks.map fun kv => keyD kv.1) = (ks.map (·.1)).map keyD := by rw [List.map_map]; rfl
  rw [e] at n
  exact List.Pairwise.of_map keyD (fun a b h z => h (by rw [z])) n
theorem dk_len {K : PySem.W.Frag} {G : Hp} : ∀ {ks : List (Key × V)} {es : List (PyData × PyData)}, Dk K G ks es → ks.length = es.length
  | _, _, .nil => rfl
  | _, _, .cons h t => congrArg (· + 1) (dk_len t)
def mDPut (j : Nat) (mk : MO) (mv : ME) : MS := fun xk D env => mv xk env fun c env1 => ∃ d, c.data = some d ∧ (∃ es, env1[j]? = some (.dct es)) ∧ mk xk env1 fun o env2 => ∃ es x q, env2[j]? = some (.dct es) ∧ o.data env2 = some x ∧ keyOf x = some q ∧ nodupD es ∧ es.length < sizeLine ∧ D.nx (env2.set j (.dct (putD es q d)))
theorem ss_dput (j : Nat) {y : Str} {p2 pos pos' : Pos} {i value : Expr} {mk : MO} {mv : ME} (hu : X.A.units + 1 < cLine) (hy : PE X (.Name y p2) (tVar j)) (hi : SO X W io i mk) (hv : SE X W io value mv) (hs : swapsWith value (some (.Subscript (.Name y p2) i pos')) pos.line X.env = pure false := by rfl) :
    SS X W io (.Assign [.Subscript (.Name y p2) i pos'] value pos) (mDPut j mk mv) := by
  obtain ⟨ti, pi, ri⟩ := hi.run
  obtain ⟨tv, pv, rv⟩ := hv.run
  refine ⟨sDPut (tVar j) ti tv, ps_dput hu hy pi pv hs, fun Out σ0 G H σ env xk D Dh R x e hm => ?_⟩
  refine rv Out σ0 G H σ env xk _ _ R x hm fun c env1 v G1 H1 k R1 s1 t => ?_
  obtain ⟨d, e1, ⟨es0, hj0⟩, k⟩ := k
  obtain ⟨G2, R2, s2, dd⟩ := R1.freeze t e1
  obtain ⟨vd, hs0, _⟩ := R2.lookX hj0 rfl
  refine ⟨vd, hs0, ?_⟩
  refine ri Out σ0 G2 H1 σ env1 xk _ _ R2 (x.mono (s1.trans s2)) k fun o env2 vk G3 H3 k3 R3 s3 t3 => ?_
  obtain ⟨es, xk2, q, hj, e2, hq, nd, sz, k3⟩ := k3
  have kc := R3.cell j
  rw [hj] at kc
  obtain ⟨a, ks, hsl, h1, h2, h3, h4⟩ := kc
  rw [hs0] at hsl
  cases hsl
  obtain ⟨ek, _⟩ := keyOf_v R3.sub (opd_dx R3 t3 e2) hq
  refine ⟨a, upd H3 a (.dK (putK ks q v)), rfl, .inl ⟨ks, q, h1, ek, by rw [dk_len h4]; exact sz, rfl⟩, ?_⟩
  have dp := dk_put (k := q) (dd.mono s3) h4 (dk_nodup h4 nd)
  exact e.nx _ G3 _ σ (R3.writeD hj hs0 dp) ((s1.trans s2).trans s3) k3
/-- o.get(k): o is looked at ahead of k -/
def mGet1 (mo me : MO) : ME := fun xk env Kd => mo xk env fun o env1 => (∃ es, o.data env1 = some (.dict es)) ∧ me xk env1 fun o2 env2 => ∃ es y q, o.data env2 = some (.dict es) ∧ o2.data env2 = some y ∧ keyOf y = some q ∧ Kd (.val ((getK es q).getD .none)) env2
theorem get_dd {K : PySem.W.Frag} {G : Hp} {ks : List (Key × V)} {es : List (PyData × PyData)} {q : Key} {z : V} {dz : PyData} (dk : Dk K G ks es) (hz : Dd K G z dz) : Dd K G ((valV ks q).getD z) ((getK es q).getD dz) := by
  have g := dk_get (k := q) dk
  cases e : getK es q with
  | none =>
    rw [e] at g
    have g : valV ks q = none := g
    rw [g]; exact hz
  | some d =>
    rw [e] at g
    obtain ⟨v, g, dv⟩ := g
    rw [g]; exact dv
theorem isD_of {K : PySem.W.Frag} {G H : Hp} (s : Sub G H) {v : V} {es : List (PyData × PyData)} (d : Dx K G H v (.dict es)) : ∃ a, v = .ref a ∧ IsD H a := by
  obtain ⟨a, ks, e, h, _⟩ := d.dict s
  exact ⟨a, e, .inl ⟨ks, h⟩⟩
theorem se_get1 {o e : Expr} {apos cpos : Pos} {mo me : MO} (hu : X.A.units + 1 < cLine) (ho : SO X W io o mo) (he : SO X W io e me) (m : M1 X o "get" apos e cpos) : SE X W io (.Call (.Attribute o "get" apos) [e] [] cpos) (mGet1 mo me) := by
  obtain ⟨ta, pa, ra⟩ := ho.run
  obtain ⟨tb, pb, rb⟩ := he.run
  refine ⟨tDGet1 ta tb, pe_dget1 hu pa pb m, fun Out σ0 G H σ env xk Kd Q R x hm hq => ?_⟩
  refine ra Out σ0 G H σ env xk _ _ R x hm fun o1 env1 v1 G1 H1 k1 R1 s1 t1 => ?_
  obtain ⟨⟨es0, e0⟩, k1⟩ := k1
  obtain ⟨a, rfl, isd⟩ := isD_of R1.sub (opd_dx R1 t1 e0)
  refine ⟨a, rfl, isd, ?_⟩
  have fin : ∀ {env2 : DEnv} {v2 : V} {G2 H2 : Hp} {o2 : Opd}, Rel X.K Out io σ0 G2 H2 σ env2 → Sub G G2 → TmpO X.K Out G2 H2 σ env2 (.ref a) o1 → TmpO X.K Out G2 H2 σ env2 v2 o2 → (∃ es y q, o1.data env2 = some (.dict es) ∧ o2.data env2 = some y ∧ keyOf y = some q ∧ Kd (.val ((getK es q).getD .none)) env2) → ∃ o, DGet H2 a v2 o ∧ Q (o.getD .non) H2 := fun {env2 v2 G2 H2 o2} R2 s2 t1 t2 hk => by
    obtain ⟨es, y, q, d1, d2, hy, hk⟩ := hk
    obtain ⟨b, ks, eb, h2, dk⟩ := (opd_dx R2 t1 d1).dict R2.sub
    cases eb
    obtain ⟨e1, _⟩ := keyOf_v R2.sub (opd_dx R2 t2 d2) hy
    exact ⟨valV ks q, .inl ⟨ks, q, h2, e1, rfl⟩, hq (.val _) env2 _ G2 H2 hk R2 s2 (get_dd dk Dd.non)⟩
  cases o1 with
  | slot i => exact rb Out σ0 G1 H1 σ env1 xk _ _ R1 (x.mono s1) k1 fun o2 env2 v2 G2 H2 k2 R2 s2 t2 => fin R2 (s1.trans s2) t1 t2 k2
  | tmp c =>
    obtain ⟨Out', R1', _, back⟩ := R1.hold t1
    refine rb Out' σ0 G1 H1 σ env1 xk _ _ R1' (fun cls d pl env G' H' σ' R' s' p xx => x cls d pl env G' H' σ' (back R' s').1 (s1.trans s') p xx) k1 fun o2 env2 v2 G2 H2 k2 R2 s2 t2 => ?_
    obtain ⟨q1, q2⟩ := back R2 s2
    refine fin q1 (s1.trans s2) q2 (o2 := o2) ?_ k2
    cases o2 with
    | slot j => exact t2
    | tmp c2 =>
      cases c2 with
      | no => trivial
      | val d => exact t2
      | exc cl pl => exact t2
      | adr ad => exact t2
      | lst ds =>
        obtain ⟨b, vs, z1, z2, z3, z4, z5, z6⟩ := t2
        refine ⟨b, vs, z1, z2, z3, ?_, z5, z6⟩
        cases eo : Out b with
        | none => rfl
        | some oo => exact absurd z4 (by rw [‹∀ a, Out a ≠ none → Out' a = Out a› b (by rw [eo]; intro z; cases z), eo]; intro z; cases z)
      | dct ds =>
        obtain ⟨b, vs, z1, z2, z3, z4, z5, z6⟩ := t2
        refine ⟨b, vs, z1, z2, z3, ?_, z5, z6⟩
        cases eo : Out b with
        | none => rfl
        | some oo => exact absurd z4 (by rw [‹∀ a, Out a ≠ none → Out' a = Out a› b (by rw [eo]; intro z; cases z), eo]; intro z; cases z)
/-- d.get(k, c), d a slot, c a constant -/
def mGet2 (j : Nat) (me : MO) (dz : PyData) : ME := fun xk env Kd => (∃ c es, env[j]? = some c ∧ c.data = some (.dict es)) ∧ me xk env fun o2 env2 => ∃ c es y q, env2[j]? = some c ∧ c.data = some (.dict es) ∧ o2.data env2 = some y ∧ keyOf y = some q ∧ Kd (.val ((getK es q).getD dz)) env2
theorem se_get2 (j : Nat) {y : Str} {p2 apos cpos : Pos} {e f : Expr} {me : MO} {z : V} {dz : PyData} (hu : X.A.units + 1 < cLine) (hy : PE X (.Name y p2) (tVar j)) (he : SO X W io e me) (hf : PE X f (tC z)) (hz : ∀ G, Dd X.K G z dz) (m : M2 X (.Name y p2) "get" apos e f cpos) :
    SE X W io (.Call (.Attribute (.Name y p2) "get" apos) [e, f] [] cpos) (mGet2 j me dz) := by
  obtain ⟨tb, pb, rb⟩ := he.run
  refine ⟨tDGet2 (tVar j) tb (tC z), pe_dget2 hu hy pb hf m, fun Out σ0 G H σ env xk Kd Q R x hm hq => ?_⟩
  obtain ⟨⟨c0, es0, j0, e0⟩, hm⟩ := hm
  obtain ⟨v0, hs0, dx0⟩ := R.lookX j0 e0
  obtain ⟨a, rfl, isd⟩ := isD_of R.sub dx0
  refine ⟨.ref a, hs0, a, rfl, isd, ?_⟩
  refine rb Out σ0 G H σ env xk _ _ R x hm fun o2 env2 v2 G2 H2 k2 R2 s2 t2 => ?_
  obtain ⟨c, es, y, q, h1, h2, h3, h4, hk⟩ := k2
  obtain ⟨v1, hs1, dx1⟩ := R2.lookX h1 h2
  rw [hs0] at hs1
  cases hs1
  obtain ⟨b, ks, eb, hr, dk⟩ := dx1.dict R2.sub
  cases eb
  obtain ⟨e1, _⟩ := keyOf_v R2.sub (opd_dx R2 t2 h3) h4
  exact ⟨valV ks q, .inl ⟨ks, q, hr, e1, rfl⟩, hq (.val _) env2 _ G2 H2 hk R2 s2 (get_dd dk (hz G2))⟩

/-! ### methods of a list of one's own in slot j -/
def mAppend (j : Nat) (me : ME) : MS := fun xk D env => (∃ ds, env[j]? = some (.lst ds)) ∧ me xk env fun c env1 => ∃ d ds, c.data = some d ∧ env1[j]? = some (.lst ds) ∧ ds.length < sizeLine ∧ D.nx (env1.set j (.lst (ds ++ [d])))
theorem ss_append (j : Nat) {y : Str} {p2 apos cpos pos : Pos} {e : Expr} {me : ME} (hy : PE X (.Name y p2) (tVar j)) (he : SE X W io e me)
    (mk : ∀ te, PE X e te → PS X (.Expr (.Call (.Attribute (.Name y p2) "append" apos) [e] [] cpos) pos) (tDrop (tBM X.K "list" rAppend (tVar j) (tCons te tNil)))) : SS X W io (.Expr (.Call (.Attribute (.Name y p2) "append" apos) [e] [] cpos) pos) (mAppend j me) := by
  obtain ⟨te, pe, re⟩ := he.run
  refine ⟨_, mk te pe, fun Out σ0 G H σ env xk D Dh R x e hm => ?_⟩
  obtain ⟨⟨ds0, j0⟩, hm⟩ := hm
  have kc0 := R.cell j
  rw [j0] at kc0
  obtain ⟨a, ws0, hs0, h0, _⟩ := kc0
  refine ⟨.ref a, hs0, .inl ⟨rfl, ws0, .inl (.inl h0)⟩, ?_⟩
  refine re Out σ0 G H σ env xk _ _ R x hm fun c env1 v G1 H1 k R1 s1 t => ?_
  obtain ⟨d, ds, e1, hj, sz, k⟩ := k
  obtain ⟨G2, R2, s2, dd⟩ := R1.freeze t e1
  have kc := R2.cell j
  rw [hj] at kc
  obtain ⟨b, ws, hs1, h1, _, _, h4⟩ := kc
  rw [hs0] at hs1
  cases hs1
  refine ⟨a, ws, v, rfl, rfl, h1, by rw [h4.length]; exact sz, ?_⟩
  exact e.nx _ G2 _ σ (R2.writeL hj hs0 (h4.append (Da.one dd))) (s1.trans s2) k
def mExtend (j : Nat) (me : ME) : MS := fun xk D env => (∃ ds, env[j]? = some (.lst ds)) ∧ me xk env fun c env1 => ∃ bs ds, c = .lst bs ∧ env1[j]? = some (.lst ds) ∧ ds.length + bs.length ≤ sizeLine ∧ D.nx (env1.set j (.lst (ds ++ bs)))
theorem ss_extend (j : Nat) {y : Str} {p2 apos cpos pos : Pos} {e : Expr} {me : ME} (hy : PE X (.Name y p2) (tVar j)) (he : SE X W io e me)
    (mk : ∀ te, PE X e te → PS X (.Expr (.Call (.Attribute (.Name y p2) "extend" apos) [e] [] cpos) pos) (tDrop (tBM X.K "list" rExtend (tVar j) (tCons te tNil)))) : SS X W io (.Expr (.Call (.Attribute (.Name y p2) "extend" apos) [e] [] cpos) pos) (mExtend j me) := by
  obtain ⟨te, pe, re⟩ := he.run
  refine ⟨_, mk te pe, fun Out σ0 G H σ env xk D Dh R x e hm => ?_⟩
  obtain ⟨⟨ds0, j0⟩, hm⟩ := hm
  have kc0 := R.cell j
  rw [j0] at kc0
  obtain ⟨a, ws0, hs0, h0, _⟩ := kc0
  refine ⟨.ref a, hs0, .inl ⟨rfl, ws0, .inl (.inl h0)⟩, ?_⟩
  refine re Out σ0 G H σ env xk _ _ R x hm fun c env1 v G1 H1 k R1 s1 t => ?_
  obtain ⟨bs, ds, rfl, hj, sz, k⟩ := k
  obtain ⟨b, us, rfl, g1, g2, g3, g4, g5⟩ := t
  have kc := R1.cell j
  rw [hj] at kc
  obtain ⟨b', ws, hs1, h1, _, _, h4⟩ := kc
  rw [hs0] at hs1
  cases hs1
  refine ⟨a, b, ws, us, rfl, rfl, h1, g1, by rw [h4.length, g5.length]; exact sz, ?_⟩
  exact e.nx _ G1 _ σ (R1.writeL hj hs0 (h4.append g5)) s1 k
/-- x.pop(i) -/
def mPopAt (j : Nat) (me : ME) : ME := fun xk env Kd => (∃ ds, env[j]? = some (.lst ds)) ∧ me xk env fun c env1 => ∃ (i : Nat) (ds : List PyData) (d : PyData), c = .val (.int (i : Int)) ∧ env1[j]? = some (.lst ds) ∧ ds.length ≤ sizeLine ∧ ds[i]? = some d ∧ Kd (.val d) (env1.set j (.lst (ds.eraseIdx i)))
theorem Da.eraseIdx {K : PySem.W.Frag} {G : Hp} : ∀ {vs : List V} {ds : List PyData} (n : Nat), Da K G vs ds → Da K G (vs.eraseIdx n) (ds.eraseIdx n)
  | _, _, _, .nil => .nil
  | _, _, 0, .cons _ t => t
  | _, _, n + 1, .cons r t => .cons r (Da.eraseIdx n t)
theorem se_popAt (j : Nat) {y : Str} {p2 apos cpos : Pos} {e : Expr} {me : ME} (hy : PE X (.Name y p2) (tVar j)) (he : SE X W io e me)
    (mk : ∀ te, PE X e te → PE X (.Call (.Attribute (.Name y p2) "pop" apos) [e] [] cpos) (tBM X.K "list" rPopAt (tVar j) (tCons te tNil))) : SE X W io (.Call (.Attribute (.Name y p2) "pop" apos) [e] [] cpos) (mPopAt j me) := by
  obtain ⟨te, pe, re⟩ := he.run
  refine ⟨_, mk te pe, fun Out σ0 G H σ env xk Kd Q R x hm hq => ?_⟩
  obtain ⟨⟨ds0, j0⟩, hm⟩ := hm
  have kc0 := R.cell j
  rw [j0] at kc0
  obtain ⟨a, ws0, hs0, h0, _⟩ := kc0
  refine ⟨.ref a, hs0, .inl ⟨rfl, ws0, .inl (.inl h0)⟩, ?_⟩
  refine re Out σ0 G H σ env xk _ _ R x hm fun c env1 v G1 H1 k R1 s1 t => ?_
  obtain ⟨i, ds, d, rfl, hj, sz, hi, k⟩ := k
  cases Dd.vInt t
  have kc := R1.cell j
  rw [hj] at kc
  obtain ⟨b, ws, hs1, h1, _, _, h4⟩ := kc
  rw [hs0] at hs1
  cases hs1
  obtain ⟨w, hw, dw⟩ := h4.get hi
  have hlt : i < ws.length := (List.getElem?_eq_some_iff.mp hw).1
  have hl2 := h4.length
  have big : (sizeLine : Nat) ≤ 2 ^ 62 := by decide
  refine ⟨a, ws, (i : Int), i, w, rfl, rfl, h1, by omega, by omega, ?_, hw, ?_⟩
  · unfold seqIndex?
    have n0 : ¬ ((i : Int) < 0) := by omega
    have l0 : (i : Int) < (ws.length : Int) := by omega
    simp [n0, l0]
  · exact hq (.val d) _ w G1 _ k (R1.writeL hj hs0 (h4.eraseIdx i)) s1 dw
end
end M
end
section
namespace M
open PySem PySem.Spec PyProof.Rows L2
open PySem.W (EachIs AllAlike Sortable dataLe dataLt alike)
/-! ### sorted of any data -/
section
variable {X : Cx} {W : WX} {io : List Nat}
/-- the items in order, each with its value -/
def sortP (ps : List (PyData × V)) : List (PyData × V) := ps.mergeSort (dataLe false (·.1))
def rSortedDt (K : PySem.W.Frag) : List V → Hp → VK → Prop := fun vs H Q => ∃ (a : Addr) (ps : List (PyData × V)), vs = [V.ref a] ∧ SqL K H a (ps.map (·.2)) ∧ DpAll K H (ps.map (·.2)) (ps.map (·.1)) ∧ AllAlike (ps.map (·.1)) ∧ Sortable (ps.map (·.1)) ∧ ps.length ≤ sizeLine ∧ (∀ p ∈ ps, p.1.depth ≤ 60) ∧
  ∀ p, H p = none → Q (.ref p) (upd H p (.lst ((sortP ps).map (·.2))))
theorem each_rel {vs : List Value} : ∀ {ps : List (PyData × V)} {us : List Value}, Vals (ps.map (·.2)) us → EachIs (fun v (b : PyData × V) => RelV b.2 v) us ps
  | [], [], .nil => .nil
  | p :: ps, u :: us, .cons r t => .cons r (each_rel (vs := vs) t)
theorem rel_each {us : List Value} {ps : List (PyData × V)} (h : EachIs (fun v (b : PyData × V) => RelV b.2 v) us ps) : Vals (ps.map (·.2)) us := by
  induction h with
  | nil => exact .nil
  | cons r _ ih => exact .cons r ih
theorem each_reads {pins : List (Addr × Obj)} {σ : L2.St} {H : Hp} {s : Shared} (I : Inv X pins σ H s) : ∀ {ps : List (PyData × V)} {us : List Value}, DpAll X.K H (ps.map (·.2)) (ps.map (·.1)) → Vals (ps.map (·.2)) us → EachIs (fun v (b : PyData × V) => ∃ as, Reads s.heap v b.1 as) us ps
  | [], [], _, _ => .nil
  | p :: ps, u :: us, .cons d ds, .cons r t => .cons (Dp.reads I p.1 p.2 u d r) (each_reads I ds t)
theorem cr_sortedDt (hu : X.A.units + 65 < cLine) : CallR X (.builtin "sorted") (rSortedDt X.K) := by
  intro pins s σ H vs us Q I r h
  obtain ⟨a, ps, rfl, hs, hd, hal, hso, hl, hdep, q⟩ := h
  obtain ⟨its, rv, hpl, _⟩ := I.list hs
  rw [Vals.ref1 r]
  refine PySem.W.sorted_data hpl.isList (each_rel (vs := its) rv) (each_reads I hd rv) hal hso hl (fun b hb => by have := hdep b hb; omega) fun out ho he => ?_
  obtain ⟨ep, he'⟩ := PyProof.Rows.sortedAll_at s.heap its out.toArray
  have rv2 := rel_each he
  have hl2 : (sortP ps).length = ps.length := List.length_mergeSort ps
  refine ⟨.ref _, upd H (s.heap.objs.size + 1) (.lst ((sortP ps).map (·.2))), I.laid (t' := s.toks) (fun _ _ => PyProof.Rows.sortedAll_old) (Nat.le_succ _) ⟨by rw [List.length_map, hl2]; exact hl, out, ep, rv2, he'⟩, rfl, q _ (I.hok.fresh (Nat.le_succ _))⟩
/-- sorted(x), x a list of data that compare -/
def sortD (ds : List PyData) : List PyData := ds.mergeSort (dataLe false id)
def fSorted : MF := fun x k => ∃ ds, x = .list ds ∧ PyData.hasDictAll ds = false ∧ AllAlike ds ∧ Sortable ds ∧ ds.length ≤ sizeLine ∧ (∀ d ∈ ds, d.depth ≤ 60) ∧ k (.lst (sortD ds))
theorem zip_fst : ∀ {vs : List V} {ds : List PyData}, vs.length = ds.length → (ds.zip vs).map (·.1) = ds ∧ (ds.zip vs).map (·.2) = vs
  | [], [], _ => ⟨rfl, rfl⟩
  | v :: vs, d :: ds, h => by
    obtain ⟨a, b⟩ := zip_fst (vs := vs) (ds := ds) (by simpa using h)
    exact ⟨by rw [List.zip_cons_cons, List.map_cons, a], by rw [List.zip_cons_cons, List.map_cons, b]⟩
theorem da_each {K : PySem.W.Frag} {G : Hp} : ∀ {ps : List (PyData × V)}, Da K G (ps.map (·.2)) (ps.map (·.1)) → ∀ p ∈ ps, Dd K G p.2 p.1
  | [], _, _, h => by cases h
  | p :: ps, .cons d t, q, h => by
    rcases List.mem_cons.mp h with rfl | h
    · exact d
    · exact da_each t q h
theorem da_of_each {K : PySem.W.Frag} {G : Hp} : ∀ {ps : List (PyData × V)}, (∀ p ∈ ps, Dd K G p.2 p.1) → Da K G (ps.map (·.2)) (ps.map (·.1))
  | [], _ => .nil
  | p :: ps, h => .cons (h p List.mem_cons_self) (da_of_each fun q hq => h q (List.mem_cons_of_mem _ hq))
theorem cs_sorted : CallS1 X (rSortedDt X.K) fSorted := fun Out io σ0 G H σ env v x k Q R d hf hq => by
  obtain ⟨ds, rfl, hnd, hal, hso, hl, hdep, hk⟩ := hf
  obtain ⟨a, vs, rfl, h1, h2⟩ := d.list R.sub
  obtain ⟨z1, z2⟩ := zip_fst h2.length
  have hlen : (ds.zip vs).length = ds.length := by rw [List.length_zip, h2.length]; exact Nat.min_self _
  refine ⟨a, ds.zip vs, rfl, by rw [z2]; exact h1, by rw [z1, z2]; exact (h2.mono R.sub).dp hnd, by rw [z1]; exact hal, by rw [z1]; exact hso, by rw [hlen]; exact hl, fun p hp => hdep p.1 (by rw [← z1]; exact List.mem_map.mpr ⟨p, hp, rfl⟩), fun p hn => ?_⟩
  have e1 : (sortP (ds.zip vs)).map (·.1) = sortD ds := by
    unfold sortP sortD
    rw [List.map_mergeSort (f := fun (p : PyData × V) => p.1) (r := dataLe false fun (p : PyData × V) => p.1) (s := dataLe false id) (fun _ _ _ _ => rfl), z1]
  have da : Da X.K G ((sortP (ds.zip vs)).map (·.2)) (sortD ds) := by
    rw [← e1]
    refine da_of_each fun p hp => ?_
    have hp' : p ∈ ds.zip vs := (List.mergeSort_perm _ _).mem_iff.mp hp
    exact da_each (by rw [z1, z2]; exact h2) p hp'
  obtain ⟨R2, t⟩ := R.newL hn da
  exact hq _ _ G _ hk R2 (Sub.refl G) t
end
end M
end
section
namespace M
open PySem PySem.Spec PyProof.Rows L2
open PySem.W (minD AlikeAll readsAll_at reads_keeps min_list_default)
section
variable {X : Cx} {W : WX} {io : List Nat}
/-! ### < of data that are alike -/
def rLtDt (K : PySem.W.Frag) : R2 := fun x y H Q => ∃ d e, Dp K H x d ∧ Dp K H y e ∧ PySem.W.alike d e = true ∧ d ≠ .none ∧ d.depth ≤ 60 ∧ Q (.bl (PySem.W.dataLt d e)) H
theorem op_ltDt (hu : X.A.units + 65 < cLine) : OpR X (compareOp .Lt) (rLtDt X.K) := by
  intro pins s σ H x y v u Q I rx ry h
  obtain ⟨d, e, hd, he, ha, hn, hdep, q⟩ := h
  obtain ⟨as, r1⟩ := Dp.reads I d x v hd rx
  obtain ⟨bs, r2⟩ := Dp.reads I e y u he ry
  exact PySem.W.lt_data r1 r2 ha hn (by omega) ⟨.bl _, H, I, rfl, q⟩
def fLtD : MF2 := fun x y k => PyData.hasDict x = false ∧ PyData.hasDict y = false ∧ PySem.W.alike x y = true ∧ x ≠ .none ∧ x.depth ≤ 60 ∧ k (.val (.bool (PySem.W.dataLt x y)))
theorem os_ltD : OpS X (rLtDt X.K) fLtD := fun Out io σ0 G H σ env v1 v2 x y k Q R d1 d2 hf hq => by
  obtain ⟨h1, h2, h3, h4, h5, hk⟩ := hf
  exact ⟨x, y, (d1.dd R.sub).dp h1, (d2.dd R.sub).dp h2, h3, h4, h5, hq _ _ G H hk R (Sub.refl G) (Dd.bl _)⟩
/-! ### min(x, default=c) of a list of data -/
def rMinDf (K : PySem.W.Frag) : List V → List V → Hp → VK → Prop := fun vs zs H Q => ∃ (a : Addr) (xs : List V) (ds : List PyData) (z : V), vs = [.ref a] ∧ zs = [z] ∧ SqL K H a xs ∧ DpAll K H xs ds ∧ AlikeAll ds ∧ PyData.depthAll ds ≤ 60 ∧
  (ds = [] → Q z H) ∧ ∀ (y : PyData) (ys : List PyData) (i : Nat) v, ds = y :: ys → xs[i]? = some v → ds[i]? = some (minD y ys) → Q v H
theorem minD_mem (y : PyData) : ∀ ys : List PyData, minD y ys ∈ y :: ys := fun ys => by
  unfold minD
  induction ys generalizing y with
  | nil => exact List.mem_cons_self
  | cons z r ih =>
    rw [List.foldl_cons]
    by_cases h : PySem.W.dataLt z y = true
    · rw [if_pos h]
      exact List.mem_cons_of_mem _ (ih z)
    · rw [if_neg h]
      rcases List.mem_cons.mp (ih y) with e | e
      · rw [e]; exact List.mem_cons_self
      · exact List.mem_cons_of_mem _ (List.mem_cons_of_mem _ e)
theorem cr_minDf (hc : X.calm = true) (hu : X.A.units + 65 < cLine) : CallRK X (.builtin "min") [("default" : Str)] (rMinDf X.K) := by
  intro pins s σ H vs zs us ws Q I r rz h
  obtain ⟨a, xs, ds, z, rfl, rfl, hs, hd, hal, hdep, q0, q1⟩ := h
  obtain ⟨its, rv, hpl, _⟩ := I.list hs
  rw [Vals.ref1 r]
  cases rz with
  | cons rz rn =>
    cases rn
    rename_i wz
    obtain ⟨as, ra⟩ := Dp.readsAll I ds xs its hd rv
    show wpAny _ _ (call (.builtin "min") [.ref a] [(("default" : Str), wz)]) _ _ _
    refine min_list_default (I.ok.hd hc) hpl.isList (by simpa using ra) hal (by omega) (fun e h' tk k => ?_) fun y ys i v h' tk bs e hi hr k => ?_
    · exact ⟨z, H, I.kept (t' := tk) k, rz, q0 e⟩
    · have hi' : its[i]? = some v := by simpa using hi
      have hlt : i < its.length := (List.getElem?_eq_some_iff.mp hi').1
      have hx : i < xs.length := by rw [rv.length]; exact hlt
      obtain ⟨bs2, r2, hlen, hmem, _⟩ := readsAll_at ra i v hi'
      have hgd : ds[i]? = some (ds.getD i .none) := by
        rw [List.getD_eq_getElem?_getD, List.getElem?_eq_getElem hlen]; rfl
      have e1 : ds.getD i .none = minD y ys := PySem.W.alike_unique _ _ v _ _ (hal.1 _ hmem _ (by rw [e]; exact minD_mem y ys)) (reads_keeps k r2) hr
      rw [e1] at hgd
      have hxv : xs[i]? = some xs[i] := List.getElem?_eq_getElem hx
      obtain ⟨u2, hu2, ru2⟩ := rv.get hxv
      rw [hi'] at hu2
      cases hu2
      exact ⟨xs[i], H, I.kept (t' := tk) k, ru2, q1 y ys i xs[i] e hxv hgd⟩
def mMinDf (m : MO) (dz : PyData) : ME := fun xk env Kd => m xk env fun o env' => ∃ ds, o.data env' = some (.list ds) ∧ PyData.hasDictAll ds = false ∧ AlikeAll ds ∧ PyData.depthAll ds ≤ 60 ∧ Kd (.val (match ds with | [] => dz | y :: ys => minD y ys)) env'
theorem se_minDf {e : Expr} {f : Expr} {p pos kpos : Pos} {m : MO} {z : V} {dz : PyData} (hc : X.calm = true) (hu : X.A.units + 65 < cLine) (hg : Gl X "min") (hm : X.mg "min" = none) (he : SO X W io e m) (hf : PE X f (tC z)) (hz : ∀ G, Dd X.K G z dz)
    (mk : ∀ te, PE X e te → PE X (.Call (.Name "min" p) [e] [⟨some "default", f, kpos⟩] pos) (tCKw (rMinDf X.K) (tCons te tNil) (tCons (tC z) tNil))) : SE X W io (.Call (.Name "min" p) [e] [⟨some "default", f, kpos⟩] pos) (mMinDf m dz) := by
  obtain ⟨te, pe, re⟩ := he.run
  refine ⟨_, mk te pe, fun Out σ0 G H σ env xk Kd Q R x hm hq => ?_⟩
  refine re Out σ0 G H σ env xk _ _ R x hm fun o env1 v G1 H1 k R1 s1 t => ?_
  obtain ⟨ds, e1, hnd, hal, hdep, hk⟩ := k
  have dx := opd_dx R1 t e1
  obtain ⟨a, vs, rfl, h1, h2⟩ := dx.list R1.sub
  refine ⟨a, vs, ds, z, rfl, rfl, h1, (h2.mono R1.sub).dp hnd, hal, hdep, fun e0 => ?_, fun y ys i v e0 hi hd => ?_⟩
  · subst e0
    exact hq (.val dz) env1 z G1 H1 hk R1 s1 (hz G1)
  · subst e0
    obtain ⟨w, hw, dw⟩ := h2.get hd
    rw [hi] at hw
    cases hw
    exact hq (.val _) env1 v G1 H1 hk R1 s1 dw
/-! ### repr, where no repr is under way -/
def rRepr (K : PySem.W.Frag) : List V → Hp → VK → Prop := fun vs H Q => ∃ x d, vs = [x] ∧ Dp K H x d ∧ PyData.hasDict d = false ∧ d.showable = true ∧ d.depth ≤ 60 ∧ d.shown.length ≤ sizeLine ∧ Q (.str d.shown) H
theorem cr_repr (hgd : X.A.guards = some []) (hu : X.A.units + 65 < cLine) : CallR X (.builtin "repr") (rRepr X.K) := by
  intro pins s σ H vs us Q I r h
  obtain ⟨x, d, rfl, hd, hnd, hs, hdep, hsz, q⟩ := h
  obtain ⟨u, rfl, ru⟩ := vals1 r
  obtain ⟨as, ra⟩ := Dp.reads I d x u hd ru
  cases hd with
  | non =>
    cases (show u = Value.none from ru)
    exact PySem.P.repr_of_none ⟨.str _, H, I.tok _, ⟨_, rfl⟩, by rw [PyData.shown_none] at q; exact q⟩
  | bl b =>
    cases (show u = Value.bool b from ru)
    exact PySem.P.repr_of_bool ⟨.str _, H, I.tok _, ⟨_, rfl⟩, by rw [PyData.shown_bool] at q; exact q⟩
  | int i =>
    obtain ⟨t, rfl⟩ := (show ∃ t, u = Value.int i t from ru)
    refine PySem.P.repr_of_int (by simpa [PyData.showable] using hs) ⟨.str _, H, I.tok _, ⟨_, rfl⟩, by rw [PyData.shown_int] at q; exact q⟩
  | str y =>
    obtain ⟨t, rfl⟩ := (show ∃ t, u = Value.str y t from ru)
    exact PySem.P.repr_of_str ⟨.str _, H, I.tok _, ⟨_, rfl⟩, by rw [PyData.shown_str] at q; exact q⟩ (by rw [PyData.shown_str] at hsz; exact hsz)
  | lst h1 h2 =>
    cases (show u = Value.ref _ from ru)
    exact repr_of_reads' ra hs (fun z => by rw [hnd] at z; cases z) hgd (by omega) (fun _ _ h => h) (fun h' u tk k => ⟨.str _, H, I.kept (t' := tk) k, ⟨u, rfl⟩, q⟩) hsz
  | tup h1 h2 =>
    cases (show u = Value.ref _ from ru)
    exact repr_of_reads' ra hs (fun z => by rw [hnd] at z; cases z) hgd (by omega) (fun _ _ h => h) (fun h' u tk k => ⟨.str _, H, I.kept (t' := tk) k, ⟨u, rfl⟩, q⟩) hsz
def fRepr : MF := fun x k => PyData.hasDict x = false ∧ x.showable = true ∧ x.depth ≤ 60 ∧ x.shown.length ≤ sizeLine ∧ k (.val (.str x.shown))
theorem cs_repr : CallS1 X (rRepr X.K) fRepr := fun Out io σ0 G H σ env v x k Q R d hf hq => by
  obtain ⟨h1, h2, h3, h4, hk⟩ := hf
  exact ⟨v, x, rfl, (d.dd R.sub).dp h1, h1, h2, h3, h4, hq _ _ G H hk R (Sub.refl G) (Dd.str _)⟩
end
end M
end
section
namespace M
open PySem PySem.Spec PyProof.Rows L2
section
variable {X : Cx} {W : WX} {io : List Nat}
theorem ss_doc {x j pos pos'} : SS X W io (.Expr (.Constant (.str x) j pos) pos') mNext := ⟨tNext, ps_doc, fun Out σ0 G H σ env xk D Dh R x e hm => e.nx env G H σ R (Sub.refl G) hm⟩
/-! ### x[i] = v, a list of one's own -/
def mLPut (j : Nat) (mk : MO) (mv : ME) : MS := fun xk D env => mv xk env fun c env1 => ∃ d, c.data = some d ∧ (∃ ds, env1[j]? = some (.lst ds)) ∧ mk xk env1 fun o env2 => ∃ ds i n, env2[j]? = some (.lst ds) ∧ o.data env2 = some (.int i) ∧ ixN ds.length i = some n ∧ D.nx (env2.set j (.lst (ds.set n d)))
theorem ss_lput (j : Nat) {y : Str} {p2 pos pos' : Pos} {i value : Expr} {mk : MO} {mv : ME} (hy : PE X (.Name y p2) (tVar j)) (hi : SO X W io i mk) (hv : SE X W io value mv)
    (mkp : ∀ te g, PE X value te → PG X (.Subscript (.Name y p2) i pos') g → PS X (.Assign [.Subscript (.Name y p2) i pos'] value pos) (tAsg te g))
    (mkg : ∀ ti, PE X i ti → PG X (.Subscript (.Name y p2) i pos') (gSub (tVar j) ti rSetL)) : SS X W io (.Assign [.Subscript (.Name y p2) i pos'] value pos) (mLPut j mk mv) := by
  obtain ⟨ti, pi, ri⟩ := hi.run
  obtain ⟨tv, pv, rv⟩ := hv.run
  refine ⟨tAsg tv (gSub (tVar j) ti rSetL), mkp tv _ pv (mkg ti pi), fun Out σ0 G H σ env xk D Dh R x e hm => ?_⟩
  refine rv Out σ0 G H σ env xk _ _ R x hm fun c env1 v G1 H1 k R1 s1 t => ?_
  obtain ⟨d, e1, ⟨es0, hj0⟩, k⟩ := k
  obtain ⟨G2, R2, s2, dd⟩ := R1.freeze t e1
  obtain ⟨vd, hs0, _⟩ := R2.lookX hj0 rfl
  refine ⟨vd, hs0, ?_⟩
  refine ri Out σ0 G2 H1 σ env1 xk _ _ R2 (x.mono (s1.trans s2)) k fun o env2 vk G3 H3 k3 R3 s3 t3 => ?_
  obtain ⟨es, z, n, hj, e2, hq, k3⟩ := k3
  have kc := R3.cell j
  rw [hj] at kc
  obtain ⟨a, ks, hsl, h1, h2, h3, h4⟩ := kc
  rw [hs0] at hsl
  cases hsl
  have ek := (opd_dx R3 t3 e2).int R3.sub
  refine ⟨a, ks, z, n, rfl, ek, h1, by rw [h4.length]; exact hq, ?_⟩
  exact e.nx _ G3 _ σ (R3.writeL hj hs0 (h4.set (dd.mono s3) n)) ((s1.trans s2).trans s3) k3

/-! ### several names at once, the values each for itself -/
def mPar2 (i j : Nat) (ma mb : ME) : MS := fun xk D env => ma xk env fun c1 env1 => mb xk env1 fun c2 env2 => D.nx ((env2.set j c2).set i c1)
theorem ss_par2 (i j : Nat) {a b : Expr} {ma mb : ME} {st : Stmt} (ha : SE X W io a ma) (hb : SE X W io b mb) (hij : i ≠ j) (mk : ∀ ta tb, PE X a ta → PE X b tb → PS X st (tPar i j (tCons ta (tCons tb tNil)))) (h1 : i ∉ io := by decide) (h2 : j ∉ io := by decide) : SS X W io st (mPar2 i j ma mb) := by
  obtain ⟨ta, pa, ra⟩ := ha.run
  obtain ⟨tb, pb, rb⟩ := hb.run
  refine ⟨_, mk ta tb pa pb, fun Out σ0 G H σ env xk D Dh R x e hm => ?_⟩
  refine ra Out σ0 G H σ env xk _ _ R x hm fun c1 env1 v1 G1 H1 k1 R1 s1 t1 => ?_
  obtain ⟨Out1, R1', _, back1⟩ := R1.hold t1
  refine rb Out1 σ0 G1 H1 σ env1 xk _ _ R1' (fun cls d pl env G' H' σ' R' s' p xx => x cls d pl env G' H' σ' (back1 R' s').1 (s1.trans s') p xx) k1 fun c2 env2 v2 G2 H2 k2 R2 s2 t2 => ?_
  refine ⟨v1, v2, rfl, ?_⟩
  obtain ⟨R3, t3⟩ := back1 (R2.store t2 h2) s2
  have R4 := R3.store t3 h1
  rw [List.set_comm _ _ (Ne.symm hij)] at R4
  exact e.nx _ G2 H2 _ R4 (s1.trans s2) k2
def mPar3 (i j l : Nat) (ma mb mc : ME) : MS := fun xk D env => ma xk env fun c1 env1 => mb xk env1 fun c2 env2 => mc xk env2 fun c3 env3 => D.nx (((env3.set l c3).set j c2).set i c1)
theorem ss_par3 (i j l : Nat) {a b c : Expr} {ma mb mc : ME} {st : Stmt} (ha : SE X W io a ma) (hb : SE X W io b mb) (hc : SE X W io c mc) (hij : i ≠ j) (hil : i ≠ l) (hjl : j ≠ l)
    (mk : ∀ ta tb tc, PE X a ta → PE X b tb → PE X c tc → PS X st (tPar3 i j l (tCons ta (tCons tb (tCons tc tNil))))) (h1 : i ∉ io := by decide) (h2 : j ∉ io := by decide) (h3 : l ∉ io := by decide) : SS X W io st (mPar3 i j l ma mb mc) := by
  obtain ⟨ta, pa, ra⟩ := ha.run
  obtain ⟨tb, pb, rb⟩ := hb.run
  obtain ⟨tc, pc, rc⟩ := hc.run
  refine ⟨_, mk ta tb tc pa pb pc, fun Out σ0 G H σ env xk D Dh R x e hm => ?_⟩
  refine ra Out σ0 G H σ env xk _ _ R x hm fun c1 env1 v1 G1 H1 k1 R1 s1 t1 => ?_
  obtain ⟨Out1, R1', _, back1⟩ := R1.hold t1
  have x1 : XOk X.K Out1 io σ0 G1 W xk := fun cls d pl env G' H' σ' R' s' p xx => x cls d pl env G' H' σ' (back1 R' s').1 (s1.trans s') p xx
  refine rb Out1 σ0 G1 H1 σ env1 xk _ _ R1' x1 k1 fun c2 env2 v2 G2 H2 k2 R2 s2 t2 => ?_
  obtain ⟨Out2, R2', _, back2⟩ := R2.hold t2
  refine rc Out2 σ0 G2 H2 σ env2 xk _ _ R2' (fun cls d pl env G' H' σ' R' s' p xx => x1 cls d pl env G' H' σ' (back2 R' s').1 (s2.trans s') p xx) k2 fun c3 env3 v3 G3 H3 k3 R3 s3 t3 => ?_
  refine ⟨v1, v2, v3, rfl, ?_⟩
  obtain ⟨R4, t4⟩ := back2 (R3.store t3 h3) s3
  obtain ⟨R5, t5⟩ := back1 (R4.store t4 h2) (s2.trans s3)
  have R6 := R5.store t5 h1
  have sw : ((σ.set l (some v3)).set j (some v2)).set i (some v1) = ((σ.set i (some v1)).set j (some v2)).set l (some v3) := by
    rw [List.set_comm _ _ (Ne.symm hjl), List.set_comm _ _ (Ne.symm hil), List.set_comm _ _ (Ne.symm hij)]
  rw [sw] at R6
  exact e.nx _ G3 H3 _ R6 ((s1.trans s2).trans s3) k3

/-! ### powers, max, min, list of a text, lists repeated -/
theorem os_pow : OpS X (rI CPow fun i j => .int (i ^ j.toNat)) (fIntC CPow fun i j => .int (i ^ j.toNat)) := os_intC fun _ _ _ => .int _
def fMax2 : MF1 := fun ds k => ∃ i j, ds = [.int i, .int j] ∧ k (.val (.int (if j > i then j else i)))
def fMin2 : MF1 := fun ds k => ∃ i j, ds = [.int i, .int j] ∧ k (.val (.int (if j < i then j else i)))
theorem da_two {K : PySem.W.Frag} {G : Hp} {vs : List V} {i j : Int} (h : Da K G vs [.int i, .int j]) : vs = [.int i, .int j] := by
  cases h with
  | cons a t => cases t with | cons b u => cases u; rw [a.vInt, b.vInt]
theorem cs_max2 : CallS X (fun xs H Q => ∃ i j, xs = [.int i, .int j] ∧ Q (.int (if j > i then j else i)) H) fMax2 := fun Out io σ0 G H σ env vs ds k Q R da hf hq => by
  obtain ⟨i, j, rfl, hk⟩ := hf
  exact ⟨i, j, da_two da, hq _ _ G H hk R (Sub.refl G) (Dd.int _)⟩
theorem cs_min2 : CallS X (fun xs H Q => ∃ i j, xs = [.int i, .int j] ∧ Q (.int (if j < i then j else i)) H) fMin2 := fun Out io σ0 G H σ env vs ds k Q R da hf hq => by
  obtain ⟨i, j, rfl, hk⟩ := hf
  exact ⟨i, j, da_two da, hq _ _ G H hk R (Sub.refl G) (Dd.int _)⟩
theorem vals_at : ∀ {xs : List V} {us : List Value}, xs.length = us.length → (∀ (j : Nat) x u, xs[j]? = some x → us[j]? = some u → RelV x u) → Vals xs us
  | [], [], _, _ => .nil
  | x :: xs, u :: us, hl, h => .cons (h 0 x u rfl rfl) (vals_at (by simpa using hl) fun j y w e1 e2 => h (j + 1) y w (by simpa using e1) (by simpa using e2))
  | [], _ :: _, hl, _ => by simp at hl
  | _ :: _, [], hl, _ => by simp at hl
/-- list(x), x a text -/
def rListS : List V → Hp → VK → Prop := fun xs H Q => ∃ x : Str, xs = [.str x] ∧ x.cps.size ≤ sizeLine ∧ ∀ l, H l = none → Q (.ref l) (upd H l (.lst (x.cps.toList.map fun c => V.str ⟨#[c]⟩)))
theorem cr_listS (hc : X.calm = true) : CallR X (.type "list") rListS := by
  intro pins s σ H xs us Q I r h
  obtain ⟨x, rfl, hz, q⟩ := h
  obtain ⟨u, rfl, t, rfl⟩ := vals1 r
  refine PySem.call_list_str (I.ok.hd hc) x t (fun h' tk acc' c' kp e it => ?_) hz
  have hlen : acc'.size = x.cps.size := it.1
  have vv : Vals (x.cps.toList.map fun c => V.str ⟨#[c]⟩) acc'.toList := by
    refine vals_at (by simpa using hlen.symm) fun j y w e1 e2 => ?_
    rw [Array.getElem?_toList] at e2
    obtain ⟨cc, tt, hc1, rfl⟩ := it.2 j w e2
    rw [List.getElem?_map, Array.getElem?_toList, hc1] at e1
    cases e1
    exact ⟨tt, rfl⟩
  have I1 : Inv X pins σ (upd H s.heap.objs.size (.lst (x.cps.toList.map fun c => V.str ⟨#[c]⟩))) { s with heap := h', toks := tk } :=
    I.laid (t' := tk) kp (Nat.le_refl _) (show ObjOk X.prog X.w _ h' _ (.lst _) from ⟨by simpa using hz, acc'.toList, c', vv, e⟩)
  exact ⟨.ref _, _, I1, rfl, q _ (I.hok.fresh (Nat.le_refl _))⟩
def fListS : MF := fun x k => ∃ z, x = .str z ∧ z.cps.size ≤ sizeLine ∧ k (.lst (signsD z))
theorem da_signs {K : PySem.W.Frag} {G : Hp} : ∀ l : List Nat, Da K G (l.map fun c => V.str ⟨#[c]⟩) (l.map fun c => .str ⟨#[c]⟩)
  | [] => .nil
  | c :: l => .cons (.str _) (da_signs l)
theorem cs_listS : CallS1 X rListS fListS := fun Out io σ0 G H σ env v x k Q R d hf hq => by
  obtain ⟨z, rfl, hz, hk⟩ := hf
  refine ⟨z, by rw [d.str R.sub], hz, fun l hl => ?_⟩
  obtain ⟨R2, t⟩ := R.newL hl (da_signs z.cps.toList)
  exact hq _ _ G _ hk R2 (Sub.refl G) t
/-- xs * n, xs made just now -/
def mRepL (ma mb : ME) : ME := fun xk env Kd => ma xk env fun c1 env1 => ∃ ds, c1 = .lst ds ∧ mb xk env1 fun c2 env2 => ∃ k : Int, c2 = .val (.int k) ∧ -(2 ^ 63) ≤ k ∧ k < 2 ^ 63 ∧ ds.length * k.toNat ≤ sizeLine ∧ Kd (.lst (List.replicate k.toNat ds).flatten) env2
theorem da_flat {K : PySem.W.Frag} {G : Hp} {vs : List V} {ds : List PyData} (h : Da K G vs ds) : ∀ n, Da K G (List.replicate n vs).flatten (List.replicate n ds).flatten
  | 0 => .nil
  | n + 1 => by
    rw [List.replicate_succ, List.replicate_succ, List.flatten_cons, List.flatten_cons]
    exact h.append (da_flat h n)
theorem se_repL {a b : Expr} {ma mb : ME} {pos : Pos} (ha : SE X W io a ma) (hb : SE X W io b mb) : SE X W io (.BinOp a .Mult b pos) (mRepL ma mb) := by
  obtain ⟨ta, pa, ra⟩ := ha.run
  obtain ⟨tb, pb, rb⟩ := hb.run
  refine ⟨tOp rRep ta tb, pe_op op_rep pa pb, fun Out σ0 G H σ env xk Kd Q R x hm hq => ?_⟩
  refine ra Out σ0 G H σ env xk _ _ R x hm fun c1 env1 v1 G1 H1 k1 R1 s1 t1 => ?_
  obtain ⟨ds, rfl, k1⟩ := k1
  obtain ⟨Out1, R1', _, back1⟩ := R1.hold t1
  refine rb Out1 σ0 G1 H1 σ env1 xk _ _ R1' (fun cls d pl env G' H' σ' R' s' p xx => x cls d pl env G' H' σ' (back1 R' s').1 (s1.trans s') p xx) k1 fun c2 env2 v2 G2 H2 k2 R2 s2 t2 => ?_
  obtain ⟨k, rfl, h1, h2, hz, k2⟩ := k2
  obtain ⟨R3, t3⟩ := back1 R2 s2
  obtain ⟨a0, vs, rfl, g1, g2, g3, g4, g5⟩ := t3
  cases Dd.vInt t2
  refine ⟨a0, k, vs, rfl, rfl, g1, h1, h2, by rw [g5.length]; exact hz, fun p hp => ?_⟩
  obtain ⟨R4, t4⟩ := R3.newL hp (da_flat g5 k.toNat)
  exact hq _ env2 _ G2 _ k2 R4 (s1.trans s2) t4

/-! ### where an item stands -/
def mIndex (j : Nat) (me : ME) : ME := fun xk env Kd => (∃ c ds, env[j]? = some c ∧ c.data = some (.list ds)) ∧ me xk env fun c1 env1 => ∃ (c : Cell) (ds : List PyData) (d : PyData) (i : Nat) (z : PyData), env1[j]? = some c ∧ c.data = some (.list ds) ∧ c1.data = some d ∧ flatD d = true ∧ ds.all flatD = true ∧ ds[i]? = some z ∧ eqF z d = true ∧ (∀ m y, m < i → ds[m]? = some y → eqF y d = false) ∧ Kd (.val (.int (i : Nat))) env1
theorem se_index (j : Nat) {y : Str} {p2 apos cpos : Pos} {e : Expr} {me : ME} (hy : PE X (.Name y p2) (tVar j)) (he : SE X W io e me)
    (mk : ∀ te, PE X e te → PE X (.Call (.Attribute (.Name y p2) "index" apos) [e] [] cpos) (tBM X.K "list" (rIndex X.K) (tVar j) (tCons te tNil))) : SE X W io (.Call (.Attribute (.Name y p2) "index" apos) [e] [] cpos) (mIndex j me) := by
  obtain ⟨te, pe, re⟩ := he.run
  refine ⟨_, mk te pe, fun Out σ0 G H σ env xk Kd Q R x hm hq => ?_⟩
  obtain ⟨⟨c0, ds0, j0, e0⟩, hm⟩ := hm
  obtain ⟨v0, hs0, dx0⟩ := R.lookX j0 e0
  obtain ⟨a, ws0, rfl, h0, _⟩ := dx0.list R.sub
  refine ⟨.ref a, hs0, .inl ⟨rfl, ws0, h0⟩, ?_⟩
  refine re Out σ0 G H σ env xk _ _ R x hm fun c1 env1 v G1 H1 k R1 s1 t => ?_
  obtain ⟨c, ds, d, i, z, hj, ec, e1, fd, fds, hz, hzd, hno, k⟩ := k
  obtain ⟨G2, R2, s2, dd⟩ := R1.freeze t e1
  obtain ⟨v1, hs1, dx1⟩ := R2.lookX hj ec
  rw [hs0] at hs1
  cases hs1
  obtain ⟨a', ws, ea, hw, da⟩ := dx1.list R2.sub
  cases ea
  obtain ⟨fv, fe⟩ := flat_v dd fd
  have fws := (flat_all dd fd da fds).1
  obtain ⟨w, hw1, hw2⟩ := da.get hz
  have fz : flatD z = true := List.all_eq_true.mp fds z (List.mem_of_getElem? hz)
  refine ⟨a, ws, v, i, w, rfl, rfl, hw, fv, fws, hw1, ?_, fun m z' hm hz' => ?_, ?_⟩
  · have q := (flat_v hw2 fz).2 dd fd
    rw [q]; exact hzd
  · obtain ⟨y', hy1, hy2⟩ := da.getV hz'
    have fy : flatD y' = true := List.all_eq_true.mp fds y' (List.mem_of_getElem? hy1)
    rw [(flat_v hy2 fy).2 dd fd]
    exact hno m y' hm hy1
  · exact hq _ env1 _ G2 H1 k R2 (s1.trans s2) (Dd.int _)
end
end M
end
section
namespace M
open PySem PySem.Spec PyProof.Rows L2
/-! ### going through a dict, which is locked from then on -/
def tLockV (te : TE) : TE := fun σ H Q => te σ H fun x H1 => (∃ d o kvs, x = .ref d ∧ H1 d = some (.frz o (.dK kvs)) ∧ Q x H1) ∨ ∃ d kvs, x = .ref d ∧ H1 d = some (.dK kvs) ∧ ∀ o, Q x (upd H1 d (.frz o (.dK kvs)))
theorem pe_lockV {X : Cx} {e : Expr} {td : TE} (he : PE X e td) : PE X e (tLockV td) := by
  refine ⟨fun pins s σ H Q I q => ?_⟩
  refine thn (he.run pins s σ H _ I q) fun u s1 z => ?_
  obtain ⟨x, H1, I1, rx, z⟩ := z
  rcases z with ⟨d, o, kvs, e, h1, q⟩ | ⟨d, kvs, e, h1, q⟩
  · exact ⟨x, H1, I1, rx, q⟩
  · obtain ⟨od, I2⟩ := I1.lock h1 True.intro
    exact ⟨x, _, I2, rx, q od⟩
section
variable {X : Cx} {W : WX} {io : List Nat}
theorem sub_lock {G : Hp} {a : Addr} {ks : List (Key × V)} {o : Obj} (h : G a = some (.dK ks)) : Sub G (upd G a (.frz o (.dK ks))) := ⟨fun b u r => by
  by_cases e : b = a
  · subst e
    rcases r with r | ⟨o', r⟩
    · rw [h] at r; cases r; exact .inr ⟨o, upd_same⟩
    · rw [h] at r; cases r
  · rcases r with r | ⟨o', r⟩
    · exact .inl (by rw [upd_ne e]; exact r)
    · exact .inr ⟨o', by rw [upd_ne e]; exact r⟩, fun b x u r => by
  by_cases e : b = a
  · subst e; rw [h] at r; cases r
  · rw [upd_ne e]; exact r, fun b u r => by
  by_cases e : b = a
  · subst e; rw [h] at r; cases r
  · rw [upd_ne e]; exact r⟩
theorem sub_lock2 {G H : Hp} {a : Addr} {ks : List (Key × V)} {o : Obj} (s : Sub G H) (h : G a = some (.dK ks)) (hH : H a = some (.frz o (.dK ks))) : Sub (upd G a (.frz o (.dK ks))) H := ⟨fun b u r => by
  by_cases e : b = a
  · subst e
    rcases r with r | ⟨o', r⟩
    · rw [upd_same] at r; cases r; exact .inl hH
    · rw [upd_same] at r; cases r; exact .inr ⟨_, hH⟩
  · refine s.rd b u ?_
    rcases r with r | ⟨o', r⟩
    · rw [upd_ne e] at r; exact .inl r
    · rw [upd_ne e] at r; exact .inr ⟨o', r⟩, fun b x u r => by
  by_cases e : b = a
  · subst e; rw [upd_same] at r; cases r; exact hH
  · rw [upd_ne e] at r; exact s.fz b x u r, fun b u r => by
  by_cases e : b = a
  · subst e; rw [upd_same] at r; cases r
  · rw [upd_ne e] at r; exact s.ls b u r⟩
theorem Rel.lockD {K : PySem.W.Frag} {Out G H : Hp} {σ0 σ : L2.St} {env : DEnv} (R : Rel K Out io σ0 G H σ env) {a : Addr} {ks : List (Key × V)} {o : Obj} (h : G a = some (.dK ks)) (hH : H a = some (.dK ks) ∨ H a = some (.frz o (.dK ks))) :
    Rel K Out io σ0 (upd G a (.frz o (.dK ks))) (upd H a (.frz o (.dK ks))) σ env := by
  have s1 : Sub G (upd H a (.frz o (.dK ks))) := ⟨fun b u r => by
    by_cases e : b = a
    · subst e
      rcases r with r | ⟨o', r⟩
      · rw [h] at r; cases r; exact .inr ⟨o, upd_same⟩
      · rw [h] at r; cases r
    · rcases R.sub.rd b u r with r | ⟨o', r⟩
      · exact .inl (by rw [upd_ne e]; exact r)
      · exact .inr ⟨o', by rw [upd_ne e]; exact r⟩, fun b x u r => by
    by_cases e : b = a
    · subst e; rw [h] at r; cases r
    · rw [upd_ne e]; exact R.sub.fz b x u r, fun b u r => by
    by_cases e : b = a
    · subst e; rw [h] at r; cases r
    · rw [upd_ne e]; exact R.sub.ls b u r⟩
  have oa : ∀ b x, Out b = some x → b ≠ a := fun b x q e => by rw [e] at q; have := R.apart a x q; rw [h] at this; cases this
  refine R.frame (sub_lock h) (sub_lock2 s1 h upd_same) (fun b x q => ?_) (fun b x q => ?_) fun i b q => ?_
  · rw [upd_ne (oa b x q)]; exact R.out b x q
  · rw [upd_ne (oa b x q)]; exact R.apart b x q
  · have g := (R.owned q).1
    have ne : b ≠ a := fun e => by rw [e, h] at g; cases g
    exact ⟨upd_ne ne, by rw [upd_ne ne]; exact g⟩
theorem dk_at {K : PySem.W.Frag} {G : Hp} : ∀ {ks : List (Key × V)} {es : List (PyData × PyData)} {i : Nat} {d : PyData}, Dk K G ks es → (es.map (·.1))[i]? = some d → ∃ k v, ks[i]? = some (k, v) ∧ keyD k = d
  | _, _, _, _, .nil, e => by simp at e
  | _, _, 0, _, .cons _ _, e => by simp at e; exact ⟨_, _, rfl, e⟩
  | _, _, i + 1, _, .cons _ t, e => by
    obtain ⟨k, v, h1, h2⟩ := dk_at (i := i) t (by simpa using e)
    exact ⟨k, v, by simpa using h1, h2⟩
theorem dd_key {K : PySem.W.Frag} {G : Hp} (k : Key) : Dd K G (kV k) (keyD k) := by
  cases k with
  | inl i => exact .int i
  | inr x => exact .str x
theorem jok_keys {K : PySem.W.Frag} {G : Hp} {a : Addr} {o : Obj} {ks : List (Key × V)} {es : List (PyData × PyData)} (h : G a = some (.frz o (.dK ks))) (dk : Dk K G ks es) : JOk K G (Itk a o ks) (es.map (·.1)) where
  go := fun i H s hi => ⟨s.fz _ _ _ h, by rw [dk_len dk]; simpa using hi⟩
  stop := fun i H s hi => ⟨s.fz _ _ _ h, by rw [dk_len dk]; simpa using hi⟩
  yld := fun i H x H' d s e y => by
    obtain ⟨rfl, k, v, hk, rfl⟩ := y
    obtain ⟨k', v', hk', rfl⟩ := dk_at dk e
    rw [hk] at hk'
    cases hk'
    exact .inl ⟨rfl, dd_key k⟩
def mItD (m : ME) : MI := fun xk env Kd => m xk env fun c env' => ∃ es, c.data = some (.dict es) ∧ Kd (es.map (·.1)) env'
theorem si_keys {tg e : Expr} {m : ME} (h : SE X W io e m) : SI X W io tg e (mItD m) := by
  obtain ⟨te, p, r⟩ := h.run
  refine ⟨iKeys (tLockV te), pi_keys (pe_lockV p), fun Out σ0 G H σ env xk Kd Rr R x hm hq => ?_⟩
  refine r Out σ0 G H σ env xk _ _ R x hm fun c env' v G' H' k R' s t => ?_
  obtain ⟨es, e1, k⟩ := k
  obtain ⟨G2, R2, s2, dd⟩ := R'.freeze t e1
  cases dd with
  | dct hr dk =>
    rename_i a ks
    rcases hr with hG | ⟨o, hG⟩
    · have fin : ∀ o, H' a = some (.dK ks) ∨ H' a = some (.frz o (.dK ks)) → Rr (Itk a o ks) (upd H' a (.frz o (.dK ks))) := fun o hH =>
        hq _ env' _ _ _ k (R2.lockD hG hH) (s.trans (s2.trans (sub_lock hG))) (jok_keys upd_same (dk.mono (sub_lock hG)))
      rcases R2.sub.rd _ _ (.inl hG) with hH | ⟨o, hH⟩
      · exact .inr ⟨a, ks, rfl, hH, fun o => ⟨a, o, rfl, .inl ⟨ks, upd_same, fin o (.inl hH)⟩⟩⟩
      · refine .inl ⟨a, o, ks, rfl, hH, a, o, rfl, .inl ⟨ks, hH, ?_⟩⟩
        have e3 : upd H' a (.frz o (.dK ks)) = H' := by
          funext b
          by_cases e : b = a
          · subst e; rw [upd_same, hH]
          · rw [upd_ne e]
        have f := fin o (.inr hH)
        rw [e3] at f
        exact f
    · have hH := R2.sub.fz _ _ _ hG
      exact .inl ⟨a, o, ks, rfl, hH, a, o, rfl, .inl ⟨ks, hH, hq _ env' G2 H' _ k R2 (s.trans s2) (jok_keys hG dk)⟩⟩
/-! ### zip of two tuples, two lists -/
def zipD (xs ys : List PyData) : List PyData := List.zipWith (fun x y => .tuple [x, y]) xs ys
theorem zip_at {xs ys : List PyData} {i : Nat} {d : PyData} (h : (zipD xs ys)[i]? = some d) : ∃ x y, xs[i]? = some x ∧ ys[i]? = some y ∧ d = .tuple [x, y] := by
  unfold zipD at h
  rw [List.getElem?_zipWith] at h
  cases e1 : xs[i]? with
  | none => rw [e1] at h; cases h
  | some x =>
    cases e2 : ys[i]? with
    | none => rw [e1, e2] at h; cases h
    | some y => rw [e1, e2] at h; cases h; exact ⟨x, y, rfl, rfl, rfl⟩
theorem jok_zipT {K : PySem.W.Frag} {G : Hp} {a b : Addr} {vs ws : List V} {ds es : List PyData} (h1 : SqT K G a vs) (d1 : Da K G vs ds) (h2 : SqT K G b ws) (d2 : Da K G ws es) : JOk K G (RZ.ItzT K a b) (zipD ds es) where
  go := fun i H s hi => by
    obtain ⟨x, y, e1, e2, _⟩ := zip_at (List.getElem?_eq_getElem hi)
    obtain ⟨v, f1, _⟩ := d1.get e1
    obtain ⟨w, f2, _⟩ := d2.get e2
    exact ⟨vs, ws, v, w, sub_t s h1, sub_t s h2, f1, f2⟩
  stop := fun i H s hi => by
    refine ⟨vs, ws, sub_t s h1, sub_t s h2, ?_⟩
    unfold zipD at hi
    rw [List.length_zipWith] at hi
    rw [d1.length, d2.length]
    omega
  yld := fun i H x H' d s e y => by
    obtain ⟨T, u1, u2, rfl, hT, rfl, f1, f2⟩ := y
    obtain ⟨x, y, e1, e2, rfl⟩ := zip_at e
    obtain ⟨v, g1, dd1⟩ := d1.get e1
    obtain ⟨w, g2, dd2⟩ := d2.get e2
    have q1 := f1 vs (sub_t s h1)
    have q2 := f2 ws (sub_t s h2)
    rw [g1] at q1
    rw [g2] at q2
    cases q1
    cases q2
    exact .inr ⟨T, _, _, rfl, hT, rfl, rfl, .cons dd1 (.cons dd2 .nil)⟩
theorem jok_zipL {K : PySem.W.Frag} {G : Hp} {a b : Addr} {vs ws : List V} {ds es : List PyData} (h1 : SqL K G a vs) (d1 : Da K G vs ds) (h2 : SqL K G b ws) (d2 : Da K G ws es) : JOk K G (Itz K a b) (zipD ds es) where
  go := fun i H s hi => by
    obtain ⟨x, y, e1, e2, _⟩ := zip_at (List.getElem?_eq_getElem hi)
    obtain ⟨v, f1, _⟩ := d1.get e1
    obtain ⟨w, f2, _⟩ := d2.get e2
    exact ⟨vs, ws, v, w, sub_l s h1, sub_l s h2, f1, f2⟩
  stop := fun i H s hi => by
    refine ⟨vs, ws, sub_l s h1, sub_l s h2, ?_⟩
    unfold zipD at hi
    rw [List.length_zipWith] at hi
    rw [d1.length, d2.length]
    omega
  yld := fun i H x H' d s e y => by
    obtain ⟨T, u1, u2, rfl, hT, rfl, f1, f2⟩ := y
    obtain ⟨x, y, e1, e2, rfl⟩ := zip_at e
    obtain ⟨v, g1, dd1⟩ := d1.get e1
    obtain ⟨w, g2, dd2⟩ := d2.get e2
    have q1 := f1 vs (sub_l s h1)
    have q2 := f2 ws (sub_l s h2)
    rw [g1] at q1
    rw [g2] at q2
    cases q1
    cases q2
    exact .inr ⟨T, _, _, rfl, hT, rfl, rfl, .cons dd1 (.cons dd2 .nil)⟩
def mZip (ma : MA) : MI := fun xk env Kd => ma xk env fun ds env' => ∃ xs ys, (ds = [.tuple xs, .tuple ys] ∨ ds = [.list xs, .list ys]) ∧ Kd (zipD xs ys) env'
theorem si_zip {elts : List Expr} {kk : Nat} {tpos p pos : Pos} {e e2 : Expr} {ma : MA} (hg : Gl X "zip") (hm : X.mg "zip" = none) (h : SA X W io [e, e2] ma)
    (hs : starEach [e, e2] X.env = (false, eval e X.env) :: starEach [e2] X.env := by rfl) (hpl : (backTo pos (starEach [e2] X.env)).any (·.1) = false := by rfl) : SI X W io (.Tuple elts kk tpos) (.Call (.Name "zip" p) [e, e2] [] pos) (mZip ma) := by
  obtain ⟨ta, pa, r⟩ := h.run
  refine ⟨RZ.iZipA X.K ta, RZ.pi_zipA hg hm pa hs hpl, fun Out σ0 G H σ env xk Kd Rr R x hm hq => ?_⟩
  refine r Out σ0 G H σ env xk _ _ R x hm fun ds env' vs G' H' k l R' s da => ?_
  obtain ⟨xs, ys, e3, k⟩ := k
  rcases e3 with rfl | rfl
  · cases da with
    | cons d1 d2 =>
      cases d2 with
      | cons d2 d3 =>
        cases d3
        cases d1 with
        | tup h1 a1 => cases d2 with | tup h2 a2 => exact ⟨_, _, _, _, rfl, .inr ⟨sub_t R'.sub h1, sub_t R'.sub h2, hq _ env' G' H' _ k R' s (jok_zipT h1 a1 h2 a2)⟩⟩
  · cases da with
    | cons d1 d2 =>
      cases d2 with
      | cons d2 d3 =>
        cases d3
        cases d1 with
        | lst h1 a1 => cases d2 with | lst h2 a2 => exact ⟨_, _, _, _, rfl, .inl ⟨sub_l R'.sub h1, sub_l R'.sub h2, hq _ env' G' H' _ k R' s (jok_zipL h1 a1 h2 a2)⟩⟩
end
end M
end
section
namespace M
open PySem PySem.Spec PyProof.Rows L2
section
variable {X : Cx} {W : WX} {io : List Nat}
/-! ### {k: v} -/
theorem Rel.wild {K : PySem.W.Frag} {Out G H : Hp} {σ0 σ : L2.St} {env : DEnv} (R : Rel K Out io σ0 G H σ env) {a : Addr} {u : HO} (h2 : G a = none) (h3 : Out a = none) (h4 : ∀ i, ownA σ env i ≠ some a) : Rel K Out io σ0 G (upd H a u) σ env :=
  R.frame (Sub.refl G) (R.sub.mut h2) (fun b x q => by rw [upd_ne (ne_none q h3)]; exact R.out b x q) R.apart fun i b q => ⟨upd_ne fun e => h4 i (by rw [← e]; exact q), (R.owned q).1⟩
def mDisp1 (mk mv : ME) : ME := fun xk env Kd => mk xk env fun c1 env1 => ∃ d1 q, c1.data = some d1 ∧ keyOf d1 = some q ∧ mv xk env1 fun c2 env2 => ∃ d2, c2.data = some d2 ∧ Kd (.dct [(keyD q, d2)]) env2
theorem se_disp1 {k v : Expr} {pos : Pos} {mk mv : ME} (hk : SE X W io k mk) (hv : SE X W io v mv) : SE X W io (.Dict [some k] [v] pos) (mDisp1 mk mv) := by
  obtain ⟨tk, pk, rk⟩ := hk.run
  obtain ⟨tv, pv, rv⟩ := hv.run
  refine ⟨tDisp [(tk, tv)], pe_disp (pps_cons pk pv pps_nil) rfl rfl (by intro z; cases z) (by show 1 ≤ 15; decide), fun Out σ0 G H σ env xk Kd Q R x hm hq => ?_⟩
  intro p hp
  obtain ⟨R1, t1⟩ := R.newD (vs := []) (ds := []) hp .nil
  obtain ⟨Out1, R1', _, back⟩ := R1.hold t1
  have x1 : XOk X.K Out1 io σ0 G W xk := fun cls d pl env G' H' σ' R' s' p xx => x cls d pl env G' H' σ' (back R' s').1 s' p xx
  refine rk Out1 σ0 G _ σ env xk _ _ R1' x1 hm fun c1 env1 v1 G1 H1 k1 R2 s1 t2 => ?_
  obtain ⟨d1, q, e1, hkq, k1⟩ := k1
  obtain ⟨G2, R3, s2, dd1⟩ := R2.freeze t2 e1
  refine rv Out1 σ0 G2 H1 σ env1 xk _ _ R3 (x1.mono (s1.trans s2)) k1 fun c2 env2 v2 G3 H3 k3 R4 s3 t3 => ?_
  obtain ⟨d2, e2, k3⟩ := k3
  obtain ⟨G4, R5, s4, dd2⟩ := R4.freeze t3 e2
  obtain ⟨R6, t6⟩ := back R5 (((s1.trans s2).trans s3).trans s4)
  obtain ⟨a, ks, ea, g1, g2, g3, g4, g5⟩ := t6
  cases ea
  cases g5
  obtain ⟨ek, _⟩ := keyOf_v (R6.sub) (.g (dd1.mono (s3.trans s4))) hkq
  refine ⟨g1, [(q, v2)], by rw [ek]; rfl, by show 1 ≤ 15; decide, ?_⟩
  exact hq (.dct [(keyD q, d2)]) env2 _ G4 _ k3 (R6.wild g2 g3 g4) (((s1.trans s2).trans s3).trans s4) ⟨p, _, rfl, upd_same, g2, g3, g4, .cons dd2 .nil⟩
/-! ### calls by names alone -/
def pick {α : Type} (π : List Nat) (l : List α) : List α := π.filterMap fun i => l[i]?
theorem pick_vals {zs : List V} {ws : List Value} (h : Vals zs ws) : ∀ π : List Nat, Vals (pick π zs) (pick π ws)
  | [] => .nil
  | i :: π => by
    have ih := pick_vals h π
    unfold pick at ih ⊢
    cases e : zs[i]? with
    | none => rw [List.filterMap_cons_none e, List.filterMap_cons_none (h.none_of e)]; exact ih
    | some z =>
      obtain ⟨u, hu, r⟩ := h.get e
      rw [List.filterMap_cons_some e, List.filterMap_cons_some hu]
      exact .cons r ih
theorem pick_da {K : PySem.W.Frag} {G : Hp} {vs : List V} {ds : List PyData} (h : Da K G vs ds) : ∀ π : List Nat, Da K G (pick π vs) (pick π ds)
  | [] => .nil
  | i :: π => by
    have ih := pick_da h π
    unfold pick at ih ⊢
    cases e : ds[i]? with
    | none =>
      have e2 : vs[i]? = none := by
        rw [List.getElem?_eq_none_iff] at e ⊢
        rw [h.length]; exact e
      rw [List.filterMap_cons_none e, List.filterMap_cons_none e2]; exact ih
    | some z =>
      obtain ⟨u, hu, r⟩ := h.get e
      rw [List.filterMap_cons_some e, List.filterMap_cons_some hu]
      exact .cons r ih
structure SK (X : Cx) (W : WX) (io : List Nat) (kws : List Keyword) (m : MA) : Prop where
  run : ∃ ta, PK X kws ta ∧ ∀ (Out : Hp) (σ0 : L2.St) (G H : Hp) (σ : L2.St) (env : DEnv) (xk : MX) (Kd : List PyData → DEnv → Prop) (Q : List V → Hp → Prop), Rel X.K Out io σ0 G H σ env → XOk X.K Out io σ0 G W xk → m xk env Kd →
    (∀ ds env' vs G' H', Kd ds env' → ds.length = kws.length → Rel X.K Out io σ0 G' H' σ env' → Sub G G' → Da X.K G' vs ds → Q vs H') → ta σ H Q
theorem sk_nil : SK X W io [] mNil := ⟨tNil, pk_nil, fun Out σ0 G H σ env xk Kd Q R _ hm hq => hq [] env [] G H hm rfl R (Sub.refl G) .nil⟩
theorem sk_cons {nm : Option Str} {e : Expr} {kpos : Pos} {kws : List Keyword} {me : ME} {ma : MA} (he : SE X W io e me) (hr : SK X W io kws ma) : SK X W io (⟨nm, e, kpos⟩ :: kws) (mCons me ma) := by
  obtain ⟨te, pe, re⟩ := he.run
  obtain ⟨ta, pa, ra⟩ := hr.run
  refine ⟨tCons te ta, pk_cons pe pa, fun Out σ0 G H σ env xk Kd Q R x hm hq => ?_⟩
  refine re Out σ0 G H σ env xk _ _ R x hm fun c env1 v G1 H1 k R1 s1 t => ?_
  obtain ⟨d, e1, k⟩ := k
  obtain ⟨G2, R2, s2, dd⟩ := R1.freeze t e1
  refine ra Out σ0 G2 H1 σ env1 xk _ _ R2 (x.mono (s1.trans s2)) k fun ds env' vs G' H' k l R' s da => ?_
  exact hq _ env' _ G' H' k (congrArg (· + 1) l) R' ((s1.trans s2).trans s) (.cons (dd.mono s) da)
def KB (fd : FuncData) (ps ks : List Str) (π : List Nat) : Prop := ∀ (s : Shared) (ws : List Value), ws.length = ks.length → BindsTo s fd ⟨[], ks.zip ws⟩ (ps.zip (pick π ws))
theorem pe_callKW {k : Nat} {f : Addr} {fd : FuncData} {ps ks : List Str} {sp : Sp} {E : L2.St → XK} {x : Str} {p pos : Pos} {kws : List Keyword} {tk : TA} {π : List Nat} (F : FnOk X.prog X.w X.K X.mg X.base (L2.CX X.prog X.w) k f fd ps sp) (hr : Room k X.A) (hg : Gl X x) (hm : X.mg x = some (.ref f))
    (hk : PySem.W.keepIn X.K (.ref f) = true) (hb : KB fd ps ks π) (hx : ∀ σ, PassesAt (L2.CX X.prog X.w) X σ (E σ)) (hkw : PK X kws tk) (hall : (backToKw pos (keywordEach kws X.env)).all (·.1.isSome) = true := by rfl) (hks : (backToKw pos (keywordEach kws X.env)).filterMap (·.1) = ks := by rfl)
    (hdb : (x == ("__debug__" : Str)) = false := by decide) (hpl : ((backTo pos (starEach [] X.env)).any (·.1) || (backToKw pos (keywordEach kws X.env)).any (·.1.isNone)) = false := by rfl) :
    PE X (.Call (.Name x p) [] kws pos) (fun σ H Q => tk σ H fun zs H1 => zs.length = ks.length ∧ sp (pick π zs) H1 Q (E σ)) := by
  refine ⟨fun pins s σ H Q I h => ?_⟩
  refine wpAny_Call_Name_kw (ld_glob I hg hm ?_ hdb)
  refine PySem.W.callWith_KW0 (h₀ := X.base) I.ok.mod.kin hk hall (thn (hkw.run pos pins s σ H _ I h) fun ws s2 z => ?_) hpl
  obtain ⟨zs, H2, I2, rz, l2, q2⟩ := z
  refine ⟨I2.kIn, ?_⟩
  rw [hks]
  have rv := pick_vals rz π
  refine wpAny_call (codeAny_mono (F.run X.A X.stack s2 H2 ⟨[], ks.zip ws⟩ (pick π ws) (pick π zs) Q (E σ) hr I2.env0 (hb s2 ws (rz.length.symm.trans l2)) rv q2) fun r s' hq => ?_)
  cases r with
  | error e => exact hx σ pins H2 s2 e s' I2 hq
  | ok fl =>
    cases fl with
    | ret u => exact I2.after hq
    | next => exact False.elim hq
    | brk => exact False.elim hq
    | cont => exact False.elim hq
def mCallK (π : List Nat) (sem : ME) (ma : MA) : ME := fun xk env Kd => ma xk env fun ds env' => sem (fun cls pl _ => xk cls pl env') ((pick π ds).map .val) fun c _ => Kd c env'
theorem pick_len {α : Type} {l : List α} : ∀ {π : List Nat}, (∀ i ∈ π, i < l.length) → (pick π l).length = π.length
  | [], _ => rfl
  | i :: π, h => by
    have ih := pick_len (l := l) (π := π) fun j hj => h j (List.mem_cons_of_mem _ hj)
    have e : l[i]? = some (l[i]'(h i List.mem_cons_self)) := List.getElem?_eq_getElem (h i List.mem_cons_self)
    unfold pick at ih ⊢
    rw [List.filterMap_cons_some e, List.length_cons, ih, List.length_cons]
theorem se_callK {k : Nat} {f : Addr} {fd : FuncData} {ps ks : List Str} {n : Nat} {sem : ME} {x : Str} {p pos : Pos} {kws : List Keyword} {ma : MA} {π : List Nat} (F : FnOk X.prog X.w X.K X.mg X.base (L2.CX X.prog X.w) k f fd ps (spM X.K [] n sem)) (hr : Room k X.A) (hg : Gl X x) (hm : X.mg x = some (.ref f))
    (hk : PySem.W.keepIn X.K (.ref f) = true) (hb : KB fd ps ks π) (tk : Takes X W) (ha : SK X W io kws ma) (hn : π.length = n) (hl : kws.length = ks.length) (hπ : ∀ i ∈ π, i < kws.length) (hall : (backToKw pos (keywordEach kws X.env)).all (·.1.isSome) = true := by rfl) (hks : (backToKw pos (keywordEach kws X.env)).filterMap (·.1) = ks := by rfl)
    (hdb : (x == ("__debug__" : Str)) = false := by decide) (hpl : ((backTo pos (starEach [] X.env)).any (·.1) || (backToKw pos (keywordEach kws X.env)).any (·.1.isNone)) = false := by rfl) : SE X W io (.Call (.Name x p) [] kws pos) (mCallK π sem ma) := by
  obtain ⟨ta, pa, ra⟩ := ha.run
  refine ⟨_, pe_callKW (E := WE W) F hr hg hm hk hb (fun σ => passAt tk σ) pa hall hks hdb hpl, fun Out σ0 G H σ env xk Kd Q R x hm hq => ?_⟩
  refine ra Out σ0 G H σ env xk _ _ R x hm fun ds env1 vs G1 H1 k l R1 s1 da => ?_
  have lv : vs.length = kws.length := by rw [da.length, l]
  refine ⟨by rw [lv, hl], outer Out H1 σ env1 [], G1, (pick π ds).map .val, _, _, by rw [pick_len (fun i hi => by rw [lv]; exact hπ i hi), hn], by rw [List.length_map, pick_len (fun i hi => by rw [l]; exact hπ i hi), hn], R1.callee (pick_da da π), k, fun c args' v G' H' kk R' s' t => ?_, fun cls d pl args' G' H' kk R' s' pk => ?_⟩
  · exact hq c env1 v G' H' kk (R1.behind R' s') (s1.trans s') (Tmp.behind R1 t)
  · exact x cls d pl env1 G' H' σ (R1.behind R' s') (s1.trans s') pk kk
end
end M
end
section
namespace M
open PySem PySem.Spec PyProof.Rows L2
/-! ### promises that hold where no repr is under way -/
/-- as FnOk, at a caller with no repr under way -/
structure FnG (P : Program) (w : World) (K : PySem.W.Frag) (mg : Str → Option Value) (bs : Heap) (C : CXT) (k : Nat) (g : Addr) (fd : FuncData) (ps : List Str) (sp : Sp) : Prop where
  lenG : ∀ ws H Q E, sp ws H Q E → ws.length = ps.length
  runG : ∀ (B : Around) (oth : List Env) (t : Shared) (H : Hp) (as : Args) (us : List Value) (ws : List V) (Q : VK) (E : XK), Room k B → B.guards = some [] → Env0 P w K mg bs B oth t H → BindsTo t fd as (ps.zip us) → Vals ws us → sp ws H Q E →
    codeAny (model P w) B (.call (.ref g) as) (CR C oth P w H t Q E) t
section
variable {P : Program} {w : World} {K : PySem.W.Frag} {mg : Str → Option Value} {bs : Heap}
theorem toG {C : CXT} {k : Nat} {g : Addr} {fd : FuncData} {ps : List Str} {sp : Sp} (F : FnOk P w K mg bs C k g fd ps sp) : FnG P w K mg bs C k g fd ps sp :=
  ⟨F.len, fun B oth t H as us ws Q E hr _ e0 hb r hs => F.run B oth t H as us ws Q E hr e0 hb r hs⟩
/-- a def, by its body, with no repr under way -/
theorem fnG {x qual : Str} {st : Stmt} {g : Addr} {fd : FuncData} {N ps : List Str} {k : Nat} {sp : Sp} (F : Fun K x qual st g fd) (S : FnScope N ps (defScope st)) (hlen : ∀ ws H Q E, sp ws H Q E → ws.length = ps.length)
    (hb : ∀ (cdv : Value) (B : Around) (oth : List Env) (t : Shared) (H : Hp) (ws : List V) (Q : VK) (E : XK), B.guards = some [] → Room k (B.deeper (envOfC qual (defScope st) t.heap.objs.size g cdv)) → sp ws H Q E →
      ∃ r, PSs (cxOf (L2.CX P w) P w K mg bs N qual (defScope st) g cdv B oth t H E) (defBody st) r ∧ r { nx := fun _ H' => Q .non H', rt := Q } (L2.start N ws) H) : FnG P w K mg bs (L2.CX P w) (k + 1) g fd ps sp := by
  obtain ⟨oc, od, kV, doc, pm, an, cdv, ct, osl, rfl, lk, hcd⟩ := F.ex
  refine ⟨hlen, fun B oth t H as us ws Q E hroom hgd e0 hbd rv hs => ?_⟩
  have same : ∀ (b : Addr) (o : Obj), bs.get? b = some o → t.heap.get? b = some o := fun b o e => (e0.bs b o e).1
  have kin : K.In t.heap := e0.mod.kin.keeps same
  have nol : t.heap.NoLimit := e0.mod.nolimit.keeps same
  have kinds : ∀ y ∈ ps.zip us, (defScope st).names.lookup y.1 = some .local ∨ ((defScope st).names.lookup y.1 = some .cell ∧ ((cellsFrom (t.heap.objs.size + 1) (defScope st).names []).lookup y.1).isSome = true) := fun ⟨n, v⟩ hy => by
    rcases S.par n (List.of_mem_zip hy).1 with z | z
    · exact .inl z
    · exact .inr ⟨z, PySem.W.cellsFrom_some _ _ _ (.inl z)⟩
  refine codeAny_call_function hroom.depth (kin _ _ lk) rfl S.co S.gen rfl (PySem.W.codeRec_of kin hcd) (hbd _ _ _ _ ?_)
  refine wpAny_newFunctionEnv_cells S.kind kinds fun env he t1 x => ?_
  subst he
  refine ⟨nol.keeps x.toInCall.keep, codeAny_func ?_⟩
  obtain ⟨r, pr, hr⟩ := hb cdv B oth t H ws Q E hgd (hroom.deeper _) hs
  have Iv := inv_start (N := N) (qual := qual) (f := g) (cd := cdv) (CX := L2.CX P w) (E := E) S hroom.hd e0 (hlen _ _ _ _ hs) rv x
  refine wpAny_mono (pr.run [] t1 (L2.start N ws) H _ Iv hr) (fun fl t2 z => ?_) fun _ _ z => z
  cases fl with
  | next =>
    obtain ⟨σ2, H2, J, z⟩ := z
    exact ⟨V.non, H2, J.os, J.bare, J.base, J.hok, rfl, z⟩
  | ret u =>
    obtain ⟨v, σ2, H2, J, rr, z⟩ := z
    exact ⟨v, H2, J.os, J.bare, J.base, J.hok, rr, z⟩
  | brk => obtain ⟨_, _, _, z⟩ := z; exact False.elim z
  | cont => obtain ⟨_, _, _, z⟩ := z; exact False.elim z
theorem fnMG {x qual : Str} {st : Stmt} {f : Addr} {fd : FuncData} {N ps : List Str} {k : Nat} (F : Fun K x qual st f fd) (S : FnScope N ps (defScope st)) (io : List Nat) (ms : MS) (sem : ME)
    (hsem : ∀ xk args Kd, args.length = ps.length → sem xk args Kd → bodySem ms io ps.length N.length xk args Kd)
    (hbody : ∀ (cdv : Value) (A : Around) (outer : List Env) (s : Shared) (H : Hp) (E : XK), A.guards = some [] → Room k (A.deeper (envOfC qual (defScope st) s.heap.objs.size f cdv)) →
      SSs (cxOf (L2.CX P w) P w K mg bs N qual (defScope st) f cdv A outer s H E) (fun cls d _ H => E cls d H) io (defBody st) ms) (hio : ∀ i ∈ io, i < ps.length := by decide) (hN : ps.length ≤ N.length := by decide) :
    FnG P w K mg bs (L2.CX P w) (k + 1) f fd ps (spM K io ps.length sem) := by
  refine fnG F S (fun ws H Q E h => ?_) (fun cdv A oth t H vs Q E hgd hr h => ?_)
  · obtain ⟨_, _, _, _, _, h, _⟩ := h
    exact h
  · obtain ⟨Out, G, args, xk, Kd, h1, h2, R, hs, hq, hx⟩ := h
    obtain ⟨r, p, hrun⟩ := (hbody cdv A oth t H E hgd hr).run
    have hs' := hsem xk args Kd h2 hs
    unfold bodySem at hs'
    rw [← h1] at hs'
    refine ⟨r, p, ?_⟩
    refine hrun Out (L2.start N vs) G H (L2.start N vs) _ _ _ _ (R.start (by rw [h1, h2]) (by rw [h1]; exact hN) (by rw [h1]; exact hio)) (fun cls d pl env G' H' σ' R' s' pk xx => ?_) ⟨fun env G' H' σ' R' s' kk => ?_, fun c env v G' H' σ' R' s' tt kk => ?_, fun _ _ _ _ _ _ kk => False.elim kk, fun _ _ _ _ _ _ kk => False.elim kk⟩ hs'
    · exact hx cls d pl _ G' H' xx R'.clear s' pk
    · exact hq _ _ _ G' H' kk R'.clear s' (show Dd K G' .non .none from .non)
    · exact hq _ _ v G' H' kk R'.clear s' (tt.clear R')
end
/-! ### the call -/
section
variable {X : Cx} {W : WX} {io : List Nat}
theorem pe_callG {k : Nat} {f : Addr} {fd : FuncData} {ps : List Str} {sp : Sp} {E : L2.St → XK} {x : Str} {p pos : Pos} {e : Expr} {es : List Expr} {t : TA} (F : FnG X.prog X.w X.K X.mg X.base (L2.CX X.prog X.w) k f fd ps sp) (hr : Room k X.A) (hgd : X.A.guards = some []) (hg : Gl X x) (hm : X.mg x = some (.ref f))
    (hk : PySem.W.keepIn X.K (.ref f) = true) (hb : Binds X.K fd ps []) (hx : ∀ σ, PassesAt (L2.CX X.prog X.w) X σ (E σ)) (ha : PA X (e :: es) t) (hdb : (x == ("__debug__" : Str)) = false := by decide) (he : starEach (e :: es) X.env = (false, eval e X.env) :: starEach es X.env := by rfl) (hpl : (backTo pos (starEach es X.env)).any (·.1) = false := by rfl) :
    PE X (.Call (.Name x p) (e :: es) [] pos) (tCallS sp E t) := by
  refine ⟨fun pins s σ H Q I h => ?_⟩
  refine wpAny_Call_Name_kw (ld_glob I hg hm ?_ hdb)
  refine PySem.W.callWith_K (h₀ := X.base) I.ok.mod.kin hk (thn (ha.run pos pins s σ H _ I h) fun us s1 z => ?_) he hpl
  obtain ⟨vs, H1, I1, r, q⟩ := z
  refine ⟨I1.kIn, ?_⟩
  have bb := hb s1 us I1.kIn (by rw [List.append_nil, ← r.length]; exact F.lenG _ _ _ _ q)
  rw [List.append_nil] at bb
  refine wpAny_call (codeAny_mono (F.runG X.A X.stack s1 H1 ⟨us, []⟩ us vs Q (E σ) hr hgd I1.env0 bb r q) fun r s' hq => ?_)
  cases r with
  | error e => exact hx σ pins H1 s1 e s' I1 hq
  | ok fl =>
    cases fl with
    | ret u => exact I1.after hq
    | next => exact False.elim hq
    | brk => exact False.elim hq
    | cont => exact False.elim hq
theorem Rel.callee1 {K : PySem.W.Frag} {Out G H : Hp} {σ0 σ : L2.St} {env : DEnv} {v : V} {c : Cell} (R : Rel K Out io σ0 G H σ env) (t : Tmp K Out G H σ env v c) : Rel K (outer Out H σ env []) [] [some v] G H [some v] [c] where
  sub := R.sub
  out := fun a o h => (outer_in R h).1
  apart := fun a o h => (outer_in R h).2
  len := rfl
  io := fun i hi => by cases hi
  cell := fun i => by
    have nout : ∀ a, Out a = none → (∀ i, ownA σ env i ≠ some a) → outer Out H σ env [] a = none := fun a h1 h2 => by
      unfold outer
      rw [if_neg (by intro z; cases z), if_neg (fun ⟨i, z⟩ => h2 i z)]
      exact h1
    cases i with
    | succ i => trivial
    | zero =>
      cases c with
      | no => trivial
      | val d => exact ⟨v, rfl, t⟩
      | exc cl pl => exact ⟨v, rfl, t⟩
      | adr ad => exact ⟨v, rfl, t⟩
      | lst ds => obtain ⟨a, vs, rfl, h1, h2, h3, h4, h5⟩ := t; exact ⟨a, vs, rfl, h1, h2, nout a h3 h4, h5⟩
      | dct ds => obtain ⟨a, vs, rfl, h1, h2, h3, h4, h5⟩ := t; exact ⟨a, vs, rfl, h1, h2, nout a h3 h4, h5⟩
  sep := fun i j a h1 h2 => by
    have z : ∀ i, ownA [some v] [c] i = some a → i = 0 := fun i h => by
      cases i with
      | zero => rfl
      | succ i => unfold ownA at h; cases h
    rw [z i h1, z j h2]
/-- f(e), what e makes is f's own -/
def mCall1M (sem : ME) (m : ME) : ME := fun xk env Kd => m xk env fun c env' => sem (fun cls pl _ => xk cls pl env') [c] fun c' _ => Kd c' env'
theorem se_call1G {k : Nat} {f : Addr} {fd : FuncData} {ps : List Str} {sem : ME} {x : Str} {p pos : Pos} {e : Expr} {m : ME} (F : FnG X.prog X.w X.K X.mg X.base (L2.CX X.prog X.w) k f fd ps (spM X.K [] 1 sem)) (hr : Room k X.A) (hgd : X.A.guards = some []) (hg : Gl X x) (hm : X.mg x = some (.ref f))
    (hk : PySem.W.keepIn X.K (.ref f) = true) (hb : Binds X.K fd ps []) (tk : Takes X W) (ha : SE X W io e m) (hdb : (x == ("__debug__" : Str)) = false := by decide) (he : starEach [e] X.env = (false, eval e X.env) :: starEach [] X.env := by rfl) (hpl : (backTo pos (starEach [] X.env)).any (·.1) = false := by rfl) :
    SE X W io (.Call (.Name x p) [e] [] pos) (mCall1M sem m) := by
  obtain ⟨te, pe, re⟩ := ha.run
  refine ⟨tCallS (spM X.K [] 1 sem) (WE W) (tCons te tNil), pe_callG F hr hgd hg hm hk hb (fun σ => passAt tk σ) (pa_cons pe pa_nil he) hdb he hpl, fun Out σ0 G H σ env xk Kd Q R x hm hq => ?_⟩
  refine re Out σ0 G H σ env xk _ _ R x hm fun c env1 v G1 H1 k R1 s1 t => ?_
  refine ⟨outer Out H1 σ env1 [], G1, [c], _, _, rfl, rfl, R1.callee1 t, k, fun c' args' v' G' H' kk R' s' t' => ?_, fun cls d pl args' G' H' kk R' s' pk => ?_⟩
  · exact hq c' env1 v' G' H' kk (R1.behind R' s') (s1.trans s') (Tmp.behind R1 t')
  · exact x cls d pl env1 G' H' σ (R1.behind R' s') (s1.trans s') pk kk
end
end M
end
section
namespace M
open PySem PySem.Spec PyProof.Rows L2
/-! ### the law's def is called by the claim: no repr is under way there -/
theorem runLaw {P : Program} {w : World} {K : PySem.W.Frag} {mg mb : Str → Option Value} {C : CXT} {k : Nat} {fl a : Addr} {fd : FuncData} {x : Str} {sp : Sp} {t : Shared} {vs : List Value} {ns : List Int}
    (kin : K.In t.heap) (gl : t.heap.Ns mainGlobals mg) (bl : t.heap.Ns builtinsNs mb) (bb : ∀ y : Str, y ≠ "__name__" → mb y = bootBuiltins y) (nol : t.heap.NoLimit) (ge : t.gens = #[])
    (ha : t.heap.get? a = some { cls := .type "list", data := .seq vs.toArray }) (hi : IntsAre vs ns) (hl : ns.length ≤ sizeLine) (room : Room k callerA)
    (F : ∀ bs : Heap, K.In bs → bs.Ns mainGlobals mg → FnG P w K mg bs C k fl fd [x] sp) (bd : ∀ (s : Shared) (u : Value), BindsTo s fd ⟨[u], []⟩ [(x, u)])
    (hsp : ∀ H : Hp, Only H → SqL K H a (ns.map V.int) → sp [.ref a] H (fun v _ => v = .bl true) fun _ _ _ => False)
    (hC : ∀ H e s', C [] H t (fun _ _ _ => False) e s' → False) :
    codeAny (model P w) callerA (.call (.ref fl) ⟨[.ref a], []⟩) (fun r s' => r = .ok (.ret (.bool true)) ∧ OldK t.heap s'.heap ∧ s'.os = t.os ∧ AllBare s'.gens) t := by
  have rels := vals_ints hi
  have len2 := hi.length
  have main : ∀ H : Hp, Only H → SqL K H a (ns.map V.int) → HOk P w H t.heap → (∀ b, H b ≠ none → b = a) → (H a ≠ none → K.lookup a = none) →
      codeAny (model P w) callerA (.call (.ref fl) ⟨[.ref a], []⟩) (fun r s' => r = .ok (.ret (.bool true)) ∧ OldK t.heap s'.heap ∧ s'.os = t.os ∧ AllBare s'.gens) t := fun H only seq hok alone knows => by
    have none_of : ∀ {b : Addr}, b ≠ a → H b = none := fun {b} n => by
      cases q : H b with
      | none => rfl
      | some u => exact absurd (alone b (by rw [q]; intro z; cases z)) n
    have dict_none : ∀ {b : Addr} {o : Obj} {es : Array DictEntry} {ep : Nat}, t.heap.get? b = some o → o.data = .dict es ep → H b = none := fun {b o es ep} e d => none_of fun z => by
      subst z
      rw [ha] at e
      cases e
      cases (show Data.seq vs.toArray _ = Data.dict es ep from d)
    have ns2 : ∀ {b : Addr} {m : Str → Option Value}, t.heap.Ns b m → (hidT t.heap H).Ns b m := fun {b m} ⟨o, es, ep, e, d, r⟩ => ⟨o, es, ep, hidT_get e (dict_none e d), d, r⟩
    have kin2 : K.In (hidT t.heap H) := fun b o e => hidT_get (kin b o e) (by
      by_cases z : b = a
      · subst z
        cases q : H b with
        | none => rfl
        | some u => rw [knows (by rw [q]; intro z; cases z)] at e; cases e
      · exact none_of z)
    have md : Mod K mg (hidT t.heap H) := ⟨kin2, ns2 gl, ⟨mb, ns2 bl, bb⟩, let ⟨mc, h1, h2⟩ := nol; ⟨mc, ns2 h1, h2⟩⟩
    have ev : Env0 P w K mg (hidT t.heap H) callerA [] t H := ⟨rfl, md, fun _ _ e => of_hidT e, Nat.le_of_eq (hidT_size _ _), trivial, fun b hb => absurd (show b ∈ ([] : List Addr) from hb) (by simp), hok, .of_eq ge⟩
    refine codeAny_mono ((F _ kin2 (ns2 gl)).runG callerA [] t H ⟨[.ref a], []⟩ [.ref a] [.ref a] _ _ room rfl ev (bd t (.ref a)) (.cons rfl .nil) (hsp H only seq)) fun r s' z => ?_
    cases r with
    | error e => exact (hC H e s' z).elim
    | ok f =>
      cases f with
      | ret u =>
        obtain ⟨v, H', os, bare, un, hok', rv, q⟩ := z
        cases (show v = .bl true from q)
        cases (show u = Value.bool true from rv)
        refine ⟨rfl, OldK.of_keep fun b o e => ?_, os, bare⟩
        cases q : H b with
        | none => exact un.keep b o e q (by intro z; exact absurd (show b ∈ ([] : List Addr) from z) (by simp)) (by simp)
        | some u =>
          rcases only b with z | ⟨ob, xs, z⟩
          · rw [q] at z; cases z
          · obtain ⟨e1, _⟩ := hok b _ z
            obtain ⟨e2, _⟩ := hok' b _ (un.frzs b ob _ z)
            rw [e] at e1
            cases e1
            exact e2
      | next => exact False.elim z
      | brk => exact False.elim z
      | cont => exact False.elim z
  cases hk : K.lookup a with
  | some o =>
    have e := kin a o hk
    rw [ha] at e
    cases e
    exact main (fun _ => none) (fun _ => .inl rfl) (.inr ⟨_, vs.toArray, _, hk, rfl, rfl, rfl, by rw [List.size_toArray, len2]; exact hl, by simpa using rels⟩) (fun b u z => by cases (show (none : Option HO) = some u from z)) (fun b z => absurd rfl z) fun z => absurd rfl z
  | none =>
    let H : Hp := fun b => if b = a then some (.frz { cls := .type "list", data := .seq vs.toArray } (.lst (ns.map V.int))) else none
    have at_a : H a = some (.frz { cls := .type "list", data := .seq vs.toArray } (.lst (ns.map V.int))) := if_pos rfl
    have off : ∀ {b}, b ≠ a → H b = none := fun n => if_neg n
    refine main H (fun b => ?_) (.inl (.inr ⟨_, at_a⟩)) (fun b u z => ?_) (fun b z => ?_) fun _ => hk
    · by_cases n : b = a
      · exact .inr ⟨_, _, by rw [n]; exact at_a⟩
      · exact .inl (off n)
    · by_cases n : b = a
      · subst n
        rw [at_a] at z
        cases z
        exact ⟨ha, by rw [List.length_map]; exact hl, vs, _, rels, ha⟩
      · rw [off n] at z; cases z
    · by_cases n : b = a
      · exact n
      · exact absurd (off n) z
/-- the goal of a law, from the promise of its def, the script's bits told -/
theorem walkG {l : PySem.W.OpenLaw} {n k : Nat} {q : Program} {loose : List Str} {XP : (Str → Option Value) → Heap → Prop} {YP : World → Heap → Prop} {d : DefRec} {K : Params → PySem.W.Frag} {sp : PySem.W.Frag → Sp} {x : Str}
    (hn : l.most = some n) (hn2 : n ≤ sizeLine) (hdf : d.params.defaults = []) (room : Room k callerA) (hY : ∀ (w : World) (h : Heap), YP w h → (K w.params).In h)
    (F : ∀ (w : World) (mg : Str → Option Value) (fl : Addr) (h : Heap), (K w.params).In h → h.Ns mainGlobals mg → mg d.name = some (.ref fl) →
      ∃ fd : FuncData, (∀ (s : Shared) (u : Value), BindsTo s fd ⟨[u], []⟩ [(x, u)]) ∧ ∀ bs : Heap, (K w.params).In bs → bs.Ns mainGlobals mg → FnG l.prog w (K w.params) mg bs (L2.CX l.prog w) k fl fd [x] (sp (K w.params)))
    (hsp : ∀ (K : PySem.W.Frag) (H : Hp) (a : Addr) (ns : List Int), ns.length ≤ n → (∀ z ∈ ns, Builtin.Int.intBits z ≤ 1048576) → Only H → SqL K H a (ns.map V.int) → sp K [.ref a] H (fun v _ => v = .bl true) fun _ _ _ => False) :
    PySem.W.WalkO q loose XP YP l.row.toRowW d [] (fun f vs => PySem.call f vs) := by
  refine Att.attach_callB hn hdf fun w s₀ t mg mb fl o pm cd doc a vs ns G Y ho hd hcd hmg hobj hints hlen hbits hg => ?_
  have kin := hY w _ Y
  obtain ⟨fd, hb, hF⟩ := F w mg fl _ kin G.T.g hmg
  exact runLaw kin G.T.g G.T.b G.T.builtins G.T.nolimit hg hobj hints (Nat.le_trans hlen hn2) room hF hb (fun H hO hS => hsp (K w.params) H a ns hlen hbits hO hS) fun H e s' z => by
    obtain ⟨_, _, _, _, _, _, _, _, _, _, _, _, z⟩ := z
    exact z
end M
end
section
namespace M
open PySem PySem.Spec PyProof.Rows L2
section
variable {X : Cx} {W : WX} {io : List Nat}
theorem st_of {a b : Expr} {op : CmpOp} {m : ME} {pos : Pos} (h : ∃ ta tb r, PE X a ta ∧ PE X b tb ∧ PC X op a b (tOp r ta tb) ∧ ∀ (Out : Hp) (σ0 : L2.St) (G H : Hp) (σ : L2.St) (env : DEnv) (xk : MX) (Kd : MK) (Q : VK), Rel X.K Out io σ0 G H σ env → XOk X.K Out io σ0 G W xk → m xk env Kd →
    (∀ c env' v G' H', Kd c env' → Rel X.K Out io σ0 G' H' σ env' → Sub G G' → Tmp X.K Out G' H' σ env' v c → Q v H') → tOp r ta tb σ H Q) (hm : behindInMarks op b = false) : ST X W io (.Compare a [op] [b] pos) (mTest m) := by
  obtain ⟨ta, tb, r, pa, pb, pc, h⟩ := h
  refine ⟨tTest (tOp r ta tb), pt_cmp pc hm, fun Out σ0 G H σ env xk Kd Q R x hm hq => ?_⟩
  refine h Out σ0 G H σ env xk _ _ R x hm fun c env' v G' H' k R' s t => ?_
  obtain ⟨b, rfl, k⟩ := k
  cases Dd.vBool t
  exact ⟨b, rfl, hq b env' G' H' k R' s⟩
theorem st_dIn {a b : Expr} {ma mb : MO} {pos : Pos} (hu : X.A.units + 1 < cLine) (ha : SO X W io a ma) (hb : SO X W io b mb) (hm : behindInMarks .In b = false := by rfl) : ST X W io (.Compare a [.In] [b] pos) (mTest (mOp2 (fDIn false) ma mb)) := by
  obtain ⟨ta, tb, pa, pb, h⟩ := op2 (os_dIn false) ha hb
  exact st_of ⟨ta, tb, _, pa, pb, pc_din hu pa pb, h⟩ hm
theorem st_dNotIn {a b : Expr} {ma mb : MO} {pos : Pos} (hu : X.A.units + 1 < cLine) (ha : SO X W io a ma) (hb : SO X W io b mb) (hm : behindInMarks .NotIn b = false := by rfl) : ST X W io (.Compare a [.NotIn] [b] pos) (mTest (mOp2 (fDIn true) ma mb)) := by
  obtain ⟨ta, tb, pa, pb, h⟩ := op2 (os_dIn true) ha hb
  exact st_of ⟨ta, tb, _, pa, pb, pc_dnotin hu pa pb, h⟩ hm
def un_fact : Unit := ()
theorem se_neg {i : Int} {k : Nat} {p pos : Pos} : SE X W io (.UnaryOp .USub (.Constant (.int i) k p) pos) (mC (.int (-i))) :=
  ⟨tUn (rU fun i => .int (-i)) (tC (.int i)), pe_un un_neg pe_int, fun Out σ0 G H σ env xk Kd Q R _ hm hq => ⟨i, rfl, hq _ _ _ G H hm R (Sub.refl G) (Dd.int _)⟩⟩
theorem hu65_of {B : Around} {k : Nat} (hr : Room k B) : B.units + 65 < cLine := by have := hr.un; omega
end
section
variable {P : Program} {w : World} {K : PySem.W.Frag} {mg : Str → Option Value} {base : Heap}
theorem use_body {X : Cx} {io : List Nat} {n : Nat} {sem : ME} {N : List Str} {body : List Stmt} {E : XK} {vs : List V} {H : Hp} {Q : VK} (hio : ∀ i ∈ io, i < n) (hN : n ≤ N.length) (h : spM X.K io n sem vs H Q E)
    (hb : ∃ ms, SSs X (fun cls d _ H => E cls d H) io body ms ∧ ∀ xk args Kd, args.length = n → sem xk args Kd → bodySem ms io n N.length xk args Kd) : ∃ t, PSs X body t ∧ t { nx := fun _ H' => Q .non H', rt := Q } (L2.start N vs) H := by
  obtain ⟨Out, G, args, xk, Kd, h1, h2, R, hs, hq, hx⟩ := h
  obtain ⟨ms, hss, hsem⟩ := hb
  obtain ⟨r, p, hrun⟩ := hss.run
  have hs' := hsem xk args Kd h2 hs
  unfold bodySem at hs'
  rw [← h1] at hs'
  refine ⟨r, p, ?_⟩
  refine hrun Out (L2.start N vs) G H (L2.start N vs) _ _ _ _ (R.start (by rw [h1, h2]) (by rw [h1]; exact hN) (by rw [h1]; exact hio)) (fun cls d pl env G' H' σ' R' s' pk xx => ?_) ⟨fun env G' H' σ' R' s' kk => ?_, fun c env v G' H' σ' R' s' tt kk => ?_, fun _ _ _ _ _ _ kk => False.elim kk, fun _ _ _ _ _ _ kk => False.elim kk⟩ hs'
  · exact hx cls d pl _ G' H' xx R'.clear s' pk
  · exact hq _ _ _ G' H' kk R'.clear s' (show Dd _ G' .non .none from .non)
  · exact hq _ _ v G' H' kk R'.clear s' (tt.clear R')
theorem sp_len {io : List Nat} {n : Nat} {sem : ME} {vs : List V} {H : Hp} {Q : VK} {E : XK} (h : spM K io n sem vs H Q E) : vs.length = n := by
  obtain ⟨_, _, _, _, _, h, _⟩ := h
  exact h
/-- a def, its body and what it means told together -/
theorem fnB {x qual : Str} {st : Stmt} {f : Addr} {fd : FuncData} {N ps : List Str} {k : Nat} (F : Fun K x qual st f fd) (S : FnScope N ps (defScope st)) (io : List Nat) (sem : ME)
    (hb : ∀ (cdv : Value) (B : Around) (oth : List Env) (s : Shared) (H : Hp) (E : XK), Room k (B.deeper (envOfC qual (defScope st) s.heap.objs.size f cdv)) →
      ∃ ms, SSs (cxOf (L2.CX P w) P w K mg base N qual (defScope st) f cdv B oth s H E) (fun cls d _ H => E cls d H) io (defBody st) ms ∧ ∀ xk args Kd, args.length = ps.length → sem xk args Kd → bodySem ms io ps.length N.length xk args Kd) (hio : ∀ i ∈ io, i < ps.length := by decide) (hN : ps.length ≤ N.length := by decide) :
    FnOk P w K mg base (L2.CX P w) (k + 1) f fd ps (spM K io ps.length sem) :=
  F.okX S (fun _ _ _ _ h => sp_len h) fun cdv B oth s H vs Q E hr h => use_body (X := cxOf (L2.CX P w) P w K mg base N qual (defScope st) f cdv B oth s H E) hio hN h (hb cdv B oth s H E hr)
theorem fnBG {x qual : Str} {st : Stmt} {f : Addr} {fd : FuncData} {N ps : List Str} {k : Nat} (F : Fun K x qual st f fd) (S : FnScope N ps (defScope st)) (io : List Nat) (sem : ME)
    (hb : ∀ (cdv : Value) (B : Around) (oth : List Env) (s : Shared) (H : Hp) (E : XK), B.guards = some [] → Room k (B.deeper (envOfC qual (defScope st) s.heap.objs.size f cdv)) →
      ∃ ms, SSs (cxOf (L2.CX P w) P w K mg base N qual (defScope st) f cdv B oth s H E) (fun cls d _ H => E cls d H) io (defBody st) ms ∧ ∀ xk args Kd, args.length = ps.length → sem xk args Kd → bodySem ms io ps.length N.length xk args Kd) (hio : ∀ i ∈ io, i < ps.length := by decide) (hN : ps.length ≤ N.length := by decide) :
    FnG P w K mg base (L2.CX P w) (k + 1) f fd ps (spM K io ps.length sem) :=
  fnG F S (fun _ _ _ _ h => sp_len h) fun cdv B oth s H vs Q E hgd hr h => use_body (X := cxOf (L2.CX P w) P w K mg base N qual (defScope st) f cdv B oth s H E) hio hN h (hb cdv B oth s H E hgd hr)
end
end M
end
section
namespace M
open PySem PySem.Spec PyProof.Rows L2
def semLaw : ME := fun _ args Kd => ∃ ns : List Int, args = [.val (.list (ns.map .int))] ∧ ns.length ≤ 63 ∧ (∀ z ∈ ns, Builtin.Int.intBits z ≤ 1048576) ∧ ∀ e, Kd (.val (.bool true)) e
theorem law_start {K : PySem.W.Frag} {H : Hp} {a : Addr} {ns : List Int} (hl : ns.length ≤ 63) (hb : ∀ z ∈ ns, Builtin.Int.intBits z ≤ 1048576) (hS : SqL K H a (ns.map V.int)) : spM K [] 1 semLaw [.ref a] H (fun v _ => v = .bl true) fun _ _ _ => False := by
  refine ⟨fun _ => none, H, [.val (.list (ns.map .int))], fun _ _ _ => False, fun c _ => c = .val (.bool true), rfl, rfl, ?_, ⟨ns, rfl, hl, hb, fun _ => rfl⟩, fun c args' v G' H' k _ _ t => ?_, fun _ _ _ _ _ _ z => z.elim⟩
  · exact
    { sub := Sub.refl H
      out := fun _ _ z => by cases z
      apart := fun _ _ z => by cases z
      len := rfl
      io := fun _ z => by cases z
      cell := fun i => by
        cases i with
        | zero => exact ⟨.ref a, rfl, .lst hS (da_ints ns)⟩
        | succ i => trivial
      sep := fun i j b z _ => by
        cases i with
        | zero => unfold ownA at z; cases z
        | succ i => unfold ownA at z; cases z }
  · subst k
    exact Dd.vBool t
theorem exm_of {K : PySem.W.Frag} {S D : Addr} {r : Bool} (h1 : PySem.W.subIn K (.ref D) (.type "BaseException") = some true) (h2 : PySem.W.isClsIn K D = true) (h3 : PySem.W.typeIn K (.ref D) = some (.type "type")) (h4 : PySem.W.subIn K (.ref S) (.ref D) = some r) : PySem.W.exmOne K (.ref S) (.ref D) = some r := by
  have a1 : (PySem.W.subIn K (.ref D) (.type "BaseException") == some true) = true := by rw [h1]; rfl
  have a2 : ((PySem.W.clsIn K D).isSome && PySem.W.typeIn K (.ref D) == some (.type "type")) = true := by
    rw [show (PySem.W.clsIn K D).isSome = true from h2, h3]; rfl
  unfold PySem.W.exmOne PySem.W.kitCls
  rw [if_pos a1]
  show (if ((PySem.W.clsIn K D).isSome && PySem.W.typeIn K (.ref D) == some (.type "type")) = true then PySem.W.subIn K (.ref S) (.ref D) else none) = some r
  rw [if_pos a2]
  exact h4
theorem tup_dd {K : PySem.W.Frag} {c : Addr} {od : Option Addr} {its : Array Value} {n : Nat} {sl : Array (Option Value)} {xs : List Str} (h : K.lookup c = some ⟨.type "tuple", od, .seq its n, sl⟩) (hz : its.size ≤ sizeLine) (v : Vals (xs.map V.str) its.toList) : ∀ G, Dd K G (.ref c) (.tuple (xs.map .str)) :=
  fun G => .tup (.inr ⟨_, its, n, h, rfl, rfl, hz, v⟩) (da_strs xs)
end M
end
section
namespace M
open PySem PySem.Spec PyProof.Rows L2
/-! ### list(d), d a dict -/
section
variable {X : Cx} {W : WX} {io : List Nat}
theorem keyD_v {K : PySem.W.Frag} {G : Hp} : ∀ (k : Key), Dd K G (kV k) (keyD k)
  | .inl i => .int i
  | .inr x => .str x
theorem dk_keysV {K : PySem.W.Frag} {G : Hp} : ∀ {ks : List (Key × V)} {es : List (PyData × PyData)}, Dk K G ks es → Da K G (ks.map fun kv => kV kv.1) (es.map (·.1))
  | _, _, .nil => .nil
  | _, _, .cons h t => .cons (keyD_v _) (dk_keysV t)
def fListD : MF := fun x k => ∃ es, x = .dict es ∧ k (.lst (es.map (·.1)))
theorem cs_listD : CallS1 X (fun xs H Q => ∃ (a : Addr) (kvs : List (Key × V)), xs = [.ref a] ∧ Rd H a (.dK kvs) ∧ ∀ p, H p = none → Q (.ref p) (upd H p (.lst (kvs.map fun kv => kV kv.1)))) fListD := fun Out io σ0 G H σ env v x k Q R d hf hq => by
  obtain ⟨es, rfl, hk⟩ := hf
  obtain ⟨a, ks, rfl, h1, h2⟩ := d.dict R.sub
  refine ⟨a, ks, rfl, h1, fun p hn => ?_⟩
  obtain ⟨R2, t⟩ := R.newL hn (dk_keysV h2)
  exact hq _ _ G _ hk R2 (Sub.refl G) t
end
end M
end
section
namespace M
open PySem PySem.Spec PyProof.Rows L2
/-! ### signs, pairs, wears -/
def SGN : List Str := ["a", "b", "c", "d", "e", "f"]
def WRN : List Str := [".", "a", "b", "c", "d", "e", "f"]
def SEN : List Str := [".", "?", "a", "b", "c", "d", "e", "f"]
def isIn (L : List Str) : PyData → Bool
  | .str x => L.any fun y => y == x
  | _ => false
def semB (f : PyData → Bool) : ME := fun _ args Kd => ∃ d, args = [.val d] ∧ ∀ e, Kd (.val (.bool (f d))) e
/-- f holds, or the error -/
def semN (f : PyData → Bool) (C : Addr) : ME := fun xk args Kd => ∃ d, args = [.val d] ∧ if f d = true then ∀ e, Kd (.val .none) e else ∀ e, xk (.ref C) none e
def isPair : PyData → Bool
  | .tuple [x, y] => isIn SGN x && isIn WRN y && (eqS x y == some false)
  | _ => false
def upTo : List PyData → Bool
  | x :: y :: r => PySem.W.dataLt x y && upTo (y :: r)
  | _ => true
def isWear : PyData → Bool
  | .tuple ps => decide (ps.length ≤ 20) && ps.all isPair && upTo ps
  | _ => false
theorem isIn_str {L : List Str} {d : PyData} (h : isIn L d = true) : ∃ x, d = .str x ∧ x ∈ L := by
  cases d <;> simp [isIn] at h
  exact ⟨_, rfl, h⟩
theorem isIn_of {L : List Str} {x : Str} (h : x ∈ L) : isIn L (.str x) = true := by
  simp [isIn]; exact h
theorem eqS_str (x y : Str) : eqS (.str x) (.str y) = some (decide (x = y)) := rfl
theorem eqS_int (x y : Int) : eqS (.int x) (.int y) = some (decide (x = y)) := rfl
end M
end
section
namespace M
open PySem PySem.Spec PyProof.Rows L2
theorem data_no : Cell.no.data = none := rfl
theorem data_val (d : PyData) : (Cell.val d).data = some d := rfl
theorem data_lst (ds : List PyData) : (Cell.lst ds).data = some (.list ds) := rfl
theorem data_dct (es : List (PyData × PyData)) : (Cell.dct es).data = some (.dict es) := rfl
theorem opd_tmp (env : DEnv) (c : Cell) : (Opd.tmp c).data env = c.data := rfl
theorem opd_slot (env : DEnv) (i : Nat) : (Opd.slot i).data env = env[i]?.bind Cell.data := rfl
theorem wipe_nil (env : DEnv) : wipeE env [] = env := rfl
theorem wipe_cons (env : DEnv) (v : Nat) (vs : List Nat) : wipeE env (v :: vs) = (wipeE env vs).set v .no := rfl
theorem setAll_cons (i : Nat) (is : List Nat) (d : PyData) (ds : List PyData) (env : DEnv) : setAll (i :: is) (d :: ds) env = setAll is ds (env.set i (.val d)) := rfl
theorem setAll_nil (ds : List PyData) (env : DEnv) : setAll [] ds env = env := rfl
theorem take_one (i : Nat) (d : PyData) (env : DEnv) (k : DEnv → Prop) : (Tgt.one i).take d env k = k (env.set i (.val d)) := rfl
theorem take_many (is : List Nat) (d : PyData) (env : DEnv) (k : DEnv → Prop) : (Tgt.many is).take d env k = ∃ ds, d = .tuple ds ∧ ds.length = is.length ∧ k (setAll is ds env) := rfl
/-! ### comprehensions -/
def mF : MX := fun _ _ _ => False
def lcGo (t : Tgt) (mc : MT) (me : ME) (vs : List Nat) (Kd : MK) (ds : List PyData) (env1 : DEnv) : Prop := ∃ Wd : Nat → List PyData → DEnv → Prop, Wd 0 [] (wipeE env1 vs) ∧
  (∀ k d acc env, ds[k]? = some d → Wd k acc env → t.take d env fun env' => mc mF env' fun b env2 => if b = true then me mF env2 fun c env3 => ∃ x, c.data = some x ∧ acc.length < sizeLine ∧ Wd (k + 1) (acc ++ [x]) (wipeE env3 vs) else Wd (k + 1) acc (wipeE env2 vs)) ∧
  ∀ acc env, Wd ds.length acc env → Kd (.lst acc) env
theorem mLc_eq (mi : MI) (t : Tgt) (mc : MT) (me : ME) (vs : List Nat) (xk : MX) (env : DEnv) (Kd : MK) : mLc mi t mc me vs xk env Kd = mi xk env (lcGo t mc me vs Kd) := rfl
theorem take_succ {α : Type} {l : List α} {i : Nat} {x : α} (h : l[i]? = some x) : l.take (i + 1) = l.take i ++ [x] := by
  rw [List.take_add_one, h]
  rfl
theorem lc_by {t : Tgt} {mc : MT} {me : ME} {vs : List Nat} {Kd : MK} {ds : List PyData} {env1 : DEnv} (f : PyData → Bool) (g : PyData → PyData) (hz : ds.length ≤ sizeLine)
    (step : ∀ d ∈ ds, ∀ (acc : List PyData) (N : List PyData → DEnv → Prop), acc.length < sizeLine → N (if f d = true then acc ++ [g d] else acc) (wipeE env1 vs) →
      t.take d (wipeE env1 vs) fun env' => mc mF env' fun b env2 => if b = true then me mF env2 fun c env3 => ∃ x, c.data = some x ∧ acc.length < sizeLine ∧ N (acc ++ [x]) (wipeE env3 vs) else N acc (wipeE env2 vs))
    (last : Kd (.lst ((ds.filter f).map g)) (wipeE env1 vs)) : lcGo t mc me vs Kd ds env1 := by
  refine ⟨fun k acc env => acc = ((ds.take k).filter f).map g ∧ env = wipeE env1 vs, ⟨by simp, rfl⟩, fun k d acc env hk hw => ?_, fun acc env hw => ?_⟩
  · obtain ⟨rfl, rfl⟩ := hw
    have hlt : k < ds.length := (List.getElem?_eq_some_iff.mp hk).1
    have hl : (((ds.take k).filter f).map g).length < sizeLine := by
      rw [List.length_map]
      have h1 := List.length_filter_le f (ds.take k)
      rw [List.length_take] at h1
      omega
    refine step d (List.mem_of_getElem? hk) _ (fun acc env => acc = ((ds.take (k + 1)).filter f).map g ∧ env = wipeE env1 vs) hl ⟨?_, rfl⟩
    rw [take_succ hk, List.filter_append]
    by_cases q : f d = true
    · rw [if_pos q]; simp [q]
    · rw [if_neg q]; simp [Bool.eq_false_iff.mpr q]
  · obtain ⟨rfl, rfl⟩ := hw
    rw [List.take_length]
    exact last
/-! ### loops -/
def forGo (t : Tgt) (body : MS) (xk : MX) (D : MEnds) (ds : List PyData) (env1 : DEnv) : Prop := ∃ Wd : Nat → DEnv → Prop, Wd 0 env1 ∧
  (∀ k d env, ds[k]? = some d → Wd k env → t.take d env fun env' => body xk { nx := Wd (k + 1), ct := Wd (k + 1), bk := D.nx, rt := D.rt } env') ∧ ∀ env, Wd ds.length env → D.nx env
theorem mFor_eq (mi : MI) (t : Tgt) (body : MS) (xk : MX) (D : MEnds) (env : DEnv) : mFor mi t body xk D env = mi xk env (forGo t body xk D) := rfl
end M
end
section
namespace M
open PySem PySem.Spec PyProof.Rows L2
theorem lc_map {t : Tgt} {me : ME} {vs : List Nat} {Kd : MK} {ds : List PyData} {env1 : DEnv} (g : PyData → PyData) (hz : ds.length ≤ sizeLine)
    (step : ∀ d ∈ ds, ∀ (acc : List PyData) (N : List PyData → DEnv → Prop), acc.length < sizeLine → N (acc ++ [g d]) (wipeE env1 vs) → t.take d (wipeE env1 vs) fun env' => me mF env' fun c env3 => ∃ x, c.data = some x ∧ acc.length < sizeLine ∧ N (acc ++ [x]) (wipeE env3 vs))
    (last : Kd (.lst (ds.map g)) (wipeE env1 vs)) : lcGo t mYes me vs Kd ds env1 := by
  refine lc_by (fun _ => true) g hz (fun d hd acc N h1 h2 => ?_) ?_
  · have := step d hd acc N h1 (by simpa using h2)
    simpa [mYes] using this
  · rw [List.filter_eq_self.mpr fun _ _ => rfl]
    exact last
theorem boolsD_map' (f : PyData → Bool) : ∀ ds : List PyData, boolsD (ds.map fun d => .bool (f d)) = some (ds.map f)
  | [] => rfl
  | d :: ds => by
    rw [List.map_cons, boolsD, boolsD_map' f ds]
    rfl
theorem fAll_map {f : PyData → Bool} {ds : List PyData} {k : Cell → Prop} (h : k (.val (.bool (ds.all f)))) : fAll (.list (ds.map fun d => .bool (f d))) k :=
  ⟨_, _, rfl, boolsD_map' f ds, by rw [List.all_map]; exact h⟩
theorem cut1 (ds : List PyData) : cutD ds (some 1) none = ds.drop 1 := by
  unfold cutD
  rw [HT.sIx_none, show (1 : Int) = ((1 : Nat) : Int) from rfl, HT.sIx_nat]
  cases ds with
  | nil => rfl
  | cons d ds =>
    rw [Nat.min_eq_left (by simp)]
    exact List.take_of_length_le (by simp)
def pairLt : PyData → Bool
  | .tuple [x, y] => PySem.W.dataLt x y
  | _ => true
theorem zip_up : ∀ ds : List PyData, (zipD ds (ds.drop 1)).all pairLt = upTo ds
  | [] => rfl
  | [x] => rfl
  | x :: y :: r => by
    have ih := zip_up (y :: r)
    unfold zipD at ih ⊢
    simp only [List.drop_succ_cons, List.drop_zero] at ih ⊢
    rw [List.zipWith_cons_cons, List.all_cons, ih]
    rfl
theorem pair_is {p : PyData} (h : isPair p = true) : ∃ a b, p = .tuple [.str a, .str b] ∧ a ∈ SGN ∧ b ∈ WRN ∧ a ≠ b := by
  unfold isPair at h
  split at h
  · simp only [Bool.and_eq_true] at h
    obtain ⟨a, rfl, ha⟩ := isIn_str h.1.1
    obtain ⟨b, rfl, hb⟩ := isIn_str h.1.2
    refine ⟨a, b, rfl, ha, hb, fun e => ?_⟩
    have := h.2
    rw [eqS_str, e] at this
    simp at this
  · cases h
theorem pair_lt {p q : PyData} (hp : isPair p = true) (hq : isPair q = true) (k : Cell → Prop) (h : k (.val (.bool (PySem.W.dataLt p q)))) : fLtD p q k := by
  obtain ⟨a, b, rfl, _⟩ := pair_is hp
  obtain ⟨c, d, rfl, _⟩ := pair_is hq
  refine ⟨by simp [PyData.hasDict, PyData.hasDictAll], by simp [PyData.hasDict, PyData.hasDictAll], by simp [PySem.W.alike, PySem.W.alikeAll], (fun z => nomatch z), ?_, h⟩
  simp [PyData.depth, PyData.depthAll]
theorem zip_mem {xs ys : List PyData} {p : PyData} (h : p ∈ zipD xs ys) : ∃ x y, p = .tuple [x, y] ∧ x ∈ xs ∧ y ∈ ys := by
  obtain ⟨i, hi⟩ := List.mem_iff_getElem?.mp h
  obtain ⟨x, y, h1, h2, rfl⟩ := zip_at hi
  exact ⟨x, y, rfl, List.mem_of_getElem? h1, List.mem_of_getElem? h2⟩
theorem zip_len (xs ys : List PyData) : (zipD xs ys).length ≤ xs.length := by
  unfold zipD
  rw [List.length_zipWith]
  exact Nat.min_le_left _ _
theorem for_by {t : Tgt} {body : MS} {xk : MX} {D : MEnds} {ds : List PyData} {env1 : DEnv} (Wd : Nat → DEnv → Prop) (start : Wd 0 env1)
    (turn : ∀ k d env, ds[k]? = some d → Wd k env → ∀ D' : MEnds, (∀ e, Wd (k + 1) e → D'.nx e) → (∀ e, Wd (k + 1) e → D'.ct e) → D'.bk = D.nx → D'.rt = D.rt → t.take d env fun env' => body xk D' env')
    (last : ∀ env, Wd ds.length env → D.nx env) : forGo t body xk D ds env1 :=
  ⟨Wd, start, fun k d env hk hw => turn k d env hk hw _ (fun _ h => h) (fun _ h => h) rfl rfl, last⟩
theorem while_by {c : MT} {body : MS} {xk : MX} {D : MEnds} {env : DEnv} (Wd : Nat → DEnv → Prop) (start : ∃ n, Wd n env)
    (turn : ∀ n env, Wd n env → ∀ D' : MEnds, (∀ m e, m < n → Wd m e → D'.nx e) → (∀ m e, m < n → Wd m e → D'.ct e) → D'.bk = D.nx → D'.rt = D.rt → c xk env fun b env' => if b = true then body xk D' env' else D.nx env') : mWhile c body xk D env :=
  ⟨Wd, start, fun n env hw => turn n env hw _ (fun m e h1 h2 => ⟨m, h1, h2⟩) (fun m e h1 h2 => ⟨m, h1, h2⟩) rfl rfl⟩
theorem lt_line {n : Nat} (h : n ≤ 4096) : n < sizeLine := Nat.lt_of_le_of_lt h (by decide)
theorem small_line {n : Nat} (h : n ≤ 4096) : n ≤ sizeLine := Nat.le_trans h (by decide)
end M
end
section
namespace M
open PySem PySem.Spec PyProof.Rows L2
/-! ### walks in a wear -/
abbrev Wr := List (Str × Str)
def wrPair (p : Str × Str) : PyData := .tuple [.str p.1, .str p.2]
def wearD (w : Wr) : PyData := .tuple (w.map wrPair)
def walk (w : Wr) : Nat → Str → Str → Prop
  | 0, x, y => x = y
  | n + 1, x, y => ∃ z, walk w n x z ∧ (z, y) ∈ w
/-- the least number of steps -/
def Dist (w : Wr) (x y : Str) : Option Nat → Prop
  | some n => walk w n x y ∧ ∀ m, m < n → ¬ walk w m x y
  | none => ∀ n, ¬ walk w n x y
theorem dist_ex (w : Wr) (x y : Str) : ∃ o, Dist w x y o := by
  by_cases h : ∃ n, walk w n x y
  · obtain ⟨n, hn⟩ := h
    have key : ∀ n, walk w n x y → ∃ o, Dist w x y o := fun n => by
      induction n using Nat.strongRecOn with
      | ind n ih =>
        intro hn
        by_cases q : ∃ m, m < n ∧ walk w m x y
        · obtain ⟨m, h1, h2⟩ := q
          exact ih m h1 h2
        · exact ⟨some n, hn, fun m hm z => q ⟨m, hm, z⟩⟩
    exact key n hn
  · exact ⟨none, fun n z => h ⟨n, z⟩⟩
theorem dist_uniq {w : Wr} {x y : Str} {a b : Option Nat} (h1 : Dist w x y a) (h2 : Dist w x y b) : a = b := by
  cases a with
  | none => cases b with
    | none => rfl
    | some n => exact absurd h2.1 (h1 n)
  | some m => cases b with
    | none => exact absurd h1.1 (h2 m)
    | some n =>
      have : m = n := by
        rcases Nat.lt_trichotomy m n with q | q | q
        · exact absurd h1.1 (h2.2 m q)
        · exact q
        · exact absurd h2.1 (h1.2 n q)
      rw [this]
open Classical in
noncomputable def dist (w : Wr) (x y : Str) : Option Nat := Classical.choose (dist_ex w x y)
theorem dist_is (w : Wr) (x y : Str) : Dist w x y (dist w x y) := Classical.choose_spec (dist_ex w x y)
theorem dist_of {w : Wr} {x y : Str} {o : Option Nat} (h : Dist w x y o) : dist w x y = o := dist_uniq (dist_is w x y) h
def optI : Option Nat → PyData
  | some n => .int (n : Int)
  | none => .none
/-- a dict of steps -/
def encK (f : List (Str × Nat)) : List (PyData × PyData) := f.map fun p => (.str p.1, .int (p.2 : Int))
def look : List (Str × Nat) → Str → Option Nat
  | [], _ => none
  | p :: r, y => if p.1 = y then some p.2 else look r y
structure IsDist (w : Wr) (x : Str) (f : List (Str × Nat)) : Prop where
  nd : (f.map (·.1)).Nodup
  at_ : ∀ y, look f y = dist w x y
  sub : ∀ y ∈ f.map (·.1), y = x ∨ y ∈ w.map (·.2)
/-- steps_from -/
def semFrom : ME := fun _ args Kd => ∃ w x, args = [.val (wearD w), .val (.str x)] ∧ w.length ≤ 20 ∧ ∀ f e, IsDist w x f → Kd (.dct (encK f)) e
theorem look_cons (p : Str × Nat) (r : List (Str × Nat)) (y : Str) : look (p :: r) y = if p.1 = y then some p.2 else look r y := rfl
theorem getK_enc (y : Str) : ∀ f : List (Str × Nat), getK (encK f) (.inr y) = (look f y).map fun n => .int (n : Int)
  | [] => rfl
  | p :: f => by
    show (if keyOf (.str p.1) = some (.inr y) then some (PyData.int (p.2 : Int)) else getK (encK f) (.inr y)) = _
    rw [getK_enc y f, look_cons]
    by_cases h : p.1 = y
    · rw [if_pos h, if_pos (by rw [h]; rfl)]; rfl
    · rw [if_neg h, if_neg (fun z => h (by cases z; rfl))]
theorem look_none {y : Str} : ∀ {f : List (Str × Nat)}, look f y = none ↔ y ∉ f.map (·.1)
  | [] => by simp [look]
  | p :: f => by
    rw [look_cons, List.map_cons, List.mem_cons]
    by_cases h : p.1 = y
    · rw [if_pos h]
      exact ⟨(fun z => nomatch z), fun z => absurd (Or.inl h.symm) z⟩
    · rw [if_neg h, look_none (f := f)]
      exact ⟨fun z q => q.elim (fun e => h e.symm) z, fun z q => z (.inr q)⟩
theorem putD_enc {y : Str} {d : PyData} : ∀ {f : List (Str × Nat)}, look f y = none → putD (encK f) (.inr y) d = encK f ++ [(.str y, d)]
  | [], _ => rfl
  | p :: f, h => by
    rw [look_cons] at h
    by_cases e : p.1 = y
    · rw [if_pos e] at h; cases h
    · rw [if_neg e] at h
      have ih := putD_enc (d := d) h
      show (if keyOf (.str p.1) = some (.inr y) then _ else (PyData.str p.1, PyData.int (p.2 : Int)) :: putD (encK f) (.inr y) d) = _
      rw [if_neg (fun z => e (by cases z; rfl)), ih]
      rfl
theorem look_app {y : Str} : ∀ {f g : List (Str × Nat)}, look (f ++ g) y = (look f y).or (look g y)
  | [], g => by simp [look]
  | p :: f, g => by
    rw [List.cons_append, look_cons, look_cons]
    by_cases e : p.1 = y
    · rw [if_pos e, if_pos e]; rfl
    · rw [if_neg e, if_neg e, look_app]
theorem look_all {y : Str} {n : Nat} : ∀ {B : List Str}, look (B.map fun z => (z, n)) y = if y ∈ B then some n else none
  | [] => rfl
  | b :: B => by
    rw [List.map_cons, look_cons, look_all]
    by_cases e : b = y
    · rw [if_pos e, if_pos (by rw [e]; exact List.mem_cons_self)]
    · rw [if_neg e]
      by_cases q : y ∈ B
      · rw [if_pos q, if_pos (List.mem_cons_of_mem _ q)]
      · rw [if_neg q, if_neg (fun z => (List.mem_cons.mp z).elim (fun w => e w.symm) q)]
theorem enc_nodup {f : List (Str × Nat)} (h : (f.map (·.1)).Nodup) : nodupD (encK f) := by
  unfold nodupD encK
  rw [List.map_map]
  have e : (f.map ((fun x : PyData × PyData => x.1) ∘ fun p => (PyData.str p.1, PyData.int (p.2 : Int)))) = (f.map (·.1)).map PyData.str := by
    rw [List.map_map]; rfl
  rw [e]
  exact List.Pairwise.map _ (fun a b n z => n (by cases z; rfl)) h
theorem nodup_le : ∀ {l m : List Str}, l.Nodup → (∀ y ∈ l, y ∈ m) → l.length ≤ m.length
  | [], _, _, _ => Nat.zero_le _
  | a :: l, m, h, s => by
    have ha := s a List.mem_cons_self
    rw [List.nodup_cons] at h
    have := nodup_le (l := l) (m := m.erase a) h.2 fun y hy => (List.mem_erase_of_ne (fun e => h.1 (by rw [← e]; exact hy))).mpr (s y (List.mem_cons_of_mem _ hy))
    rw [List.length_erase_of_mem ha] at this
    have hp : 0 < m.length := List.length_pos_of_mem ha
    simp only [List.length_cons]
    omega
/-- behind n rounds -/
structure Lev (w : Wr) (x : Str) (n : Nat) (f : List (Str × Nat)) (ws : List Str) : Prop where
  nd : (f.map (·.1)).Nodup
  sub : ∀ y ∈ f.map (·.1), y = x ∨ y ∈ w.map (·.2)
  val : ∀ y k, look f y = some k → k ≤ n ∧ Dist w x y (some k)
  all : ∀ y m, m ≤ n → walk w m x y → look f y ≠ none
  wave : ∀ y, y ∈ ws ↔ Dist w x y (some n)
theorem lev0 (w : Wr) (x : Str) : Lev w x 0 [(x, 0)] [x] where
  nd := by simp
  sub := fun y h => by simp at h; exact .inl h
  val := fun y k h => by
    simp only [look] at h
    split at h
    · rename_i e
      cases h
      exact ⟨Nat.le_refl _, e, fun m hm => absurd hm (Nat.not_lt_zero m)⟩
    · cases h
  all := fun y m hm hw => by
    have : m = 0 := by omega
    subst this
    cases hw
    simp [look]
  wave := fun y => by
    constructor
    · intro h
      simp at h
      exact ⟨h.symm, fun m hm => absurd hm (Nat.not_lt_zero m)⟩
    · intro h
      have : x = y := h.1
      simp [this]
theorem dist_pred {w : Wr} {x y : Str} {m : Nat} (h : Dist w x y (some (m + 1))) : ∃ z, Dist w x z (some m) ∧ (z, y) ∈ w := by
  obtain ⟨⟨z, h1, h2⟩, h3⟩ := h
  exact ⟨z, ⟨h1, fun k hk q => h3 (k + 1) (by omega) ⟨z, q, h2⟩⟩, h2⟩
theorem lev_le {w : Wr} {x : Str} {n : Nat} {f : List (Str × Nat)} {ws : List Str} (L : Lev w x n f ws) : f.length ≤ w.length + 1 := by
  have := nodup_le (m := x :: w.map (·.2)) L.nd fun y hy => by
    rcases L.sub y hy with h | h
    · rw [h]; exact List.mem_cons_self
    · exact List.mem_cons_of_mem _ h
  simpa using this
theorem lev_next {w : Wr} {x : Str} {n : Nat} {f : List (Str × Nat)} {ws B : List Str} (L : Lev w x n f ws) (hB : B.Nodup) (hm : ∀ y, y ∈ B ↔ look f y = none ∧ ∃ s ∈ ws, (s, y) ∈ w) : Lev w x (n + 1) (f ++ B.map fun y => (y, n + 1)) B := by
  have inB : ∀ y, look f y = none → walk w (n + 1) x y → y ∈ B := fun y hy hw => by
    obtain ⟨z, h1, h2⟩ := hw
    refine (hm y).mpr ⟨hy, z, (L.wave z).mpr ⟨h1, fun m hlt q => ?_⟩, h2⟩
    exact L.all y (m + 1) (by omega) ⟨z, q, h2⟩ hy
  have distB : ∀ y ∈ B, Dist w x y (some (n + 1)) := fun y hy => by
    obtain ⟨hn, s, hs, hp⟩ := (hm y).mp hy
    exact ⟨⟨s, ((L.wave s).mp hs).1, hp⟩, fun m hlt q => L.all y m (by omega) q hn⟩
  exact
  { nd := by
      rw [List.map_append, List.map_map, List.nodup_append]
      have e1 : B.map ((fun x : Str × Nat => x.1) ∘ fun y => (y, n + 1)) = B := List.map_id B
      refine ⟨L.nd, by rw [e1]; exact hB, fun a ha b hb e => ?_⟩
      have hb : b ∈ B := by simpa using hb
      subst e
      exact look_none.mp ((hm a).mp hb).1 ha
    sub := fun y hy => by
      rw [List.map_append, List.map_map, List.mem_append] at hy
      rcases hy with hy | hy
      · exact L.sub y hy
      · have hy : y ∈ B := by simpa using hy
        obtain ⟨_, s, _, hp⟩ := (hm y).mp hy
        exact .inr (List.mem_map.mpr ⟨_, hp, rfl⟩)
    val := fun y k h => by
      rw [look_app, look_all] at h
      cases q : look f y with
      | some k' =>
        rw [q] at h
        cases h
        obtain ⟨h1, h2⟩ := L.val y _ q
        exact ⟨by omega, h2⟩
      | none =>
        rw [q] at h
        simp only [Option.none_or] at h
        split at h
        · rename_i hy
          cases h
          exact ⟨Nat.le_refl _, distB y hy⟩
        · cases h
    all := fun y m hmn hw => by
      rw [look_app, look_all]
      cases q : look f y with
      | some k' => simp
      | none =>
        have : m = n + 1 := by
          rcases Nat.lt_or_ge m (n + 1) with h | h
          · exact absurd q (L.all y m (by omega) hw)
          · omega
        subst this
        simp [inB y q hw]
    wave := fun y => by
      constructor
      · exact distB y
      · intro h
        refine inB y ?_ h.1
        cases q : look f y with
        | none => rfl
        | some k =>
          obtain ⟨h1, h2⟩ := L.val y k q
          have := dist_uniq h h2
          simp at this
          omega }
theorem lev_end {w : Wr} {x : Str} {n : Nat} {f : List (Str × Nat)} (L : Lev w x n f []) : IsDist w x f where
  nd := L.nd
  sub := L.sub
  at_ := fun y => by
    cases q : look f y with
    | some k => exact (dist_of (L.val y k q).2).symm
    | none =>
      refine (dist_of (o := none) fun m hw => ?_).symm
      have low : ∀ d m y, m = n + d → Dist w x y (some m) → False := fun d => by
        induction d with
        | zero => intro m y e h; subst e; exact absurd ((L.wave y).mpr h) (by simp)
        | succ d ih =>
          intro m y e h
          subst e
          obtain ⟨z, hz, _⟩ := dist_pred h
          exact ih (n + d) z rfl hz
      obtain ⟨o, ho⟩ := dist_ex w x y
      cases o with
      | none => exact ho m hw
      | some k =>
        rcases Nat.lt_or_ge n k with h | h
        · exact low (k - n) k y (by omega) ho
        · exact L.all y k h ho.1 q
end M
end
section
namespace M
open PySem PySem.Spec PyProof.Rows L2
theorem fInt1_int (i : Int) (k : Cell → Prop) : fInt1 (.int i) k = k (.val (.int i)) := by
  refine propext ⟨fun h => ?_, fun h => .inl ⟨i, rfl, h⟩⟩
  rcases h with ⟨j, e, h⟩ | ⟨b, e, h⟩
  · cases e; exact h
  · cases e
theorem fInt1_bool (b : Bool) (k : Cell → Prop) : fInt1 (.bool b) k = k (.val (.int (if b = true then 1 else 0))) := by
  refine propext ⟨fun h => ?_, fun h => .inr ⟨b, rfl, h⟩⟩
  rcases h with ⟨j, e, h⟩ | ⟨c, e, h⟩
  · cases e
  · cases e; exact h
theorem fSum_ints (ns : List Int) (k : Cell → Prop) : fSum (.list (ns.map .int)) k = k (.val (.int ns.sum)) := by
  refine propext ⟨fun h => ?_, fun h => ⟨_, ns, rfl, intsD_map ns, h⟩⟩
  obtain ⟨ds, bs, e, hb, h⟩ := h
  cases e
  rw [intsD_map] at hb
  cases hb
  exact h
theorem fMax2_ints (i j : Int) (k : Cell → Prop) : fMax2 [.int i, .int j] k = k (.val (.int (if j > i then j else i))) := by
  refine propext ⟨fun h => ?_, fun h => ⟨i, j, rfl, h⟩⟩
  obtain ⟨a, b, e, h⟩ := h
  cases e
  exact h
theorem fMin2_ints (i j : Int) (k : Cell → Prop) : fMin2 [.int i, .int j] k = k (.val (.int (if j < i then j else i))) := by
  refine propext ⟨fun h => ?_, fun h => ⟨i, j, rfl, h⟩⟩
  obtain ⟨a, b, e, h⟩ := h
  cases e
  exact h
theorem cut_to1 (ns : List PyData) : cutD ns none (some 1) = ns.take 1 := by
  unfold cutD
  rw [HT.sIx_none, show (1 : Int) = ((1 : Nat) : Int) from rfl, HT.sIx_nat]
  cases ns with
  | nil => rfl
  | cons n ns => simp
theorem fSum_take (m : Nat) (ns : List Int) (k : Cell → Prop) : fSum (.list ((ns.map .int).take m)) k = k (.val (.int (ns.take m).sum)) := by
  rw [← List.map_take]
  exact fSum_ints _ k
theorem log_lt {a : Int} {p : Nat} (h0 : 0 ≤ a) (h : a < 2 ^ p) : a.natAbs.log2 ≤ p := by
  by_cases z : a.natAbs = 0
  · rw [z, show Nat.log2 0 = 0 from by decide]; exact Nat.zero_le _
  · have h2 : a.natAbs < 2 ^ p := by
      have e : ((a.natAbs : Nat) : Int) = a := by omega
      have : ((a.natAbs : Nat) : Int) < ((2 ^ p : Nat) : Int) := by rw [e]; simpa using h
      exact Int.ofNat_lt.mp this
    exact Nat.le_of_lt ((Nat.log2_lt z).mpr h2)
theorem cmulW {a b : Int} {p q : Nat} (a0 : 0 ≤ a) (ha : a < 2 ^ p) (b0 : 0 ≤ b) (hb : b < 2 ^ q) (h : p + q < 1000000) : CMulW a b := by
  have h1 := log_lt a0 ha
  have h2 := log_lt b0 hb
  unfold CMulW
  omega
theorem cdivW {a b : Int} {q : Nat} (b0 : 0 < b) (hb : b < 2 ^ q) (h : q < 9000) : CDivW a b := ⟨b0, by
  have h2 := log_lt (Int.le_of_lt b0) hb
  omega⟩
theorem bmul {a b : Int} {p q : Nat} (a0 : 0 ≤ a) (ha : a < 2 ^ p) (b0 : 0 ≤ b) (hb : b < 2 ^ q) : 0 ≤ a * b ∧ a * b < 2 ^ (p + q) := by
  refine ⟨Int.mul_nonneg a0 b0, ?_⟩
  rw [Int.pow_add]
  rcases Int.lt_or_eq_of_le b0 with q | q
  · exact Int.mul_lt_mul ha (Int.le_of_lt hb) q (Int.le_of_lt (Int.pow_pos (by decide)))
  · rw [← q, Int.mul_zero]
    exact Int.mul_pos (Int.pow_pos (by decide)) (Int.pow_pos (by decide))
theorem atI_in {ds : List PyData} {i : Int} (h0 : 0 ≤ i) (h : i < ds.length) : ∃ d, atI ds i = some d ∧ ds[i.toNat]? = some d ∧ d ∈ ds := by
  have hl : i.toNat < ds.length := by omega
  refine ⟨ds[i.toNat], ?_, List.getElem?_eq_getElem hl, List.getElem_mem hl⟩
  unfold atI ixN
  rw [if_pos h0, if_pos h]
  show ds[i.toNat]? = _
  exact List.getElem?_eq_getElem hl
/-! ### the law's own bag of numbers -/
def BagAt (c : Int) (bs : List PyData) : Prop := ∃ x y z : Int, bs = [.int x, .int y, .int z] ∧ 0 ≤ x ∧ 0 ≤ y ∧ y < 10 ^ 40 + 121 ∧ 0 ≤ z ∧ z ≤ c
def semBag : ME := fun _ args Kd => ∃ (ns : List Int) (k : Int), args = [.val (.list (ns.map .int)), .val (.int k)] ∧ ns.length ≤ 63 ∧ 0 ≤ k ∧ k < 1000 ∧ ∀ bs e, BagAt 61000 bs → Kd (.lst bs) e
def semTake : ME := fun _ args Kd => ∃ (bs : List PyData) (c many : Int), args = [.lst bs, .val (.int many)] ∧ BagAt c bs ∧ c ≤ 2 ^ 60 ∧ 0 < many ∧ many < 2 ^ 60 ∧ ∀ bs' v, BagAt (c + 1) bs' → 0 ≤ v → v < many → Kd (.val (.int v)) [.lst bs', .no]
def semPick : ME := fun _ args Kd => ∃ (bs : List PyData) (c : Int) (ds : List PyData), args = [.lst bs, .val (.list ds)] ∧ BagAt c bs ∧ c ≤ 2 ^ 60 ∧ 0 < ds.length ∧ ds.length < 2 ^ 60 ∧ ∀ bs' d, BagAt (c + 1) bs' → d ∈ ds → Kd (.val d) [.lst bs', .no]
end M
end
section
namespace M
open PySem PySem.Spec PyProof.Rows L2
theorem BagAt.mono {c c' : Int} {bs : List PyData} (h : BagAt c bs) (l : c ≤ c') : BagAt c' bs := by
  obtain ⟨x, y, z, e, h1, h2, h3, h4, h5⟩ := h
  exact ⟨x, y, z, e, h1, h2, h3, h4, Int.le_trans h5 l⟩
theorem take_ok {xk : MX} {bs : List PyData} {c many : Int} {Kd : MK} (hb : BagAt c bs) (hc : c ≤ 2 ^ 60) (h0 : 0 < many) (h1 : many < 2 ^ 60) (k : ∀ bs' v, BagAt (c + 1) bs' → 0 ≤ v → v < many → Kd (.val (.int v)) [.lst bs', .no]) : semTake xk [.lst bs, .val (.int many)] Kd :=
  ⟨bs, c, many, rfl, hb, hc, h0, h1, k⟩
theorem pick_ok {xk : MX} {bs : List PyData} {c : Int} {ds : List PyData} {Kd : MK} (hb : BagAt c bs) (hc : c ≤ 2 ^ 60) (h0 : 0 < ds.length) (h1 : ds.length < 2 ^ 60) (k : ∀ bs' d, BagAt (c + 1) bs' → d ∈ ds → Kd (.val d) [.lst bs', .no]) : semPick xk [.lst bs, .val (.list ds)] Kd :=
  ⟨bs, c, ds, rfl, hb, hc, h0, h1, k⟩
def semWear : ME := fun _ args Kd => ∃ (bs : List PyData) (c : Int), args = [.lst bs] ∧ BagAt c bs ∧ c ≤ 2 ^ 50 ∧ ∀ bs' w, BagAt (c + 100) bs' → isWear (wearD w) = true → Kd (.val (wearD w)) [.lst bs']
end M
end
section
namespace M
open PySem PySem.Spec PyProof.Rows L2
def wearEnd : MS := mIfS
  (mAndT (mTest (mOp2 (fEqS true) (mSlot 7) (mSlot 8)))
    (mAndT (mTest (mOp2 (fInD true) (mTmp (mTup (mCons (mVar 7) (mCons (mVar 8) mNil)))) (mSlot 4)))
      (mTest (mOp2 (fInt fun i j => PyData.bool (decide (i < j))) (mTmp (mUn fLen (mSlot 4))) (mTmp (mC (PyData.int 20)))))))
  (mAppend 4 (mTup (mCons (mVar 7) (mCons (mVar 8) mNil)))) mNext
def wearBody : MS :=
  (mSeq (mSet 6 (mIf (mTest (mOp2 (fEqS false) (mSlot 3) (mTmp (mC (PyData.int 0))))) (mUn fListS (mTmp (mC (PyData.str "abcdef")))) (mVar 1)))
  (mSeq (mSet 7 (mCallB 0 semPick (mCons (mVar 6) mNil)))
  (mSeq (mSet 6 (mOp2 fCat (mSlot 6) (mTmp (mRepL (mLst (mCons (mC (PyData.str ".")) mNil))
      (mUn fInt1 (mTmp (mOrV (mOp2 (fInt fun i j => PyData.bool (decide (j < i))) (mSlot 3) (mTmp (mC (PyData.int 4))))
        (mAndV (mOp2 (fEqS false) (mSlot 3) (mTmp (mC (PyData.int 0)))) (mOp2 (fEqS false) (mSlot 5) (mTmp (mC (PyData.int 1))))))))))))
  (mSeq (mIfS (mTest (mOp2 (fEqS false) (mSlot 3) (mTmp (mC (PyData.int 3)))))
      (mSet 6 (mLc (mItL (mVar 1)) (Tgt.one 9) (mTest (mOp2 (fEqS false) (mTmp (mOp2 fLtS (mSlot 9) (mTmp (mC (PyData.str "c"))))) (mTmp (mOp2 fLtS (mSlot 7) (mTmp (mC (PyData.str "c"))))))) (mVar 9) [9])) mNext)
  (mSeq (mSet 8 (mCallB 0 semPick (mCons (mVar 6) mNil)))
  (mSeq (mIfS (mTest (mOp2 (fInS false) (mSlot 3) (mTmp (mTup (mCons (mC (PyData.int 1)) (mCons (mC (PyData.int 5)) mNil))))))
      (mSeq (mSet 6 (mOp2 fCat (mSlot 1) (mTmp (mLst (mCons (mC (PyData.str ".")) (mCons (mOp2 fIxL (mSlot 1) (mTmp (mC (PyData.int 0)))) mNil))))))
        (mSet 8 (mOp2 fIxL (mSlot 6) (mTmp (mOp2 (fInt fun i j => PyData.int (i + j)) (mTmp (mOp2 (fInt fun i j => PyData.int (i + j)) (mTmp (mIndex 1 (mVar 7))) (mTmp (mC (PyData.int 1)))))
          (mTmp (mUn fInt1 (mTmp (mAndV (mOp2 (fEqS false) (mSlot 3) (mTmp (mC (PyData.int 1)))) (mOp2 (fEqS false) (mSlot 7) (mTmp (mOp2 fIxL (mSlot 1) (mTmp (mC (PyData.int (-1)))))))))))))))) mNext)
    wearEnd))))))
/-- what the pairs are so far -/
structure Prs (fs : Wr) : Prop where
  nd : fs.Nodup
  le : fs.length ≤ 20
  ok : ∀ p ∈ fs, p.1 ∈ SGN ∧ p.2 ∈ WRN ∧ p.1 ≠ p.2
theorem eqv_pair (p q : Str × Str) : PyData.eqv (wrPair p) (.tuple [.str q.1, .str q.2]) = decide (p = q) := by
  obtain ⟨a, b⟩ := p
  obtain ⟨c, d⟩ := q
  simp [wrPair, PyData.eqv, PyData.eqvAll]
  by_cases h1 : a = c <;> by_cases h2 : b = d <;> simp [h1, h2]
theorem okD_all {ds : List PyData} (h : ∀ d ∈ ds, d.canLay0 = true ∧ d.depth ≤ 63 ∧ PyData.hasDict d = false) : PyData.canLayAll0 ds = true ∧ PyData.depthAll ds ≤ 63 ∧ PyData.hasDictAll ds = false := by
  induction ds with
  | nil => exact ⟨by simp [PyData.canLayAll0], by simp [PyData.depthAll], by simp [PyData.hasDictAll]⟩
  | cons d ds ih =>
    obtain ⟨h1, h2, h3⟩ := ih fun x hx => h x (List.mem_cons_of_mem _ hx)
    obtain ⟨g1, g2, g3⟩ := h d List.mem_cons_self
    refine ⟨by simp [PyData.canLayAll0, h1, g1], ?_, by simp [PyData.hasDictAll, h3, g3]⟩
    simp only [PyData.depthAll]
    omega
theorem okD_list {ds : List PyData} (h : ∀ d ∈ ds, d.canLay0 = true ∧ d.depth ≤ 63 ∧ PyData.hasDict d = false) : okD (.list ds) = true := by
  obtain ⟨h1, h2, h3⟩ := okD_all h
  simp [okD, SeqAt.shaped, PyData.canLay0, PyData.depth, PyData.hasDict, h1, h3]
  omega
theorem okD_tuple {ds : List PyData} (h : ∀ d ∈ ds, d.canLay0 = true ∧ d.depth ≤ 63 ∧ PyData.hasDict d = false) : okD (.tuple ds) = true := by
  obtain ⟨h1, h2, h3⟩ := okD_all h
  simp [okD, SeqAt.shaped, PyData.canLay0, PyData.depth, PyData.hasDict, h1, h3]
  omega
theorem str_lay {x : Str} (h : x ∈ WRN) : (PyData.str x).canLay0 = true ∧ (PyData.str x).depth ≤ 62 ∧ PyData.hasDict (.str x) = false := by
  refine ⟨?_, by simp [PyData.depth], by simp [PyData.hasDict]⟩
  have : ∀ x ∈ WRN, (PyData.str x).canLay0 = true := by decide +kernel
  exact this x h
theorem sgn_wrn {x : Str} (h : x ∈ SGN) : x ∈ WRN := List.mem_cons_of_mem _ h
theorem pair_lay {p : Str × Str} (h1 : p.1 ∈ WRN) (h2 : p.2 ∈ WRN) : (wrPair p).canLay0 = true ∧ (wrPair p).depth ≤ 63 ∧ PyData.hasDict (wrPair p) = false := by
  obtain ⟨a1, a2, a3⟩ := str_lay h1
  obtain ⟨b1, b2, b3⟩ := str_lay h2
  refine ⟨by simp only [wrPair, PyData.canLay0, PyData.canLayAll0] at *; simp [*], ?_, by simp [wrPair, PyData.hasDict, PyData.hasDictAll]⟩
  simp [wrPair, PyData.depth, PyData.depthAll]
theorem end_ok {xk : MX} {E : MEnds} {bs : List PyData} {S c2 c3 c5 c6 c9 : Cell} {fs : Wr} {o t : Str} (h : Prs fs) (ho : o ∈ SGN) (ht : t ∈ WRN)
    (k : ∀ fs', Prs fs' → E.nx [.lst bs, S, c2, c3, .lst (fs'.map wrPair), c5, c6, .val (.str o), .val (.str t), c9]) :
    wearEnd xk E [.lst bs, S, c2, c3, .lst (fs.map wrPair), c5, c6, .val (.str o), .val (.str t), c9] := by
  simp [wearEnd, bodySem, mRet, mAndV, mOrV, mNotV, mUn, mSlot, mOp2, mTmp, mC, mVar, mMv, mCallP, mCons, mNil, mTup, mLst, mIfS, mNotT, mAndT, mOrT, mTest, mTruth, mSeq, mNext, mRaise, mDrop, mSet, mAsgT, mIf, fIsi, fInS, fEqS, fInt, fIntC, fLen, opd_tmp, opd_slot, data_no, data_val, data_lst, data_dct, Cell.rest, mLc_eq, mFor_eq, mItL, mItT, mItS, mItD, mZip, mRng1, mRng2, mYes, take_one, take_many, setAll_cons, setAll_nil, semB, semN, wipe_nil, wipe_cons, mDisp1, mMv, mDPut, mAppend, fDGet, fDIn, keyOf, mSl, mPart, mNoPart, fSlL, fInt1_int, fInt1_bool, fSum_ints, fSum_take, mCall1, fMax2_ints, fMin2_ints, cut_to1, fIxL, mLPut, mCallB, CPow, mPar2, mPar3, fLtS, fInD]
  have ne : ∀ x : PyData, (∃ a b, (a, b) ∈ fs ∧ wrPair (a, b) = x) ↔ ∃ p ∈ fs, wrPair p = x := fun x => ⟨fun ⟨a, b, h1, h2⟩ => ⟨_, h1, h2⟩, fun ⟨⟨a, b⟩, h1, h2⟩ => ⟨a, b, h1, h2⟩⟩
  have le := h.le
  by_cases e : o = t
  · right
    exact ⟨by rw [eqS_str, e]; simp, k fs h⟩
  · left
    refine ⟨by rw [eqS_str]; simp [e], by decide, okD_tuple fun d hd => ?_, okD_list fun d hd => ?_, ?_⟩
    · simp at hd
      rcases hd with rfl | rfl
      · obtain ⟨a1, a2, a3⟩ := str_lay (sgn_wrn ho); exact ⟨a1, by omega, a3⟩
      · obtain ⟨a1, a2, a3⟩ := str_lay ht; exact ⟨a1, by omega, a3⟩
    · obtain ⟨p, hp, rfl⟩ := List.mem_map.mp hd
      obtain ⟨a1, a2, _⟩ := h.ok p hp
      exact pair_lay (sgn_wrn a1) a2
    · by_cases q : (o, t) ∈ fs
      · left
        exact ⟨⟨wrPair (o, t), ⟨o, t, q, rfl⟩, by rw [eqv_pair (o, t) (o, t)]; simp⟩, k fs h⟩
      · right
        refine ⟨fun x a b hp e2 => ?_, fs.length, by simp [lenD], ?_⟩
        · subst e2
          rw [eqv_pair (a, b) (o, t)]
          exact decide_eq_false fun z => q (by rw [← z]; exact hp)
        · split
          · refine ⟨by decide, lt_line (by omega), ?_⟩
            have := k (fs ++ [(o, t)]) ⟨?_, ?_, ?_⟩
            · simpa [wrPair] using this
            · rw [List.nodup_append]
              exact ⟨h.nd, by simp, fun p hp r hr z => q (by simp at hr; rw [← hr, ← z]; exact hp)⟩
            · simp; omega
            · intro p hp
              simp at hp
              rcases hp with hp | rfl
              · exact h.ok p hp
              · exact ⟨ho, ht, e⟩
          · exact k fs h
end M
end
section
set_option maxHeartbeats 2000000
namespace M
open PySem PySem.Spec PyProof.Rows L2
theorem flatD_int (i : Int) : flatD (.int i) = true := rfl
theorem flatD_str (i : Str) : flatD (.str i) = true := rfl
theorem eqF_int (i j : Int) : eqF (.int i) (.int j) = (i == j) := rfl
theorem eqF_str (i j : Str) : eqF (.str i) (.str j) = (i == j) := rfl
theorem abc_signs : signsD "abcdef" = SGN.map .str := by
  unfold signsD
  rw [show ("abcdef" : Str).cps.toList = [97, 98, 99, 100, 101, 102] from by decide +kernel]
  rfl
theorem fListS_str (z : Str) (k : Cell → Prop) (h : z.cps.size ≤ sizeLine) : fListS (.str z) k = k (.lst (signsD z)) := by
  refine propext ⟨fun q => ?_, fun q => ⟨z, rfl, h, q⟩⟩
  obtain ⟨y, e, _, q⟩ := q
  cases e
  exact q
theorem fListS_abc (k : Cell → Prop) : fListS (.str "abcdef") k = k (.lst (SGN.map .str)) := by rw [fListS_str "abcdef" k (by decide), abc_signs]
/-- one turn of the wear's making -/
def TurnOk (way : Int) : Prop := ∀ {xk : MX} {E : MEnds} {bs : List PyData} {c dots : Int} {S c2 c6 c7 c8 c9 : Cell} {sg : List Str} {fs : Wr} (hb : BagAt c bs) (hc : c ≤ 2 ^ 55) (d0 : 0 ≤ dots) (d1 : dots < 2) (hS : S.data = some (.list (sg.map .str))) (hsg : ∀ x ∈ sg, x ∈ SGN) (hne : sg ≠ [])
    (hl : sg.length ≤ 6) (h : Prs fs) (k : ∀ bs' S' c6 c7 c8 c9 fs', BagAt (c + 2) bs' → S'.data = some (.list (sg.map .str)) → Prs fs' → E.nx [.lst bs', S', c2, .val (.int way), .lst (fs'.map wrPair), .val (.int dots), c6, c7, c8, c9]),
    wearBody xk E [.lst bs, S, c2, .val (.int way), .lst (fs.map wrPair), .val (.int dots), c6, c7, c8, c9]
theorem l1 : 1 ≤ sizeLine := by decide
theorem l2 : 2 ≤ sizeLine := by decide
theorem turn_a : TurnOk 0 := by
  intro xk E bs c dots S c2 c6 c7 c8 c9 sg fs hb hc d0 d1 hS hsg hne hl h k
  have hpos : 0 < (sg.map PyData.str).length := by simpa using List.length_pos_iff.mpr hne
  have hlt : (sg.map PyData.str).length < 2 ^ 60 := by rw [List.length_map]; omega
  simp [wearBody, bodySem, mRet, mAndV, mOrV, mNotV, mUn, mSlot, mOp2, mTmp, mC, mVar, mMv, mCallP, mCons, mNil, mTup, mLst, mIfS, mNotT, mAndT, mOrT, mTest, mTruth, mSeq, mNext, mRaise, mDrop, mSet, mAsgT, mIf, fIsi, fInS, fEqS, fInt, fIntC, fLen, opd_tmp, opd_slot, data_no, data_val, data_lst, data_dct, Cell.rest, mLc_eq, mFor_eq, mItL, mItT, mItS, mItD, mZip, mRng1, mRng2, mYes, take_one, take_many, setAll_cons, setAll_nil, semB, semN, wipe_nil, wipe_cons, mDisp1, mMv, mDPut, mAppend, fDGet, fDIn, keyOf, mSl, mPart, mNoPart, fSlL, fInt1_int, fInt1_bool, fSum_ints, fSum_take, mCall1, fMax2_ints, fMin2_ints, cut_to1, fIxL, mLPut, mCallB, CPow, mPar2, mPar3, fLtS, mRepL, fCat, flatD_int, flatD_str, eqF_int, eqF_str, eqS_int, fListS_abc, l1, l2]
  refine pick_ok hb (by omega) (by decide) (by decide) fun b1 o hb1 ho => ?_
  obtain ⟨o, oi, rfl⟩ := List.mem_map.mp ho
  have dd : dots = 0 ∨ dots = 1 := by omega
  rcases dd with rfl | rfl
  · simp [bodySem, mRet, mAndV, mOrV, mNotV, mUn, mSlot, mOp2, mTmp, mC, mVar, mMv, mCallP, mCons, mNil, mTup, mLst, mIfS, mNotT, mAndT, mOrT, mTest, mTruth, mSeq, mNext, mRaise, mDrop, mSet, mAsgT, mIf, fIsi, fInS, fEqS, fInt, fIntC, fLen, opd_tmp, opd_slot, data_no, data_val, data_lst, data_dct, Cell.rest, mLc_eq, mFor_eq, mItL, mItT, mItS, mItD, mZip, mRng1, mRng2, mYes, take_one, take_many, setAll_cons, setAll_nil, semB, semN, wipe_nil, wipe_cons, mDisp1, mMv, mDPut, mAppend, fDGet, fDIn, keyOf, mSl, mPart, mNoPart, fSlL, fInt1_int, fInt1_bool, fSum_ints, fSum_take, mCall1, fMax2_ints, fMin2_ints, cut_to1, fIxL, mLPut, mCallB, CPow, mPar2, mPar3, fLtS, mRepL, fCat, flatD_int, flatD_str, eqF_int, eqF_str, eqS_int, l1, l2]
    refine ⟨small_line (by simp [SGN]), ?_⟩
    refine pick_ok hb1 (by omega) (by decide) (by decide) fun b2 t hb2 ht => ?_
    obtain ⟨t, ti, rfl⟩ := List.mem_map.mp ht
    exact end_ok h oi (sgn_wrn ti) fun fs' h' => k b2 S _ _ _ _ fs' (hb2.mono (by omega)) hS h'
  · simp [bodySem, mRet, mAndV, mOrV, mNotV, mUn, mSlot, mOp2, mTmp, mC, mVar, mMv, mCallP, mCons, mNil, mTup, mLst, mIfS, mNotT, mAndT, mOrT, mTest, mTruth, mSeq, mNext, mRaise, mDrop, mSet, mAsgT, mIf, fIsi, fInS, fEqS, fInt, fIntC, fLen, opd_tmp, opd_slot, data_no, data_val, data_lst, data_dct, Cell.rest, mLc_eq, mFor_eq, mItL, mItT, mItS, mItD, mZip, mRng1, mRng2, mYes, take_one, take_many, setAll_cons, setAll_nil, semB, semN, wipe_nil, wipe_cons, mDisp1, mMv, mDPut, mAppend, fDGet, fDIn, keyOf, mSl, mPart, mNoPart, fSlL, fInt1_int, fInt1_bool, fSum_ints, fSum_take, mCall1, fMax2_ints, fMin2_ints, cut_to1, fIxL, mLPut, mCallB, CPow, mPar2, mPar3, fLtS, mRepL, fCat, flatD_int, flatD_str, eqF_int, eqF_str, eqS_int, l1, l2]
    refine ⟨by decide, ?_⟩
    refine pick_ok hb1 (by omega) (by decide) (by decide) fun b2 t hb2 ht => ?_
    have ht : ∃ x ∈ WRN, t = .str x := by
      simp at ht
      rcases ht with ⟨x, hx, rfl⟩ | rfl
      · exact ⟨x, sgn_wrn hx, rfl⟩
      · exact ⟨_, by decide, rfl⟩
    obtain ⟨t, ti, rfl⟩ := ht
    exact end_ok h oi ti fun fs' h' => k b2 S _ _ _ _ fs' (hb2.mono (by omega)) hS h'
theorem turn_d {way : Int} (w0 : way ≠ 0) (w3 : way ≠ 3) (w1 : way ≠ 1) (w5 : way ≠ 5) : TurnOk way := by
  intro xk E bs c dots S c2 c6 c7 c8 c9 sg fs hb hc d0 d1 hS hsg hne hl h k
  have hpos : 0 < (sg.map PyData.str).length := by simpa using List.length_pos_iff.mpr hne
  have hlt : (sg.map PyData.str).length < 2 ^ 60 := by rw [List.length_map]; omega
  have w1' : ¬ (1 : Int) = way := fun e => w1 e.symm
  have w5' : ¬ (5 : Int) = way := fun e => w5 e.symm
  simp [wearBody, bodySem, mRet, mAndV, mOrV, mNotV, mUn, mSlot, mOp2, mTmp, mC, mVar, mMv, mCallP, mCons, mNil, mTup, mLst, mIfS, mNotT, mAndT, mOrT, mTest, mTruth, mSeq, mNext, mRaise, mDrop, mSet, mAsgT, mIf, fIsi, fInS, fEqS, fInt, fIntC, fLen, opd_tmp, opd_slot, data_no, data_val, data_lst, data_dct, Cell.rest, mLc_eq, mFor_eq, mItL, mItT, mItS, mItD, mZip, mRng1, mRng2, mYes, take_one, take_many, setAll_cons, setAll_nil, semB, semN, wipe_nil, wipe_cons, mDisp1, mMv, mDPut, mAppend, fDGet, fDIn, keyOf, mSl, mPart, mNoPart, fSlL, fInt1_int, fInt1_bool, fSum_ints, fSum_take, mCall1, fMax2_ints, fMin2_ints, cut_to1, fIxL, mLPut, mCallB, CPow, mPar2, mPar3, fLtS, mRepL, fCat, flatD_int, flatD_str, eqF_int, eqF_str, eqS_int, l1, l2, hS, w0]
  refine pick_ok hb (by omega) hpos hlt fun b1 o hb1 ho => ?_
  obtain ⟨o, oi, rfl⟩ := List.mem_map.mp ho
  have oi := hsg o oi
  by_cases w4 : 4 < way
  · simp [bodySem, mRet, mAndV, mOrV, mNotV, mUn, mSlot, mOp2, mTmp, mC, mVar, mMv, mCallP, mCons, mNil, mTup, mLst, mIfS, mNotT, mAndT, mOrT, mTest, mTruth, mSeq, mNext, mRaise, mDrop, mSet, mAsgT, mIf, fIsi, fInS, fEqS, fInt, fIntC, fLen, opd_tmp, opd_slot, data_no, data_val, data_lst, data_dct, Cell.rest, mLc_eq, mFor_eq, mItL, mItT, mItS, mItD, mZip, mRng1, mRng2, mYes, take_one, take_many, setAll_cons, setAll_nil, semB, semN, wipe_nil, wipe_cons, mDisp1, mMv, mDPut, mAppend, fDGet, fDIn, keyOf, mSl, mPart, mNoPart, fSlL, fInt1_int, fInt1_bool, fSum_ints, fSum_take, mCall1, fMax2_ints, fMin2_ints, cut_to1, fIxL, mLPut, mCallB, CPow, mPar2, mPar3, fLtS, mRepL, fCat, flatD_int, flatD_str, eqF_int, eqF_str, eqS_int, l1, l2, w0, w3, w1', w5', w4]
    refine ⟨small_line (by omega), ?_⟩
    refine pick_ok hb1 (by omega) (by simp) (by simp; omega) fun b2 t hb2 ht => ?_
    have ht : ∃ x ∈ WRN, t = .str x := by
      simp at ht
      rcases ht with ⟨x, hx, rfl⟩ | rfl
      · exact ⟨x, sgn_wrn (hsg x hx), rfl⟩
      · exact ⟨_, by decide, rfl⟩
    obtain ⟨t, ti, rfl⟩ := ht
    exact end_ok h oi ti fun fs' h' => k b2 _ _ _ _ _ fs' (hb2.mono (by omega)) rfl h'
  · simp [bodySem, mRet, mAndV, mOrV, mNotV, mUn, mSlot, mOp2, mTmp, mC, mVar, mMv, mCallP, mCons, mNil, mTup, mLst, mIfS, mNotT, mAndT, mOrT, mTest, mTruth, mSeq, mNext, mRaise, mDrop, mSet, mAsgT, mIf, fIsi, fInS, fEqS, fInt, fIntC, fLen, opd_tmp, opd_slot, data_no, data_val, data_lst, data_dct, Cell.rest, mLc_eq, mFor_eq, mItL, mItT, mItS, mItD, mZip, mRng1, mRng2, mYes, take_one, take_many, setAll_cons, setAll_nil, semB, semN, wipe_nil, wipe_cons, mDisp1, mMv, mDPut, mAppend, fDGet, fDIn, keyOf, mSl, mPart, mNoPart, fSlL, fInt1_int, fInt1_bool, fSum_ints, fSum_take, mCall1, fMax2_ints, fMin2_ints, cut_to1, fIxL, mLPut, mCallB, CPow, mPar2, mPar3, fLtS, mRepL, fCat, flatD_int, flatD_str, eqF_int, eqF_str, eqS_int, l1, l2, w0, w3, w1', w5', w4]
    refine ⟨small_line (by omega), ?_⟩
    refine pick_ok hb1 (by omega) hpos hlt fun b2 t hb2 ht => ?_
    obtain ⟨t, ti, rfl⟩ := List.mem_map.mp ht
    exact end_ok h oi (sgn_wrn (hsg t ti)) fun fs' h' => k b2 _ _ _ _ _ fs' (hb2.mono (by omega)) rfl h'
end M
end
section
set_option maxHeartbeats 2000000
namespace M
open PySem PySem.Spec PyProof.Rows L2
theorem atI_last1 {ds : List PyData} (h : 0 < ds.length) : ∃ d ∈ ds, atI ds (-1) = some d := by
  have hl : ds.length - 1 < ds.length := by omega
  refine ⟨ds[ds.length - 1], List.getElem_mem hl, ?_⟩
  unfold atI ixN
  rw [if_neg (by omega), if_pos (by omega)]
  show ds[((-1 : Int) + ds.length).toNat]? = _
  rw [show ((-1 : Int) + ds.length).toNat = ds.length - 1 by omega]
  exact List.getElem?_eq_getElem hl
theorem eqS_bool (a b : Bool) : eqS (.bool a) (.bool b) = some (decide (a = b)) := rfl
def sameC (o : Str) : PyData → Bool
  | .str x => decide (decide (x.cps.toList < ("c" : Str).cps.toList) = decide (o.cps.toList < ("c" : Str).cps.toList))
  | _ => false
theorem first_ix {o : Str} : ∀ {sg : List Str}, o ∈ sg → ∃ i : Nat, sg[i]? = some o ∧ ∀ m y, m < i → sg[m]? = some y → y ≠ o
  | [], h => by cases h
  | a :: sg, h => by
    by_cases e : a = o
    · exact ⟨0, by rw [e]; rfl, fun m _ hm => absurd hm (Nat.not_lt_zero m)⟩
    · have h2 : o ∈ sg := (List.mem_cons.mp h).resolve_left fun z => e z.symm
      obtain ⟨i, h3, h4⟩ := first_ix h2
      refine ⟨i + 1, by simpa using h3, fun m y hm hy => ?_⟩
      cases m with
      | zero => simp at hy; rw [← hy]; exact e
      | succ m => exact h4 m y (by omega) (by simpa using hy)
theorem idx_ok {xk : MX} {env : DEnv} {K : MK} {sg : List Str} {o : Str} (h1 : env[1]? = some (.val (.list (sg.map .str)))) (h7 : env[7]? = some (.val (.str o))) (ho : o ∈ sg) (k : ∀ i : Nat, i < sg.length → K (.val (.int i)) (env.set 7 (.val (.str o)))) : mIndex 1 (mVar 7) xk env K := by
  obtain ⟨i, h3, h4⟩ := first_ix ho
  have hi : i < sg.length := (List.getElem?_eq_some_iff.mp h3).1
  refine ⟨⟨_, _, h1, rfl⟩, _, _, h7, rfl, _, _, _, i, .str o, by rw [List.getElem?_set_ne (by decide)]; exact h1, rfl, rfl, rfl, ?_, by rw [List.getElem?_map, h3]; rfl, by simp [eqF], fun m y hm hy => ?_, k i hi⟩
  · rw [List.all_eq_true]
    intro d hd
    obtain ⟨x, _, rfl⟩ := List.mem_map.mp hd
    rfl
  · rw [List.getElem?_map] at hy
    cases q : sg[m]? with
    | none => rw [q] at hy; cases hy
    | some z =>
      rw [q] at hy
      cases hy
      simp [eqF]
      exact h4 m z hm q
theorem turn_b : TurnOk 3 := by
  intro xk E bs c dots S c2 c6 c7 c8 c9 sg fs hb hc d0 d1 hS hsg hne hl h k
  have hpos : 0 < (sg.map PyData.str).length := by simpa using List.length_pos_iff.mpr hne
  have hlt : (sg.map PyData.str).length < 2 ^ 60 := by rw [List.length_map]; omega
  have hpn : 0 < sg.length := List.length_pos_iff.mpr hne
  simp [wearBody, bodySem, mRet, mAndV, mOrV, mNotV, mUn, mSlot, mOp2, mTmp, mC, mVar, mMv, mCallP, mCons, mNil, mTup, mLst, mIfS, mNotT, mAndT, mOrT, mTest, mTruth, mSeq, mNext, mRaise, mDrop, mSet, mAsgT, mIf, fIsi, fInS, fEqS, fInt, fIntC, fLen, opd_tmp, opd_slot, data_no, data_val, data_lst, data_dct, Cell.rest, mLc_eq, mFor_eq, mItL, mItT, mItS, mItD, mZip, mRng1, mRng2, mYes, take_one, take_many, setAll_cons, setAll_nil, semB, semN, wipe_nil, wipe_cons, mDisp1, mMv, mDPut, mAppend, fDGet, fDIn, keyOf, mSl, mPart, mNoPart, fSlL, fInt1_int, fInt1_bool, fSum_ints, fSum_take, mCall1, fMax2_ints, fMin2_ints, cut_to1, fIxL, mLPut, mCallB, CPow, mPar2, mPar3, fLtS, mRepL, fCat, flatD_int, flatD_str, eqF_int, eqF_str, eqS_int, l1, l2, hS]
  refine pick_ok hb (by omega) hpos hlt fun b1 o hb1 ho => ?_
  obtain ⟨o, oi, rfl⟩ := List.mem_map.mp ho
  simp [bodySem, mRet, mAndV, mOrV, mNotV, mUn, mSlot, mOp2, mTmp, mC, mVar, mMv, mCallP, mCons, mNil, mTup, mLst, mIfS, mNotT, mAndT, mOrT, mTest, mTruth, mSeq, mNext, mRaise, mDrop, mSet, mAsgT, mIf, fIsi, fInS, fEqS, fInt, fIntC, fLen, opd_tmp, opd_slot, data_no, data_val, data_lst, data_dct, Cell.rest, mLc_eq, mFor_eq, mItL, mItT, mItS, mItD, mZip, mRng1, mRng2, mYes, take_one, take_many, setAll_cons, setAll_nil, semB, semN, wipe_nil, wipe_cons, mDisp1, mMv, mDPut, mAppend, fDGet, fDIn, keyOf, mSl, mPart, mNoPart, fSlL, fInt1_int, fInt1_bool, fSum_ints, fSum_take, mCall1, fMax2_ints, fMin2_ints, cut_to1, fIxL, mLPut, mCallB, CPow, mPar2, mPar3, fLtS, mRepL, fCat, flatD_int, flatD_str, eqF_int, eqF_str, eqS_int, l1, l2]
  refine ⟨small_line (by omega), ?_⟩
  refine lc_by (fun x => sameC o x) id (small_line (by simp; omega)) (fun d hd acc N h1 h2 => ?_) ?_
  · obtain ⟨x, xi, rfl⟩ := List.mem_map.mp hd
    have e : sameC o (.str x) = true ↔ (x.cps < ("c" : Str).cps ↔ o.cps < ("c" : Str).cps) := by simp [sameC]
    simp [bodySem, mRet, mAndV, mOrV, mNotV, mUn, mSlot, mOp2, mTmp, mC, mVar, mMv, mCallP, mCons, mNil, mTup, mLst, mIfS, mNotT, mAndT, mOrT, mTest, mTruth, mSeq, mNext, mRaise, mDrop, mSet, mAsgT, mIf, fIsi, fInS, fEqS, fInt, fIntC, fLen, opd_tmp, opd_slot, data_no, data_val, data_lst, data_dct, Cell.rest, mLc_eq, mFor_eq, mItL, mItT, mItS, mItD, mZip, mRng1, mRng2, mYes, take_one, take_many, setAll_cons, setAll_nil, semB, semN, wipe_nil, wipe_cons, mDisp1, mMv, mDPut, mAppend, fDGet, fDIn, keyOf, mSl, mPart, mNoPart, fSlL, fInt1_int, fInt1_bool, fSum_ints, fSum_take, mCall1, fMax2_ints, fMin2_ints, cut_to1, fIxL, mLPut, mCallB, CPow, mPar2, mPar3, fLtS, mRepL, fCat, flatD_int, flatD_str, eqF_int, eqF_str, eqS_bool] at h2 ⊢
    by_cases q : sameC o (.str x) = true
    · rw [if_pos q] at h2
      exact .inr ⟨e.mp q, h1, h2⟩
    · rw [if_neg q] at h2
      exact .inl ⟨fun z => q (e.mpr z), h2⟩
  · have mem : ∀ t ∈ List.filter (fun x => sameC o x) (List.map PyData.str sg), ∃ x ∈ sg, t = .str x := fun t ht => by
      obtain ⟨x, hx, rfl⟩ := List.mem_map.mp (List.mem_filter.mp ht).1
      exact ⟨x, hx, rfl⟩
    have me : PyData.str o ∈ List.filter (fun x => sameC o x) (List.map PyData.str sg) := List.mem_filter.mpr ⟨List.mem_map_of_mem oi, by simp [sameC]⟩
    simp [bodySem, mRet, mAndV, mOrV, mNotV, mUn, mSlot, mOp2, mTmp, mC, mVar, mMv, mCallP, mCons, mNil, mTup, mLst, mIfS, mNotT, mAndT, mOrT, mTest, mTruth, mSeq, mNext, mRaise, mDrop, mSet, mAsgT, mIf, fIsi, fInS, fEqS, fInt, fIntC, fLen, opd_tmp, opd_slot, data_no, data_val, data_lst, data_dct, Cell.rest, mLc_eq, mFor_eq, mItL, mItT, mItS, mItD, mZip, mRng1, mRng2, mYes, take_one, take_many, setAll_cons, setAll_nil, semB, semN, wipe_nil, wipe_cons, mDisp1, mMv, mDPut, mAppend, fDGet, fDIn, keyOf, mSl, mPart, mNoPart, fSlL, fInt1_int, fInt1_bool, fSum_ints, fSum_take, mCall1, fMax2_ints, fMin2_ints, cut_to1, fIxL, mLPut, mCallB, CPow, mPar2, mPar3, fLtS, mRepL, fCat, flatD_int, flatD_str, eqF_int, eqF_str, eqS_int, l1, l2]
    refine pick_ok hb1 (by omega) (List.length_pos_of_mem me) (Nat.lt_of_le_of_lt (List.length_filter_le _ _) hlt) fun b2 t hb2 ht => ?_
    obtain ⟨t, ti, rfl⟩ := mem t ht
    exact end_ok h (hsg o oi) (sgn_wrn (hsg t ti)) fun fs' h' => k b2 _ _ _ _ _ fs' (hb2.mono (by omega)) rfl h'
theorem turn_c1 : TurnOk 1 := by
  intro xk E bs c dots S c2 c6 c7 c8 c9 sg fs hb hc d0 d1 hS hsg hne hl h k
  have hpos : 0 < (sg.map PyData.str).length := by simpa using List.length_pos_iff.mpr hne
  have hlt : (sg.map PyData.str).length < 2 ^ 60 := by rw [List.length_map]; omega
  have hpn : 0 < sg.length := List.length_pos_iff.mpr hne
  simp [wearBody, bodySem, mRet, mAndV, mOrV, mNotV, mUn, mSlot, mOp2, mTmp, mC, mVar, mMv, mCallP, mCons, mNil, mTup, mLst, mIfS, mNotT, mAndT, mOrT, mTest, mTruth, mSeq, mNext, mRaise, mDrop, mSet, mAsgT, mIf, fIsi, fInS, fEqS, fInt, fIntC, fLen, opd_tmp, opd_slot, data_no, data_val, data_lst, data_dct, Cell.rest, mLc_eq, mFor_eq, mItL, mItT, mItS, mItD, mZip, mRng1, mRng2, mYes, take_one, take_many, setAll_cons, setAll_nil, semB, semN, wipe_nil, wipe_cons, mDisp1, mMv, mDPut, mAppend, fDGet, fDIn, keyOf, mSl, mPart, mNoPart, fSlL, fInt1_int, fInt1_bool, fSum_ints, fSum_take, mCall1, fMax2_ints, fMin2_ints, cut_to1, fIxL, mLPut, mCallB, CPow, mPar2, mPar3, fLtS, mRepL, fCat, flatD_int, flatD_str, eqF_int, eqF_str, eqS_int, l1, l2, hS]
  refine pick_ok hb (by omega) hpos hlt fun b1 o hb1 ho => ?_
  obtain ⟨o, oi, rfl⟩ := List.mem_map.mp ho
  simp [bodySem, mRet, mAndV, mOrV, mNotV, mUn, mSlot, mOp2, mTmp, mC, mVar, mMv, mCallP, mCons, mNil, mTup, mLst, mIfS, mNotT, mAndT, mOrT, mTest, mTruth, mSeq, mNext, mRaise, mDrop, mSet, mAsgT, mIf, fIsi, fInS, fEqS, fInt, fIntC, fLen, opd_tmp, opd_slot, data_no, data_val, data_lst, data_dct, Cell.rest, mLc_eq, mFor_eq, mItL, mItT, mItS, mItD, mZip, mRng1, mRng2, mYes, take_one, take_many, setAll_cons, setAll_nil, semB, semN, wipe_nil, wipe_cons, mDisp1, mMv, mDPut, mAppend, fDGet, fDIn, keyOf, mSl, mPart, mNoPart, fSlL, fInt1_int, fInt1_bool, fSum_ints, fSum_take, mCall1, fMax2_ints, fMin2_ints, cut_to1, fIxL, mLPut, mCallB, CPow, mPar2, mPar3, fLtS, mRepL, fCat, flatD_int, flatD_str, eqF_int, eqF_str, eqS_int, l1, l2]
  refine ⟨small_line (by omega), ?_⟩
  refine pick_ok hb1 (by omega) (by simp; try omega) (by simp; omega) fun b2 t hb2 ht => ?_
  simp [bodySem, mRet, mAndV, mOrV, mNotV, mUn, mSlot, mOp2, mTmp, mC, mVar, mMv, mCallP, mCons, mNil, mTup, mLst, mIfS, mNotT, mAndT, mOrT, mTest, mTruth, mSeq, mNext, mRaise, mDrop, mSet, mAsgT, mIf, fIsi, fInS, fEqS, fInt, fIntC, fLen, opd_tmp, opd_slot, data_no, data_val, data_lst, data_dct, Cell.rest, mLc_eq, mFor_eq, mItL, mItT, mItS, mItD, mZip, mRng1, mRng2, mYes, take_one, take_many, setAll_cons, setAll_nil, semB, semN, wipe_nil, wipe_cons, mDisp1, mMv, mDPut, mAppend, fDGet, fDIn, keyOf, mSl, mPart, mNoPart, fSlL, fInt1_int, fInt1_bool, fSum_ints, fSum_take, mCall1, fMax2_ints, fMin2_ints, cut_to1, fIxL, mLPut, mCallB, CPow, mPar2, mPar3, fLtS, mRepL, fCat, flatD_int, flatD_str, eqF_int, eqF_str, eqS_int, l1, l2]
  obtain ⟨x0, e0, _, m0⟩ := atI_in (ds := sg.map .str) (i := 0) (by omega) (by simpa using List.length_pos_iff.mpr hne)
  refine ⟨x0, e0, small_line (by omega), ?_⟩
  have all : ∀ i : Int, 0 ≤ i → i < sg.length + 2 → ∃ t ∈ WRN, atI (List.map PyData.str sg ++ [PyData.str ".", x0]) i = some (.str t) := fun i i0 i1 => by
    obtain ⟨d, e1, _, e3⟩ := atI_in (ds := List.map PyData.str sg ++ [PyData.str ".", x0]) i0 (by simpa using i1)
    obtain ⟨y0, hy0, rfl⟩ := List.mem_map.mp m0
    simp at e3
    rcases e3 with ⟨x, hx, rfl⟩ | rfl | rfl
    · exact ⟨x, sgn_wrn (hsg x hx), e1⟩
    · exact ⟨_, by decide, e1⟩
    · exact ⟨y0, sgn_wrn (hsg y0 hy0), e1⟩
  refine idx_ok rfl rfl oi fun i hi => ?_
  simp [bodySem, mRet, mAndV, mOrV, mNotV, mUn, mSlot, mOp2, mTmp, mC, mVar, mMv, mCallP, mCons, mNil, mTup, mLst, mIfS, mNotT, mAndT, mOrT, mTest, mTruth, mSeq, mNext, mRaise, mDrop, mSet, mAsgT, mIf, fIsi, fInS, fEqS, fInt, fIntC, fLen, opd_tmp, opd_slot, data_no, data_val, data_lst, data_dct, Cell.rest, mLc_eq, mFor_eq, mItL, mItT, mItS, mItD, mZip, mRng1, mRng2, mYes, take_one, take_many, setAll_cons, setAll_nil, semB, semN, wipe_nil, wipe_cons, mDisp1, mMv, mDPut, mAppend, fDGet, fDIn, keyOf, mSl, mPart, mNoPart, fSlL, fInt1_int, fInt1_bool, fSum_ints, fSum_take, mCall1, fMax2_ints, fMin2_ints, cut_to1, fIxL, mLPut, mCallB, CPow, mPar2, mPar3, fLtS, mRepL, fCat, flatD_int, flatD_str, eqF_int, eqF_str, eqS_int, l1, l2]
  obtain ⟨y, ym, ey⟩ := atI_last1 (ds := sg.map .str) (by simpa using hpn)
  obtain ⟨z, _, rfl⟩ := List.mem_map.mp ym
  refine ⟨_, ey, ?_⟩
  by_cases q : o = z
  · refine .inr ⟨by rw [eqS_str]; simp [q], ?_⟩
    obtain ⟨t, tw, et⟩ := all ((i : Int) + 1 + 1) (by omega) (by omega)
    exact ⟨_, et, end_ok h (hsg o oi) tw fun fs' h' => k b2 _ _ _ _ _ fs' (hb2.mono (by omega)) rfl h'⟩
  · refine .inl ⟨by rw [eqS_str]; simp [q], ?_⟩
    obtain ⟨t, tw, et⟩ := all ((i : Int) + 1) (by omega) (by omega)
    exact ⟨_, et, end_ok h (hsg o oi) tw fun fs' h' => k b2 _ _ _ _ _ fs' (hb2.mono (by omega)) rfl h'⟩
theorem turn_c5 : TurnOk 5 := by
  intro xk E bs c dots S c2 c6 c7 c8 c9 sg fs hb hc d0 d1 hS hsg hne hl h k
  have hpos : 0 < (sg.map PyData.str).length := by simpa using List.length_pos_iff.mpr hne
  have hlt : (sg.map PyData.str).length < 2 ^ 60 := by rw [List.length_map]; omega
  have hpn : 0 < sg.length := List.length_pos_iff.mpr hne
  simp [wearBody, bodySem, mRet, mAndV, mOrV, mNotV, mUn, mSlot, mOp2, mTmp, mC, mVar, mMv, mCallP, mCons, mNil, mTup, mLst, mIfS, mNotT, mAndT, mOrT, mTest, mTruth, mSeq, mNext, mRaise, mDrop, mSet, mAsgT, mIf, fIsi, fInS, fEqS, fInt, fIntC, fLen, opd_tmp, opd_slot, data_no, data_val, data_lst, data_dct, Cell.rest, mLc_eq, mFor_eq, mItL, mItT, mItS, mItD, mZip, mRng1, mRng2, mYes, take_one, take_many, setAll_cons, setAll_nil, semB, semN, wipe_nil, wipe_cons, mDisp1, mMv, mDPut, mAppend, fDGet, fDIn, keyOf, mSl, mPart, mNoPart, fSlL, fInt1_int, fInt1_bool, fSum_ints, fSum_take, mCall1, fMax2_ints, fMin2_ints, cut_to1, fIxL, mLPut, mCallB, CPow, mPar2, mPar3, fLtS, mRepL, fCat, flatD_int, flatD_str, eqF_int, eqF_str, eqS_int, l1, l2, hS]
  refine pick_ok hb (by omega) hpos hlt fun b1 o hb1 ho => ?_
  obtain ⟨o, oi, rfl⟩ := List.mem_map.mp ho
  simp [bodySem, mRet, mAndV, mOrV, mNotV, mUn, mSlot, mOp2, mTmp, mC, mVar, mMv, mCallP, mCons, mNil, mTup, mLst, mIfS, mNotT, mAndT, mOrT, mTest, mTruth, mSeq, mNext, mRaise, mDrop, mSet, mAsgT, mIf, fIsi, fInS, fEqS, fInt, fIntC, fLen, opd_tmp, opd_slot, data_no, data_val, data_lst, data_dct, Cell.rest, mLc_eq, mFor_eq, mItL, mItT, mItS, mItD, mZip, mRng1, mRng2, mYes, take_one, take_many, setAll_cons, setAll_nil, semB, semN, wipe_nil, wipe_cons, mDisp1, mMv, mDPut, mAppend, fDGet, fDIn, keyOf, mSl, mPart, mNoPart, fSlL, fInt1_int, fInt1_bool, fSum_ints, fSum_take, mCall1, fMax2_ints, fMin2_ints, cut_to1, fIxL, mLPut, mCallB, CPow, mPar2, mPar3, fLtS, mRepL, fCat, flatD_int, flatD_str, eqF_int, eqF_str, eqS_int, l1, l2]
  refine ⟨small_line (by omega), ?_⟩
  refine pick_ok hb1 (by omega) (by simp; try omega) (by simp; omega) fun b2 t hb2 ht => ?_
  simp [bodySem, mRet, mAndV, mOrV, mNotV, mUn, mSlot, mOp2, mTmp, mC, mVar, mMv, mCallP, mCons, mNil, mTup, mLst, mIfS, mNotT, mAndT, mOrT, mTest, mTruth, mSeq, mNext, mRaise, mDrop, mSet, mAsgT, mIf, fIsi, fInS, fEqS, fInt, fIntC, fLen, opd_tmp, opd_slot, data_no, data_val, data_lst, data_dct, Cell.rest, mLc_eq, mFor_eq, mItL, mItT, mItS, mItD, mZip, mRng1, mRng2, mYes, take_one, take_many, setAll_cons, setAll_nil, semB, semN, wipe_nil, wipe_cons, mDisp1, mMv, mDPut, mAppend, fDGet, fDIn, keyOf, mSl, mPart, mNoPart, fSlL, fInt1_int, fInt1_bool, fSum_ints, fSum_take, mCall1, fMax2_ints, fMin2_ints, cut_to1, fIxL, mLPut, mCallB, CPow, mPar2, mPar3, fLtS, mRepL, fCat, flatD_int, flatD_str, eqF_int, eqF_str, eqS_int, l1, l2]
  obtain ⟨x0, e0, _, m0⟩ := atI_in (ds := sg.map .str) (i := 0) (by omega) (by simpa using List.length_pos_iff.mpr hne)
  refine ⟨x0, e0, small_line (by omega), ?_⟩
  have all : ∀ i : Int, 0 ≤ i → i < sg.length + 2 → ∃ t ∈ WRN, atI (List.map PyData.str sg ++ [PyData.str ".", x0]) i = some (.str t) := fun i i0 i1 => by
    obtain ⟨d, e1, _, e3⟩ := atI_in (ds := List.map PyData.str sg ++ [PyData.str ".", x0]) i0 (by simpa using i1)
    obtain ⟨y0, hy0, rfl⟩ := List.mem_map.mp m0
    simp at e3
    rcases e3 with ⟨x, hx, rfl⟩ | rfl | rfl
    · exact ⟨x, sgn_wrn (hsg x hx), e1⟩
    · exact ⟨_, by decide, e1⟩
    · exact ⟨y0, sgn_wrn (hsg y0 hy0), e1⟩
  refine idx_ok rfl rfl oi fun i hi => ?_
  simp [bodySem, mRet, mAndV, mOrV, mNotV, mUn, mSlot, mOp2, mTmp, mC, mVar, mMv, mCallP, mCons, mNil, mTup, mLst, mIfS, mNotT, mAndT, mOrT, mTest, mTruth, mSeq, mNext, mRaise, mDrop, mSet, mAsgT, mIf, fIsi, fInS, fEqS, fInt, fIntC, fLen, opd_tmp, opd_slot, data_no, data_val, data_lst, data_dct, Cell.rest, mLc_eq, mFor_eq, mItL, mItT, mItS, mItD, mZip, mRng1, mRng2, mYes, take_one, take_many, setAll_cons, setAll_nil, semB, semN, wipe_nil, wipe_cons, mDisp1, mMv, mDPut, mAppend, fDGet, fDIn, keyOf, mSl, mPart, mNoPart, fSlL, fInt1_int, fInt1_bool, fSum_ints, fSum_take, mCall1, fMax2_ints, fMin2_ints, cut_to1, fIxL, mLPut, mCallB, CPow, mPar2, mPar3, fLtS, mRepL, fCat, flatD_int, flatD_str, eqF_int, eqF_str, eqS_int, l1, l2]
  obtain ⟨t, tw, et⟩ := all ((i : Int) + 1) (by omega) (by omega)
  exact ⟨_, et, end_ok h (hsg o oi) tw fun fs' h' => k b2 _ _ _ _ _ fs' (hb2.mono (by omega)) rfl h'⟩
theorem turn_all {way : Int} (w0 : 0 ≤ way) (w1 : way < 8) : TurnOk way := by
  have wc : way = 0 ∨ way = 3 ∨ way = 1 ∨ way = 5 ∨ (way ≠ 0 ∧ way ≠ 3 ∧ way ≠ 1 ∧ way ≠ 5) := by omega
  rcases wc with rfl | rfl | rfl | rfl | ⟨h0, h3, h1, h5⟩
  · exact @turn_a
  · exact @turn_b
  · exact @turn_c1
  · exact @turn_c5
  · exact @turn_d way h0 h3 h1 h5
theorem wear_loop {xk : MX} {D : MEnds} {bs : List PyData} {c way dots : Int} {sg : List Str} {n : Nat} (hb : BagAt c bs) (hc : c ≤ 2 ^ 54) (w0 : 0 ≤ way) (w1 : way < 8) (d0 : 0 ≤ dots) (d1 : dots < 2) (hsg : ∀ x ∈ sg, x ∈ SGN) (hne : sg ≠ []) (hl : sg.length ≤ 6) (hn : n ≤ 40)
    (last : ∀ bs' S c2 c6 c7 c8 c9 fs, BagAt (c + 80) bs' → Prs fs → D.nx [.lst bs', S, c2, .val (.int way), .lst (fs.map wrPair), .val (.int dots), c6, c7, c8, c9]) :
    forGo (.one 2) wearBody xk D (rangeD 0 n) [.lst bs, .lst (sg.map .str), .no, .val (.int way), .lst [], .val (.int dots), .no, .no, .no, .no] := by
  have ln : (rangeD 0 n).length = n := by simp [rangeD]
  refine for_by (fun k env => ∃ bs' S c2 c6 c7 c8 c9 fs, env = [.lst bs', S, c2, .val (.int way), .lst (fs.map wrPair), .val (.int dots), c6, c7, c8, c9] ∧ BagAt (c + 2 * k) bs' ∧ S.data = some (.list (sg.map .str)) ∧ Prs fs)
    ⟨bs, _, _, _, _, _, _, [], rfl, by simpa using hb, rfl, ⟨by simp, by simp, by simp⟩⟩ (fun k d env hk hW E hE _ _ _ => ?_) fun env hW => ?_
  · obtain ⟨bs', S, c2, c6, c7, c8, c9, fs, rfl, hb', hS, hP⟩ := hW
    have kn : k < n := by rw [← ln]; exact (List.getElem?_eq_some_iff.mp hk).1
    rw [take_one]
    refine turn_all w0 w1 hb' (by omega) d0 d1 hS hsg hne hl hP fun bs2 S' c6 c7 c8 c9 fs' hb2 hS' hP' => ?_
    exact hE _ ⟨bs2, S', _, c6, c7, c8, c9, fs', rfl, hb2.mono (by omega), hS', hP'⟩
  · obtain ⟨bs', S, c2, c6, c7, c8, c9, fs, rfl, hb', hS, hP⟩ := hW
    exact last bs' S c2 c6 c7 c8 c9 fs (hb'.mono (by omega)) hP
end M
end
section
namespace M
open PySem PySem.Spec PyProof.Rows L2
theorem sig_ok {lo hi : Int} (a : 0 ≤ lo) (b : lo < 2) (c : 0 ≤ hi) (d : hi < 4) : ∃ sg : List Str, cutD [.str "a", .str "b", .str "c", .str "d", .str "e", .str "f"] (some lo) (some (3 + hi)) = sg.map .str ∧ (∀ x ∈ sg, x ∈ SGN) ∧ sg ≠ [] ∧ sg.length ≤ 6 := by
  have e1 : lo = 0 ∨ lo = 1 := by omega
  have e2 : hi = 0 ∨ hi = 1 ∨ hi = 2 ∨ hi = 3 := by omega
  rcases e1 with rfl | rfl <;> rcases e2 with rfl | rfl | rfl | rfl
  · exact ⟨["a", "b", "c"], rfl, by decide, by decide, by decide⟩
  · exact ⟨["a", "b", "c", "d"], rfl, by decide, by decide, by decide⟩
  · exact ⟨["a", "b", "c", "d", "e"], rfl, by decide, by decide, by decide⟩
  · exact ⟨["a", "b", "c", "d", "e", "f"], rfl, by decide, by decide, by decide⟩
  · exact ⟨["b", "c"], rfl, by decide, by decide, by decide⟩
  · exact ⟨["b", "c", "d"], rfl, by decide, by decide, by decide⟩
  · exact ⟨["b", "c", "d", "e"], rfl, by decide, by decide, by decide⟩
  · exact ⟨["b", "c", "d", "e", "f"], rfl, by decide, by decide, by decide⟩
theorem dLe (x y : PyData) : PySem.W.dataLe false id x y = !PySem.W.dataLt y x := by rw [PySem.W.dataLe_eq]; rfl
theorem dlt_trans {x y z : PyData} (h1 : PySem.W.dataLt x y = true) (h2 : PySem.W.dataLt y z = true) : PySem.W.dataLt x z = true := lex_trans _ _ _ h1 h2
theorem dlt_irr (x : PyData) : PySem.W.dataLt x x = false := lex_irrefl _
theorem dle_trans (x y z : PyData) (h1 : (!PySem.W.dataLt y x) = true) (h2 : (!PySem.W.dataLt z y) = true) : (!PySem.W.dataLt z x) = true := by
  simp only [Bool.not_eq_true'] at h1 h2 ⊢
  cases q : PySem.W.dataLt z x with
  | false => rfl
  | true =>
    cases r : PySem.W.dataLt x y with
    | true => rw [dlt_trans q r] at h2; cases h2
    | false =>
      have e : PySem.W.keyToks x = PySem.W.keyToks y := lex_total _ _ r h1
      unfold PySem.W.dataLt at q h2
      rw [e] at q
      rw [q] at h2
      cases h2
theorem dle_total (x y : PyData) : (!PySem.W.dataLt y x || !PySem.W.dataLt x y) = true := by
  cases q : PySem.W.dataLt y x with
  | false => rfl
  | true =>
    cases r : PySem.W.dataLt x y with
    | false => rfl
    | true => have := dlt_trans q r; rw [dlt_irr] at this; cases this
theorem pair_toks {p q : Str × Str} (h : PySem.W.keyToks (wrPair p) = PySem.W.keyToks (wrPair q)) : p = q := by
  obtain ⟨a, b⟩ := p
  obtain ⟨c, d⟩ := q
  simp [wrPair, PySem.W.keyToks, PySem.W.keyToksAll] at h
  obtain ⟨h1, h2⟩ := h
  cases a; cases b; cases c; cases d
  simp only at h1 h2
  rw [h1, h2]
theorem up_of : ∀ {gs : Wr}, gs.Nodup → gs.Pairwise (fun p q => (!PySem.W.dataLt (wrPair q) (wrPair p)) = true) → upTo (gs.map wrPair) = true
  | [], _, _ => rfl
  | [p], _, _ => rfl
  | p :: q :: r, hn, hp => by
    rw [List.nodup_cons] at hn
    rw [List.pairwise_cons] at hp
    have ih := up_of hn.2 hp.2
    have h1 := hp.1 q List.mem_cons_self
    show (PySem.W.dataLt (wrPair p) (wrPair q) && upTo ((q :: r).map wrPair)) = true
    rw [ih, Bool.and_true]
    cases z : PySem.W.dataLt (wrPair p) (wrPair q) with
    | true => rfl
    | false =>
      have h1 : PySem.W.dataLt (wrPair q) (wrPair p) = false := by simpa using h1
      have e := lex_total _ _ z h1
      exact absurd (pair_toks e) fun e => hn.1 (by rw [e]; exact List.mem_cons_self)
theorem sort_ok {fs : Wr} (h : Prs fs) : ∃ gs : Wr, sortD (fs.map wrPair) = gs.map wrPair ∧ gs.Perm fs ∧ isWear (wearD gs) = true := by
  refine ⟨fs.mergeSort fun p q => PySem.W.dataLe false id (wrPair p) (wrPair q), ?_, List.mergeSort_perm _ _, ?_⟩
  · unfold sortD
    exact (List.map_mergeSort (r := fun p q => PySem.W.dataLe false id (wrPair p) (wrPair q)) (s := PySem.W.dataLe false id) (f := wrPair) fun _ _ _ _ => rfl).symm
  · have pm := List.mergeSort_perm fs fun p q => PySem.W.dataLe false id (wrPair p) (wrPair q)
    have pw := List.pairwise_mergeSort (le := fun p q : Str × Str => PySem.W.dataLe false id (wrPair p) (wrPair q)) (fun a b c h1 h2 => by rw [dLe] at *; exact dle_trans _ _ _ h1 h2) (fun a b => by rw [dLe, dLe]; exact dle_total _ _) fs
    generalize fs.mergeSort (fun p q => PySem.W.dataLe false id (wrPair p) (wrPair q)) = gs at pm pw ⊢
    have u := up_of (pm.nodup_iff.mpr h.nd) (pw.imp fun {a b} z => by rw [dLe] at z; exact z)
    have al : (gs.map wrPair).all isPair = true := by
      rw [List.all_eq_true]
      intro d hd
      obtain ⟨p, hp, rfl⟩ := List.mem_map.mp hd
      obtain ⟨h1, h2, h3⟩ := h.ok p (pm.mem_iff.mp hp)
      simp [wrPair, isPair, isIn_of h1, isIn_of h2, eqS_str, h3]
    have le := h.le
    have ln := pm.length_eq
    simp only [isWear, wearD, u, al, List.length_map, Bool.and_true, decide_eq_true_eq]
    omega
theorem pair_alike (p q : Str × Str) : PySem.W.alike (wrPair p) (wrPair q) = true := by simp [wrPair, PySem.W.alike, PySem.W.alikeAll]
theorem pairs_plain (fs : Wr) : PyData.hasDictAll (fs.map wrPair) = false := by
  induction fs with
  | nil => rfl
  | cons p fs ih =>
    rw [List.map_cons]
    simp [PyData.hasDictAll, ih, wrPair, PyData.hasDict]
theorem fSorted_ok {fs : Wr} (h : Prs fs) {k : Cell → Prop} (hk : ∀ gs : Wr, gs.Perm fs → isWear (wearD gs) = true → k (.lst (gs.map wrPair))) : fSorted (.list (fs.map wrPair)) k := by
  obtain ⟨gs, e, pm, w⟩ := sort_ok h
  refine ⟨_, rfl, pairs_plain fs, fun d hd d' hd' => ?_, .inl fun d hd => ?_, by have := h.le; simp; exact small_line (by omega), fun d hd => ?_, by rw [e]; exact hk gs pm w⟩
  · obtain ⟨p, _, rfl⟩ := List.mem_map.mp hd
    obtain ⟨q, _, rfl⟩ := List.mem_map.mp hd'
    exact pair_alike p q
  · obtain ⟨p, _, rfl⟩ := List.mem_map.mp hd
    exact ⟨_, _, rfl⟩
  · obtain ⟨p, _, rfl⟩ := List.mem_map.mp hd
    simp [wrPair, PyData.depth, PyData.depthAll]
end M
end
section
namespace M
open PySem PySem.Spec PyProof.Rows L2
/-- the law's answer is right, whatever the bag -/
def semRight : ME := fun _ args Kd => ∃ bs, args = [.lst bs] ∧ BagAt 61000 bs ∧ ∀ e, Kd (.val (.bool true)) e
theorem bag_ok {xk : MX} {ns : List Int} {k : Int} {Kd : MK} (hn : ns.length ≤ 63) (h1 : 0 ≤ k) (h2 : k < 1000) (kk : ∀ bs e, BagAt 61000 bs → Kd (.lst bs) e) : semBag xk [.val (.list (ns.map .int)), .val (.int k)] Kd := ⟨ns, k, rfl, hn, h1, h2, kk⟩
theorem range_at {lo : Int} {n : Nat} {k : Nat} {d : PyData} (h : (rangeD lo n)[k]? = some d) : d = .int (lo + k) ∧ k < n := by
  unfold rangeD at h
  rw [List.getElem?_map] at h
  cases e : (List.range n)[k]? with
  | none => rw [e] at h; cases h
  | some i =>
    rw [e] at h
    cases h
    obtain ⟨h1, h2⟩ := List.getElem?_eq_some_iff.mp e
    rw [List.length_range] at h1
    rw [List.getElem_range] at h2
    exact ⟨by rw [h2], h1⟩
theorem wear_is {d : PyData} (h : isWear d = true) : ∃ w : Wr, d = wearD w ∧ w.length ≤ 20 ∧ ∀ p ∈ w, p.1 ∈ SGN ∧ p.2 ∈ WRN := by
  cases d with
  | tuple ps =>
    simp only [isWear, Bool.and_eq_true, decide_eq_true_eq] at h
    obtain ⟨⟨h1, h2⟩, _⟩ := h
    have key : ∀ ps : List PyData, ps.all isPair = true → ∃ w : Wr, ps = w.map wrPair ∧ ∀ p ∈ w, p.1 ∈ SGN ∧ p.2 ∈ WRN := fun ps => by
      induction ps with
      | nil => intro _; exact ⟨[], rfl, by simp⟩
      | cons p ps ih =>
        intro h
        rw [List.all_cons, Bool.and_eq_true] at h
        obtain ⟨w, rfl, hw⟩ := ih h.2
        obtain ⟨a, b, rfl, ha, hb, _⟩ := pair_is h.1
        refine ⟨(a, b) :: w, rfl, fun p hp => ?_⟩
        rcases List.mem_cons.mp hp with rfl | hp
        · exact ⟨ha, hb⟩
        · exact hw p hp
    obtain ⟨w, rfl, hw⟩ := key ps h2
    exact ⟨w, rfl, by simpa using h1, hw⟩
  | _ => simp [isWear] at h
theorem wearD_inj {v w : Wr} (h : wearD v = wearD w) : v = w := by
  have key : ∀ v w : Wr, v.map wrPair = w.map wrPair → v = w := fun v => by
    induction v with
    | nil => intro w h; cases w with
      | nil => rfl
      | cons q w => cases h
    | cons p v ih =>
      intro w h
      cases w with
      | nil => cases h
      | cons q w =>
        rw [List.map_cons, List.map_cons, List.cons.injEq] at h
        rw [ih w h.2]
        obtain ⟨a, b⟩ := p
        obtain ⟨c, d⟩ := q
        have := h.1
        simp [wrPair] at this
        rw [this.1, this.2]
  unfold wearD at h
  injection h with h
  exact key v w h
theorem from_ok {xk : MX} {w : Wr} {x : Str} {Kd : MK} (hw : w.length ≤ 20) (k : ∀ f e, IsDist w x f → Kd (.dct (encK f)) e) : semFrom xk [.val (wearD w), .val (.str x)] Kd := ⟨w, x, rfl, hw, k⟩
/-- steps(wear, one, other): C the class of a bad sign, D of a bad wear -/
def semSteps (C D : Addr) : ME := fun xk args Kd => ∃ d1 d2 d3, args = [.val d1, .val d2, .val d3] ∧
  if isWear d1 = true then if isIn WRN d2 = true then if isIn SEN d3 = true then ∀ w x y, d1 = wearD w → d2 = .str x → d3 = .str y → ∀ e, Kd (.val (if y = "?" then .int 0 else optI (dist w x y))) e
    else ∀ e, xk (.ref C) none e else ∀ e, xk (.ref C) none e else ∀ e, xk (.ref D) none e
def semComesTo (C D : Addr) : ME := fun xk args Kd => ∃ d1 d2, args = [.val d1, .val d2] ∧
  if isWear d1 = true then if isIn WRN d2 = true then ∀ w x, d1 = wearD w → d2 = .str x → ∀ ys : List Str, ys.Nodup → (∀ y, y ∈ ys ↔ dist w x y ≠ none) → PyProof.Rows.sortedS ys = true → ∀ e, Kd (.val (.tuple (ys.map .str))) e
    else ∀ e, xk (.ref C) none e else ∀ e, xk (.ref D) none e
def pl (p q : Nat × Str) : Prop := p.1 < q.1 ∨ (p.1 = q.1 ∧ (p.2 = q.2 ∨ p.2.cps.toList < q.2.cps.toList))
def Common (w : Wr) (a b : Str) (r : PyData) : Prop :=
  (r = .none ∧ ∀ y i j, dist w a y = some i → dist w b y = some j → False) ∨
  ∃ y i j, dist w a y = some i ∧ dist w b y = some j ∧ r = .tuple [.int ((i + j : Nat) : Int), .str y] ∧ ∀ z i' j', dist w a z = some i' → dist w b z = some j' → pl (i + j, y) (i' + j', z)
def semCommon (C D : Addr) : ME := fun xk args Kd => ∃ d1 d2 d3, args = [.val d1, .val d2, .val d3] ∧
  if isWear d1 = true then if isIn SGN d2 = true then if isIn SGN d3 = true then ∀ w a b, d1 = wearD w → d2 = .str a → d3 = .str b → ∀ r e, Common w a b r → Kd (.val r) e
    else ∀ e, xk (.ref C) none e else ∀ e, xk (.ref C) none e else ∀ e, xk (.ref D) none e
end M
end
section
namespace M
open PySem PySem.Spec PyProof.Rows L2
theorem keys_enc : ∀ f : List (Str × Nat), keysS (encK f) = some (f.map (·.1))
  | [] => rfl
  | p :: f => by
    show keysS ((PyData.str p.1, PyData.int (p.2 : Int)) :: encK f) = _
    rw [keysS, keys_enc f]
    rfl
theorem dist_len {w : Wr} {x : Str} {f : List (Str × Nat)} (h : IsDist w x f) : f.length ≤ w.length + 1 := by
  have := nodup_le (m := x :: w.map (·.2)) h.nd fun y hy => by
    rcases h.sub y hy with q | q
    · rw [q]; exact List.mem_cons_self
    · exact List.mem_cons_of_mem _ q
  simpa using this
theorem dist_mem {w : Wr} {x : Str} {f : List (Str × Nat)} (h : IsDist w x f) (y : Str) : y ∈ f.map (·.1) ↔ dist w x y ≠ none := by
  rw [← h.at_ y]
  constructor
  · intro q z
    exact look_none.mp z q
  · intro q
    exact Classical.byContradiction fun z => q (look_none.mpr z)
theorem minD_least : ∀ (ys : List PyData) (y d : PyData), d ∈ y :: ys → PySem.W.dataLt d (PySem.W.minD y ys) = false
  | [], y, d, h => by
    simp at h
    subst h
    exact dlt_irr d
  | z :: zs, y, d, h => by
    have e : PySem.W.minD y (z :: zs) = PySem.W.minD (if PySem.W.dataLt z y = true then z else y) zs := rfl
    have ih := minD_least zs (if PySem.W.dataLt z y = true then z else y)
    rw [← e] at ih
    have i0 := ih _ List.mem_cons_self
    rcases List.mem_cons.mp h with rfl | h
    · by_cases q : PySem.W.dataLt z d = true
      · rw [if_pos q] at i0
        cases r : PySem.W.dataLt d (PySem.W.minD d (z :: zs)) with
        | false => rfl
        | true => rw [dlt_trans q r] at i0; cases i0
      · rw [if_neg q] at i0; exact i0
    · rcases List.mem_cons.mp h with rfl | h
      · by_cases q : PySem.W.dataLt d y = true
        · rw [if_pos q] at i0; exact i0
        · rw [if_neg q] at i0
          have := dle_trans (PySem.W.minD y (d :: zs)) y d (by rw [i0]; rfl) (by rw [Bool.eq_false_iff.mpr q]; rfl)
          simpa using this
      · exact ih d (List.mem_cons_of_mem _ h)
def sumD (q : Nat × Str) : PyData := .tuple [.int (q.1 : Int), .str q.2]
theorem lt_pl {p q : Nat × Str} (h : PySem.W.dataLt (sumD p) (sumD q) = false) : pl q p := by
  unfold sumD at h
  rw [PySem.W.dataLt_pair rfl rfl, PySem.W.dataLt_int, PySem.W.dataLt_str] at h
  unfold pl
  by_cases e : p.1 = q.1
  · rw [if_pos (by simp [PyData.eqv, e])] at h
    refine .inr ⟨e.symm, ?_⟩
    by_cases e2 : p.2 = q.2
    · exact .inl e2.symm
    · rw [if_neg (by simp [PyData.eqv, e2])] at h
      right
      cases z : decide (q.2.cps.toList < p.2.cps.toList) with
      | true => exact of_decide_eq_true z
      | false =>
        rw [← PySem.W.dataLt_str] at h z
        have t : PySem.W.keyToks (.str p.2) = PySem.W.keyToks (.str q.2) := lex_total _ _ h z
        simp [PySem.W.keyToks] at t
        exact absurd (by cases hp : p.2; cases hq : q.2; rw [hp, hq] at t; simp only at t; rw [t]) e2
  · rw [if_neg (by simp [PyData.eqv]; omega)] at h
    have h := of_decide_eq_false h
    left
    omega
end M
end
section
namespace M
open PySem PySem.Spec PyProof.Rows L2
theorem sums_plain (L : List (Nat × Str)) : PyData.hasDictAll (L.map sumD) = false ∧ PyData.depthAll (L.map sumD) ≤ 60 := by
  induction L with
  | nil => exact ⟨rfl, by simp [PyData.depthAll]⟩
  | cons q L ih =>
    rw [List.map_cons]
    refine ⟨by simp [PyData.hasDictAll, ih.1, sumD, PyData.hasDict], ?_⟩
    simp only [PyData.depthAll, sumD, PyData.depth]
    have := ih.2
    omega
theorem sums_alike (L : List (Nat × Str)) : PySem.W.AlikeAll (L.map sumD) := by
  refine ⟨fun d hd e he => ?_, ?_⟩
  · obtain ⟨p, _, rfl⟩ := List.mem_map.mp hd
    obtain ⟨q, _, rfl⟩ := List.mem_map.mp he
    simp [sumD, PySem.W.alike, PySem.W.alikeAll]
  · intro d hd
    obtain ⟨p, _, rfl⟩ := List.mem_map.mp hd
    simp [sumD]
/-- what stands on both lists of steps -/
def both (f g : List (Str × Nat)) : List (Nat × Str) := (f.map (·.1)).filterMap fun y => match look f y, look g y with
  | some i, some j => some (i + j, y)
  | _, _ => none
theorem both_mem {f g : List (Str × Nat)} {q : Nat × Str} : q ∈ both f g ↔ ∃ i j, look f q.2 = some i ∧ look g q.2 = some j ∧ q.1 = i + j := by
  unfold both
  rw [List.mem_filterMap]
  constructor
  · rintro ⟨y, hy, h⟩
    cases e1 : look f y with
    | none => rw [e1] at h; cases h
    | some i =>
      cases e2 : look g y with
      | none => rw [e1, e2] at h; cases h
      | some j =>
        rw [e1, e2] at h
        cases h
        exact ⟨i, j, e1, e2, rfl⟩
  · rintro ⟨i, j, e1, e2, e3⟩
    refine ⟨q.2, Classical.byContradiction fun z => ?_, ?_⟩
    · rw [look_none.mpr z] at e1; cases e1
    · rw [e1, e2]
      obtain ⟨a, b⟩ := q
      simp only at e3
      simp [e3]
def minR (L : List (Nat × Str)) : PyData := match L.map sumD with
  | [] => .none
  | y :: ys => PySem.W.minD y ys
theorem min_common {w : Wr} {a b : Str} {f g : List (Str × Nat)} (D1 : IsDist w a f) (D2 : IsDist w b g) : Common w a b (minR (both f g)) := by
  cases e : both f g with
  | nil =>
    left
    refine ⟨rfl, fun y i j h1 h2 => ?_⟩
    have : ((i + j, y) : Nat × Str) ∈ both f g := both_mem.mpr ⟨i, j, by rw [D1.at_]; exact h1, by rw [D2.at_]; exact h2, rfl⟩
    rw [e] at this
    cases this
  | cons q L =>
    right
    have hm : PySem.W.minD (sumD q) (L.map sumD) ∈ (q :: L).map sumD := minD_mem _ _
    obtain ⟨m, hmL, em⟩ := List.mem_map.mp hm
    rw [← e] at hmL
    obtain ⟨i, j, h1, h2, h3⟩ := both_mem.mp hmL
    refine ⟨m.2, i, j, by rw [← D1.at_]; exact h1, by rw [← D2.at_]; exact h2, ?_, fun z i' j' g1 g2 => ?_⟩
    · show PySem.W.minD (sumD q) (L.map sumD) = _
      rw [← em, sumD, h3]
    · have hz : ((i' + j', z) : Nat × Str) ∈ both f g := both_mem.mpr ⟨i', j', by rw [D1.at_]; exact g1, by rw [D2.at_]; exact g2, rfl⟩
      rw [e] at hz
      have := minD_least (L.map sumD) (sumD q) (sumD (i' + j', z)) (List.mem_map_of_mem (f := sumD) hz)
      rw [← em] at this
      have := lt_pl this
      rw [← h3]
      exact this
end M
end
section
namespace M
open PySem PySem.Spec PyProof.Rows L2
/-- whether BadSign is raised -/
def semRefused : ME := fun _ args Kd => ∃ d1 d2 d3, args = [.val d1, .val d2, .val d3] ∧ isWear d1 = true ∧ ∀ e, Kd (.val (.bool (!(isIn SGN d2 && isIn SGN d3)))) e
/-- the law's own steps, as a dict of dicts -/
def reachD (R : Str → List (Str × Nat)) : List (PyData × PyData) := WRN.map fun x => (.str x, .dict (encK (R x)))
def semReach : ME := fun _ args Kd => ∃ w, args = [.val (wearD w)] ∧ isWear (wearD w) = true ∧ ∀ R, (∀ x ∈ WRN, (∀ y, look (R x) y = dist w x y)) → (∀ x ∈ WRN, ((R x).map (·.1)).Nodup) → ∀ e, Kd (.dct (reachD R)) e
/-- a dict of steps on the way: sound, small, and complete up to m steps -/
structure Bf (w : Wr) (x : Str) (m : Nat) (f : List (Str × Nat)) : Prop where
  nd : (f.map (·.1)).Nodup
  sub : ∀ y ∈ f.map (·.1), y = x ∨ y ∈ w.map (·.2)
  snd : ∀ y k, look f y = some k → walk w k x y ∧ k < f.length
  cmp : ∀ y n, n ≤ m → walk w n x y → ∃ k, look f y = some k ∧ k ≤ n
theorem walk_in {w : Wr} (hw : ∀ p ∈ w, p.1 ∈ SGN ∧ p.2 ∈ WRN) {x : Str} (hx : x ∈ WRN) : ∀ {n : Nat} {y : Str}, walk w n x y → y ∈ WRN
  | 0, _, h => by cases h; exact hx
  | n + 1, _, ⟨_, _, h⟩ => (hw _ h).2
theorem dist_small {w : Wr} (hw : ∀ p ∈ w, p.1 ∈ SGN ∧ p.2 ∈ WRN) {x : Str} (hx : x ∈ WRN) {y : Str} {m : Nat} (h : Dist w x y (some m)) : m ≤ 6 := by
  have key : ∀ m y, Dist w x y (some m) → ∃ l : List Str, l.length = m + 1 ∧ l.Nodup ∧ ∀ z ∈ l, z ∈ WRN ∧ ∃ i, i ≤ m ∧ Dist w x z (some i) := fun m => by
    induction m with
    | zero => intro y h; exact ⟨[y], rfl, by simp, fun z hz => by simp at hz; subst hz; exact ⟨walk_in hw hx h.1, 0, Nat.le_refl _, h⟩⟩
    | succ m ih =>
      intro y h
      obtain ⟨z, hz, _⟩ := dist_pred h
      obtain ⟨l, l1, l2, l3⟩ := ih z hz
      refine ⟨y :: l, by simp [l1], ?_, fun u hu => ?_⟩
      · rw [List.nodup_cons]
        refine ⟨fun q => ?_, l2⟩
        obtain ⟨_, i, hi, hd⟩ := l3 y q
        have := dist_uniq h hd
        simp at this
        omega
      · rcases List.mem_cons.mp hu with rfl | hu
        · exact ⟨walk_in hw hx h.1, m + 1, Nat.le_refl _, h⟩
        · obtain ⟨a, i, hi, hd⟩ := l3 u hu
          exact ⟨a, i, by omega, hd⟩
  obtain ⟨l, l1, l2, l3⟩ := key m y h
  have := nodup_le l2 fun z hz => (l3 z hz).1
  have e : WRN.length = 7 := rfl
  omega
theorem bf_end {w : Wr} (hw : ∀ p ∈ w, p.1 ∈ SGN ∧ p.2 ∈ WRN) {x : Str} (hx : x ∈ WRN) {f : List (Str × Nat)} (B : Bf w x 7 f) (y : Str) : look f y = dist w x y := by
  refine (dist_of ?_).symm
  cases q : look f y with
  | none =>
    intro n hn
    obtain ⟨o, ho⟩ := dist_ex w x y
    cases o with
    | none => exact ho n hn
    | some m =>
      obtain ⟨k, hk, _⟩ := B.cmp y m (by have := dist_small hw hx ho; omega) ho.1
      rw [q] at hk
      cases hk
  | some k =>
    refine ⟨(B.snd y k q).1, fun m hm hwk => ?_⟩
    obtain ⟨o, ho⟩ := dist_ex w x y
    cases o with
    | none => exact ho m hwk
    | some m' =>
      have h6 := dist_small hw hx ho
      obtain ⟨k', hk', hle⟩ := B.cmp y m' (by omega) ho.1
      rw [q] at hk'
      cases hk'
      exact ho.2 m (by omega) hwk
theorem cxK {C : CXT} {P : Program} {w : World} {K : PySem.W.Frag} {mg : Str → Option Value} {b : Heap} {N : List Str} {q : Str} {sc : Scope} {f : Addr} {cd : Value} {A : Around} {o : List Env} {s : Shared} {H : Hp} {E : XK} : (cxOf C P w K mg b N q sc f cd A o s H E).K = K := rfl
end M
end
section
namespace M
open PySem PySem.Spec PyProof.Rows L2
def setK : List (Str × Nat) → Str → Nat → List (Str × Nat)
  | [], y, k => [(y, k)]
  | p :: r, y, k => if p.1 = y then (p.1, k) :: r else p :: setK r y k
theorem putD_set (y : Str) (k : Nat) : ∀ f : List (Str × Nat), putD (encK f) (.inr y) (.int (k : Int)) = encK (setK f y k)
  | [] => rfl
  | p :: f => by
    show (if keyOf (.str p.1) = some (.inr y) then _ else (PyData.str p.1, PyData.int (p.2 : Int)) :: putD (encK f) (.inr y) (.int (k : Int))) = encK (if p.1 = y then (p.1, k) :: f else p :: setK f y k)
    by_cases h : p.1 = y
    · rw [if_pos h, if_pos (by rw [h]; rfl)]; rfl
    · rw [if_neg h, if_neg (fun z => h (by cases z; rfl)), putD_set y k f]; rfl
theorem look_set {y z : Str} {k : Nat} : ∀ {f : List (Str × Nat)}, look (setK f y k) z = if y = z then some k else look f z
  | [] => rfl
  | p :: f => by
    show look (if p.1 = y then (p.1, k) :: f else p :: setK f y k) z = _
    by_cases h : p.1 = y
    · rw [if_pos h, look_cons, look_cons, h]
      by_cases q : y = z
      · rw [if_pos q, if_pos q]
      · rw [if_neg q, if_neg q, if_neg q]
    · rw [if_neg h, look_cons, look_cons, look_set]
      by_cases q : p.1 = z
      · rw [if_pos q, if_pos q, if_neg (fun e => h (by rw [q, e]))]
      · rw [if_neg q, if_neg q]
theorem keys_set {y : Str} {k : Nat} : ∀ {f : List (Str × Nat)}, (setK f y k).map (·.1) = if y ∈ f.map (·.1) then f.map (·.1) else f.map (·.1) ++ [y]
  | [] => rfl
  | p :: f => by
    show (if p.1 = y then (p.1, k) :: f else p :: setK f y k).map (·.1) = _
    by_cases h : p.1 = y
    · rw [if_pos h, if_pos (by rw [List.map_cons, h]; exact List.mem_cons_self)]; rfl
    · rw [if_neg h, List.map_cons, keys_set, List.map_cons]
      by_cases q : y ∈ f.map (·.1)
      · rw [if_pos q, if_pos (List.mem_cons_of_mem _ q)]
      · rw [if_neg q, if_neg (fun z => (List.mem_cons.mp z).elim (fun e => h e.symm) q)]; rfl
theorem nodup_set {y : Str} {k : Nat} {f : List (Str × Nat)} (h : (f.map (·.1)).Nodup) : ((setK f y k).map (·.1)).Nodup := by
  rw [keys_set]
  split
  · exact h
  · rename_i q
    rw [List.nodup_append]
    exact ⟨h, by simp, fun a ha b hb e => q (by simp at hb; rw [← hb, ← e]; exact ha)⟩
theorem len_set {y : Str} {k : Nat} {f : List (Str × Nat)} : (setK f y k).length = if y ∈ f.map (·.1) then f.length else f.length + 1 := by
  have := congrArg List.length (keys_set (y := y) (k := k) (f := f))
  rw [List.length_map] at this
  rw [this]
  split <;> simp
/-- within a round: j pairs are done -/
structure Bj (w : Wr) (x : Str) (m j : Nat) (f : List (Str × Nat)) : Prop where
  nd : (f.map (·.1)).Nodup
  sub : ∀ y ∈ f.map (·.1), y = x ∨ y ∈ w.map (·.2)
  snd : ∀ y k, look f y = some k → walk w k x y ∧ k < f.length
  cmp : ∀ y n, n ≤ m → walk w n x y → ∃ k, look f y = some k ∧ k ≤ n
  nxt : ∀ y n z, n ≤ m → walk w n x z → (z, y) ∈ w.take j → ∃ k, look f y = some k ∧ k ≤ n + 1
theorem bj_len {w : Wr} {x : Str} {m j : Nat} {f : List (Str × Nat)} (h : Bj w x m j f) : f.length ≤ w.length + 1 := by
  have := nodup_le (m := x :: w.map (·.2)) h.nd fun y hy => by
    rcases h.sub y hy with q | q
    · rw [q]; exact List.mem_cons_self
    · exact List.mem_cons_of_mem _ q
  simpa using this
theorem bj_end {w : Wr} {x : Str} {m : Nat} {f : List (Str × Nat)} (h : Bj w x m w.length f) : Bj w x (m + 1) 0 f where
  nd := h.nd
  sub := h.sub
  snd := h.snd
  cmp := fun y n hn hw => by
    cases n with
    | zero => exact h.cmp y 0 (by omega) hw
    | succ n =>
      obtain ⟨z, h1, h2⟩ := hw
      exact h.nxt y n z (by omega) h1 (by rw [List.take_length]; exact h2)
  nxt := fun y n z _ _ q => by simp at q
theorem bj0 (w : Wr) (x : Str) : Bj w x 0 0 [(x, 0)] where
  nd := by simp
  sub := fun y h => by simp at h; exact .inl h
  snd := fun y k h => by
    rw [look_cons] at h
    split at h
    · rename_i e
      cases h
      exact ⟨e, by simp⟩
    · cases h
  cmp := fun y n hn hw => by
    have : n = 0 := by omega
    subst this
    have e : x = y := hw
    exact ⟨0, by rw [look_cons, if_pos e], Nat.le_refl _⟩
  nxt := fun y n z _ _ q => by simp at q
theorem bj_skip {w : Wr} {x : Str} {m j : Nat} {f : List (Str × Nat)} {a b : Str} (h : Bj w x m j f) (hj : w[j]? = some (a, b)) (c : ∀ ka, look f a = some ka → ∃ kb, look f b = some kb ∧ kb ≤ ka + 1) : Bj w x m (j + 1) f where
  nd := h.nd
  sub := h.sub
  snd := h.snd
  cmp := h.cmp
  nxt := fun y n z hn hw q => by
    rw [take_succ hj] at q
    simp only [List.mem_append, List.mem_singleton, Prod.mk.injEq] at q
    rcases q with q | ⟨rfl, rfl⟩
    · exact h.nxt y n z hn hw q
    · obtain ⟨k, h1, h2⟩ := h.cmp z n hn hw
      obtain ⟨kb, h3, h4⟩ := c k h1
      exact ⟨kb, h3, by omega⟩
theorem bj_put {w : Wr} {x : Str} {m j : Nat} {f : List (Str × Nat)} {a b : Str} {ka : Nat} (h : Bj w x m j f) (hj : w[j]? = some (a, b)) (ha : look f a = some ka) (c : ∀ kb, look f b = some kb → ka + 1 < kb) : Bj w x m (j + 1) (setK f b (ka + 1)) := by
  have mono : ∀ y k, look f y = some k → ∃ k', look (setK f b (ka + 1)) y = some k' ∧ k' ≤ k := fun y k hy => by
    rw [look_set]
    by_cases e : b = y
    · subst e
      exact ⟨_, if_pos rfl, Nat.le_of_lt (c k hy)⟩
    · exact ⟨k, by rw [if_neg e]; exact hy, Nat.le_refl _⟩
  have hab : (a, b) ∈ w := List.mem_of_getElem? hj
  have ll : f.length ≤ (setK f b (ka + 1)).length := by rw [len_set]; split <;> omega
  exact
  { nd := nodup_set h.nd
    sub := fun y hy => by
      rw [keys_set] at hy
      split at hy
      · exact h.sub y hy
      · rcases List.mem_append.mp hy with hy | hy
        · exact h.sub y hy
        · simp at hy
          subst hy
          exact .inr (List.mem_map.mpr ⟨_, hab, rfl⟩)
    snd := fun y k hy => by
      rw [look_set] at hy
      by_cases e : b = y
      · subst e
        rw [if_pos rfl] at hy
        cases hy
        obtain ⟨h1, h2⟩ := h.snd a ka ha
        refine ⟨⟨a, h1, hab⟩, ?_⟩
        cases q : look f b with
        | some kb =>
          have := c kb q
          have := (h.snd b kb q).2
          omega
        | none =>
          rw [len_set, if_neg (look_none.mp q)]
          omega
      · rw [if_neg e] at hy
        obtain ⟨h1, h2⟩ := h.snd y k hy
        exact ⟨h1, by omega⟩
    cmp := fun y n hn hw => by
      obtain ⟨k, h1, h2⟩ := h.cmp y n hn hw
      obtain ⟨k', h3, h4⟩ := mono y k h1
      exact ⟨k', h3, by omega⟩
    nxt := fun y n z hn hw q => by
      rw [take_succ hj] at q
      simp only [List.mem_append, List.mem_singleton, Prod.mk.injEq] at q
      rcases q with q | ⟨rfl, rfl⟩
      · obtain ⟨k, h1, h2⟩ := h.nxt y n z hn hw q
        obtain ⟨k', h3, h4⟩ := mono y k h1
        exact ⟨k', h3, by omega⟩
      · obtain ⟨k, h1, h2⟩ := h.cmp z n hn hw
        rw [ha] at h1
        cases h1
        exact ⟨ka + 1, by rw [look_set, if_pos rfl], by omega⟩ }
theorem putD_new {x : Str} {d : PyData} : ∀ {es : List (PyData × PyData)}, (∀ p ∈ es, p.1 ≠ .str x) → putD es (.inr x) d = es ++ [(.str x, d)]
  | [], _ => rfl
  | p :: es, h => by
    have hp := h p List.mem_cons_self
    have : ¬ keyOf p.1 = some (.inr x) := fun z => hp (by
      cases q : p.1 <;> rw [q] at z <;> simp [keyOf] at z
      rw [z])
    show (if keyOf p.1 = some (.inr x) then _ else (p.1, p.2) :: putD es (.inr x) d) = _
    rw [if_neg this, putD_new fun q hq => h q (List.mem_cons_of_mem _ hq)]
    rfl
theorem reach_take (R : Str → List (Str × Nat)) (i : Nat) : (reachD R).take i = (WRN.take i).map fun x => (.str x, .dict (encK (R x))) := by
  unfold reachD
  rw [List.map_take]
theorem reach_nodup (R : Str → List (Str × Nat)) (i : Nat) : nodupD ((reachD R).take i) := by
  rw [reach_take]
  unfold nodupD
  rw [List.map_map]
  have e : (WRN.take i).map ((fun x : PyData × PyData => x.1) ∘ fun x => (PyData.str x, PyData.dict (encK (R x)))) = (WRN.take i).map PyData.str := rfl
  rw [e]
  have nd : WRN.Nodup := by decide
  exact List.Pairwise.map _ (fun a b n z => n (by cases z; rfl)) (nd.sublist (List.take_sublist _ _))
theorem reach_put {R : Str → List (Str × Nat)} {i : Nat} {x : Str} {f : List (Str × Nat)} (hx : WRN[i]? = some x) : putD ((reachD R).take i) (.inr x) (.dict (encK f)) = (reachD fun z => if z = x then f else R z).take (i + 1) := by
  have nd : WRN.Nodup := by decide
  have nx : x ∉ WRN.take i := fun h => by
    have e : WRN.take (i + 1) = WRN.take i ++ [x] := take_succ hx
    have := nd.sublist (List.take_sublist (i + 1) WRN)
    rw [e, List.nodup_append] at this
    exact this.2.2 x h x (by simp) rfl
  rw [reach_take, reach_take, take_succ hx, List.map_append, putD_new]
  · congr 1
    · refine List.map_congr_left fun z hz => ?_
      rw [if_neg fun e => nx (by rw [← e]; exact hz)]
    · simp
  · intro p hp e
    obtain ⟨z, hz, rfl⟩ := List.mem_map.mp hp
    simp only [PyData.str.injEq] at e
    exact nx (by rw [← e]; exact hz)
end M
end
section
namespace M
open PySem PySem.Spec PyProof.Rows L2
theorem wear_ok {xk : MX} {bs : List PyData} {c : Int} {Kd : MK} (hb : BagAt c bs) (hc : c ≤ 2 ^ 50) (k : ∀ bs' w, BagAt (c + 100) bs' → isWear (wearD w) = true → Kd (.val (wearD w)) [.lst bs']) : semWear xk [.lst bs] Kd := ⟨bs, c, rfl, hb, hc, k⟩
theorem reach_ok {xk : MX} {w : Wr} {Kd : MK} (hw : isWear (wearD w) = true) (k : ∀ R, (∀ x ∈ WRN, (∀ y, look (R x) y = dist w x y)) → (∀ x ∈ WRN, ((R x).map (·.1)).Nodup) → ∀ e, Kd (.dct (reachD R)) e) : semReach xk [.val (wearD w)] Kd := ⟨w, rfl, hw, k⟩
theorem common_ok {xk : MX} {C D : Addr} {w : Wr} {a b : Str} {Kd : MK} (hw : isWear (wearD w) = true) (ha : a ∈ SGN) (hb : b ∈ SGN) (k : ∀ r e, Common w a b r → Kd (.val r) e) : semCommon C D xk [.val (wearD w), .val (.str a), .val (.str b)] Kd := by
  refine ⟨_, _, _, rfl, ?_⟩
  rw [if_pos hw, if_pos (isIn_of ha), if_pos (isIn_of hb)]
  rintro w' a' b' e1 e2 e3
  cases wearD_inj e1
  cases e2
  cases e3
  exact k
theorem comes_ok {xk : MX} {C D : Addr} {w : Wr} {a : Str} {Kd : MK} (hw : isWear (wearD w) = true) (ha : a ∈ WRN) (k : ∀ ys : List Str, ys.Nodup → (∀ y, y ∈ ys ↔ dist w a y ≠ none) → ∀ e, Kd (.val (.tuple (ys.map .str))) e) : semComesTo C D xk [.val (wearD w), .val (.str a)] Kd := by
  refine ⟨_, _, rfl, ?_⟩
  rw [if_pos hw, if_pos (isIn_of ha)]
  rintro w' a' e1 e2
  cases wearD_inj e1
  cases e2
  exact fun ys h1 h2 _ => k ys h1 h2
theorem sgn_sen {x : Str} (h : x ∈ SGN) : x ∈ SEN := List.mem_cons_of_mem _ (List.mem_cons_of_mem _ h)
theorem sgn_q {x : Str} (h : x ∈ SGN) : x ≠ "?" := fun e => by rw [e] at h; exact absurd h (by decide)
theorem steps_ok {xk : MX} {C D : Addr} {w : Wr} {a b : Str} {Kd : MK} (hw : isWear (wearD w) = true) (ha : a ∈ SGN) (hb : b ∈ SGN) (k : ∀ e, Kd (.val (optI (dist w a b))) e) : semSteps C D xk [.val (wearD w), .val (.str a), .val (.str b)] Kd := by
  refine ⟨_, _, _, rfl, ?_⟩
  rw [if_pos hw, if_pos (isIn_of (sgn_wrn ha)), if_pos (isIn_of (sgn_sen hb))]
  rintro w' a' b' e1 e2 e3
  cases wearD_inj e1
  cases e2
  cases e3
  rw [if_neg (sgn_q hb)]
  exact k
end M
end
section
set_option maxHeartbeats 2000000
namespace M
open PySem PySem.Spec PyProof.Rows L2
theorem getK_reach {R : Str → List (Str × Nat)} {x : Str} (h : x ∈ WRN) : getK (reachD R) (.inr x) = some (.dict (encK (R x))) := by
  have key : ∀ L : List Str, x ∈ L → getK (L.map fun x => (PyData.str x, PyData.dict (encK (R x)))) (.inr x) = some (.dict (encK (R x))) := fun L => by
    induction L with
    | nil => intro h; cases h
    | cons a L ih =>
      intro h
      show (if keyOf (.str a) = some (.inr x) then some (PyData.dict (encK (R a))) else getK (L.map fun x => (PyData.str x, PyData.dict (encK (R x)))) (.inr x)) = _
      by_cases e : a = x
      · rw [if_pos (by rw [e]; rfl), e]
      · rw [if_neg (fun z => e (by cases z; rfl)), ih ((List.mem_cons.mp h).resolve_left fun z => e z.symm)]
  exact key WRN h
theorem pl_anti {p q : Nat × Str} (h1 : pl p q) (h2 : pl q p) : p = q := by
  obtain ⟨a, x⟩ := p
  obtain ⟨b, y⟩ := q
  unfold pl at h1 h2
  simp only at h1 h2
  rcases h1 with h1 | ⟨e, h1⟩
  · rcases h2 with h2 | ⟨e2, _⟩ <;> omega
  · rcases h2 with h2 | ⟨_, h2⟩
    · omega
    · rcases h1 with h1 | h1
      · rw [e, h1]
      · rcases h2 with h2 | h2
        · rw [e, h2]
        · exact absurd (List.lt_trans h1 h2) (List.lt_irrefl _)
theorem common_uniq {w : Wr} {a b : Str} {r s : PyData} (h1 : Common w a b r) (h2 : Common w a b s) : r = s := by
  rcases h1 with ⟨rfl, h1⟩ | ⟨y, i, j, e1, e2, rfl, h1⟩
  · rcases h2 with ⟨rfl, _⟩ | ⟨y, i, j, e1, e2, _⟩
    · rfl
    · exact absurd (h1 y i j e1 e2) id
  · rcases h2 with ⟨rfl, h2⟩ | ⟨z, k, l, f1, f2, rfl, h2⟩
    · exact absurd (h2 y i j e1 e2) id
    · have := pl_anti (h1 z k l f1 f2) (h2 y i j e1 e2)
      simp only [Prod.mk.injEq] at this
      rw [this.1, this.2]
theorem common_symm {w : Wr} {a b : Str} {r : PyData} (h : Common w a b r) : Common w b a r := by
  rcases h with ⟨rfl, h⟩ | ⟨y, i, j, e1, e2, rfl, h⟩
  · exact .inl ⟨rfl, fun y i j e1 e2 => h y j i e2 e1⟩
  · refine .inr ⟨y, j, i, e2, e1, by rw [Nat.add_comm], fun z k l f1 f2 => ?_⟩
    have := h z l k f2 f1
    rw [Nat.add_comm j i, Nat.add_comm k l]
    exact this
theorem dist_self (w : Wr) (a : Str) : dist w a a = some 0 := dist_of ⟨rfl, fun m hm => absurd hm (Nat.not_lt_zero m)⟩
theorem common_self {w : Wr} {a : Str} {r : PyData} (h : Common w a a r) : r = sumD (0, a) := by
  refine common_uniq h (.inr ⟨a, 0, 0, dist_self w a, dist_self w a, rfl, fun z k l f1 f2 => ?_⟩)
  by_cases e : k = 0
  · subst e
    have d := dist_is w a z
    rw [f1] at d
    have : a = z := d.1
    subst this
    rw [f1] at f2
    cases f2
    exact .inr ⟨rfl, .inl rfl⟩
  · left
    show 0 + 0 < k + l
    omega
/-- what the law has found behind i signs -/
def Due (w : Wr) (a b : Str) (i : Nat) (r : PyData) : Prop :=
  (r = .none ∧ ∀ y ∈ WRN.take i, ∀ p q, dist w a y = some p → dist w b y = some q → False) ∨
  ∃ y p q, y ∈ WRN.take i ∧ dist w a y = some p ∧ dist w b y = some q ∧ r = sumD (p + q, y) ∧ ∀ z ∈ WRN.take i, ∀ p' q', dist w a z = some p' → dist w b z = some q' → pl (p + q, y) (p' + q', z)
theorem due_end {w : Wr} (hw : ∀ p ∈ w, p.1 ∈ SGN ∧ p.2 ∈ WRN) {a b : Str} (ha : a ∈ WRN) {r : PyData} (h : Due w a b 7 r) : Common w a b r := by
  have inW : ∀ y p, dist w a y = some p → y ∈ WRN := fun y p e => by
    have d := dist_is w a y
    rw [e] at d
    exact walk_in hw ha d.1
  have e7 : WRN.take 7 = WRN := rfl
  rcases h with ⟨rfl, h⟩ | ⟨y, p, q, _, e1, e2, rfl, h⟩
  · exact .inl ⟨rfl, fun y i j e1 e2 => h y (by rw [e7]; exact inW y i e1) i j e1 e2⟩
  · exact .inr ⟨y, p, q, e1, e2, rfl, fun z k l f1 f2 => h z (by rw [e7]; exact inW z k f1) k l f1 f2⟩
theorem due_skip {w : Wr} {a b : Str} {i : Nat} {x : Str} {r : PyData} (hx : WRN[i]? = some x) (h : Due w a b i r) (n : dist w a x = none ∨ dist w b x = none) : Due w a b (i + 1) r := by
  have tk := take_succ hx
  rcases h with ⟨rfl, h⟩ | ⟨y, p, q, ym, e1, e2, rfl, h⟩
  · refine .inl ⟨rfl, fun y hy p q f1 f2 => ?_⟩
    rw [tk] at hy
    simp at hy
    rcases hy with hy | rfl
    · exact h y hy p q f1 f2
    · rcases n with n | n
      · rw [f1] at n; cases n
      · rw [f2] at n; cases n
  · refine .inr ⟨y, p, q, by rw [tk]; simp [ym], e1, e2, rfl, fun z hz p' q' f1 f2 => ?_⟩
    rw [tk] at hz
    simp at hz
    rcases hz with hz | rfl
    · exact h z hz p' q' f1 f2
    · rcases n with n | n
      · rw [f1] at n; cases n
      · rw [f2] at n; cases n
theorem wrn_lt {i : Nat} {x y : Str} (hx : WRN[i]? = some x) (hy : y ∈ WRN.take i) : y.cps.toList < x.cps.toList := by
  have key : ∀ i, i < 7 → ∀ y ∈ WRN.take i, ∀ x, WRN[i]? = some x → y.cps.toList < x.cps.toList := by decide +kernel
  exact key i (List.getElem?_eq_some_iff.mp hx).1 y hy x hx
theorem due_new {w : Wr} {a b : Str} {i p q : Nat} {x : Str} {r : PyData} (hx : WRN[i]? = some x) (h : Due w a b i r) (e1 : dist w a x = some p) (e2 : dist w b x = some q) (c : ∀ n y, r = sumD (n, y) → p + q < n) : Due w a b (i + 1) (sumD (p + q, x)) := by
  have tk := take_succ hx
  refine .inr ⟨x, p, q, by rw [tk]; simp, e1, e2, rfl, fun z hz p' q' f1 f2 => ?_⟩
  rw [tk] at hz
  simp at hz
  rcases hz with hz | rfl
  · rcases h with ⟨rfl, h⟩ | ⟨y, k, l, ym, _, _, rfl, h⟩
    · exact absurd (h z hz p' q' f1 f2) id
    · have h1 := c _ _ rfl
      have h2 := h z hz p' q' f1 f2
      left
      rcases h2 with h2 | ⟨h2, _⟩ <;> (simp only at h2 ⊢; omega)
  · rw [f1] at e1
    rw [f2] at e2
    cases e1
    cases e2
    exact .inr ⟨rfl, .inl rfl⟩
theorem due_keep {w : Wr} {a b : Str} {i p q n : Nat} {x y : Str} (hx : WRN[i]? = some x) (h : Due w a b i (sumD (n, y))) (e1 : dist w a x = some p) (e2 : dist w b x = some q) (c : ¬ p + q < n) : Due w a b (i + 1) (sumD (n, y)) := by
  have tk := take_succ hx
  rcases h with ⟨h, _⟩ | ⟨y', k, l, ym, g1, g2, e, h⟩
  · cases h
  · simp [sumD] at e
    obtain ⟨en, rfl⟩ := e
    have en : n = k + l := by omega
    subst en
    refine .inr ⟨y, k, l, by rw [tk]; simp [ym], g1, g2, rfl, fun z hz p' q' f1 f2 => ?_⟩
    rw [tk] at hz
    simp at hz
    rcases hz with hz | rfl
    · exact h z hz p' q' f1 f2
    · rw [f1] at e1
      rw [f2] at e2
      cases e1
      cases e2
      by_cases q1 : k + l < p + q
      · exact .inl q1
      · exact .inr ⟨by show k + l = p + q; omega, .inr (wrn_lt hx ym)⟩
theorem sum_show {n : Nat} {y : Str} (hn : n ≤ 12) (hy : y ∈ WRN) : PyData.hasDict (sumD (n, y)) = false ∧ (sumD (n, y)).showable = true ∧ (sumD (n, y)).depth ≤ 60 ∧ (sumD (n, y)).shown.length ≤ sizeLine ∧ okD (sumD (n, y)) = true ∧ PyData.eqv (sumD (n, y)) (sumD (n, y)) = true := by
  have a : ∀ n, n < 13 → ∀ y ∈ WRN, PyData.hasDict (sumD (n, y)) = false ∧ (sumD (n, y)).showable = true ∧ (sumD (n, y)).depth ≤ 60 ∧ (sumD (n, y)).shown.length ≤ 4096 ∧ okD (sumD (n, y)) = true ∧ PyData.eqv (sumD (n, y)) (sumD (n, y)) = true := by decide +kernel
  obtain ⟨h1, h2, h3, h4, h5, h6⟩ := a n (by omega) y hy
  exact ⟨h1, h2, h3, small_line h4, h5, h6⟩
/-- what is told of two signs can be shown and held against itself -/
theorem common_show {w : Wr} (hw : ∀ p ∈ w, p.1 ∈ SGN ∧ p.2 ∈ WRN) {a b : Str} (ha : a ∈ WRN) (hb : b ∈ WRN) {r : PyData} (h : Common w a b r) : PyData.hasDict r = false ∧ r.showable = true ∧ r.depth ≤ 60 ∧ r.shown.length ≤ sizeLine ∧ okD r = true ∧ PyData.eqv r r = true := by
  rcases h with ⟨rfl, _⟩ | ⟨y, i, j, e1, e2, rfl, _⟩
  · exact ⟨rfl, by decide +kernel, by decide +kernel, small_line (by decide +kernel), by decide +kernel, by decide +kernel⟩
  · have d1 := dist_is w a y
    rw [e1] at d1
    have d2 := dist_is w b y
    rw [e2] at d2
    have h1 := dist_small hw ha d1
    have h2 := dist_small hw hb d2
    exact sum_show (by omega) (walk_in hw ha d1.1)
theorem or_same {p q r s X t : Prop} (hx : X) (h : p → q ∧ r ∧ s) : (¬p ∧ X) ∨ p ∧ q ∧ r ∧ ((s ∧ X) ∨ t) := by
  by_cases e : p
  · obtain ⟨h1, h2, h3⟩ := h e
    exact .inr ⟨e, h1, h2, .inl ⟨h3, hx⟩⟩
  · exact .inl ⟨e, hx⟩
theorem refused_ok {xk : MX} {w : Wr} {d2 d3 : PyData} {Kd : MK} (hw : isWear (wearD w) = true) (h : isIn SGN d2 = false ∨ isIn SGN d3 = false) (k : ∀ e, Kd (.val (.bool true)) e) : semRefused xk [.val (wearD w), .val d2, .val d3] Kd := by
  refine ⟨_, _, _, rfl, hw, fun e => ?_⟩
  have : (!(isIn SGN d2 && isIn SGN d3)) = true := by
    rcases h with h | h <;> simp [h]
  rw [this]
  exact k e
theorem comes_len {w : Wr} (hw : ∀ p ∈ w, p.1 ∈ SGN ∧ p.2 ∈ WRN) {a : Str} (ha : a ∈ WRN) {ys : List Str} (h1 : ys.Nodup) (h2 : ∀ y, y ∈ ys ↔ dist w a y ≠ none) : ys.length ≤ 7 ∧ ∀ y ∈ ys, y ∈ WRN := by
  have inW : ∀ y ∈ ys, y ∈ WRN := fun y hy => by
    obtain ⟨n, hn⟩ := Option.ne_none_iff_exists'.mp ((h2 y).mp hy)
    have d := dist_is w a y
    rw [hn] at d
    exact walk_in hw ha d.1
  exact ⟨nodup_le h1 inW, inW⟩
end M
end
section
namespace M
open PySem PySem.Spec PyProof.Rows L2
/-! ### small data: it can be shown and held against other data -/
structure Sm (k w : Nat) (d : PyData) : Prop where
  lay : PyData.canLay0 d = true
  ish : PyData.intsShort 13 d = true
  shw : PyData.showable d = true
  dep : PyData.depth d ≤ k
  wt : PyData.weight d ≤ w
structure SmA (k w : Nat) (ds : List PyData) : Prop where
  lay : PyData.canLayAll0 ds = true
  ish : PyData.intsShortAll 13 ds = true
  shw : PyData.showableAll ds = true
  dep : PyData.depthAll ds ≤ k
  wt : PyData.weightAll ds ≤ w
theorem SmA.nil {k : Nat} : SmA k 0 [] := ⟨by simp [PyData.canLayAll0], by simp [PyData.intsShortAll], by simp [PyData.showableAll], by simp [PyData.depthAll], by simp [PyData.weightAll]⟩
theorem SmA.cons {k w v : Nat} {d : PyData} {ds : List PyData} (h : Sm k w d) (t : SmA k v ds) : SmA k (w + 1 + v) (d :: ds) :=
  ⟨by simp [PyData.canLayAll0, h.lay, t.lay], by simp [PyData.intsShortAll, h.ish, t.ish], by simp [PyData.showableAll, h.shw, t.shw], by
    have a := h.dep
    have b := t.dep
    simp only [PyData.depthAll]
    omega, by
    have a := h.wt
    have b := t.wt
    simp only [PyData.weightAll]
    omega⟩
theorem Sm.mono {k w k' w' : Nat} {d : PyData} (h : Sm k w d) (hk : k ≤ k') (hw : w ≤ w') : Sm k' w' d := ⟨h.lay, h.ish, h.shw, Nat.le_trans h.dep hk, Nat.le_trans h.wt hw⟩
theorem SmA.mono {k w k' w' : Nat} {d : List PyData} (h : SmA k w d) (hk : k ≤ k') (hw : w ≤ w') : SmA k' w' d := ⟨h.lay, h.ish, h.shw, Nat.le_trans h.dep hk, Nat.le_trans h.wt hw⟩
theorem SmA.of {k w : Nat} : ∀ {ds : List PyData}, (∀ d ∈ ds, Sm k w d) → SmA k (ds.length * (w + 1)) ds
  | [], _ => SmA.nil.mono (Nat.le_refl _) (Nat.zero_le _)
  | d :: ds, h => (SmA.cons (h d List.mem_cons_self) (SmA.of fun e he => h e (List.mem_cons_of_mem _ he))).mono (Nat.le_refl _) (by rw [List.length_cons, Nat.succ_mul]; omega)
theorem Sm.none {k w : Nat} : Sm k w .none := ⟨by simp [PyData.canLay0], by simp [PyData.intsShort], by simp [PyData.showable], by simp [PyData.depth], by simp [PyData.weight]⟩
theorem Sm.bool {k w : Nat} {b : Bool} : Sm k w (.bool b) := ⟨by simp [PyData.canLay0], by simp [PyData.intsShort], by simp [PyData.showable], by simp [PyData.depth], by simp [PyData.weight]⟩
theorem sz_list {k w : Nat} {ds : List PyData} (h : SmA k w ds) : Sm (k + 1) w (.list ds) := ⟨by simp [PyData.canLay0, h.lay], by simp [PyData.intsShort, h.ish], by simp [PyData.showable, h.shw], by simpa [PyData.depth] using h.dep, by simpa [PyData.weight] using h.wt⟩
theorem sz_tup {k w : Nat} {ds : List PyData} (h : SmA k w ds) : Sm (k + 1) w (.tuple ds) := ⟨by simp [PyData.canLay0, h.lay], by simp [PyData.intsShort, h.ish], by simp [PyData.showable, h.shw], by simpa [PyData.depth] using h.dep, by simpa [PyData.weight] using h.wt⟩
theorem Sm.list {k w n : Nat} {ds : List PyData} (h : ∀ d ∈ ds, Sm k w d) (hn : ds.length ≤ n) : Sm (k + 1) (n * (w + 1)) (.list ds) := (sz_list (SmA.of h)).mono (Nat.le_refl _) (Nat.mul_le_mul_right _ hn)
theorem Sm.tuple {k w n : Nat} {ds : List PyData} (h : ∀ d ∈ ds, Sm k w d) (hn : ds.length ≤ n) : Sm (k + 1) (n * (w + 1)) (.tuple ds) := (sz_tup (SmA.of h)).mono (Nat.le_refl _) (Nat.mul_le_mul_right _ hn)
theorem Sm.int {k w : Nat} {i : Int} (h1 : -(10 ^ 12) < i) (h2 : i < 10 ^ 12) (hw : 41 ≤ w) : Sm k w (.int i) := by
  have n1 : i.natAbs < 10 ^ 12 := by omega
  have lg : i.natAbs.log2 < 40 := by
    by_cases z : i.natAbs = 0
    · rw [z]; decide
    · exact (Nat.log2_lt z).mpr (Nat.lt_of_lt_of_le n1 (by decide))
  refine ⟨by simp [PyData.canLay0], ?_, ?_, by simp [PyData.depth], ?_⟩
  · simp only [PyData.intsShort, decide_eq_true_eq]
    exact PyData.shown_int_le2 (i := i) (by omega) (by omega)
  · simp only [PyData.showable, decide_eq_true_eq]; omega
  · simp only [PyData.weight]
    split <;> omega
theorem Sm.nat {k w n : Nat} (h2 : n < 10 ^ 12) (hw : 41 ≤ w) : Sm k w (.int (n : Int)) := Sm.int (by omega) (by omega) hw
theorem Sm.str {k w : Nat} {x : Str} (h : x.cps.all (· < 0x110000) = true) (hw : x.cps.size ≤ w) : Sm k w (.str x) :=
  ⟨by simpa [PyData.canLay0, PySem.PyData.strOk] using h, by simp [PyData.intsShort], by simp [PyData.showable], by simp [PyData.depth], by simpa [PyData.weight] using hw⟩
theorem lay_nodict {d : PyData} (h : PyData.canLay0 d = true) : PyData.hasDict d = false := PyData.hasDict_of_canLay d h
theorem Sm.show {k w : Nat} {d : PyData} (h : Sm k w d) (hk : k ≤ 60) (hw : w ≤ 2 ^ 20) : PyData.hasDict d = false ∧ PyData.showable d = true ∧ PyData.depth d ≤ 60 ∧ (PyData.shown d).length ≤ sizeLine := by
  have h1 := h.dep
  have h2 := h.wt
  refine ⟨lay_nodict h.lay, h.shw, by omega, ?_⟩
  have := shown_le13 (d := d) (by simp [PyData.layable0, h.lay]; omega) h.ish
  have e : sizeLine = 16777216 := by decide
  omega
theorem fRepr_ok {k w : Nat} {d : PyData} {K : Cell → Prop} (h : Sm k w d) (q : K (.val (.str d.shown))) (hk : k ≤ 60 := by decide) (hw : w ≤ 2 ^ 20 := by decide) : fRepr d K := by
  obtain ⟨a, b, c, e⟩ := h.show hk hw
  exact ⟨a, b, c, e, q⟩
theorem Sm.okD {k w : Nat} {d : PyData} (h : Sm k w d) (hk : k ≤ 60 := by decide) : okD d = true := by
  have := h.dep
  unfold M.okD SeqAt.shaped
  simp [h.lay, lay_nodict h.lay]
  omega
mutual
theorem eqv_self : ∀ d : PyData, PyData.hasDict d = false → PyData.eqv d d = true
  | .none, _ => by simp [PyData.eqv]
  | .bool b, _ => by simp [PyData.eqv]
  | .int i, _ => by simp [PyData.eqv]
  | .str x, _ => by simp [PyData.eqv]
  | .list xs, h => by
    simp only [PyData.eqv]
    exact eqv_selfs xs (by simpa [PyData.hasDict] using h)
  | .tuple xs, h => by
    simp only [PyData.eqv]
    exact eqv_selfs xs (by simpa [PyData.hasDict] using h)
  | .dict _, h => by simp [PyData.hasDict] at h
theorem eqv_selfs : ∀ ds : List PyData, PyData.hasDictAll ds = false → PyData.eqvAll ds ds = true
  | [], _ => by simp [PyData.eqvAll]
  | d :: ds, h => by
    simp only [PyData.hasDictAll, Bool.or_eq_false_iff] at h
    simp only [PyData.eqvAll, eqv_self d h.1, eqv_selfs ds h.2, Bool.and_true]
end
theorem fEqD_same {k w : Nat} {d : PyData} {neg : Bool} {K : Cell → Prop} (h : Sm k w d) (q : K (.val (.bool (!neg)))) (hk : k ≤ 60 := by decide) : fEqD neg d d K := by
  refine ⟨h.okD hk, h.okD hk, ?_⟩
  rw [eqv_self d (lay_nodict h.lay)]
  cases neg <;> exact q
/-! ### texts in order -/
theorem ascS_uniq : ∀ {xs ys : List Str}, xs.Pairwise (fun a b => a.cps.toList < b.cps.toList) → ys.Pairwise (fun a b => a.cps.toList < b.cps.toList) → (∀ x, x ∈ xs ↔ x ∈ ys) → xs = ys
  | [], [], _, _, _ => rfl
  | [], y :: ys, _, _, h => absurd ((h y).mpr List.mem_cons_self) (by simp)
  | x :: xs, [], _, _, h => absurd ((h x).mp List.mem_cons_self) (by simp)
  | x :: xs, y :: ys, hx, hy, h => by
    rw [List.pairwise_cons] at hx hy
    have irr : ∀ a : Str, ¬ a.cps.toList < a.cps.toList := fun a => List.lt_irrefl _
    have e : x = y := by
      rcases List.mem_cons.mp ((h x).mp List.mem_cons_self) with e | m
      · exact e
      · rcases List.mem_cons.mp ((h y).mpr List.mem_cons_self) with e | m2
        · exact e.symm
        · exact absurd (List.lt_trans (hy.1 x m) (hx.1 y m2)) (irr y)
    subst e
    rw [ascS_uniq hx.2 hy.2 fun z => ?_]
    have q := h z
    constructor
    · intro m
      rcases List.mem_cons.mp (q.mp (List.mem_cons_of_mem _ m)) with e | m2
      · subst e; exact absurd (hx.1 z m) (irr z)
      · exact m2
    · intro m
      rcases List.mem_cons.mp (q.mpr (List.mem_cons_of_mem _ m)) with e | m2
      · subst e; exact absurd (hy.1 z m) (irr z)
      · exact m2
end M
end
section
namespace M
open PySem PySem.Spec PyProof.Rows L2
abbrev sLt (a b : Str) : Prop := a.cps.toList < b.cps.toList
theorem sLt_irr (a : Str) : ¬ sLt a a := List.lt_irrefl _
theorem sLt_trans {a b c : Str} (h1 : sLt a b) (h2 : sLt b c) : sLt a c := List.lt_trans h1 h2
theorem sLt_tri (a b : Str) : sLt a b ∨ a = b ∨ sLt b a := by
  by_cases h1 : sLt a b
  · exact .inl h1
  · by_cases h2 : sLt b a
    · exact .inr (.inr h2)
    · exact .inr (.inl (PySem.W.str_of_cps (List.le_antisymm (List.not_lt.mp h2) (List.not_lt.mp h1))))
theorem rising_all : ∀ {l : List Str} {p : Str}, PyProof.Rows.risingS p l = true → (∀ x ∈ l, ¬ sLt x p) ∧ l.Pairwise fun a b => ¬ sLt b a
  | [], _, _ => ⟨by simp, .nil⟩
  | x :: r, p, h => by
    simp only [PyProof.Rows.risingS, Bool.and_eq_true, Bool.not_eq_true'] at h
    obtain ⟨h1, h2⟩ := rising_all h.2
    have hx : ¬ sLt x p := fun z => by
      have := h.1
      rw [PyProof.Rows.ltCps_eq, decide_eq_false_iff_not] at this
      exact this z
    refine ⟨fun y hy => ?_, List.pairwise_cons.mpr ⟨h1, h2⟩⟩
    rcases List.mem_cons.mp hy with rfl | hy
    · exact hx
    · intro z
      rcases sLt_tri p x with q | q | q
      · exact h1 y hy (sLt_trans z q)
      · exact h1 y hy (by rw [← q]; exact z)
      · exact hx q
theorem asc_of {ys : List Str} (h : ys.Pairwise fun a b => ¬ sLt b a) (n : ys.Nodup) : ys.Pairwise sLt := by
  refine (List.Pairwise.and h n).imp fun {a b} z => ?_
  rcases sLt_tri a b with q | q | q
  · exact q
  · exact absurd q z.2
  · exact absurd q z.1
theorem asc_sorted {ys : List Str} (h : PyProof.Rows.sortedS ys = true) (n : ys.Nodup) : ys.Pairwise sLt := by
  refine asc_of ?_ n
  cases ys with
  | nil => exact .nil
  | cons x r =>
    obtain ⟨h1, h2⟩ := rising_all h
    exact List.pairwise_cons.mpr ⟨h1, h2⟩
theorem dlt_str (x y : Str) : PySem.W.dataLt (.str x) (.str y) = decide (sLt x y) := PySem.W.dataLt_str x y
theorem sortD_strs {xs ys : List Str} (pm : ∀ x, x ∈ xs ↔ x ∈ ys) (nd : xs.Nodup) (h : ys.Pairwise sLt) : sortD (xs.map .str) = ys.map .str := by
  have e : sortD (xs.map .str) = (xs.mergeSort fun p q => PySem.W.dataLe false id (.str p) (.str q)).map .str := by
    unfold sortD
    exact (List.map_mergeSort (r := fun p q => PySem.W.dataLe false id (.str p) (.str q)) (s := PySem.W.dataLe false id) (f := PyData.str) fun _ _ _ _ => rfl).symm
  have p1 := List.mergeSort_perm xs fun p q => PySem.W.dataLe false id (.str p) (.str q)
  have pw := List.pairwise_mergeSort (le := fun p q : Str => PySem.W.dataLe false id (.str p) (.str q)) (fun a b c h1 h2 => by rw [dLe] at *; exact dle_trans _ _ _ h1 h2) (fun a b => by rw [dLe, dLe]; exact dle_total _ _) xs
  rw [e]
  generalize xs.mergeSort (fun p q => PySem.W.dataLe false id (.str p) (.str q)) = zs at p1 pw ⊢
  have a : zs.Pairwise sLt := asc_of (pw.imp fun {a b} z => by
    rw [dLe, dlt_str] at z
    simpa using z) (p1.nodup_iff.mpr nd)
  rw [ascS_uniq a h fun x => (p1.mem_iff).trans (pm x)]
theorem fSorted_strs {xs ys : List Str} {k : Cell → Prop} (pm : ∀ x, x ∈ xs ↔ x ∈ ys) (nd : xs.Nodup) (h : ys.Pairwise sLt) (hl : xs.length ≤ 4096) (hk : k (.lst (ys.map .str))) : fSorted (.list (xs.map .str)) k := by
  have hd : PyData.hasDictAll (xs.map PyData.str) = false := by
    clear hl nd pm
    induction xs with
    | nil => rfl
    | cons x xs ih => simp [PyData.hasDictAll, PyData.hasDict, ih]
  refine ⟨_, rfl, hd, fun d hd d' hd' => ?_, .inr fun d hd => ?_, by simp; exact small_line hl, fun d hd => ?_, by rw [sortD_strs pm nd h]; exact hk⟩
  · obtain ⟨p, _, rfl⟩ := List.mem_map.mp hd
    obtain ⟨q, _, rfl⟩ := List.mem_map.mp hd'
    simp [PySem.W.alike]
  · obtain ⟨p, _, rfl⟩ := List.mem_map.mp hd
    exact ⟨(fun z => nomatch z), fun _ z => nomatch z⟩
  · obtain ⟨p, _, rfl⟩ := List.mem_map.mp hd
    simp [PyData.depth]
/-! ### what a sign comes to, what comes to it -/
theorem wrn_asc : WRN.Pairwise sLt := by decide +kernel
theorem sgn_asc : SGN.Pairwise sLt := by decide +kernel
noncomputable def comesL (w : Wr) (x : Str) : List Str := WRN.filter fun y => (dist w x y).isSome
noncomputable def fromL (w : Wr) (y : Str) : List Str := if y = "?" then SGN else SGN.filter fun x => (dist w x y).isSome
theorem some_ne {α : Type} {o : Option α} : o.isSome = true ↔ o ≠ none := by cases o <;> simp
theorem dist_in {w : Wr} (hm : ∀ p ∈ w, p.1 ∈ SGN ∧ p.2 ∈ WRN) {x y : Str} (hx : x ∈ WRN) (h : dist w x y ≠ none) : y ∈ WRN := by
  obtain ⟨n, hn⟩ := Option.ne_none_iff_exists'.mp h
  have d := dist_is w x y
  rw [hn] at d
  exact walk_in hm hx d.1
theorem dist_le {w : Wr} (hm : ∀ p ∈ w, p.1 ∈ SGN ∧ p.2 ∈ WRN) {x y : Str} (hx : x ∈ WRN) {n : Nat} (h : dist w x y = some n) : n ≤ 6 := by
  have d := dist_is w x y
  rw [h] at d
  exact dist_small hm hx d
theorem comesL_mem {w : Wr} (hm : ∀ p ∈ w, p.1 ∈ SGN ∧ p.2 ∈ WRN) {x : Str} (hx : x ∈ WRN) (y : Str) : y ∈ comesL w x ↔ dist w x y ≠ none := by
  unfold comesL
  rw [List.mem_filter, some_ne]
  exact ⟨fun z => z.2, fun z => ⟨dist_in hm hx z, z⟩⟩
theorem comesL_asc (w : Wr) (x : Str) : (comesL w x).Pairwise sLt := wrn_asc.filter _
theorem comesL_len (w : Wr) (x : Str) : (comesL w x).length ≤ 7 := List.length_filter_le _ _
theorem fromL_len (w : Wr) (x : Str) : (fromL w x).length ≤ 6 := by
  unfold fromL
  split
  · decide
  · exact List.length_filter_le _ _
theorem comesL_is {w : Wr} (hm : ∀ p ∈ w, p.1 ∈ SGN ∧ p.2 ∈ WRN) {x : Str} (hx : x ∈ WRN) {ys : List Str} (h1 : ys.Nodup) (h2 : ∀ y, y ∈ ys ↔ dist w x y ≠ none) (h3 : PyProof.Rows.sortedS ys = true) : ys = comesL w x :=
  ascS_uniq (asc_sorted h3 h1) (comesL_asc w x) fun y => (h2 y).trans (comesL_mem hm hx y).symm
def semComesFrom (C D : Addr) : ME := fun xk args Kd => ∃ d1 d2, args = [.val d1, .val d2] ∧
  if isWear d1 = true then if isIn SEN d2 = true then ∀ w y, d1 = wearD w → d2 = .str y → ∀ e, Kd (.val (.tuple ((fromL w y).map .str))) e
    else ∀ e, xk (.ref C) none e else ∀ e, xk (.ref D) none e
theorem comes_ok' {xk : MX} {C D : Addr} {w : Wr} {a : Str} {Kd : MK} (hw : isWear (wearD w) = true) (ha : a ∈ WRN) (k : ∀ e, Kd (.val (.tuple ((comesL w a).map .str))) e) : semComesTo C D xk [.val (wearD w), .val (.str a)] Kd := by
  refine ⟨_, _, rfl, ?_⟩
  rw [if_pos hw, if_pos (isIn_of ha)]
  rintro w' a' e1 e2
  cases wearD_inj e1
  cases e2
  obtain ⟨w', ew, hl, hm⟩ := wear_is hw
  cases wearD_inj ew
  intro ys h1 h2 h3
  rw [comesL_is hm ha h1 h2 h3]
  exact k
theorem from_seen_ok {xk : MX} {C D : Addr} {w : Wr} {a : Str} {Kd : MK} (hw : isWear (wearD w) = true) (ha : a ∈ SEN) (k : ∀ e, Kd (.val (.tuple ((fromL w a).map .str))) e) : semComesFrom C D xk [.val (wearD w), .val (.str a)] Kd := by
  refine ⟨_, _, rfl, ?_⟩
  rw [if_pos hw, if_pos (isIn_of ha)]
  rintro w' a' e1 e2
  cases wearD_inj e1
  cases e2
  exact k
noncomputable def stepsD (w : Wr) (x y : Str) : PyData := if y = "?" then .int 0 else optI (dist w x y)
theorem steps_ok' {xk : MX} {C D : Addr} {w : Wr} {a b : Str} {Kd : MK} (hw : isWear (wearD w) = true) (ha : a ∈ WRN) (hb : b ∈ SEN) (k : ∀ e, Kd (.val (stepsD w a b)) e) : semSteps C D xk [.val (wearD w), .val (.str a), .val (.str b)] Kd := by
  refine ⟨_, _, _, rfl, ?_⟩
  rw [if_pos hw, if_pos (isIn_of ha), if_pos (isIn_of hb)]
  rintro w' a' b' e1 e2 e3
  cases wearD_inj e1
  cases e2
  cases e3
  exact k
theorem stepsD_sm {w : Wr} (hm : ∀ p ∈ w, p.1 ∈ SGN ∧ p.2 ∈ WRN) {x y : Str} (hx : x ∈ WRN) : Sm 0 41 (stepsD w x y) := by
  unfold stepsD
  split
  · exact Sm.int (by decide) (by decide) (by decide)
  · cases q : dist w x y with
    | none => exact Sm.none
    | some n => exact Sm.nat (by have := dist_le hm hx q; omega) (by decide)
theorem wrn_str_sm {x : Str} (h : x ∈ WRN) : Sm 0 41 (.str x) := by
  have : ∀ x ∈ WRN, x.cps.all (· < 0x110000) = true ∧ x.cps.size ≤ 41 := by decide +kernel
  exact Sm.str (this x h).1 (this x h).2
theorem comesL_sm (w : Wr) (x : Str) : Sm 1 294 (.tuple ((comesL w x).map .str)) := Sm.tuple (n := 7) (w := 41) (fun d hd => by
  obtain ⟨y, hy, rfl⟩ := List.mem_map.mp hd
  exact wrn_str_sm (List.mem_filter.mp hy).1) (by simpa using comesL_len w x)
theorem fromL_sm (w : Wr) (x : Str) : Sm 1 252 (.tuple ((fromL w x).map .str)) := Sm.tuple (n := 6) (w := 41) (fun d hd => by
  obtain ⟨y, hy, rfl⟩ := List.mem_map.mp hd
  unfold fromL at hy
  split at hy
  · exact wrn_str_sm (sgn_wrn hy)
  · exact wrn_str_sm (sgn_wrn (List.mem_filter.mp hy).1)) (by simpa using fromL_len w x)
theorem lc_inv {t : Tgt} {me : ME} {vs : List Nat} {Kd : MK} {ds : List PyData} {env1 : DEnv} (Pe : DEnv → Prop) (g : PyData → PyData) (hz : ds.length ≤ sizeLine) (h0 : Pe (wipeE env1 vs))
    (step : ∀ d ∈ ds, ∀ (acc : List PyData) (env : DEnv), Pe env → ∀ N : List PyData → DEnv → Prop, acc.length < sizeLine → (∀ env', Pe env' → N (acc ++ [g d]) env') → t.take d env fun env' => me mF env' fun c env3 => ∃ x, c.data = some x ∧ acc.length < sizeLine ∧ N (acc ++ [x]) (wipeE env3 vs))
    (last : ∀ env, Pe env → Kd (.lst (ds.map g)) env) : lcGo t mYes me vs Kd ds env1 := by
  refine ⟨fun k acc env => acc = (ds.take k).map g ∧ Pe env, ⟨by simp, h0⟩, fun k d acc env hk hw => ?_, fun acc env hw => ?_⟩
  · obtain ⟨rfl, he⟩ := hw
    have hlt : k < ds.length := (List.getElem?_eq_some_iff.mp hk).1
    have hl : ((ds.take k).map g).length < sizeLine := by
      rw [List.length_map, List.length_take]
      omega
    have := step d (List.mem_of_getElem? hk) _ env he (fun acc env => acc = (ds.take (k + 1)).map g ∧ Pe env) hl fun env' h' => ⟨by rw [take_succ hk, List.map_append]; rfl, h'⟩
    simpa [mYes] using this
  · obtain ⟨rfl, he⟩ := hw
    rw [List.take_length]
    exact last env he
theorem str_at {L : List Str} {i : Nat} {d : PyData} (h : (L.map PyData.str)[i]? = some d) : ∃ x, L[i]? = some x ∧ d = .str x := by
  rw [List.getElem?_map] at h
  cases q : L[i]? with
  | none => rw [q] at h; cases h
  | some s => rw [q] at h; cases h; exact ⟨s, rfl, rfl⟩
theorem dot_signs : signsD ".abcdef" = WRN.map .str := by
  unfold signsD
  rw [show (".abcdef" : Str).cps.toList = [46, 97, 98, 99, 100, 101, 102] from by decide +kernel]
  rfl
theorem seen_signs : signsD ".?abcdef" = SEN.map .str := by
  unfold signsD
  rw [show (".?abcdef" : Str).cps.toList = [46, 63, 97, 98, 99, 100, 101, 102] from by decide +kernel]
  rfl
end M
end
section
namespace M
open PySem PySem.Spec PyProof.Rows L2
noncomputable def dueRow (w : Wr) (x : Str) : PyData := .list (SEN.map fun y => stepsD w x y)
noncomputable def dueD (w : Wr) : List PyData := WRN.map (dueRow w)
def semDue : ME := fun _ args Kd => ∃ w R, args = [.val (.dict (reachD R))] ∧ (∀ x ∈ WRN, ∀ y, look (R x) y = dist w x y) ∧ ∀ e, Kd (.lst (dueD w)) e
def refB (i : Int) (d2 d3 : PyData) : Bool := if i = 0 then !(isIn WRN d2 && isIn SEN d3) else if i = 1 then !isIn WRN d2 else !isIn SEN d3
def semRefused2 : ME := fun _ args Kd => ∃ i d1 d2 d3, args = [.val (.int i), .val d1, .val d2, .val d3] ∧ isWear d1 = true ∧ ∀ e, Kd (.val (.bool (refB i d2 d3))) e
theorem due_sm {w : Wr} (hm : ∀ p ∈ w, p.1 ∈ SGN ∧ p.2 ∈ WRN) : Sm 2 (7 * (8 * 42 + 1)) (.list (dueD w)) := Sm.list (fun d hd => by
  obtain ⟨x, hx, rfl⟩ := List.mem_map.mp hd
  exact Sm.list (w := 41) (n := 8) (fun d hd => by
    obtain ⟨y, hy, rfl⟩ := List.mem_map.mp hd
    exact stepsD_sm hm hx) (by simp [SEN])) (by simp [dueD, WRN])
theorem rows1 {C D : Addr} {w : Wr} {c0 c2 c3 c4 c5 c6 c7 c8 : Cell} {Kd : MK} (hw : isWear (wearD w) = true) (k : ∀ c5, Kd (.lst (dueD w)) [c0, .val (wearD w), c2, c3, .no, c5, c6, c7, c8]) :
    lcGo (Tgt.one 4) mYes (mLc (mItS (mC (.str ".?abcdef"))) (Tgt.one 5) mYes (mCallP (semSteps C D) (mCons (mVar 1) (mCons (mVar 4) (mCons (mVar 5) mNil)))) [5]) [4] Kd (WRN.map .str) [c0, .val (wearD w), c2, c3, c4, c5, c6, c7, c8] := by
  refine lc_inv (fun env => ∃ c5, env = [c0, .val (wearD w), c2, c3, .no, c5, c6, c7, c8]) (fun d => match d with | .str x => dueRow w x | _ => .none) (small_line (by decide)) ⟨c5, rfl⟩ (fun d hd acc env he N h1 h2 => ?_) fun env he => ?_
  · obtain ⟨x, hx, rfl⟩ := List.mem_map.mp hd
    obtain ⟨c5, rfl⟩ := he
    simp [bodySem, mRet, mAndV, mOrV, mNotV, mUn, mSlot, mOp2, mTmp, mC, mVar, mMv, mCallP, mCons, mNil, mTup, mLst, mIfS, mNotT, mAndT, mOrT, mTest, mTruth, mSeq, mNext, mRaise, mDrop, mSet, mAsgT, mIf, fIsi, fInS, fEqS, fInt, fIntC, fLen, opd_tmp, opd_slot, data_no, data_val, data_lst, data_dct, Cell.rest, mLc_eq, mFor_eq, mItL, mItT, mItS, mItD, mZip, mRng1, mRng2, mYes, take_one, take_many, setAll_cons, setAll_nil, semB, semN, wipe_nil, wipe_cons, mDisp1, mMv, mDPut, mAppend, fDGet, fDIn, keyOf, mSl, mPart, mNoPart, fSlL, fInt1_int, fInt1_bool, fSum_ints, fSum_take, mCall1, fMax2_ints, fMin2_ints, cut_to1, fIxL, mLPut, mCallB, CPow, mPar2, mPar3, fLtS, mCall1M, mGet1, fSortedDk, mTry, handle, cxK, mDnew, mGet2, mCallK, M.pick, seen_signs]
    refine lc_map (fun d => match d with | .str y => stepsD w x y | _ => .none) (small_line (by decide)) (fun d hd acc2 N2 h3 h4 => ?_) ?_
    · obtain ⟨y, hy, rfl⟩ := List.mem_map.mp hd
      simp [bodySem, mRet, mAndV, mOrV, mNotV, mUn, mSlot, mOp2, mTmp, mC, mVar, mMv, mCallP, mCons, mNil, mTup, mLst, mIfS, mNotT, mAndT, mOrT, mTest, mTruth, mSeq, mNext, mRaise, mDrop, mSet, mAsgT, mIf, fIsi, fInS, fEqS, fInt, fIntC, fLen, opd_tmp, opd_slot, data_no, data_val, data_lst, data_dct, Cell.rest, mLc_eq, mFor_eq, mItL, mItT, mItS, mItD, mZip, mRng1, mRng2, mYes, take_one, take_many, setAll_cons, setAll_nil, semB, semN, wipe_nil, wipe_cons, mDisp1, mMv, mDPut, mAppend, fDGet, fDIn, keyOf, mSl, mPart, mNoPart, fSlL, fInt1_int, fInt1_bool, fSum_ints, fSum_take, mCall1, fMax2_ints, fMin2_ints, cut_to1, fIxL, mLPut, mCallB, CPow, mPar2, mPar3, fLtS, mCall1M, mGet1, fSortedDk, mTry, handle, cxK, mDnew, mGet2, mCallK, M.pick]
      exact steps_ok' hw hx hy fun _ => ⟨_, rfl, h3, h4⟩
    · refine ⟨_, rfl, h1, ?_⟩
      have := h2 [c0, .val (wearD w), c2, c3, .no, .no, c6, c7, c8] ⟨_, rfl⟩
      simpa [bodySem, mRet, mAndV, mOrV, mNotV, mUn, mSlot, mOp2, mTmp, mC, mVar, mMv, mCallP, mCons, mNil, mTup, mLst, mIfS, mNotT, mAndT, mOrT, mTest, mTruth, mSeq, mNext, mRaise, mDrop, mSet, mAsgT, mIf, fIsi, fInS, fEqS, fInt, fIntC, fLen, opd_tmp, opd_slot, data_no, data_val, data_lst, data_dct, Cell.rest, mLc_eq, mFor_eq, mItL, mItT, mItS, mItD, mZip, mRng1, mRng2, mYes, take_one, take_many, setAll_cons, setAll_nil, semB, semN, wipe_nil, wipe_cons, mDisp1, mMv, mDPut, mAppend, fDGet, fDIn, keyOf, mSl, mPart, mNoPart, fSlL, fInt1_int, fInt1_bool, fSum_ints, fSum_take, mCall1, fMax2_ints, fMin2_ints, cut_to1, fIxL, mLPut, mCallB, CPow, mPar2, mPar3, fLtS, mCall1M, mGet1, fSortedDk, mTry, handle, cxK, mDnew, mGet2, mCallK, M.pick, dueRow, Function.comp_def] using this
  · obtain ⟨c5, rfl⟩ := he
    have e : (WRN.map PyData.str).map (fun d => match d with | .str x => dueRow w x | _ => .none) = dueD w := by rw [List.map_map]; rfl
    rw [e]
    exact k c5
theorem rows2 {C D : Addr} {w : Wr} {c0 c1 c2 c3 c4 c5 c7 c8 : Cell} {Kd : MK} (hw : isWear (wearD w) = true) (k : ∀ c5, Kd (.lst (dueD w)) [c0, c1, c2, c3, .no, c5, .val (wearD w), c7, c8]) :
    lcGo (Tgt.one 4) mYes (mLc (mItS (mC (.str ".?abcdef"))) (Tgt.one 5) mYes (mCallP (semSteps C D) (mCons (mVar 6) (mCons (mVar 4) (mCons (mVar 5) mNil)))) [5]) [4] Kd (WRN.map .str) [c0, c1, c2, c3, c4, c5, .val (wearD w), c7, c8] := by
  refine lc_inv (fun env => ∃ c5, env = [c0, c1, c2, c3, .no, c5, .val (wearD w), c7, c8]) (fun d => match d with | .str x => dueRow w x | _ => .none) (small_line (by decide)) ⟨c5, rfl⟩ (fun d hd acc env he N h1 h2 => ?_) fun env he => ?_
  · obtain ⟨x, hx, rfl⟩ := List.mem_map.mp hd
    obtain ⟨c5, rfl⟩ := he
    simp [bodySem, mRet, mAndV, mOrV, mNotV, mUn, mSlot, mOp2, mTmp, mC, mVar, mMv, mCallP, mCons, mNil, mTup, mLst, mIfS, mNotT, mAndT, mOrT, mTest, mTruth, mSeq, mNext, mRaise, mDrop, mSet, mAsgT, mIf, fIsi, fInS, fEqS, fInt, fIntC, fLen, opd_tmp, opd_slot, data_no, data_val, data_lst, data_dct, Cell.rest, mLc_eq, mFor_eq, mItL, mItT, mItS, mItD, mZip, mRng1, mRng2, mYes, take_one, take_many, setAll_cons, setAll_nil, semB, semN, wipe_nil, wipe_cons, mDisp1, mMv, mDPut, mAppend, fDGet, fDIn, keyOf, mSl, mPart, mNoPart, fSlL, fInt1_int, fInt1_bool, fSum_ints, fSum_take, mCall1, fMax2_ints, fMin2_ints, cut_to1, fIxL, mLPut, mCallB, CPow, mPar2, mPar3, fLtS, mCall1M, mGet1, fSortedDk, mTry, handle, cxK, mDnew, mGet2, mCallK, M.pick, seen_signs]
    refine lc_map (fun d => match d with | .str y => stepsD w x y | _ => .none) (small_line (by decide)) (fun d hd acc2 N2 h3 h4 => ?_) ?_
    · obtain ⟨y, hy, rfl⟩ := List.mem_map.mp hd
      simp [bodySem, mRet, mAndV, mOrV, mNotV, mUn, mSlot, mOp2, mTmp, mC, mVar, mMv, mCallP, mCons, mNil, mTup, mLst, mIfS, mNotT, mAndT, mOrT, mTest, mTruth, mSeq, mNext, mRaise, mDrop, mSet, mAsgT, mIf, fIsi, fInS, fEqS, fInt, fIntC, fLen, opd_tmp, opd_slot, data_no, data_val, data_lst, data_dct, Cell.rest, mLc_eq, mFor_eq, mItL, mItT, mItS, mItD, mZip, mRng1, mRng2, mYes, take_one, take_many, setAll_cons, setAll_nil, semB, semN, wipe_nil, wipe_cons, mDisp1, mMv, mDPut, mAppend, fDGet, fDIn, keyOf, mSl, mPart, mNoPart, fSlL, fInt1_int, fInt1_bool, fSum_ints, fSum_take, mCall1, fMax2_ints, fMin2_ints, cut_to1, fIxL, mLPut, mCallB, CPow, mPar2, mPar3, fLtS, mCall1M, mGet1, fSortedDk, mTry, handle, cxK, mDnew, mGet2, mCallK, M.pick]
      exact steps_ok' hw hx hy fun _ => ⟨_, rfl, h3, h4⟩
    · refine ⟨_, rfl, h1, ?_⟩
      have := h2 [c0, c1, c2, c3, .no, .no, .val (wearD w), c7, c8] ⟨_, rfl⟩
      simpa [bodySem, mRet, mAndV, mOrV, mNotV, mUn, mSlot, mOp2, mTmp, mC, mVar, mMv, mCallP, mCons, mNil, mTup, mLst, mIfS, mNotT, mAndT, mOrT, mTest, mTruth, mSeq, mNext, mRaise, mDrop, mSet, mAsgT, mIf, fIsi, fInS, fEqS, fInt, fIntC, fLen, opd_tmp, opd_slot, data_no, data_val, data_lst, data_dct, Cell.rest, mLc_eq, mFor_eq, mItL, mItT, mItS, mItD, mZip, mRng1, mRng2, mYes, take_one, take_many, setAll_cons, setAll_nil, semB, semN, wipe_nil, wipe_cons, mDisp1, mMv, mDPut, mAppend, fDGet, fDIn, keyOf, mSl, mPart, mNoPart, fSlL, fInt1_int, fInt1_bool, fSum_ints, fSum_take, mCall1, fMax2_ints, fMin2_ints, cut_to1, fIxL, mLPut, mCallB, CPow, mPar2, mPar3, fLtS, mCall1M, mGet1, fSortedDk, mTry, handle, cxK, mDnew, mGet2, mCallK, M.pick, dueRow, Function.comp_def] using this
  · obtain ⟨c5, rfl⟩ := he
    have e : (WRN.map PyData.str).map (fun d => match d with | .str x => dueRow w x | _ => .none) = dueD w := by rw [List.map_map]; rfl
    rw [e]
    exact k c5
theorem rows3 {C D : Addr} {w : Wr} {c0 c2 c3 c4 c5 c6 c7 c8 : Cell} {Kd : MK} (hw : isWear (wearD w) = true) (k : ∀ c5, Kd (.lst (dueD w)) [c0, .val (wearD w), c2, c3, .no, c5, c6, c7, c8]) :
    lcGo (Tgt.one 4) mYes (mLc (mItS (mC (.str ".?abcdef"))) (Tgt.one 5) mYes (mCallK [2, 1, 0] (semSteps C D) (mCons (mVar 5) (mCons (mVar 4) (mCons (mVar 1) mNil)))) [5]) [4] Kd (WRN.map .str) [c0, .val (wearD w), c2, c3, c4, c5, c6, c7, c8] := by
  refine lc_inv (fun env => ∃ c5, env = [c0, .val (wearD w), c2, c3, .no, c5, c6, c7, c8]) (fun d => match d with | .str x => dueRow w x | _ => .none) (small_line (by decide)) ⟨c5, rfl⟩ (fun d hd acc env he N h1 h2 => ?_) fun env he => ?_
  · obtain ⟨x, hx, rfl⟩ := List.mem_map.mp hd
    obtain ⟨c5, rfl⟩ := he
    simp [bodySem, mRet, mAndV, mOrV, mNotV, mUn, mSlot, mOp2, mTmp, mC, mVar, mMv, mCallP, mCons, mNil, mTup, mLst, mIfS, mNotT, mAndT, mOrT, mTest, mTruth, mSeq, mNext, mRaise, mDrop, mSet, mAsgT, mIf, fIsi, fInS, fEqS, fInt, fIntC, fLen, opd_tmp, opd_slot, data_no, data_val, data_lst, data_dct, Cell.rest, mLc_eq, mFor_eq, mItL, mItT, mItS, mItD, mZip, mRng1, mRng2, mYes, take_one, take_many, setAll_cons, setAll_nil, semB, semN, wipe_nil, wipe_cons, mDisp1, mMv, mDPut, mAppend, fDGet, fDIn, keyOf, mSl, mPart, mNoPart, fSlL, fInt1_int, fInt1_bool, fSum_ints, fSum_take, mCall1, fMax2_ints, fMin2_ints, cut_to1, fIxL, mLPut, mCallB, CPow, mPar2, mPar3, fLtS, mCall1M, mGet1, fSortedDk, mTry, handle, cxK, mDnew, mGet2, mCallK, M.pick, seen_signs]
    refine lc_map (fun d => match d with | .str y => stepsD w x y | _ => .none) (small_line (by decide)) (fun d hd acc2 N2 h3 h4 => ?_) ?_
    · obtain ⟨y, hy, rfl⟩ := List.mem_map.mp hd
      simp [bodySem, mRet, mAndV, mOrV, mNotV, mUn, mSlot, mOp2, mTmp, mC, mVar, mMv, mCallP, mCons, mNil, mTup, mLst, mIfS, mNotT, mAndT, mOrT, mTest, mTruth, mSeq, mNext, mRaise, mDrop, mSet, mAsgT, mIf, fIsi, fInS, fEqS, fInt, fIntC, fLen, opd_tmp, opd_slot, data_no, data_val, data_lst, data_dct, Cell.rest, mLc_eq, mFor_eq, mItL, mItT, mItS, mItD, mZip, mRng1, mRng2, mYes, take_one, take_many, setAll_cons, setAll_nil, semB, semN, wipe_nil, wipe_cons, mDisp1, mMv, mDPut, mAppend, fDGet, fDIn, keyOf, mSl, mPart, mNoPart, fSlL, fInt1_int, fInt1_bool, fSum_ints, fSum_take, mCall1, fMax2_ints, fMin2_ints, cut_to1, fIxL, mLPut, mCallB, CPow, mPar2, mPar3, fLtS, mCall1M, mGet1, fSortedDk, mTry, handle, cxK, mDnew, mGet2, mCallK, M.pick]
      exact steps_ok' hw hx hy fun _ => ⟨_, rfl, h3, h4⟩
    · refine ⟨_, rfl, h1, ?_⟩
      have := h2 [c0, .val (wearD w), c2, c3, .no, .no, c6, c7, c8] ⟨_, rfl⟩
      simpa [bodySem, mRet, mAndV, mOrV, mNotV, mUn, mSlot, mOp2, mTmp, mC, mVar, mMv, mCallP, mCons, mNil, mTup, mLst, mIfS, mNotT, mAndT, mOrT, mTest, mTruth, mSeq, mNext, mRaise, mDrop, mSet, mAsgT, mIf, fIsi, fInS, fEqS, fInt, fIntC, fLen, opd_tmp, opd_slot, data_no, data_val, data_lst, data_dct, Cell.rest, mLc_eq, mFor_eq, mItL, mItT, mItS, mItD, mZip, mRng1, mRng2, mYes, take_one, take_many, setAll_cons, setAll_nil, semB, semN, wipe_nil, wipe_cons, mDisp1, mMv, mDPut, mAppend, fDGet, fDIn, keyOf, mSl, mPart, mNoPart, fSlL, fInt1_int, fInt1_bool, fSum_ints, fSum_take, mCall1, fMax2_ints, fMin2_ints, cut_to1, fIxL, mLPut, mCallB, CPow, mPar2, mPar3, fLtS, mCall1M, mGet1, fSortedDk, mTry, handle, cxK, mDnew, mGet2, mCallK, M.pick, dueRow, Function.comp_def] using this
  · obtain ⟨c5, rfl⟩ := he
    have e : (WRN.map PyData.str).map (fun d => match d with | .str x => dueRow w x | _ => .none) = dueD w := by rw [List.map_map]; rfl
    rw [e]
    exact k c5
theorem refused2_ok {xk : MX} {w : Wr} {i : Int} {d2 d3 : PyData} {Kd : MK} (hw : isWear (wearD w) = true) (h : refB i d2 d3 = true) (k : ∀ e, Kd (.val (.bool true)) e) : semRefused2 xk [.val (.int i), .val (wearD w), .val d2, .val d3] Kd := by
  refine ⟨_, _, _, _, rfl, hw, fun e => ?_⟩
  rw [h]
  exact k e
end M
end
namespace K02
open PySem PySem.Spec PyProof.Rows L2 M
abbrev topS (i : Nat) : Stmt := PySem.Challenge.pw_wornstones_k02_steps_and_what_signs_come.main.body.getD i (.Pass ⟨0, 0, 0, 0⟩)
abbrev s_is_sign : Stmt := topS 8
theorem sc_is_sign : FnScope ["thing"] ["thing"] (defScope s_is_sign) := ⟨rfl, rfl, rfl, by decide +kernel, rfl, by decide +kernel, by decide +kernel⟩
abbrev s_is_worn : Stmt := topS 9
theorem sc_is_worn : FnScope ["thing"] ["thing"] (defScope s_is_worn) := ⟨rfl, rfl, rfl, by decide +kernel, rfl, by decide +kernel, by decide +kernel⟩
abbrev s_is_seen : Stmt := topS 10
theorem sc_is_seen : FnScope ["thing"] ["thing"] (defScope s_is_seen) := ⟨rfl, rfl, rfl, by decide +kernel, rfl, by decide +kernel, by decide +kernel⟩
abbrev s_need_worn : Stmt := topS 11
theorem sc_need_worn : FnScope ["thing"] ["thing"] (defScope s_need_worn) := ⟨rfl, rfl, rfl, by decide +kernel, rfl, by decide +kernel, by decide +kernel⟩
abbrev s_need_seen : Stmt := topS 12
theorem sc_need_seen : FnScope ["thing"] ["thing"] (defScope s_need_seen) := ⟨rfl, rfl, rfl, by decide +kernel, rfl, by decide +kernel, by decide +kernel⟩
abbrev s_is_wear : Stmt := topS 15
theorem sc_is_wear : FnScope ["thing", "pair", "one", "other"] ["thing"] (defScope s_is_wear) := ⟨rfl, rfl, rfl, by decide +kernel, rfl, by decide +kernel, by decide +kernel⟩
abbrev s_is_pair : Stmt := topS 16
theorem sc_is_pair : FnScope ["thing", "one", "other"] ["thing"] (defScope s_is_pair) := ⟨rfl, rfl, rfl, by decide +kernel, rfl, by decide +kernel, by decide +kernel⟩
abbrev s_need_wear : Stmt := topS 17
theorem sc_need_wear : FnScope ["thing"] ["thing"] (defScope s_need_wear) := ⟨rfl, rfl, rfl, by decide +kernel, rfl, by decide +kernel, by decide +kernel⟩
abbrev s_steps_from : Stmt := topS 18
theorem sc_steps_from : FnScope ["wear", "one", "found", "wave", "behind", "sign", "first", "worn"] ["wear", "one"] (defScope s_steps_from) := ⟨rfl, rfl, rfl, by decide +kernel, rfl, by decide +kernel, by decide +kernel⟩
abbrev s_steps : Stmt := topS 19
theorem sc_steps : FnScope ["wear", "one", "other"] ["wear", "one", "other"] (defScope s_steps) := ⟨rfl, rfl, rfl, by decide +kernel, rfl, by decide +kernel, by decide +kernel⟩
abbrev s_comes_to : Stmt := topS 20
theorem sc_comes_to : FnScope ["wear", "sign"] ["wear", "sign"] (defScope s_comes_to) := ⟨rfl, rfl, rfl, by decide +kernel, rfl, by decide +kernel, by decide +kernel⟩
abbrev s_comes_from : Stmt := topS 21
theorem sc_comes_from : FnScope ["wear", "seen", "sign"] ["wear", "seen"] (defScope s_comes_from) := ⟨rfl, rfl, rfl, by decide +kernel, rfl, by decide +kernel, by decide +kernel⟩
abbrev s__law_bag : Stmt := topS 23
theorem sc__law_bag : FnScope ["_law_script", "_law_k", "_law_cell"] ["_law_script", "_law_k"] (defScope s__law_bag) := ⟨rfl, rfl, rfl, by decide +kernel, rfl, by decide +kernel, by decide +kernel⟩
abbrev s__law_take : Stmt := topS 24
theorem sc__law_take : FnScope ["_law_bag_here", "_law_many", "_law_mark", "_law_found"] ["_law_bag_here", "_law_many"] (defScope s__law_take) := ⟨rfl, rfl, rfl, by decide +kernel, rfl, by decide +kernel, by decide +kernel⟩
abbrev s__law_pick : Stmt := topS 25
theorem sc__law_pick : FnScope ["_law_bag_here", "_law_things"] ["_law_bag_here", "_law_things"] (defScope s__law_pick) := ⟨rfl, rfl, rfl, by decide +kernel, rfl, by decide +kernel, by decide +kernel⟩
abbrev s__law_wear : Stmt := topS 26
theorem sc__law_wear : FnScope ["_law_bag_here", "_law_signs", "_law_turn", "_law_way", "_law_found", "_law_dots", "_law_pool", "_law_one", "_law_other", "_law_sign"] ["_law_bag_here"] (defScope s__law_wear) := ⟨rfl, rfl, rfl, by decide +kernel, rfl, by decide +kernel, by decide +kernel⟩
abbrev s__law_reach : Stmt := topS 27
theorem sc__law_reach : FnScope ["_law_wear_here", "_law_found", "_law_sign", "_law_told", "_law_turn", "_law_one", "_law_other"] ["_law_wear_here"] (defScope s__law_reach) := ⟨rfl, rfl, rfl, by decide +kernel, rfl, by decide +kernel, by decide +kernel⟩
abbrev s__law_due : Stmt := topS 28
theorem sc__law_due : FnScope ["_law_reach_here", "_law_found", "_law_one", "_law_seen"] ["_law_reach_here"] (defScope s__law_due) := ⟨rfl, rfl, rfl, by decide +kernel, rfl, by decide +kernel, by decide +kernel⟩
abbrev s__law_refused : Stmt := topS 29
theorem sc__law_refused : FnScope ["_law_way", "_law_wear_here", "_law_one", "_law_other", "_law_found"] ["_law_way", "_law_wear_here", "_law_one", "_law_other"] (defScope s__law_refused) := ⟨rfl, rfl, rfl, by decide +kernel, rfl, by decide +kernel, by decide +kernel⟩
abbrev s__law_right : Stmt := topS 30
theorem sc__law_right : FnScope ["_law_bag_here", "_law_wear_here", "_law_reach_here", "_law_due_here", "_law_one", "_law_seen", "_law_more", "_law_bad", "_law_told"] ["_law_bag_here"] (defScope s__law_right) := ⟨rfl, rfl, rfl, by decide +kernel, rfl, by decide +kernel, by decide +kernel⟩
abbrev s_law : Stmt := topS 31
theorem sc_law : FnScope ["_law_script", "_law_k"] ["_law_script"] (defScope s_law) := ⟨rfl, rfl, rfl, by decide +kernel, rfl, by decide +kernel, by decide +kernel⟩
structure Ad where
  a_is_sign : Addr
  fd_is_sign : FuncData
  a_is_worn : Addr
  fd_is_worn : FuncData
  a_is_seen : Addr
  fd_is_seen : FuncData
  a_need_worn : Addr
  fd_need_worn : FuncData
  a_need_seen : Addr
  fd_need_seen : FuncData
  a_is_wear : Addr
  fd_is_wear : FuncData
  a_is_pair : Addr
  fd_is_pair : FuncData
  a_need_wear : Addr
  fd_need_wear : FuncData
  a_steps_from : Addr
  fd_steps_from : FuncData
  a_steps : Addr
  fd_steps : FuncData
  a_comes_to : Addr
  fd_comes_to : FuncData
  a_comes_from : Addr
  fd_comes_from : FuncData
  a__law_bag : Addr
  fd__law_bag : FuncData
  a__law_take : Addr
  fd__law_take : FuncData
  a__law_pick : Addr
  fd__law_pick : FuncData
  a__law_wear : Addr
  fd__law_wear : FuncData
  a__law_reach : Addr
  fd__law_reach : FuncData
  a__law_due : Addr
  fd__law_due : FuncData
  a__law_refused : Addr
  fd__law_refused : FuncData
  a__law_right : Addr
  fd__law_right : FuncData
  a_law : Addr
  fd_law : FuncData
  c_SIGNS : Addr
  c_WORN_SIGNS : Addr
  c_SEEN_SIGNS : Addr
  c_MOST_PAIRS : Tok
  e_BadSign : Addr
  e_BadWear : Addr
  e_StoneError : Addr
structure Txt (K : PySem.W.Frag) (mg : Str → Option Value) (A : Ad) : Prop where
  f_is_sign : Fun K "is_sign" "is_sign" s_is_sign A.a_is_sign A.fd_is_sign
  g_is_sign : mg "is_sign" = some (.ref A.a_is_sign)
  k_is_sign : PySem.W.keepIn K (.ref A.a_is_sign) = true
  b_is_sign : Binds K A.fd_is_sign ["thing"] []
  f_is_worn : Fun K "is_worn" "is_worn" s_is_worn A.a_is_worn A.fd_is_worn
  g_is_worn : mg "is_worn" = some (.ref A.a_is_worn)
  k_is_worn : PySem.W.keepIn K (.ref A.a_is_worn) = true
  b_is_worn : Binds K A.fd_is_worn ["thing"] []
  f_is_seen : Fun K "is_seen" "is_seen" s_is_seen A.a_is_seen A.fd_is_seen
  g_is_seen : mg "is_seen" = some (.ref A.a_is_seen)
  k_is_seen : PySem.W.keepIn K (.ref A.a_is_seen) = true
  b_is_seen : Binds K A.fd_is_seen ["thing"] []
  f_need_worn : Fun K "need_worn" "need_worn" s_need_worn A.a_need_worn A.fd_need_worn
  g_need_worn : mg "need_worn" = some (.ref A.a_need_worn)
  k_need_worn : PySem.W.keepIn K (.ref A.a_need_worn) = true
  b_need_worn : Binds K A.fd_need_worn ["thing"] []
  f_need_seen : Fun K "need_seen" "need_seen" s_need_seen A.a_need_seen A.fd_need_seen
  g_need_seen : mg "need_seen" = some (.ref A.a_need_seen)
  k_need_seen : PySem.W.keepIn K (.ref A.a_need_seen) = true
  b_need_seen : Binds K A.fd_need_seen ["thing"] []
  f_is_wear : Fun K "is_wear" "is_wear" s_is_wear A.a_is_wear A.fd_is_wear
  g_is_wear : mg "is_wear" = some (.ref A.a_is_wear)
  k_is_wear : PySem.W.keepIn K (.ref A.a_is_wear) = true
  b_is_wear : Binds K A.fd_is_wear ["thing"] []
  f_is_pair : Fun K "is_pair" "is_pair" s_is_pair A.a_is_pair A.fd_is_pair
  g_is_pair : mg "is_pair" = some (.ref A.a_is_pair)
  k_is_pair : PySem.W.keepIn K (.ref A.a_is_pair) = true
  b_is_pair : Binds K A.fd_is_pair ["thing"] []
  f_need_wear : Fun K "need_wear" "need_wear" s_need_wear A.a_need_wear A.fd_need_wear
  g_need_wear : mg "need_wear" = some (.ref A.a_need_wear)
  k_need_wear : PySem.W.keepIn K (.ref A.a_need_wear) = true
  b_need_wear : Binds K A.fd_need_wear ["thing"] []
  f_steps_from : Fun K "steps_from" "steps_from" s_steps_from A.a_steps_from A.fd_steps_from
  g_steps_from : mg "steps_from" = some (.ref A.a_steps_from)
  k_steps_from : PySem.W.keepIn K (.ref A.a_steps_from) = true
  b_steps_from : Binds K A.fd_steps_from ["wear", "one"] []
  f_steps : Fun K "steps" "steps" s_steps A.a_steps A.fd_steps
  g_steps : mg "steps" = some (.ref A.a_steps)
  k_steps : PySem.W.keepIn K (.ref A.a_steps) = true
  b_steps : Binds K A.fd_steps ["wear", "one", "other"] []
  f_comes_to : Fun K "comes_to" "comes_to" s_comes_to A.a_comes_to A.fd_comes_to
  g_comes_to : mg "comes_to" = some (.ref A.a_comes_to)
  k_comes_to : PySem.W.keepIn K (.ref A.a_comes_to) = true
  b_comes_to : Binds K A.fd_comes_to ["wear", "sign"] []
  f_comes_from : Fun K "comes_from" "comes_from" s_comes_from A.a_comes_from A.fd_comes_from
  g_comes_from : mg "comes_from" = some (.ref A.a_comes_from)
  k_comes_from : PySem.W.keepIn K (.ref A.a_comes_from) = true
  b_comes_from : Binds K A.fd_comes_from ["wear", "seen"] []
  f__law_bag : Fun K "_law_bag" "_law_bag" s__law_bag A.a__law_bag A.fd__law_bag
  g__law_bag : mg "_law_bag" = some (.ref A.a__law_bag)
  k__law_bag : PySem.W.keepIn K (.ref A.a__law_bag) = true
  b__law_bag : Binds K A.fd__law_bag ["_law_script", "_law_k"] []
  f__law_take : Fun K "_law_take" "_law_take" s__law_take A.a__law_take A.fd__law_take
  g__law_take : mg "_law_take" = some (.ref A.a__law_take)
  k__law_take : PySem.W.keepIn K (.ref A.a__law_take) = true
  b__law_take : Binds K A.fd__law_take ["_law_bag_here", "_law_many"] []
  f__law_pick : Fun K "_law_pick" "_law_pick" s__law_pick A.a__law_pick A.fd__law_pick
  g__law_pick : mg "_law_pick" = some (.ref A.a__law_pick)
  k__law_pick : PySem.W.keepIn K (.ref A.a__law_pick) = true
  b__law_pick : Binds K A.fd__law_pick ["_law_bag_here", "_law_things"] []
  f__law_wear : Fun K "_law_wear" "_law_wear" s__law_wear A.a__law_wear A.fd__law_wear
  g__law_wear : mg "_law_wear" = some (.ref A.a__law_wear)
  k__law_wear : PySem.W.keepIn K (.ref A.a__law_wear) = true
  b__law_wear : Binds K A.fd__law_wear ["_law_bag_here"] []
  f__law_reach : Fun K "_law_reach" "_law_reach" s__law_reach A.a__law_reach A.fd__law_reach
  g__law_reach : mg "_law_reach" = some (.ref A.a__law_reach)
  k__law_reach : PySem.W.keepIn K (.ref A.a__law_reach) = true
  b__law_reach : Binds K A.fd__law_reach ["_law_wear_here"] []
  f__law_due : Fun K "_law_due" "_law_due" s__law_due A.a__law_due A.fd__law_due
  g__law_due : mg "_law_due" = some (.ref A.a__law_due)
  k__law_due : PySem.W.keepIn K (.ref A.a__law_due) = true
  b__law_due : Binds K A.fd__law_due ["_law_reach_here"] []
  f__law_refused : Fun K "_law_refused" "_law_refused" s__law_refused A.a__law_refused A.fd__law_refused
  g__law_refused : mg "_law_refused" = some (.ref A.a__law_refused)
  k__law_refused : PySem.W.keepIn K (.ref A.a__law_refused) = true
  b__law_refused : Binds K A.fd__law_refused ["_law_way", "_law_wear_here", "_law_one", "_law_other"] []
  f__law_right : Fun K "_law_right" "_law_right" s__law_right A.a__law_right A.fd__law_right
  g__law_right : mg "_law_right" = some (.ref A.a__law_right)
  k__law_right : PySem.W.keepIn K (.ref A.a__law_right) = true
  b__law_right : Binds K A.fd__law_right ["_law_bag_here"] []
  f_law : Fun K "law" "law" s_law A.a_law A.fd_law
  g_law : mg "law" = some (.ref A.a_law)
  k_law : PySem.W.keepIn K (.ref A.a_law) = true
  b_law : Binds K A.fd_law ["_law_script"] []
  kb_comes_to_10 : KB A.fd_comes_to ["wear", "sign"] ["sign", "wear"] [1, 0]
  kb_comes_from_10 : KB A.fd_comes_from ["wear", "seen"] ["seen", "wear"] [1, 0]
  kb_steps_210 : KB A.fd_steps ["wear", "one", "other"] ["other", "one", "wear"] [2, 1, 0]
  g_SIGNS : mg "SIGNS" = some (.ref A.c_SIGNS)
  r_SIGNS : RelV (V.ref A.c_SIGNS) (Value.ref A.c_SIGNS)
  d_SIGNS : ∀ G, Dd K G (.ref A.c_SIGNS) (.tuple [.str "a", .str "b", .str "c", .str "d", .str "e", .str "f"])
  g_WORN_SIGNS : mg "WORN_SIGNS" = some (.ref A.c_WORN_SIGNS)
  r_WORN_SIGNS : RelV (V.ref A.c_WORN_SIGNS) (Value.ref A.c_WORN_SIGNS)
  d_WORN_SIGNS : ∀ G, Dd K G (.ref A.c_WORN_SIGNS) (.tuple [.str ".", .str "a", .str "b", .str "c", .str "d", .str "e", .str "f"])
  g_SEEN_SIGNS : mg "SEEN_SIGNS" = some (.ref A.c_SEEN_SIGNS)
  r_SEEN_SIGNS : RelV (V.ref A.c_SEEN_SIGNS) (Value.ref A.c_SEEN_SIGNS)
  d_SEEN_SIGNS : ∀ G, Dd K G (.ref A.c_SEEN_SIGNS) (.tuple [.str ".", .str "?", .str "a", .str "b", .str "c", .str "d", .str "e", .str "f"])
  g_MOST_PAIRS : mg "MOST_PAIRS" = some (.int 20 A.c_MOST_PAIRS)
  r_MOST_PAIRS : RelV (V.int 20) (Value.int 20 A.c_MOST_PAIRS)
  d_MOST_PAIRS : ∀ G, Dd K G (.int 20) (.int 20)
  g_BadSign : mg "BadSign" = some (.ref A.e_BadSign)
  g_BadWear : mg "BadWear" = some (.ref A.e_BadWear)
  g_StoneError : mg "StoneError" = some (.ref A.e_StoneError)
  x_BadSign : PySem.W.excIn K A.e_BadSign [.type "ValueError", .type "Exception", .type "BaseException", .type "object"] "ValueError.__new__" = true
  k_BadSign : PySem.W.keepIn K (.ref A.e_BadSign) = true
  u_BadSign : PySem.W.subIn K (.ref A.e_BadSign) (.type "BaseException") = some true
  t_BadSign : PySem.W.typeIn K (.ref A.e_BadSign) = some (.type "type")
  x_BadWear : PySem.W.excIn K A.e_BadWear [.type "ValueError", .type "Exception", .type "BaseException", .type "object"] "ValueError.__new__" = true
  k_BadWear : PySem.W.keepIn K (.ref A.e_BadWear) = true
  u_BadWear : PySem.W.subIn K (.ref A.e_BadWear) (.type "BaseException") = some true
  t_BadWear : PySem.W.typeIn K (.ref A.e_BadWear) = some (.type "type")
  m_BadSign_BadSign : PySem.W.exmOne K (.ref A.e_BadSign) (.ref A.e_BadSign) = some true
  m_BadSign_StoneError : PySem.W.exmOne K (.ref A.e_BadSign) (.ref A.e_StoneError) = some true
  m_BadWear_BadSign : PySem.W.exmOne K (.ref A.e_BadWear) (.ref A.e_BadSign) = some false
  m_BadWear_StoneError : PySem.W.exmOne K (.ref A.e_BadWear) (.ref A.e_StoneError) = some true
  n_all : mg "all" = none
  n_int : mg "int" = none
  n_isinstance : mg "isinstance" = none
  n_len : mg "len" = none
  n_list : mg "list" = none
  n_max : mg "max" = none
  n_min : mg "min" = none
  n_range : mg "range" = none
  n_repr : mg "repr" = none
  n_sorted : mg "sorted" = none
  n_str : mg "str" = none
  n_sum : mg "sum" = none
  n_tuple : mg "tuple" = none
  n_zip : mg "zip" = none
section
set_option maxHeartbeats 4000000
variable {P : Program} {w : World} {K : PySem.W.Frag} {mg : Str → Option Value} {base : Heap} {A : Ad}
theorem F_is_sign (T : Txt K mg A) : FnOk P w K mg base (L2.CX P w) 1 A.a_is_sign A.fd_is_sign ["thing"] (spM K [] 1 (semB (isIn SGN))) := by
  refine fnB T.f_is_sign sc_is_sign [] (semB (isIn SGN)) fun cdv B oth s H E hr => ?_
  have hu1 := hu_of hr
  have hu64 := hr.units
  have hu65 := hu65_of hr
  refine ⟨_, (sss_one (ss_ret (se_and (se_isi (by rfl) T.n_isinstance (by rfl) T.n_str rfl (so_var 0) kit_str) (se_one (se_cmp op_in_seq (os_inS false) (so_var 0) (so_of (se_glob (by rfl) T.g_SIGNS T.r_SIGNS T.d_SIGNS))))))), ?_⟩
  intro xk args Kd _ h
  obtain ⟨d, rfl, k⟩ := h
  cases d <;> simp [bodySem, mRet, mAndV, mOrV, mNotV, mUn, mSlot, mOp2, mTmp, mC, mVar, mMv, mCallP, mCons, mNil, mTup, mLst, mIfS, mNotT, mAndT, mOrT, mTest, mTruth, mSeq, mNext, mRaise, mDrop, mSet, mAsgT, mIf, fIsi, fInS, fEqS, fInt, fIntC, fLen, opd_tmp, opd_slot, data_no, data_val, data_lst, data_dct, Cell.rest, mLc_eq, mFor_eq, mItL, mItT, mItS, mItD, mZip, mRng1, mRng2, mYes, take_one, take_many, setAll_cons, setAll_nil, semB, semN, wipe_nil, wipe_cons, mDisp1, mMv, mDPut, mAppend, fDGet, fDIn, M.keyOf, mSl, mPart, mNoPart, fSlL, fInt1_int, fInt1_bool, fSum_ints, fSum_take, mCall1, fMax2_ints, fMin2_ints, cut_to1, fIxL, mLPut, mCallB, CPow, mPar2, mPar3, fLtS, mCall1M, mGet1, fSortedDk, mTry, handle, cxK, mDnew, mGet2, mCallK, M.pick, isTy, isT2, tyD, flatD, eqF] <;> simpa [isIn, SGN] using k _
theorem F_is_worn (T : Txt K mg A) : FnOk P w K mg base (L2.CX P w) 1 A.a_is_worn A.fd_is_worn ["thing"] (spM K [] 1 (semB (isIn WRN))) := by
  refine fnB T.f_is_worn sc_is_worn [] (semB (isIn WRN)) fun cdv B oth s H E hr => ?_
  have hu1 := hu_of hr
  have hu64 := hr.units
  have hu65 := hu65_of hr
  refine ⟨_, (sss_one (ss_ret (se_and (se_isi (by rfl) T.n_isinstance (by rfl) T.n_str rfl (so_var 0) kit_str) (se_one (se_cmp op_in_seq (os_inS false) (so_var 0) (so_of (se_glob (by rfl) T.g_WORN_SIGNS T.r_WORN_SIGNS T.d_WORN_SIGNS))))))), ?_⟩
  intro xk args Kd _ h
  obtain ⟨d, rfl, k⟩ := h
  cases d <;> simp [bodySem, mRet, mAndV, mOrV, mNotV, mUn, mSlot, mOp2, mTmp, mC, mVar, mMv, mCallP, mCons, mNil, mTup, mLst, mIfS, mNotT, mAndT, mOrT, mTest, mTruth, mSeq, mNext, mRaise, mDrop, mSet, mAsgT, mIf, fIsi, fInS, fEqS, fInt, fIntC, fLen, opd_tmp, opd_slot, data_no, data_val, data_lst, data_dct, Cell.rest, mLc_eq, mFor_eq, mItL, mItT, mItS, mItD, mZip, mRng1, mRng2, mYes, take_one, take_many, setAll_cons, setAll_nil, semB, semN, wipe_nil, wipe_cons, mDisp1, mMv, mDPut, mAppend, fDGet, fDIn, M.keyOf, mSl, mPart, mNoPart, fSlL, fInt1_int, fInt1_bool, fSum_ints, fSum_take, mCall1, fMax2_ints, fMin2_ints, cut_to1, fIxL, mLPut, mCallB, CPow, mPar2, mPar3, fLtS, mCall1M, mGet1, fSortedDk, mTry, handle, cxK, mDnew, mGet2, mCallK, M.pick, isTy, isT2, tyD, flatD, eqF] <;> simpa [isIn, WRN] using k _
theorem F_is_seen (T : Txt K mg A) : FnOk P w K mg base (L2.CX P w) 1 A.a_is_seen A.fd_is_seen ["thing"] (spM K [] 1 (semB (isIn SEN))) := by
  refine fnB T.f_is_seen sc_is_seen [] (semB (isIn SEN)) fun cdv B oth s H E hr => ?_
  have hu1 := hu_of hr
  have hu64 := hr.units
  have hu65 := hu65_of hr
  refine ⟨_, (sss_one (ss_ret (se_and (se_isi (by rfl) T.n_isinstance (by rfl) T.n_str rfl (so_var 0) kit_str) (se_one (se_cmp op_in_seq (os_inS false) (so_var 0) (so_of (se_glob (by rfl) T.g_SEEN_SIGNS T.r_SEEN_SIGNS T.d_SEEN_SIGNS))))))), ?_⟩
  intro xk args Kd _ h
  obtain ⟨d, rfl, k⟩ := h
  cases d <;> simp [bodySem, mRet, mAndV, mOrV, mNotV, mUn, mSlot, mOp2, mTmp, mC, mVar, mMv, mCallP, mCons, mNil, mTup, mLst, mIfS, mNotT, mAndT, mOrT, mTest, mTruth, mSeq, mNext, mRaise, mDrop, mSet, mAsgT, mIf, fIsi, fInS, fEqS, fInt, fIntC, fLen, opd_tmp, opd_slot, data_no, data_val, data_lst, data_dct, Cell.rest, mLc_eq, mFor_eq, mItL, mItT, mItS, mItD, mZip, mRng1, mRng2, mYes, take_one, take_many, setAll_cons, setAll_nil, semB, semN, wipe_nil, wipe_cons, mDisp1, mMv, mDPut, mAppend, fDGet, fDIn, M.keyOf, mSl, mPart, mNoPart, fSlL, fInt1_int, fInt1_bool, fSum_ints, fSum_take, mCall1, fMax2_ints, fMin2_ints, cut_to1, fIxL, mLPut, mCallB, CPow, mPar2, mPar3, fLtS, mCall1M, mGet1, fSortedDk, mTry, handle, cxK, mDnew, mGet2, mCallK, M.pick, isTy, isT2, tyD, flatD, eqF] <;> simpa [isIn, SEN] using k _
theorem F_steps_from (T : Txt K mg A) : FnOk P w K mg base (L2.CX P w) 1 A.a_steps_from A.fd_steps_from ["wear", "one"] (spM K [] 2 semFrom) := by
  refine fnB T.f_steps_from sc_steps_from [] semFrom fun cdv B oth s H E hr => ?_
  have hu1 := hu_of hr
  have hu64 := hr.units
  have hu65 := hu65_of hr
  refine ⟨_, (sss_cons (ss_set 2 sc_steps_from.nd rfl (Or.inl rfl) (se_disp1 (se_var 1) se_int)) (sss_cons (ss_set 3 sc_steps_from.nd rfl (Or.inl rfl) (se_lst (sa_cons (se_var 1) sa_nil))) (sss_cons (ss_while (passes_of rfl) (st_truth (so_var 3)) (sss_cons (ss_set 4 sc_steps_from.nd rfl (Or.inl rfl) (se_lst sa_nil)) (sss_cons (ss_for (si_list (se_unTy call_list_of cs_list (by rfl) T.n_list rfl (so_var 3))) (sg_one 5 sc_steps_from.nd rfl (Or.inl rfl)) (sss_one (ss_for (si_tup (se_var 0)) (sg_many (sgs_cons 6 sc_steps_from.nd rfl (Or.inl rfl) (sgs_cons 7 sc_steps_from.nd rfl (Or.inl rfl) sgs_nil)) (fun _ p => pg_tup rfl p)) (sss_one (ss_if (SW.st (sw_and (st_cmp op_eq os_eqS (so_var 6) (so_var 5)) (sw_and1 (st_dNotIn hu1 (so_var 7) (so_var 2))))) (sss_cons (ss_dput 2 hu1 (pv 2) (so_var 7) (se_bin op_add os_add (so_of (se_dGet hu1 (so_var 2) (so_var 5))) (so_of se_int))) (sss_one (ss_append 4 (pv 4) (se_var 7) (fun _ p => ps_expr (pe_bm PySem.F.plainAttrs_list PySem.F.slot_list_append PySem.F.type_list_append mt_append (pv 4) (pa_cons p pa_nil)))))) sss_nil)) (fun _ _ _ a b c => ps_for (passes_of rfl) rfl a b c))) (fun _ _ _ a b c => ps_for (passes_of rfl) rfl a b c)) (sss_one (ss_set 3 sc_steps_from.nd rfl (Or.inl rfl) (se_mv 4)))))) (sss_one (ss_ret (se_mv 2)))))), ?_⟩
  intro xk args Kd _ h
  obtain ⟨w, x, rfl, hw, k⟩ := h
  simp [bodySem, mRet, mAndV, mOrV, mNotV, mUn, mSlot, mOp2, mTmp, mC, mVar, mMv, mCallP, mCons, mNil, mTup, mLst, mIfS, mNotT, mAndT, mOrT, mTest, mTruth, mSeq, mNext, mRaise, mDrop, mSet, mAsgT, mIf, fIsi, fInS, fEqS, fInt, fIntC, fLen, opd_tmp, opd_slot, data_no, data_val, data_lst, data_dct, Cell.rest, mLc_eq, mFor_eq, mItL, mItT, mItS, mItD, mZip, mRng1, mRng2, mYes, take_one, take_many, setAll_cons, setAll_nil, semB, semN, wipe_nil, wipe_cons, mDisp1, mMv, mDPut, mAppend, fDGet, fDIn, M.keyOf, mSl, mPart, mNoPart, fSlL, fInt1_int, fInt1_bool, fSum_ints, fSum_take, mCall1, fMax2_ints, fMin2_ints, cut_to1, fIxL, mLPut, mCallB, CPow, mPar2, mPar3, fLtS, mCall1M, mGet1, fSortedDk, mTry, handle, cxK, mDnew, mGet2, mCallK, M.pick]
  refine ⟨by decide, ?_⟩
  refine while_by (fun m env => ∃ (n : Nat) (f : List (Str × Nat)) (ws : List Str) (c4 c5 c6 c7 : Cell), env = [.val (wearD w), .val (.str x), .dct (encK f), .lst (ws.map .str), c4, c5, c6, c7] ∧ Lev w x n f ws ∧ m = 2 * (21 - f.length) + (if ws = [] then 0 else 1))
    ⟨_, 0, [(x, 0)], [x], _, _, _, _, rfl, lev0 w x, rfl⟩ fun m env hW D' hn _ _ hr => ?_
  obtain ⟨n, f, ws, c4, c5, c6, c7, rfl, L, rfl⟩ := hW
  have fl := lev_le L
  by_cases ne : ws = []
  · subst ne
    simp [bodySem, mRet, mAndV, mOrV, mNotV, mUn, mSlot, mOp2, mTmp, mC, mVar, mMv, mCallP, mCons, mNil, mTup, mLst, mIfS, mNotT, mAndT, mOrT, mTest, mTruth, mSeq, mNext, mRaise, mDrop, mSet, mAsgT, mIf, fIsi, fInS, fEqS, fInt, fIntC, fLen, opd_tmp, opd_slot, data_no, data_val, data_lst, data_dct, Cell.rest, mLc_eq, mFor_eq, mItL, mItT, mItS, mItD, mZip, mRng1, mRng2, mYes, take_one, take_many, setAll_cons, setAll_nil, semB, semN, wipe_nil, wipe_cons, mDisp1, mMv, mDPut, mAppend, fDGet, fDIn, M.keyOf, mSl, mPart, mNoPart, fSlL, fInt1_int, fInt1_bool, fSum_ints, fSum_take, mCall1, fMax2_ints, fMin2_ints, cut_to1, fIxL, mLPut, mCallB, CPow, mPar2, mPar3, fLtS, mCall1M, mGet1, fSortedDk, mTry, handle, cxK, mDnew, mGet2, mCallK, M.pick, truthD]
    exact k f _ (lev_end L)
  · simp [bodySem, mRet, mAndV, mOrV, mNotV, mUn, mSlot, mOp2, mTmp, mC, mVar, mMv, mCallP, mCons, mNil, mTup, mLst, mIfS, mNotT, mAndT, mOrT, mTest, mTruth, mSeq, mNext, mRaise, mDrop, mSet, mAsgT, mIf, fIsi, fInS, fEqS, fInt, fIntC, fLen, opd_tmp, opd_slot, data_no, data_val, data_lst, data_dct, Cell.rest, mLc_eq, mFor_eq, mItL, mItT, mItS, mItD, mZip, mRng1, mRng2, mYes, take_one, take_many, setAll_cons, setAll_nil, semB, semN, wipe_nil, wipe_cons, mDisp1, mMv, mDPut, mAppend, fDGet, fDIn, M.keyOf, mSl, mPart, mNoPart, fSlL, fInt1_int, fInt1_bool, fSum_ints, fSum_take, mCall1, fMax2_ints, fMin2_ints, cut_to1, fIxL, mLPut, mCallB, CPow, mPar2, mPar3, fLtS, mCall1M, mGet1, fSortedDk, mTry, handle, cxK, mDnew, mGet2, mCallK, M.pick, truthD, ne, fList]
    refine for_by (fun i env => ∃ (B : List Str) (c5 c6 c7 : Cell), env = [.val (wearD w), .val (.str x), .dct (encK (f ++ B.map fun y => (y, n + 1))), .lst (ws.map .str), .lst (B.map .str), c5, c6, c7] ∧ B.Nodup ∧ ∀ y, y ∈ B ↔ look f y = none ∧ ∃ s ∈ ws.take i, (s, y) ∈ w)
      ⟨[], c5, c6, c7, by simp, by simp, by simp⟩ (fun i d env hi hW E hE _ _ _ => ?_) fun env hW => ?_
    · obtain ⟨B, c5, c6, c7, rfl, hB, hm⟩ := hW
      obtain ⟨s, hs, rfl⟩ : ∃ s, ws[i]? = some s ∧ d = .str s := by
        rw [List.getElem?_map] at hi
        cases q : ws[i]? with
        | none => rw [q] at hi; cases hi
        | some s => rw [q] at hi; cases hi; exact ⟨s, rfl, rfl⟩
      simp [bodySem, mRet, mAndV, mOrV, mNotV, mUn, mSlot, mOp2, mTmp, mC, mVar, mMv, mCallP, mCons, mNil, mTup, mLst, mIfS, mNotT, mAndT, mOrT, mTest, mTruth, mSeq, mNext, mRaise, mDrop, mSet, mAsgT, mIf, fIsi, fInS, fEqS, fInt, fIntC, fLen, opd_tmp, opd_slot, data_no, data_val, data_lst, data_dct, Cell.rest, mLc_eq, mFor_eq, mItL, mItT, mItS, mItD, mZip, mRng1, mRng2, mYes, take_one, take_many, setAll_cons, setAll_nil, semB, semN, wipe_nil, wipe_cons, mDisp1, mMv, mDPut, mAppend, fDGet, fDIn, M.keyOf, mSl, mPart, mNoPart, fSlL, fInt1_int, fInt1_bool, fSum_ints, fSum_take, mCall1, fMax2_ints, fMin2_ints, cut_to1, fIxL, mLPut, mCallB, CPow, mPar2, mPar3, fLtS, mCall1M, mGet1, fSortedDk, mTry, handle, cxK, mDnew, mGet2, mCallK, M.pick, wearD]
      refine for_by (fun j env => ∃ (B : List Str) (c6 c7 : Cell), env = [.val (wearD w), .val (.str x), .dct (encK (f ++ B.map fun y => (y, n + 1))), .lst (ws.map .str), .lst (B.map .str), .val (.str s), c6, c7] ∧ B.Nodup ∧ ∀ y, y ∈ B ↔ look f y = none ∧ ((∃ s ∈ ws.take i, (s, y) ∈ w) ∨ (s, y) ∈ w.take j))
        ⟨B, c6, c7, rfl, hB, by simpa using hm⟩ (fun j p env hj hW E2 hE2 _ _ _ => ?_) fun env hW => ?_
      · obtain ⟨B, c6, c7, rfl, hB, hm⟩ := hW
        obtain ⟨⟨a, b⟩, hab, rfl⟩ : ∃ q, w[j]? = some q ∧ p = wrPair q := by
          rw [List.getElem?_map] at hj
          cases q : w[j]? with
          | none => rw [q] at hj; cases hj
          | some s => rw [q] at hj; cases hj; exact ⟨s, rfl, rfl⟩
        have lB : B.length ≤ 20 := by
          have := nodup_le (m := w.map (·.2)) hB fun y hy => by
            rcases ((hm y).mp hy).2 with ⟨s', _, h⟩ | h
            · exact List.mem_map.mpr ⟨_, h, rfl⟩
            · exact List.mem_map.mpr ⟨_, List.mem_of_mem_take h, rfl⟩
          rw [List.length_map] at this
          omega
        have sB : look (f ++ B.map fun y => (y, n + 1)) s = some n := by
          have : s ∈ ws := List.mem_of_getElem? hs
          have hd := (L.wave s).mp this
          have h1 := L.all s n (Nat.le_refl _) hd.1
          cases q : look f s with
          | none => exact absurd q h1
          | some k' =>
            rw [look_app, q]
            have := dist_uniq hd (L.val s k' q).2
            rw [this]; rfl
        have key : ∀ y, y ∈ B ++ [b] → y ∈ B ∨ y = b := fun y h => by simpa using h
        have tk := take_succ hab
        by_cases e1 : a = s
        · subst e1
          by_cases e2 : look (f ++ B.map fun y => (y, n + 1)) b = none
          · have e2' := e2
            rw [look_app, look_all] at e2'
            have eb : look f b = none := by
              cases q : look f b with
              | none => rfl
              | some z => rw [q] at e2'; cases e2'
            have nb : b ∉ B := fun z => by rw [eb, if_pos z] at e2'; cases e2'
            have L2nd : ((f ++ B.map fun y => (y, n + 1)).map (·.1)).Nodup := by
              rw [List.map_append, List.map_map, List.nodup_append]
              have e1 : B.map ((fun x : Str × Nat => x.1) ∘ fun y => (y, n + 1)) = B := List.map_id B
              refine ⟨L.nd, by rw [e1]; exact hB, fun p hp q hq e => ?_⟩
              have hq : q ∈ B := by simpa using hq
              subst e
              exact look_none.mp ((hm p).mp hq).1 hp
            simp [bodySem, mRet, mAndV, mOrV, mNotV, mUn, mSlot, mOp2, mTmp, mC, mVar, mMv, mCallP, mCons, mNil, mTup, mLst, mIfS, mNotT, mAndT, mOrT, mTest, mTruth, mSeq, mNext, mRaise, mDrop, mSet, mAsgT, mIf, fIsi, fInS, fEqS, fInt, fIntC, fLen, opd_tmp, opd_slot, data_no, data_val, data_lst, data_dct, Cell.rest, mLc_eq, mFor_eq, mItL, mItT, mItS, mItD, mZip, mRng1, mRng2, mYes, take_one, take_many, setAll_cons, setAll_nil, semB, semN, wipe_nil, wipe_cons, mDisp1, mMv, mDPut, mAppend, fDGet, fDIn, M.keyOf, mSl, mPart, mNoPart, fSlL, fInt1_int, fInt1_bool, fSum_ints, fSum_take, mCall1, fMax2_ints, fMin2_ints, cut_to1, fIxL, mLPut, mCallB, CPow, mPar2, mPar3, fLtS, mCall1M, mGet1, fSortedDk, mTry, handle, cxK, mDnew, mGet2, mCallK, M.pick, wrPair, eqS_str, getK_enc, e2, sB]
            refine ⟨enc_nodup L2nd, ?_, lt_line (by omega), ?_⟩
            · refine lt_line ?_
              simp [encK]
              omega
            · rw [putD_enc e2]
              refine hE2 _ ⟨B ++ [b], .val (.str a), .val (.str b), by simp [encK], ?_, fun y => ?_⟩
              · rw [List.nodup_append]
                exact ⟨hB, by simp, fun p hp q hq e => nb (by simp at hq; rw [← hq, ← e]; exact hp)⟩
              · rw [tk]
                constructor
                · intro h
                  rcases key y h with h | h
                  · obtain ⟨h1, h2⟩ := (hm y).mp h
                    refine ⟨h1, h2.imp id fun z => ?_⟩
                    simp [z]
                  · subst h
                    exact ⟨eb, .inr (by simp)⟩
                · rintro ⟨h1, h2⟩
                  rcases h2 with h2 | h2
                  · simp [(hm y).mpr ⟨h1, .inl h2⟩]
                  · simp at h2
                    rcases h2 with h2 | h2
                    · simp [(hm y).mpr ⟨h1, .inr h2⟩]
                    · simp [h2]
          · obtain ⟨v, hv⟩ := Option.ne_none_iff_exists'.mp e2
            simp [bodySem, mRet, mAndV, mOrV, mNotV, mUn, mSlot, mOp2, mTmp, mC, mVar, mMv, mCallP, mCons, mNil, mTup, mLst, mIfS, mNotT, mAndT, mOrT, mTest, mTruth, mSeq, mNext, mRaise, mDrop, mSet, mAsgT, mIf, fIsi, fInS, fEqS, fInt, fIntC, fLen, opd_tmp, opd_slot, data_no, data_val, data_lst, data_dct, Cell.rest, mLc_eq, mFor_eq, mItL, mItT, mItS, mItD, mZip, mRng1, mRng2, mYes, take_one, take_many, setAll_cons, setAll_nil, semB, semN, wipe_nil, wipe_cons, mDisp1, mMv, mDPut, mAppend, fDGet, fDIn, M.keyOf, mSl, mPart, mNoPart, fSlL, fInt1_int, fInt1_bool, fSum_ints, fSum_take, mCall1, fMax2_ints, fMin2_ints, cut_to1, fIxL, mLPut, mCallB, CPow, mPar2, mPar3, fLtS, mCall1M, mGet1, fSortedDk, mTry, handle, cxK, mDnew, mGet2, mCallK, M.pick, wrPair, eqS_str, getK_enc, hv]
            refine hE2 _ ⟨B, _, _, rfl, hB, fun y => ?_⟩
            rw [hm y, tk]
            refine ⟨fun ⟨h1, h2⟩ => ⟨h1, h2.imp id fun z => by simp [z]⟩, fun ⟨h1, h2⟩ => ⟨h1, ?_⟩⟩
            rcases h2 with h2 | h2
            · exact .inl h2
            · simp at h2
              rcases h2 with h2 | h2
              · exact .inr h2
              · subst h2
                rw [look_app, h1, look_all] at hv
                simp at hv
                exact ((hm y).mp hv.1).2
        · simp [bodySem, mRet, mAndV, mOrV, mNotV, mUn, mSlot, mOp2, mTmp, mC, mVar, mMv, mCallP, mCons, mNil, mTup, mLst, mIfS, mNotT, mAndT, mOrT, mTest, mTruth, mSeq, mNext, mRaise, mDrop, mSet, mAsgT, mIf, fIsi, fInS, fEqS, fInt, fIntC, fLen, opd_tmp, opd_slot, data_no, data_val, data_lst, data_dct, Cell.rest, mLc_eq, mFor_eq, mItL, mItT, mItS, mItD, mZip, mRng1, mRng2, mYes, take_one, take_many, setAll_cons, setAll_nil, semB, semN, wipe_nil, wipe_cons, mDisp1, mMv, mDPut, mAppend, fDGet, fDIn, M.keyOf, mSl, mPart, mNoPart, fSlL, fInt1_int, fInt1_bool, fSum_ints, fSum_take, mCall1, fMax2_ints, fMin2_ints, cut_to1, fIxL, mLPut, mCallB, CPow, mPar2, mPar3, fLtS, mCall1M, mGet1, fSortedDk, mTry, handle, cxK, mDnew, mGet2, mCallK, M.pick, wrPair, eqS_str, e1]
          refine hE2 _ ⟨B, _, _, rfl, hB, fun y => ?_⟩
          rw [hm y, tk]
          refine ⟨fun ⟨h1, h2⟩ => ⟨h1, h2.imp id fun z => by simp [z]⟩, fun ⟨h1, h2⟩ => ⟨h1, ?_⟩⟩
          rcases h2 with h2 | h2
          · exact .inl h2
          · simp at h2
            rcases h2 with h2 | h2
            · exact .inr h2
            · exact absurd h2.1.symm e1
      · obtain ⟨B, c6, c7, rfl, hB, hm⟩ := hW
        refine hE _ ⟨B, _, _, _, rfl, hB, fun y => ?_⟩
        rw [hm y, take_succ hs]
        rw [List.length_map, List.take_length]
        constructor
        · rintro ⟨h1, h2⟩
          refine ⟨h1, ?_⟩
          rcases h2 with ⟨s', h2, h3⟩ | h2
          · exact ⟨s', by simp [h2], h3⟩
          · exact ⟨s, by simp, h2⟩
        · rintro ⟨h1, s', h2, h3⟩
          refine ⟨h1, ?_⟩
          simp at h2
          rcases h2 with h2 | h2
          · exact .inl ⟨s', h2, h3⟩
          · subst h2
            exact .inr h3
    · obtain ⟨B, c5, c6, c7, rfl, hB, hm⟩ := hW
      rw [List.length_map, List.take_length] at hm
      simp [bodySem, mRet, mAndV, mOrV, mNotV, mUn, mSlot, mOp2, mTmp, mC, mVar, mMv, mCallP, mCons, mNil, mTup, mLst, mIfS, mNotT, mAndT, mOrT, mTest, mTruth, mSeq, mNext, mRaise, mDrop, mSet, mAsgT, mIf, fIsi, fInS, fEqS, fInt, fIntC, fLen, opd_tmp, opd_slot, data_no, data_val, data_lst, data_dct, Cell.rest, mLc_eq, mFor_eq, mItL, mItT, mItS, mItD, mZip, mRng1, mRng2, mYes, take_one, take_many, setAll_cons, setAll_nil, semB, semN, wipe_nil, wipe_cons, mDisp1, mMv, mDPut, mAppend, fDGet, fDIn, M.keyOf, mSl, mPart, mNoPart, fSlL, fInt1_int, fInt1_bool, fSum_ints, fSum_take, mCall1, fMax2_ints, fMin2_ints, cut_to1, fIxL, mLPut, mCallB, CPow, mPar2, mPar3, fLtS, mCall1M, mGet1, fSortedDk, mTry, handle, cxK, mDnew, mGet2, mCallK, M.pick]
      have L2 := lev_next L hB hm
      have l2 := lev_le L2
      refine hn _ _ ?_ ⟨n + 1, _, B, _, _, _, _, rfl, L2, rfl⟩
      rw [List.length_append, List.length_map] at l2 ⊢
      split
      · omega
      · rename_i q
        have : 0 < B.length := List.length_pos_iff.mpr q
        omega
theorem F__law_bag (T : Txt K mg A) : FnOk P w K mg base (L2.CX P w) 1 A.a__law_bag A.fd__law_bag ["_law_script", "_law_k"] (spM K [] 2 semBag) := by
  refine fnB T.f__law_bag sc__law_bag [] semBag fun cdv B oth s H E hr => ?_
  have hu1 := hu_of hr
  have hu64 := hr.units
  have hu65 := hu65_of hr
  refine ⟨_, (sss_cons (ss_set 2 sc__law_bag.nd rfl (Or.inl rfl) (se_bin op_mod os_mod (so_of (se_unTy call_int1 cs_int (by rfl) T.n_int rfl (so_of (se_unB (cr_sum rfl) cs_sum (by rfl) T.n_sum rfl (so_of (se_sl sl_list ss_slL (so_var 0) sp_none (sp_some se_int))))))) (so_of se_int))) (sss_cons (ss_if (st_cmp op_lt os_lt (so_var 1) (so_of (se_len (by rfl) T.n_len (so_var 0)))) (sss_one (ss_set 2 sc__law_bag.nd rfl (Or.inl rfl) (se_ix ix_list os_ixL (so_var 0) (so_var 1)))) sss_nil) (sss_one (ss_ret (se_lst (sa_cons (se_callB (call_max2 rfl) cs_max2 (by rfl) T.n_max rfl (sa_cons se_int (sa_cons (se_bin op_sub os_sub (so_var 2) (so_of (se_bin op_pow os_pow (so_of se_int) (so_of se_int)))) sa_nil))) (sa_cons (se_bin op_mod os_mod (so_of (se_unTy call_int1 cs_int (by rfl) T.n_int rfl (so_var 2))) (so_of (se_bin op_add os_add (so_of (se_bin op_pow os_pow (so_of se_int) (so_of se_int))) (so_of se_int)))) (sa_cons (se_bin op_mulW os_mulW (so_of se_int) (so_var 1)) sa_nil)))))))), ?_⟩
  intro xk args Kd _ h
  obtain ⟨ns, k, rfl, hn, h1, h2, kk⟩ := h
  have m1 : CMulW 61 k := cmulW (p := 10) (q := 10) (by omega) (by omega) h1 (by omega) (by omega)
  have fin : ∀ c e, Kd (.lst [.int (if 1000000000000000000 < c then c - 1000000000000000000 else 0), .int (c % 10000000000000000000000000000000000000121), .int (61 * k)]) e := fun c e => by
    refine kk _ e ⟨_, _, _, rfl, ?_, ?_, ?_, ?_, ?_⟩
    · split <;> omega
    · omega
    · omega
    · omega
    · omega
  have l3 : 3 ≤ sizeLine := by decide
  simp [bodySem, mRet, mAndV, mOrV, mNotV, mUn, mSlot, mOp2, mTmp, mC, mVar, mMv, mCallP, mCons, mNil, mTup, mLst, mIfS, mNotT, mAndT, mOrT, mTest, mTruth, mSeq, mNext, mRaise, mDrop, mSet, mAsgT, mIf, fIsi, fInS, fEqS, fInt, fIntC, fLen, opd_tmp, opd_slot, data_no, data_val, data_lst, data_dct, Cell.rest, mLc_eq, mFor_eq, mItL, mItT, mItS, mItD, mZip, mRng1, mRng2, mYes, take_one, take_many, setAll_cons, setAll_nil, semB, semN, wipe_nil, wipe_cons, mDisp1, mMv, mDPut, mAppend, fDGet, fDIn, M.keyOf, mSl, mPart, mNoPart, fSlL, fInt1_int, fInt1_bool, fSum_ints, fSum_take, mCall1, fMax2_ints, fMin2_ints, cut_to1, fIxL, mLPut, mCallB, CPow, mPar2, mPar3, fLtS, mCall1M, mGet1, fSortedDk, mTry, handle, cxK, mDnew, mGet2, mCallK, M.pick, lenD, m1, l3]
  split
  · rename_i hlt
    obtain ⟨d, e1, e2, e3⟩ := atI_in (ds := ns.map .int) h1 (by simpa using hlt)
    obtain ⟨c, hc, rfl⟩ := List.mem_map.mp e3
    exact ⟨_, e1, by simpa [bodySem, mRet, mAndV, mOrV, mNotV, mUn, mSlot, mOp2, mTmp, mC, mVar, mMv, mCallP, mCons, mNil, mTup, mLst, mIfS, mNotT, mAndT, mOrT, mTest, mTruth, mSeq, mNext, mRaise, mDrop, mSet, mAsgT, mIf, fIsi, fInS, fEqS, fInt, fIntC, fLen, opd_tmp, opd_slot, data_no, data_val, data_lst, data_dct, Cell.rest, mLc_eq, mFor_eq, mItL, mItT, mItS, mItD, mZip, mRng1, mRng2, mYes, take_one, take_many, setAll_cons, setAll_nil, semB, semN, wipe_nil, wipe_cons, mDisp1, mMv, mDPut, mAppend, fDGet, fDIn, M.keyOf, mSl, mPart, mNoPart, fSlL, fInt1_int, fInt1_bool, fSum_ints, fSum_take, mCall1, fMax2_ints, fMin2_ints, cut_to1, fIxL, mLPut, mCallB, CPow, mPar2, mPar3, fLtS, mCall1M, mGet1, fSortedDk, mTry, handle, cxK, mDnew, mGet2, mCallK, M.pick, m1, l3] using fin c _⟩
  · exact fin _ _
theorem F__law_take (T : Txt K mg A) : FnOk P w K mg base (L2.CX P w) 1 A.a__law_take A.fd__law_take ["_law_bag_here", "_law_many"] (spM K [0] 2 semTake) := by
  refine fnB T.f__law_take sc__law_take [0] semTake fun cdv B oth s H E hr => ?_
  have hu1 := hu_of hr
  have hu64 := hr.units
  have hu65 := hu65_of hr
  refine ⟨_, (sss_cons (ss_if (st_cmp op_gt os_gt (so_of (se_ix ix_list os_ixL (so_var 0) (so_of se_int))) (so_of se_int)) (sss_cons (ss_set 3 sc__law_take.nd rfl (Or.inl rfl) (se_bin op_mod os_mod (so_of (se_unTy call_int1 cs_int (by rfl) T.n_int rfl (so_of (se_ix ix_list os_ixL (so_var 0) (so_of se_int))))) (so_var 1))) (sss_cons (ss_lput 0 (pv 0) (so_of se_int) (se_bin op_fdivW os_divW (so_of (se_ix ix_list os_ixL (so_var 0) (so_of se_int))) (so_var 1)) (fun _ _ p q => ps_asg p q) (fun _ p => pg_sub (pv 0) p set_list)) (sss_one (ss_ret (se_mv 3))))) sss_nil) (sss_cons (ss_lput 0 (pv 0) (so_of se_int) (se_bin op_add os_add (so_of (se_ix ix_list os_ixL (so_var 0) (so_of se_int))) (so_of se_int)) (fun _ _ p q => ps_asg p q) (fun _ p => pg_sub (pv 0) p set_list)) (sss_cons (ss_set 2 sc__law_take.nd rfl (Or.inl rfl) (se_bin op_add os_add (so_of (se_bin op_mulW os_mulW (so_of (se_bin op_add os_add (so_of (se_ix ix_list os_ixL (so_var 0) (so_of se_int))) (so_of se_int))) (so_of (se_bin op_add os_add (so_of (se_bin op_mulW os_mulW (so_of se_int) (so_of (se_ix ix_list os_ixL (so_var 0) (so_of se_int))))) (so_of se_int))))) (so_of (se_bin op_mulW os_mulW (so_of (se_bin op_mulW os_mulW (so_of se_int) (so_of (se_ix ix_list os_ixL (so_var 0) (so_of se_int))))) (so_of (se_ix ix_list os_ixL (so_var 0) (so_of se_int))))))) (sss_cons (ss_set 2 sc__law_take.nd rfl (Or.inl rfl) (se_bin op_mod os_mod (so_of (se_unTy call_int1 cs_int (by rfl) T.n_int rfl (so_of (se_bin op_mulW os_mulW (so_var 2) (so_var 2))))) (so_of (se_bin op_add os_add (so_of (se_bin op_pow os_pow (so_of se_int) (so_of se_int))) (so_of se_int))))) (sss_cons (ss_set 2 sc__law_take.nd rfl (Or.inl rfl) (se_bin op_mod os_mod (so_of (se_unTy call_int1 cs_int (by rfl) T.n_int rfl (so_of (se_bin op_mulW os_mulW (so_var 2) (so_of (se_bin op_add os_add (so_var 2) (so_of se_int))))))) (so_of (se_bin op_add os_add (so_of (se_bin op_pow os_pow (so_of se_int) (so_of se_int))) (so_of se_int))))) (sss_one (ss_ret (se_bin op_mod os_mod (so_of (se_unTy call_int1 cs_int (by rfl) T.n_int rfl (so_of (se_bin op_fdivW os_divW (so_var 2) (so_of se_int))))) (so_var 1))))))))), ?_⟩
  intro xk args Kd _ h
  obtain ⟨bs, c, many, rfl, ⟨x, y, z, rfl, hx, hy, hy2, hz, hz2⟩, hc, hm, hm2, kk⟩ := h
  simp [bodySem, mRet, mAndV, mOrV, mNotV, mUn, mSlot, mOp2, mTmp, mC, mVar, mMv, mCallP, mCons, mNil, mTup, mLst, mIfS, mNotT, mAndT, mOrT, mTest, mTruth, mSeq, mNext, mRaise, mDrop, mSet, mAsgT, mIf, fIsi, fInS, fEqS, fInt, fIntC, fLen, opd_tmp, opd_slot, data_no, data_val, data_lst, data_dct, Cell.rest, mLc_eq, mFor_eq, mItL, mItT, mItS, mItD, mZip, mRng1, mRng2, mYes, take_one, take_many, setAll_cons, setAll_nil, semB, semN, wipe_nil, wipe_cons, mDisp1, mMv, mDPut, mAppend, fDGet, fDIn, M.keyOf, mSl, mPart, mNoPart, fSlL, fInt1_int, fInt1_bool, fSum_ints, fSum_take, mCall1, fMax2_ints, fMin2_ints, cut_to1, fIxL, mLPut, mCallB, CPow, mPar2, mPar3, fLtS, mCall1M, mGet1, fSortedDk, mTry, handle, cxK, mDnew, mGet2, mCallK, M.pick, atI, ixN]
  split
  · rename_i q
    refine ⟨hm, cdivW (q := 60) hm (by omega) (by omega), ?_⟩
    refine kk _ _ ⟨_, _, _, rfl, Int.ediv_nonneg hx (by omega), hy, hy2, hz, by omega⟩ (Int.emod_nonneg _ (by omega)) (Int.emod_lt_of_pos _ hm)
  · have b1 : (0 : Int) ≤ 30011 * (z + 1) + 7 ∧ 30011 * (z + 1) + 7 < 2 ^ 80 := ⟨by omega, by omega⟩
    have b2 : (0 : Int) ≤ 104729 * (z + 1) ∧ 104729 * (z + 1) < 2 ^ 80 := ⟨by omega, by omega⟩
    have b3 := bmul (a := y + 1) (b := 30011 * (z + 1) + 7) (p := 140) (q := 80) (by omega) (by omega) b1.1 b1.2
    have b4 := bmul (a := 104729 * (z + 1)) (b := z + 1) (p := 80) (q := 62) b2.1 b2.2 (by omega) (by omega)
    generalize hM : (y + 1) * (30011 * (z + 1) + 7) + 104729 * (z + 1) * (z + 1) = M
    have b5 : 0 ≤ M ∧ M < 2 ^ 222 := by
      rw [← hM]
      constructor <;> omega
    generalize hN : M * M % 100000000000000000000000000000000000000037 = N
    have b6 : 0 ≤ N ∧ N < 2 ^ 140 := by
      rw [← hN]
      constructor <;> omega
    generalize hL : N * (N + 97) % 10000000000000000000000000000000000004323 = L
    refine ⟨cmulW (p := 20) (q := 62) (by omega) (by omega) (by omega) (by omega) (by omega), cmulW (p := 140) (q := 80) (by omega) (by omega) b1.1 b1.2 (by omega), cmulW (p := 20) (q := 62) (by omega) (by omega) (by omega) (by omega) (by omega),
      cmulW (p := 80) (q := 62) b2.1 b2.2 (by omega) (by omega) (by omega), cmulW (p := 222) (q := 222) b5.1 b5.2 b5.1 b5.2 (by omega), cmulW (p := 140) (q := 141) b6.1 b6.2 (by omega) (by omega) (by omega), cdivW (q := 20) (by omega) (by omega) (by omega), hm, ?_⟩
    refine kk _ _ ⟨_, _, _, rfl, hx, hy, hy2, by omega, by omega⟩ (Int.emod_nonneg _ (by omega)) (Int.emod_lt_of_pos _ hm)
theorem F__law_reach (T : Txt K mg A) : FnOk P w K mg base (L2.CX P w) 1 A.a__law_reach A.fd__law_reach ["_law_wear_here"] (spM K [] 1 semReach) := by
  refine fnB T.f__law_reach sc__law_reach [] semReach fun cdv B oth s H E hr => ?_
  have hu1 := hu_of hr
  have hu64 := hr.units
  have hu65 := hu65_of hr
  refine ⟨_, (sss_cons (ss_set 1 sc__law_reach.nd rfl (Or.inl rfl) se_dnew) (sss_cons (ss_for (si_str se_str) (sg_one 2 sc__law_reach.nd rfl (Or.inl rfl)) (sss_cons (ss_set 3 sc__law_reach.nd rfl (Or.inl rfl) (se_disp1 (se_var 2) se_int)) (sss_cons (ss_for (si_rng1 (by rfl) T.n_range (sa_cons se_int sa_nil)) (sg_one 4 sc__law_reach.nd rfl (Or.inl rfl)) (sss_one (ss_for (si_tup (se_var 0)) (sg_many (sgs_cons 5 sc__law_reach.nd rfl (Or.inl rfl) (sgs_cons 6 sc__law_reach.nd rfl (Or.inl rfl) sgs_nil)) (fun _ p => pg_tup rfl p)) (sss_one (ss_if (SW.st (sw_and (st_dIn hu1 (so_var 5) (so_var 3)) (sw_and1 (st_cmp op_gt os_gt (so_of (se_get2 3 hu1 (pv 3) (so_var 6) pe_int (fun _ => .int _) ⟨rfl, rfl, rfl, rfl⟩)) (so_of (se_bin op_add os_add (so_of (se_dGet hu1 (so_var 3) (so_var 5))) (so_of se_int))))))) (sss_one (ss_dput 3 hu1 (pv 3) (so_var 6) (se_bin op_add os_add (so_of (se_dGet hu1 (so_var 3) (so_var 5))) (so_of se_int)))) sss_nil)) (fun _ _ _ a b c => ps_for (passes_of rfl) rfl a b c))) (fun _ _ _ a b c => ps_for (passes_of rfl) rfl a b c)) (sss_one (ss_dput 1 hu1 (pv 1) (so_var 2) (se_var 3))))) (fun _ _ _ a b c => ps_for (passes_of rfl) rfl a b c)) (sss_one (ss_ret (se_mv 1))))), ?_⟩
  intro xk args Kd _ h
  obtain ⟨w, rfl, hw, k⟩ := h
  obtain ⟨w', ew, hl, hm⟩ := wear_is hw
  cases wearD_inj ew
  simp [bodySem, mRet, mAndV, mOrV, mNotV, mUn, mSlot, mOp2, mTmp, mC, mVar, mMv, mCallP, mCons, mNil, mTup, mLst, mIfS, mNotT, mAndT, mOrT, mTest, mTruth, mSeq, mNext, mRaise, mDrop, mSet, mAsgT, mIf, fIsi, fInS, fEqS, fInt, fIntC, fLen, opd_tmp, opd_slot, data_no, data_val, data_lst, data_dct, Cell.rest, mLc_eq, mFor_eq, mItL, mItT, mItS, mItD, mZip, mRng1, mRng2, mYes, take_one, take_many, setAll_cons, setAll_nil, semB, semN, wipe_nil, wipe_cons, mDisp1, mMv, mDPut, mAppend, fDGet, fDIn, M.keyOf, mSl, mPart, mNoPart, fSlL, fInt1_int, fInt1_bool, fSum_ints, fSum_take, mCall1, fMax2_ints, fMin2_ints, cut_to1, fIxL, mLPut, mCallB, CPow, mPar2, mPar3, fLtS, mCall1M, mGet1, fSortedDk, mTry, handle, cxK, mDnew, mGet2, mCallK, M.pick]
  have sg : signsD ".abcdef" = WRN.map .str := by
    unfold signsD
    rw [show (".abcdef" : Str).cps.toList = [46, 97, 98, 99, 100, 101, 102] from by decide +kernel]
    rfl
  rw [sg]
  refine for_by (fun i env => ∃ (R : Str → List (Str × Nat)) (c2 c3 c4 c5 c6 : Cell), env = [.val (wearD w), .dct ((reachD R).take i), c2, c3, c4, c5, c6] ∧ ∀ x ∈ WRN.take i, (∀ y, look (R x) y = dist w x y) ∧ ((R x).map (·.1)).Nodup)
    ⟨fun _ => [], .no, .no, .no, .no, .no, rfl, by simp⟩ (fun i d env hi hW E hE _ _ _ => ?_) fun env hW => ?_
  · obtain ⟨R, c2, c3, c4, c5, c6, rfl, hR⟩ := hW
    obtain ⟨x, hx, rfl⟩ : ∃ x, WRN[i]? = some x ∧ d = .str x := by
      rw [List.getElem?_map] at hi
      cases q : WRN[i]? with
      | none => rw [q] at hi; cases hi
      | some s => rw [q] at hi; cases hi; exact ⟨s, rfl, rfl⟩
    have il : i < WRN.length := (List.getElem?_eq_some_iff.mp hx).1
    have xw : x ∈ WRN := List.mem_of_getElem? hx
    simp [bodySem, mRet, mAndV, mOrV, mNotV, mUn, mSlot, mOp2, mTmp, mC, mVar, mMv, mCallP, mCons, mNil, mTup, mLst, mIfS, mNotT, mAndT, mOrT, mTest, mTruth, mSeq, mNext, mRaise, mDrop, mSet, mAsgT, mIf, fIsi, fInS, fEqS, fInt, fIntC, fLen, opd_tmp, opd_slot, data_no, data_val, data_lst, data_dct, Cell.rest, mLc_eq, mFor_eq, mItL, mItT, mItS, mItD, mZip, mRng1, mRng2, mYes, take_one, take_many, setAll_cons, setAll_nil, semB, semN, wipe_nil, wipe_cons, mDisp1, mMv, mDPut, mAppend, fDGet, fDIn, M.keyOf, mSl, mPart, mNoPart, fSlL, fInt1_int, fInt1_bool, fSum_ints, fSum_take, mCall1, fMax2_ints, fMin2_ints, cut_to1, fIxL, mLPut, mCallB, CPow, mPar2, mPar3, fLtS, mCall1M, mGet1, fSortedDk, mTry, handle, cxK, mDnew, mGet2, mCallK, M.pick]
    refine for_by (fun r env => ∃ (f : List (Str × Nat)) (c4 c5 c6 : Cell), env = [.val (wearD w), .dct ((reachD R).take i), .val (.str x), .dct (encK f), c4, c5, c6] ∧ Bj w x r 0 f)
      ⟨[(x, 0)], c4, c5, c6, by simp [encK, keyD], bj0 w x⟩ (fun r d env hr hW E2 hE2 _ _ _ => ?_) fun env hW => ?_
    · obtain ⟨f, c4, c5, c6, rfl, hB⟩ := hW
      simp [bodySem, mRet, mAndV, mOrV, mNotV, mUn, mSlot, mOp2, mTmp, mC, mVar, mMv, mCallP, mCons, mNil, mTup, mLst, mIfS, mNotT, mAndT, mOrT, mTest, mTruth, mSeq, mNext, mRaise, mDrop, mSet, mAsgT, mIf, fIsi, fInS, fEqS, fInt, fIntC, fLen, opd_tmp, opd_slot, data_no, data_val, data_lst, data_dct, Cell.rest, mLc_eq, mFor_eq, mItL, mItT, mItS, mItD, mZip, mRng1, mRng2, mYes, take_one, take_many, setAll_cons, setAll_nil, semB, semN, wipe_nil, wipe_cons, mDisp1, mMv, mDPut, mAppend, fDGet, fDIn, M.keyOf, mSl, mPart, mNoPart, fSlL, fInt1_int, fInt1_bool, fSum_ints, fSum_take, mCall1, fMax2_ints, fMin2_ints, cut_to1, fIxL, mLPut, mCallB, CPow, mPar2, mPar3, fLtS, mCall1M, mGet1, fSortedDk, mTry, handle, cxK, mDnew, mGet2, mCallK, M.pick, wearD]
      refine for_by (fun j env => ∃ (f : List (Str × Nat)) (c4 c5 c6 : Cell), env = [.val (wearD w), .dct ((reachD R).take i), .val (.str x), .dct (encK f), c4, c5, c6] ∧ Bj w x r j f)
        ⟨f, _, c5, c6, by simp [wearD]; rfl, hB⟩ (fun j d env hj hW E3 hE3 _ _ _ => ?_) fun env hW => ?_
      · obtain ⟨f, c4, c5, c6, rfl, hB⟩ := hW
        obtain ⟨⟨a, b⟩, hab, rfl⟩ : ∃ q, w[j]? = some q ∧ d = wrPair q := by
          rw [List.getElem?_map] at hj
          cases q : w[j]? with
          | none => rw [q] at hj; cases hj
          | some s => rw [q] at hj; cases hj; exact ⟨s, rfl, rfl⟩
        have fl := bj_len hB
        cases ea : look f a with
        | none =>
          simp [bodySem, mRet, mAndV, mOrV, mNotV, mUn, mSlot, mOp2, mTmp, mC, mVar, mMv, mCallP, mCons, mNil, mTup, mLst, mIfS, mNotT, mAndT, mOrT, mTest, mTruth, mSeq, mNext, mRaise, mDrop, mSet, mAsgT, mIf, fIsi, fInS, fEqS, fInt, fIntC, fLen, opd_tmp, opd_slot, data_no, data_val, data_lst, data_dct, Cell.rest, mLc_eq, mFor_eq, mItL, mItT, mItS, mItD, mZip, mRng1, mRng2, mYes, take_one, take_many, setAll_cons, setAll_nil, semB, semN, wipe_nil, wipe_cons, mDisp1, mMv, mDPut, mAppend, fDGet, fDIn, M.keyOf, mSl, mPart, mNoPart, fSlL, fInt1_int, fInt1_bool, fSum_ints, fSum_take, mCall1, fMax2_ints, fMin2_ints, cut_to1, fIxL, mLPut, mCallB, CPow, mPar2, mPar3, fLtS, mCall1M, mGet1, fSortedDk, mTry, handle, cxK, mDnew, mGet2, mCallK, M.pick, wrPair, getK_enc, ea]
          exact hE3 _ ⟨f, _, _, _, rfl, bj_skip hB hab fun ka q => by rw [ea] at q; cases q⟩
        | some ka =>
          have hka := (hB.snd a ka ea).2
          cases eb : look f b with
          | none =>
            have c1 : (ka : Int) + 1 < 99 := by omega
            simp [bodySem, mRet, mAndV, mOrV, mNotV, mUn, mSlot, mOp2, mTmp, mC, mVar, mMv, mCallP, mCons, mNil, mTup, mLst, mIfS, mNotT, mAndT, mOrT, mTest, mTruth, mSeq, mNext, mRaise, mDrop, mSet, mAsgT, mIf, fIsi, fInS, fEqS, fInt, fIntC, fLen, opd_tmp, opd_slot, data_no, data_val, data_lst, data_dct, Cell.rest, mLc_eq, mFor_eq, mItL, mItT, mItS, mItD, mZip, mRng1, mRng2, mYes, take_one, take_many, setAll_cons, setAll_nil, semB, semN, wipe_nil, wipe_cons, mDisp1, mMv, mDPut, mAppend, fDGet, fDIn, M.keyOf, mSl, mPart, mNoPart, fSlL, fInt1_int, fInt1_bool, fSum_ints, fSum_take, mCall1, fMax2_ints, fMin2_ints, cut_to1, fIxL, mLPut, mCallB, CPow, mPar2, mPar3, fLtS, mCall1M, mGet1, fSortedDk, mTry, handle, cxK, mDnew, mGet2, mCallK, M.pick, wrPair, getK_enc, ea, eb, c1]
            refine ⟨enc_nodup hB.nd, lt_line (by simp [encK]; omega), ?_⟩
            have e := putD_set b (ka + 1) f
            simp at e
            rw [e]
            exact hE3 _ ⟨_, _, _, _, rfl, bj_put hB hab ea fun kb q => by rw [eb] at q; cases q⟩
          | some kb =>
            by_cases c1 : ka + 1 < kb
            · have c2 : (ka : Int) + 1 < (kb : Int) := by omega
              simp [bodySem, mRet, mAndV, mOrV, mNotV, mUn, mSlot, mOp2, mTmp, mC, mVar, mMv, mCallP, mCons, mNil, mTup, mLst, mIfS, mNotT, mAndT, mOrT, mTest, mTruth, mSeq, mNext, mRaise, mDrop, mSet, mAsgT, mIf, fIsi, fInS, fEqS, fInt, fIntC, fLen, opd_tmp, opd_slot, data_no, data_val, data_lst, data_dct, Cell.rest, mLc_eq, mFor_eq, mItL, mItT, mItS, mItD, mZip, mRng1, mRng2, mYes, take_one, take_many, setAll_cons, setAll_nil, semB, semN, wipe_nil, wipe_cons, mDisp1, mMv, mDPut, mAppend, fDGet, fDIn, M.keyOf, mSl, mPart, mNoPart, fSlL, fInt1_int, fInt1_bool, fSum_ints, fSum_take, mCall1, fMax2_ints, fMin2_ints, cut_to1, fIxL, mLPut, mCallB, CPow, mPar2, mPar3, fLtS, mCall1M, mGet1, fSortedDk, mTry, handle, cxK, mDnew, mGet2, mCallK, M.pick, wrPair, getK_enc, ea, eb, c2]
              refine ⟨enc_nodup hB.nd, lt_line (by simp [encK]; omega), ?_⟩
              have e := putD_set b (ka + 1) f
              simp at e
              rw [e]
              exact hE3 _ ⟨_, _, _, _, rfl, bj_put hB hab ea fun k' q => by rw [eb] at q; cases q; exact c1⟩
            · have c2 : ¬ (ka : Int) + 1 < (kb : Int) := by omega
              simp [bodySem, mRet, mAndV, mOrV, mNotV, mUn, mSlot, mOp2, mTmp, mC, mVar, mMv, mCallP, mCons, mNil, mTup, mLst, mIfS, mNotT, mAndT, mOrT, mTest, mTruth, mSeq, mNext, mRaise, mDrop, mSet, mAsgT, mIf, fIsi, fInS, fEqS, fInt, fIntC, fLen, opd_tmp, opd_slot, data_no, data_val, data_lst, data_dct, Cell.rest, mLc_eq, mFor_eq, mItL, mItT, mItS, mItD, mZip, mRng1, mRng2, mYes, take_one, take_many, setAll_cons, setAll_nil, semB, semN, wipe_nil, wipe_cons, mDisp1, mMv, mDPut, mAppend, fDGet, fDIn, M.keyOf, mSl, mPart, mNoPart, fSlL, fInt1_int, fInt1_bool, fSum_ints, fSum_take, mCall1, fMax2_ints, fMin2_ints, cut_to1, fIxL, mLPut, mCallB, CPow, mPar2, mPar3, fLtS, mCall1M, mGet1, fSortedDk, mTry, handle, cxK, mDnew, mGet2, mCallK, M.pick, wrPair, getK_enc, ea, eb, c2]
              exact hE3 _ ⟨f, _, _, _, rfl, bj_skip hB hab fun k' q => by rw [ea] at q; cases q; exact ⟨kb, eb, by omega⟩⟩
      · obtain ⟨f, c4, c5, c6, rfl, hB⟩ := hW
        rw [List.length_map] at hB
        exact hE2 _ ⟨f, _, _, _, rfl, bj_end hB⟩
    · obtain ⟨f, c4, c5, c6, rfl, hB⟩ := hW
      have l7 : (rangeD 0 7).length = 7 := by simp [rangeD]
      rw [l7] at hB
      have fin := bf_end hm xw (f := f) ⟨hB.nd, hB.sub, hB.snd, hB.cmp⟩
      simp [bodySem, mRet, mAndV, mOrV, mNotV, mUn, mSlot, mOp2, mTmp, mC, mVar, mMv, mCallP, mCons, mNil, mTup, mLst, mIfS, mNotT, mAndT, mOrT, mTest, mTruth, mSeq, mNext, mRaise, mDrop, mSet, mAsgT, mIf, fIsi, fInS, fEqS, fInt, fIntC, fLen, opd_tmp, opd_slot, data_no, data_val, data_lst, data_dct, Cell.rest, mLc_eq, mFor_eq, mItL, mItT, mItS, mItD, mZip, mRng1, mRng2, mYes, take_one, take_many, setAll_cons, setAll_nil, semB, semN, wipe_nil, wipe_cons, mDisp1, mMv, mDPut, mAppend, fDGet, fDIn, M.keyOf, mSl, mPart, mNoPart, fSlL, fInt1_int, fInt1_bool, fSum_ints, fSum_take, mCall1, fMax2_ints, fMin2_ints, cut_to1, fIxL, mLPut, mCallB, CPow, mPar2, mPar3, fLtS, mCall1M, mGet1, fSortedDk, mTry, handle, cxK, mDnew, mGet2, mCallK, M.pick]
      refine ⟨reach_nodup R i, lt_line (Nat.le_trans (Nat.min_le_right _ _) (by simp [reachD]; decide)), ?_⟩
      rw [reach_put hx]
      refine hE _ ⟨_, _, _, _, _, _, rfl, fun z hz => ?_⟩
      rw [take_succ hx] at hz
      by_cases e : z = x
      · rw [if_pos e, e]; exact ⟨fin, hB.nd⟩
      · rw [if_neg e]
        refine hR z ?_
        simp at hz
        exact hz.resolve_right e
  · obtain ⟨R, c2, c3, c4, c5, c6, rfl, hR⟩ := hW
    have e1 : (reachD R).take (WRN.map PyData.str).length = reachD R := List.take_of_length_le (by simp [reachD])
    rw [e1]
    simp [bodySem, mRet, mAndV, mOrV, mNotV, mUn, mSlot, mOp2, mTmp, mC, mVar, mMv, mCallP, mCons, mNil, mTup, mLst, mIfS, mNotT, mAndT, mOrT, mTest, mTruth, mSeq, mNext, mRaise, mDrop, mSet, mAsgT, mIf, fIsi, fInS, fEqS, fInt, fIntC, fLen, opd_tmp, opd_slot, data_no, data_val, data_lst, data_dct, Cell.rest, mLc_eq, mFor_eq, mItL, mItT, mItS, mItD, mZip, mRng1, mRng2, mYes, take_one, take_many, setAll_cons, setAll_nil, semB, semN, wipe_nil, wipe_cons, mDisp1, mMv, mDPut, mAppend, fDGet, fDIn, M.keyOf, mSl, mPart, mNoPart, fSlL, fInt1_int, fInt1_bool, fSum_ints, fSum_take, mCall1, fMax2_ints, fMin2_ints, cut_to1, fIxL, mLPut, mCallB, CPow, mPar2, mPar3, fLtS, mCall1M, mGet1, fSortedDk, mTry, handle, cxK, mDnew, mGet2, mCallK, M.pick]
    have hR : ∀ x ∈ WRN, (∀ y, look (R x) y = dist w x y) ∧ ((R x).map (·.1)).Nodup := fun x hx => hR x (by rw [List.length_map, List.take_length]; exact hx)
    exact k R (fun x hx => (hR x hx).1) (fun x hx => (hR x hx).2) _
theorem F__law_due (T : Txt K mg A) : FnOk P w K mg base (L2.CX P w) 1 A.a__law_due A.fd__law_due ["_law_reach_here"] (spM K [] 1 semDue) := by
  refine fnB T.f__law_due sc__law_due [] semDue fun cdv B oth s H E hr => ?_
  have hu1 := hu_of hr
  have hu64 := hr.units
  have hu65 := hu65_of hr
  refine ⟨_, (sss_cons (ss_set 1 sc__law_due.nd rfl (Or.inl rfl) (se_lst sa_nil)) (sss_cons (ss_for (si_str se_str) (sg_one 2 sc__law_due.nd rfl (Or.inr rfl)) (sss_one (ss_append 1 (pv 1) (se_lc rfl sc__law_due.nd (si_str se_str) (blkOk_by (own := [("_law_seen", 3)]) (N := ["_law_reach_here", "_law_found", "_law_one", "_law_seen"]) (sc := defScope s__law_due) (by decide +kernel)) (fun _ _ _ _ _ => (sg_one 3 sc__law_due.nd rfl (Or.inl rfl))) (fun _ _ _ _ _ => sts_nil) (fun _ _ _ _ _ => (se_if (st_cmp op_eq os_eqS (so_var 3) (so_of se_str)) se_int (se_get1 hu1 (so_of (se_dGet hu1 (so_var 0) (so_var 2))) (so_var 3) ⟨rfl, rfl, rfl, rfl⟩))) (fun _ _ _ _ a b c d => pe_lc rfl sc__law_due.nd a (blkOk_by (own := [("_law_seen", 3)]) (N := ["_law_reach_here", "_law_found", "_law_one", "_law_seen"]) (sc := defScope s__law_due) (by decide +kernel)) b c d)) (fun _ p => ps_expr (pe_bm PySem.F.plainAttrs_list PySem.F.slot_list_append PySem.F.type_list_append mt_append (pv 1) (pa_cons p pa_nil))))) (fun _ _ _ a b c => ps_for (passes_of rfl) rfl a b c)) (sss_one (ss_ret (se_mv 1))))), ?_⟩
  intro xk args Kd _ h
  obtain ⟨w, R, rfl, hR, k⟩ := h
  simp [bodySem, mRet, mAndV, mOrV, mNotV, mUn, mSlot, mOp2, mTmp, mC, mVar, mMv, mCallP, mCons, mNil, mTup, mLst, mIfS, mNotT, mAndT, mOrT, mTest, mTruth, mSeq, mNext, mRaise, mDrop, mSet, mAsgT, mIf, fIsi, fInS, fEqS, fInt, fIntC, fLen, opd_tmp, opd_slot, data_no, data_val, data_lst, data_dct, Cell.rest, mLc_eq, mFor_eq, mItL, mItT, mItS, mItD, mZip, mRng1, mRng2, mYes, take_one, take_many, setAll_cons, setAll_nil, semB, semN, wipe_nil, wipe_cons, mDisp1, mMv, mDPut, mAppend, fDGet, fDIn, M.keyOf, mSl, mPart, mNoPart, fSlL, fInt1_int, fInt1_bool, fSum_ints, fSum_take, mCall1, fMax2_ints, fMin2_ints, cut_to1, fIxL, mLPut, mCallB, CPow, mPar2, mPar3, fLtS, mCall1M, mGet1, fSortedDk, mTry, handle, cxK, mDnew, mGet2, mCallK, M.pick, dot_signs]
  refine for_by (fun i env => ∃ c2 c3, env = [.val (.dict (reachD R)), .lst ((dueD w).take i), c2, c3]) ⟨_, _, rfl⟩ (fun i d env hi hW E hE _ _ _ => ?_) fun env hW => ?_
  · obtain ⟨c2, c3, rfl⟩ := hW
    obtain ⟨x, hx, rfl⟩ := str_at hi
    have xw := List.mem_of_getElem? hx
    simp [bodySem, mRet, mAndV, mOrV, mNotV, mUn, mSlot, mOp2, mTmp, mC, mVar, mMv, mCallP, mCons, mNil, mTup, mLst, mIfS, mNotT, mAndT, mOrT, mTest, mTruth, mSeq, mNext, mRaise, mDrop, mSet, mAsgT, mIf, fIsi, fInS, fEqS, fInt, fIntC, fLen, opd_tmp, opd_slot, data_no, data_val, data_lst, data_dct, Cell.rest, mLc_eq, mFor_eq, mItL, mItT, mItS, mItD, mZip, mRng1, mRng2, mYes, take_one, take_many, setAll_cons, setAll_nil, semB, semN, wipe_nil, wipe_cons, mDisp1, mMv, mDPut, mAppend, fDGet, fDIn, M.keyOf, mSl, mPart, mNoPart, fSlL, fInt1_int, fInt1_bool, fSum_ints, fSum_take, mCall1, fMax2_ints, fMin2_ints, cut_to1, fIxL, mLPut, mCallB, CPow, mPar2, mPar3, fLtS, mCall1M, mGet1, fSortedDk, mTry, handle, cxK, mDnew, mGet2, mCallK, M.pick, seen_signs]
    let G : PyData → PyData := fun d => match d with | .str y => stepsD w x y | _ => .none
    refine lc_map G (small_line (by decide)) (fun d hd acc N h1 h2 => ?_) ?_
    · obtain ⟨y, hy, rfl⟩ := List.mem_map.mp hd
      simp [bodySem, mRet, mAndV, mOrV, mNotV, mUn, mSlot, mOp2, mTmp, mC, mVar, mMv, mCallP, mCons, mNil, mTup, mLst, mIfS, mNotT, mAndT, mOrT, mTest, mTruth, mSeq, mNext, mRaise, mDrop, mSet, mAsgT, mIf, fIsi, fInS, fEqS, fInt, fIntC, fLen, opd_tmp, opd_slot, data_no, data_val, data_lst, data_dct, Cell.rest, mLc_eq, mFor_eq, mItL, mItT, mItS, mItD, mZip, mRng1, mRng2, mYes, take_one, take_many, setAll_cons, setAll_nil, semB, semN, wipe_nil, wipe_cons, mDisp1, mMv, mDPut, mAppend, fDGet, fDIn, M.keyOf, mSl, mPart, mNoPart, fSlL, fInt1_int, fInt1_bool, fSum_ints, fSum_take, mCall1, fMax2_ints, fMin2_ints, cut_to1, fIxL, mLPut, mCallB, CPow, mPar2, mPar3, fLtS, mCall1M, mGet1, fSortedDk, mTry, handle, cxK, mDnew, mGet2, mCallK, M.pick, getK_reach xw, eqS_str]
      have la := hR x xw y
      by_cases e : y = "?"
      · subst e
        right
        simpa [G, stepsD] using ⟨h1, h2⟩
      · left
        simp [e]
        refine ⟨h1, ?_⟩
        simp [bodySem, mRet, mAndV, mOrV, mNotV, mUn, mSlot, mOp2, mTmp, mC, mVar, mMv, mCallP, mCons, mNil, mTup, mLst, mIfS, mNotT, mAndT, mOrT, mTest, mTruth, mSeq, mNext, mRaise, mDrop, mSet, mAsgT, mIf, fIsi, fInS, fEqS, fInt, fIntC, fLen, opd_tmp, opd_slot, data_no, data_val, data_lst, data_dct, Cell.rest, mLc_eq, mFor_eq, mItL, mItT, mItS, mItD, mZip, mRng1, mRng2, mYes, take_one, take_many, setAll_cons, setAll_nil, semB, semN, wipe_nil, wipe_cons, mDisp1, mMv, mDPut, mAppend, fDGet, fDIn, M.keyOf, mSl, mPart, mNoPart, fSlL, fInt1_int, fInt1_bool, fSum_ints, fSum_take, mCall1, fMax2_ints, fMin2_ints, cut_to1, fIxL, mLPut, mCallB, CPow, mPar2, mPar3, fLtS, mCall1M, mGet1, fSortedDk, mTry, handle, cxK, mDnew, mGet2, mCallK, M.pick, getK_enc, la]
        simp [G, stepsD, e] at h2
        cases q : dist w x y with
        | none => rw [q] at h2; exact h2
        | some n => rw [q] at h2; exact h2
    · have e1 : (dueD w).take (i + 1) = (dueD w).take i ++ [dueRow w x] := take_succ (by unfold dueD; rw [List.getElem?_map, hx]; rfl)
      have e2 : List.map G (SEN.map PyData.str) = SEN.map fun y => stepsD w x y := by rw [List.map_map]; rfl
      simp [bodySem, mRet, mAndV, mOrV, mNotV, mUn, mSlot, mOp2, mTmp, mC, mVar, mMv, mCallP, mCons, mNil, mTup, mLst, mIfS, mNotT, mAndT, mOrT, mTest, mTruth, mSeq, mNext, mRaise, mDrop, mSet, mAsgT, mIf, fIsi, fInS, fEqS, fInt, fIntC, fLen, opd_tmp, opd_slot, data_no, data_val, data_lst, data_dct, Cell.rest, mLc_eq, mFor_eq, mItL, mItT, mItS, mItD, mZip, mRng1, mRng2, mYes, take_one, take_many, setAll_cons, setAll_nil, semB, semN, wipe_nil, wipe_cons, mDisp1, mMv, mDPut, mAppend, fDGet, fDIn, M.keyOf, mSl, mPart, mNoPart, fSlL, fInt1_int, fInt1_bool, fSum_ints, fSum_take, mCall1, fMax2_ints, fMin2_ints, cut_to1, fIxL, mLPut, mCallB, CPow, mPar2, mPar3, fLtS, mCall1M, mGet1, fSortedDk, mTry, handle, cxK, mDnew, mGet2, mCallK, M.pick]
      refine ⟨lt_line (Nat.le_trans (Nat.min_le_right _ _) (by simp [dueD, WRN])), ?_⟩
      have e3 : (List.take i (dueD w) ++ [PyData.list (List.map (G ∘ PyData.str) SEN)]) = (dueD w).take (i + 1) := by
        rw [e1]
        rfl
      rw [e3]
      exact hE _ ⟨_, _, rfl⟩
  · obtain ⟨c2, c3, rfl⟩ := hW
    have e1 : (dueD w).take (WRN.map PyData.str).length = dueD w := List.take_of_length_le (by simp [dueD])
    rw [e1]
    simp [bodySem, mRet, mAndV, mOrV, mNotV, mUn, mSlot, mOp2, mTmp, mC, mVar, mMv, mCallP, mCons, mNil, mTup, mLst, mIfS, mNotT, mAndT, mOrT, mTest, mTruth, mSeq, mNext, mRaise, mDrop, mSet, mAsgT, mIf, fIsi, fInS, fEqS, fInt, fIntC, fLen, opd_tmp, opd_slot, data_no, data_val, data_lst, data_dct, Cell.rest, mLc_eq, mFor_eq, mItL, mItT, mItS, mItD, mZip, mRng1, mRng2, mYes, take_one, take_many, setAll_cons, setAll_nil, semB, semN, wipe_nil, wipe_cons, mDisp1, mMv, mDPut, mAppend, fDGet, fDIn, M.keyOf, mSl, mPart, mNoPart, fSlL, fInt1_int, fInt1_bool, fSum_ints, fSum_take, mCall1, fMax2_ints, fMin2_ints, cut_to1, fIxL, mLPut, mCallB, CPow, mPar2, mPar3, fLtS, mCall1M, mGet1, fSortedDk, mTry, handle, cxK, mDnew, mGet2, mCallK, M.pick]
    exact k _
theorem F_need_worn (T : Txt K mg A) : FnOk P w K mg base (L2.CX P w) 2 A.a_need_worn A.fd_need_worn ["thing"] (spM K [] 1 (semN (isIn WRN) A.e_BadSign)) := by
  have F_is_worn := F_is_worn (P := P) (w := w) (base := base) T
  refine fnB T.f_need_worn sc_need_worn [] (semN (isIn WRN) A.e_BadSign) fun cdv B oth s H E hr => ?_
  have hu1 := hu_of hr
  have hu64 := hr.units
  have hu65 := hu65_of hr
  refine ⟨_, (sss_one (ss_if (st_not (st_val (se_callP (F_is_worn) (hr.mono (by decide)) (by rfl) T.g_is_worn T.k_is_worn (T.b_is_worn) (takes_of rfl rfl rfl rfl) (sa_cons (se_var 0) sa_nil)))) (sss_one (ss_raise rfl (takes_of rfl rfl rfl rfl) (pmk_own PySem.F.excBase_ValueError T.x_BadSign T.g_BadSign T.k_BadSign (raises_own T.u_BadSign T.t_BadSign) (by exact rfl)))) sss_nil)), ?_⟩
  intro xk args Kd _ h
  obtain ⟨d, rfl, k⟩ := h
  simp [bodySem, mRet, mAndV, mOrV, mNotV, mUn, mSlot, mOp2, mTmp, mC, mVar, mMv, mCallP, mCons, mNil, mTup, mLst, mIfS, mNotT, mAndT, mOrT, mTest, mTruth, mSeq, mNext, mRaise, mDrop, mSet, mAsgT, mIf, fIsi, fInS, fEqS, fInt, fIntC, fLen, opd_tmp, opd_slot, data_no, data_val, data_lst, data_dct, Cell.rest, mLc_eq, mFor_eq, mItL, mItT, mItS, mItD, mZip, mRng1, mRng2, mYes, take_one, take_many, setAll_cons, setAll_nil, semB, semN, wipe_nil, wipe_cons, mDisp1, mMv, mDPut, mAppend, fDGet, fDIn, M.keyOf, mSl, mPart, mNoPart, fSlL, fInt1_int, fInt1_bool, fSum_ints, fSum_take, mCall1, fMax2_ints, fMin2_ints, cut_to1, fIxL, mLPut, mCallB, CPow, mPar2, mPar3, fLtS, mCall1M, mGet1, fSortedDk, mTry, handle, cxK, mDnew, mGet2, mCallK, M.pick, semB]
  split at k
  · rename_i q
    rw [q]
    simpa using k _
  · rename_i q
    rw [Bool.eq_false_iff.mpr q]
    simpa using k _
theorem F_need_seen (T : Txt K mg A) : FnOk P w K mg base (L2.CX P w) 2 A.a_need_seen A.fd_need_seen ["thing"] (spM K [] 1 (semN (isIn SEN) A.e_BadSign)) := by
  have F_is_seen := F_is_seen (P := P) (w := w) (base := base) T
  refine fnB T.f_need_seen sc_need_seen [] (semN (isIn SEN) A.e_BadSign) fun cdv B oth s H E hr => ?_
  have hu1 := hu_of hr
  have hu64 := hr.units
  have hu65 := hu65_of hr
  refine ⟨_, (sss_one (ss_if (st_not (st_val (se_callP (F_is_seen) (hr.mono (by decide)) (by rfl) T.g_is_seen T.k_is_seen (T.b_is_seen) (takes_of rfl rfl rfl rfl) (sa_cons (se_var 0) sa_nil)))) (sss_one (ss_raise rfl (takes_of rfl rfl rfl rfl) (pmk_own PySem.F.excBase_ValueError T.x_BadSign T.g_BadSign T.k_BadSign (raises_own T.u_BadSign T.t_BadSign) (by exact rfl)))) sss_nil)), ?_⟩
  intro xk args Kd _ h
  obtain ⟨d, rfl, k⟩ := h
  simp [bodySem, mRet, mAndV, mOrV, mNotV, mUn, mSlot, mOp2, mTmp, mC, mVar, mMv, mCallP, mCons, mNil, mTup, mLst, mIfS, mNotT, mAndT, mOrT, mTest, mTruth, mSeq, mNext, mRaise, mDrop, mSet, mAsgT, mIf, fIsi, fInS, fEqS, fInt, fIntC, fLen, opd_tmp, opd_slot, data_no, data_val, data_lst, data_dct, Cell.rest, mLc_eq, mFor_eq, mItL, mItT, mItS, mItD, mZip, mRng1, mRng2, mYes, take_one, take_many, setAll_cons, setAll_nil, semB, semN, wipe_nil, wipe_cons, mDisp1, mMv, mDPut, mAppend, fDGet, fDIn, M.keyOf, mSl, mPart, mNoPart, fSlL, fInt1_int, fInt1_bool, fSum_ints, fSum_take, mCall1, fMax2_ints, fMin2_ints, cut_to1, fIxL, mLPut, mCallB, CPow, mPar2, mPar3, fLtS, mCall1M, mGet1, fSortedDk, mTry, handle, cxK, mDnew, mGet2, mCallK, M.pick, semB]
  split at k
  · rename_i q
    rw [q]
    simpa using k _
  · rename_i q
    rw [Bool.eq_false_iff.mpr q]
    simpa using k _
theorem F_is_pair (T : Txt K mg A) : FnOk P w K mg base (L2.CX P w) 2 A.a_is_pair A.fd_is_pair ["thing"] (spM K [] 1 (semB isPair)) := by
  have F_is_sign := F_is_sign (P := P) (w := w) (base := base) T
  have F_is_worn := F_is_worn (P := P) (w := w) (base := base) T
  refine fnB T.f_is_pair sc_is_pair [] (semB isPair) fun cdv B oth s H E hr => ?_
  have hu1 := hu_of hr
  have hu64 := hr.units
  have hu65 := hu65_of hr
  refine ⟨_, (sss_cons (ss_if (SW.st (sw_or (st_not (st_val (se_isi (by rfl) T.n_isinstance (by rfl) T.n_tuple rfl (so_var 0) kit_tuple))) (sw_or1 (st_cmp op_ne os_neS (so_of (se_len (by rfl) T.n_len (so_var 0))) (so_of se_int))))) (sss_one (ss_ret se_bl)) sss_nil) (sss_cons (ss_asgT (se_var 0) (sg_many (sgs_cons 1 sc_is_pair.nd rfl (Or.inl rfl) (sgs_cons 2 sc_is_pair.nd rfl (Or.inl rfl) sgs_nil)) (fun _ p => pg_tup rfl p)) (fun _ _ p q => ps_asg p q)) (sss_one (ss_ret (se_and (se_callP (F_is_sign) (hr.mono (by decide)) (by rfl) T.g_is_sign T.k_is_sign (T.b_is_sign) (takes_of rfl rfl rfl rfl) (sa_cons (se_var 1) sa_nil)) (se_and (se_callP (F_is_worn) (hr.mono (by decide)) (by rfl) T.g_is_worn T.k_is_worn (T.b_is_worn) (takes_of rfl rfl rfl rfl) (sa_cons (se_var 2) sa_nil)) (se_one (se_cmp op_ne os_neS (so_var 1) (so_var 2))))))))), ?_⟩
  intro xk args Kd _ h
  obtain ⟨d, rfl, k⟩ := h
  cases d with
  | tuple ds =>
    by_cases hl : ds.length = 2
    · match ds, hl with
      | [x, y], _ =>
        simp [bodySem, mRet, mAndV, mOrV, mNotV, mUn, mSlot, mOp2, mTmp, mC, mVar, mMv, mCallP, mCons, mNil, mTup, mLst, mIfS, mNotT, mAndT, mOrT, mTest, mTruth, mSeq, mNext, mRaise, mDrop, mSet, mAsgT, mIf, fIsi, fInS, fEqS, fInt, fIntC, fLen, opd_tmp, opd_slot, data_no, data_val, data_lst, data_dct, Cell.rest, mLc_eq, mFor_eq, mItL, mItT, mItS, mItD, mZip, mRng1, mRng2, mYes, take_one, take_many, setAll_cons, setAll_nil, semB, semN, wipe_nil, wipe_cons, mDisp1, mMv, mDPut, mAppend, fDGet, fDIn, M.keyOf, mSl, mPart, mNoPart, fSlL, fInt1_int, fInt1_bool, fSum_ints, fSum_take, mCall1, fMax2_ints, fMin2_ints, cut_to1, fIxL, mLPut, mCallB, CPow, mPar2, mPar3, fLtS, mCall1M, mGet1, fSortedDk, mTry, handle, cxK, mDnew, mGet2, mCallK, M.pick, isTy, isT2, tyD, lenD, eqS_int]
        cases q1 : isIn SGN x with
        | false => simpa [isPair, q1] using k _
        | true =>
          cases q2 : isIn WRN y with
          | false => simpa [isPair, q1, q2] using k _
          | true =>
            obtain ⟨x, rfl, _⟩ := isIn_str q1
            obtain ⟨y, rfl, _⟩ := isIn_str q2
            simp [eqS_str]
            by_cases q3 : x = y
            · simpa [isPair, q1, q2, eqS_str, q3] using k _
            · simpa [isPair, q1, q2, eqS_str, q3] using k _
    · have e : isPair (.tuple ds) = false := by
        unfold isPair
        split
        · rename_i q; cases q; exact absurd rfl hl
        · rfl
      rw [e] at k
      simp [bodySem, mRet, mAndV, mOrV, mNotV, mUn, mSlot, mOp2, mTmp, mC, mVar, mMv, mCallP, mCons, mNil, mTup, mLst, mIfS, mNotT, mAndT, mOrT, mTest, mTruth, mSeq, mNext, mRaise, mDrop, mSet, mAsgT, mIf, fIsi, fInS, fEqS, fInt, fIntC, fLen, opd_tmp, opd_slot, data_no, data_val, data_lst, data_dct, Cell.rest, mLc_eq, mFor_eq, mItL, mItT, mItS, mItD, mZip, mRng1, mRng2, mYes, take_one, take_many, setAll_cons, setAll_nil, semB, semN, wipe_nil, wipe_cons, mDisp1, mMv, mDPut, mAppend, fDGet, fDIn, M.keyOf, mSl, mPart, mNoPart, fSlL, fInt1_int, fInt1_bool, fSum_ints, fSum_take, mCall1, fMax2_ints, fMin2_ints, cut_to1, fIxL, mLPut, mCallB, CPow, mPar2, mPar3, fLtS, mCall1M, mGet1, fSortedDk, mTry, handle, cxK, mDnew, mGet2, mCallK, M.pick, isTy, isT2, tyD, lenD, eqS_int]
      left
      exact ⟨by omega, k _⟩
  | _ =>
    simp [bodySem, mRet, mAndV, mOrV, mNotV, mUn, mSlot, mOp2, mTmp, mC, mVar, mMv, mCallP, mCons, mNil, mTup, mLst, mIfS, mNotT, mAndT, mOrT, mTest, mTruth, mSeq, mNext, mRaise, mDrop, mSet, mAsgT, mIf, fIsi, fInS, fEqS, fInt, fIntC, fLen, opd_tmp, opd_slot, data_no, data_val, data_lst, data_dct, Cell.rest, mLc_eq, mFor_eq, mItL, mItT, mItS, mItD, mZip, mRng1, mRng2, mYes, take_one, take_many, setAll_cons, setAll_nil, semB, semN, wipe_nil, wipe_cons, mDisp1, mMv, mDPut, mAppend, fDGet, fDIn, M.keyOf, mSl, mPart, mNoPart, fSlL, fInt1_int, fInt1_bool, fSum_ints, fSum_take, mCall1, fMax2_ints, fMin2_ints, cut_to1, fIxL, mLPut, mCallB, CPow, mPar2, mPar3, fLtS, mCall1M, mGet1, fSortedDk, mTry, handle, cxK, mDnew, mGet2, mCallK, M.pick, isTy, isT2, tyD]
    simpa [isPair] using k _
theorem F__law_pick (T : Txt K mg A) : FnOk P w K mg base (L2.CX P w) 2 A.a__law_pick A.fd__law_pick ["_law_bag_here", "_law_things"] (spM K [0] 2 semPick) := by
  have F__law_take := F__law_take (P := P) (w := w) (base := base) T
  refine fnB T.f__law_pick sc__law_pick [0] semPick fun cdv B oth s H E hr => ?_
  have hu1 := hu_of hr
  have hu64 := hr.units
  have hu65 := hu65_of hr
  refine ⟨_, (sss_one (ss_ret (se_ix ix_list os_ixL (so_var 1) (so_of (se_callB0 0 (F__law_take) (hr.mono (by decide)) (by rfl) T.g__law_take T.k__law_take (T.b__law_take) (takes_of rfl rfl rfl rfl) (pv 0) (sa_cons (se_len (by rfl) T.n_len (so_var 1)) sa_nil)))))), ?_⟩
  intro xk args Kd _ h
  obtain ⟨bs, c, ds, rfl, hb, hc, hm, hm2, kk⟩ := h
  simp [bodySem, mRet, mAndV, mOrV, mNotV, mUn, mSlot, mOp2, mTmp, mC, mVar, mMv, mCallP, mCons, mNil, mTup, mLst, mIfS, mNotT, mAndT, mOrT, mTest, mTruth, mSeq, mNext, mRaise, mDrop, mSet, mAsgT, mIf, fIsi, fInS, fEqS, fInt, fIntC, fLen, opd_tmp, opd_slot, data_no, data_val, data_lst, data_dct, Cell.rest, mLc_eq, mFor_eq, mItL, mItT, mItS, mItD, mZip, mRng1, mRng2, mYes, take_one, take_many, setAll_cons, setAll_nil, semB, semN, wipe_nil, wipe_cons, mDisp1, mMv, mDPut, mAppend, fDGet, fDIn, M.keyOf, mSl, mPart, mNoPart, fSlL, fInt1_int, fInt1_bool, fSum_ints, fSum_take, mCall1, fMax2_ints, fMin2_ints, cut_to1, fIxL, mLPut, mCallB, CPow, mPar2, mPar3, fLtS, mCall1M, mGet1, fSortedDk, mTry, handle, cxK, mDnew, mGet2, mCallK, M.pick, lenD, semTake]
  refine ⟨_, c, _, ⟨rfl, rfl⟩, hb, by omega, by omega, by omega, fun bs' v hb' h0 hv => ?_⟩
  obtain ⟨d, e1, _, e3⟩ := atI_in h0 hv
  exact ⟨d, e1, kk bs' d hb' e3⟩
theorem F_is_wear (T : Txt K mg A) : FnOk P w K mg base (L2.CX P w) 3 A.a_is_wear A.fd_is_wear ["thing"] (spM K [] 1 (semB isWear)) := by
  have F_is_pair := F_is_pair (P := P) (w := w) (base := base) T
  refine fnB T.f_is_wear sc_is_wear [] (semB isWear) fun cdv B oth s H E hr => ?_
  have hu1 := hu_of hr
  have hu64 := hr.units
  have hu65 := hu65_of hr
  refine ⟨_, (sss_cons (ss_if (SW.st (sw_or (st_not (st_val (se_isi (by rfl) T.n_isinstance (by rfl) T.n_tuple rfl (so_var 0) kit_tuple))) (sw_or1 (st_cmp op_gt os_gt (so_of (se_len (by rfl) T.n_len (so_var 0))) (so_of (se_glob (by rfl) T.g_MOST_PAIRS T.r_MOST_PAIRS T.d_MOST_PAIRS)))))) (sss_one (ss_ret se_bl)) sss_nil) (sss_cons (ss_if (st_not (st_val (se_unB (cr_all rfl) cs_all (by rfl) T.n_all rfl (so_of (se_lc rfl sc_is_wear.nd (si_tup (se_var 0)) (blkOk_by (own := [("pair", 1)]) (N := ["thing", "pair", "one", "other"]) (sc := defScope s_is_wear) (by decide +kernel)) (fun _ _ _ _ _ => (sg_one 1 sc_is_wear.nd rfl (Or.inl rfl))) (fun _ _ _ _ _ => sts_nil) (fun _ _ _ _ _ => (se_callP (F_is_pair) (hr.mono (by decide)) (by rfl) T.g_is_pair T.k_is_pair (T.b_is_pair) takes0 (sa_cons (se_var 1) sa_nil))) (fun _ _ _ _ a b c d => pe_lc rfl sc_is_wear.nd a (blkOk_by (own := [("pair", 1)]) (N := ["thing", "pair", "one", "other"]) (sc := defScope s_is_wear) (by decide +kernel)) b c d)))))) (sss_one (ss_ret se_bl)) sss_nil) (sss_one (ss_ret (se_unB (cr_all rfl) cs_all (by rfl) T.n_all rfl (so_of (se_lc rfl sc_is_wear.nd (si_zip (by rfl) T.n_zip (sa_cons (se_var 0) (sa_cons (se_sl sl_tupA ss_slT (so_var 0) (sp_some se_int) sp_none) sa_nil))) (blkOk_by (own := [("one", 2), ("other", 3)]) (N := ["thing", "pair", "one", "other"]) (sc := defScope s_is_wear) (by decide +kernel)) (fun _ _ _ _ _ => (sg_many (sgs_cons 2 sc_is_wear.nd rfl (Or.inl rfl) (sgs_cons 3 sc_is_wear.nd rfl (Or.inl rfl) sgs_nil)) (fun _ p => pg_tup rfl p))) (fun _ _ _ _ _ => sts_nil) (fun _ _ _ _ _ => (se_cmp (op_ltDt hu65) os_ltD (so_var 2) (so_var 3))) (fun _ _ _ _ a b c d => pe_lc rfl sc_is_wear.nd a (blkOk_by (own := [("one", 2), ("other", 3)]) (N := ["thing", "pair", "one", "other"]) (sc := defScope s_is_wear) (by decide +kernel)) b c d)))))))), ?_⟩
  intro xk args Kd _ h
  obtain ⟨d, rfl, k⟩ := h
  cases d with
  | tuple ds =>
    simp only [isWear] at k
    simp [bodySem, mRet, mAndV, mOrV, mNotV, mUn, mSlot, mOp2, mTmp, mC, mVar, mMv, mCallP, mCons, mNil, mTup, mLst, mIfS, mNotT, mAndT, mOrT, mTest, mTruth, mSeq, mNext, mRaise, mDrop, mSet, mAsgT, mIf, fIsi, fInS, fEqS, fInt, fIntC, fLen, opd_tmp, opd_slot, data_no, data_val, data_lst, data_dct, Cell.rest, mLc_eq, mFor_eq, mItL, mItT, mItS, mItD, mZip, mRng1, mRng2, mYes, take_one, take_many, setAll_cons, setAll_nil, semB, semN, wipe_nil, wipe_cons, mDisp1, mMv, mDPut, mAppend, fDGet, fDIn, M.keyOf, mSl, mPart, mNoPart, fSlL, fInt1_int, fInt1_bool, fSum_ints, fSum_take, mCall1, fMax2_ints, fMin2_ints, cut_to1, fIxL, mLPut, mCallB, CPow, mPar2, mPar3, fLtS, mCall1M, mGet1, fSortedDk, mTry, handle, cxK, mDnew, mGet2, mCallK, M.pick, isTy, isT2, tyD, lenD]
    split
    · rename_i q
      have : ¬ ds.length ≤ 20 := by omega
      simpa [this] using k _
    · rename_i q
      have hl : ds.length ≤ 20 := by omega
      simp [hl] at k
      refine lc_map (fun d => .bool (isPair d)) (small_line (by omega)) (fun d hd acc N h1 h2 => ?_) ?_
      · simp [bodySem, mRet, mAndV, mOrV, mNotV, mUn, mSlot, mOp2, mTmp, mC, mVar, mMv, mCallP, mCons, mNil, mTup, mLst, mIfS, mNotT, mAndT, mOrT, mTest, mTruth, mSeq, mNext, mRaise, mDrop, mSet, mAsgT, mIf, fIsi, fInS, fEqS, fInt, fIntC, fLen, opd_tmp, opd_slot, data_no, data_val, data_lst, data_dct, Cell.rest, mLc_eq, mFor_eq, mItL, mItT, mItS, mItD, mZip, mRng1, mRng2, mYes, take_one, take_many, setAll_cons, setAll_nil, semB, semN, wipe_nil, wipe_cons, mDisp1, mMv, mDPut, mAppend, fDGet, fDIn, M.keyOf, mSl, mPart, mNoPart, fSlL, fInt1_int, fInt1_bool, fSum_ints, fSum_take, mCall1, fMax2_ints, fMin2_ints, cut_to1, fIxL, mLPut, mCallB, CPow, mPar2, mPar3, fLtS, mCall1M, mGet1, fSortedDk, mTry, handle, cxK, mDnew, mGet2, mCallK, M.pick]
        exact ⟨h1, by simpa [bodySem, mRet, mAndV, mOrV, mNotV, mUn, mSlot, mOp2, mTmp, mC, mVar, mMv, mCallP, mCons, mNil, mTup, mLst, mIfS, mNotT, mAndT, mOrT, mTest, mTruth, mSeq, mNext, mRaise, mDrop, mSet, mAsgT, mIf, fIsi, fInS, fEqS, fInt, fIntC, fLen, opd_tmp, opd_slot, data_no, data_val, data_lst, data_dct, Cell.rest, mLc_eq, mFor_eq, mItL, mItT, mItS, mItD, mZip, mRng1, mRng2, mYes, take_one, take_many, setAll_cons, setAll_nil, semB, semN, wipe_nil, wipe_cons, mDisp1, mMv, mDPut, mAppend, fDGet, fDIn, M.keyOf, mSl, mPart, mNoPart, fSlL, fInt1_int, fInt1_bool, fSum_ints, fSum_take, mCall1, fMax2_ints, fMin2_ints, cut_to1, fIxL, mLPut, mCallB, CPow, mPar2, mPar3, fLtS, mCall1M, mGet1, fSortedDk, mTry, handle, cxK, mDnew, mGet2, mCallK, M.pick] using h2⟩
      · simp [bodySem, mRet, mAndV, mOrV, mNotV, mUn, mSlot, mOp2, mTmp, mC, mVar, mMv, mCallP, mCons, mNil, mTup, mLst, mIfS, mNotT, mAndT, mOrT, mTest, mTruth, mSeq, mNext, mRaise, mDrop, mSet, mAsgT, mIf, fIsi, fInS, fEqS, fInt, fIntC, fLen, opd_tmp, opd_slot, data_no, data_val, data_lst, data_dct, Cell.rest, mLc_eq, mFor_eq, mItL, mItT, mItS, mItD, mZip, mRng1, mRng2, mYes, take_one, take_many, setAll_cons, setAll_nil, semB, semN, wipe_nil, wipe_cons, mDisp1, mMv, mDPut, mAppend, fDGet, fDIn, M.keyOf, mSl, mPart, mNoPart, fSlL, fInt1_int, fInt1_bool, fSum_ints, fSum_take, mCall1, fMax2_ints, fMin2_ints, cut_to1, fIxL, mLPut, mCallB, CPow, mPar2, mPar3, fLtS, mCall1M, mGet1, fSortedDk, mTry, handle, cxK, mDnew, mGet2, mCallK, M.pick]
        refine fAll_map ?_
        cases q1 : ds.all isPair with
        | false =>
          rw [q1] at k
          simpa [bodySem, mRet, mAndV, mOrV, mNotV, mUn, mSlot, mOp2, mTmp, mC, mVar, mMv, mCallP, mCons, mNil, mTup, mLst, mIfS, mNotT, mAndT, mOrT, mTest, mTruth, mSeq, mNext, mRaise, mDrop, mSet, mAsgT, mIf, fIsi, fInS, fEqS, fInt, fIntC, fLen, opd_tmp, opd_slot, data_no, data_val, data_lst, data_dct, Cell.rest, mLc_eq, mFor_eq, mItL, mItT, mItS, mItD, mZip, mRng1, mRng2, mYes, take_one, take_many, setAll_cons, setAll_nil, semB, semN, wipe_nil, wipe_cons, mDisp1, mMv, mDPut, mAppend, fDGet, fDIn, M.keyOf, mSl, mPart, mNoPart, fSlL, fInt1_int, fInt1_bool, fSum_ints, fSum_take, mCall1, fMax2_ints, fMin2_ints, cut_to1, fIxL, mLPut, mCallB, CPow, mPar2, mPar3, fLtS, mCall1M, mGet1, fSortedDk, mTry, handle, cxK, mDnew, mGet2, mCallK, M.pick] using k _
        | true =>
          rw [q1] at k
          have hp := List.all_eq_true.mp q1
          simp [bodySem, mRet, mAndV, mOrV, mNotV, mUn, mSlot, mOp2, mTmp, mC, mVar, mMv, mCallP, mCons, mNil, mTup, mLst, mIfS, mNotT, mAndT, mOrT, mTest, mTruth, mSeq, mNext, mRaise, mDrop, mSet, mAsgT, mIf, fIsi, fInS, fEqS, fInt, fIntC, fLen, opd_tmp, opd_slot, data_no, data_val, data_lst, data_dct, Cell.rest, mLc_eq, mFor_eq, mItL, mItT, mItS, mItD, mZip, mRng1, mRng2, mYes, take_one, take_many, setAll_cons, setAll_nil, semB, semN, wipe_nil, wipe_cons, mDisp1, mMv, mDPut, mAppend, fDGet, fDIn, M.keyOf, mSl, mPart, mNoPart, fSlL, fInt1_int, fInt1_bool, fSum_ints, fSum_take, mCall1, fMax2_ints, fMin2_ints, cut_to1, fIxL, mLPut, mCallB, CPow, mPar2, mPar3, fLtS, mCall1M, mGet1, fSortedDk, mTry, handle, cxK, mDnew, mGet2, mCallK, M.pick, mSl, mPart, mNoPart, fSlT, cut1]
          refine ⟨ds, ds.tail, ⟨rfl, rfl⟩, ?_⟩
          refine lc_map (fun d => .bool (pairLt d)) (small_line (Nat.le_trans (zip_len _ _) (by omega))) (fun d hd acc N h1 h2 => ?_) ?_
          · obtain ⟨x, y, rfl, hx, hy⟩ := zip_mem hd
            simp [bodySem, mRet, mAndV, mOrV, mNotV, mUn, mSlot, mOp2, mTmp, mC, mVar, mMv, mCallP, mCons, mNil, mTup, mLst, mIfS, mNotT, mAndT, mOrT, mTest, mTruth, mSeq, mNext, mRaise, mDrop, mSet, mAsgT, mIf, fIsi, fInS, fEqS, fInt, fIntC, fLen, opd_tmp, opd_slot, data_no, data_val, data_lst, data_dct, Cell.rest, mLc_eq, mFor_eq, mItL, mItT, mItS, mItD, mZip, mRng1, mRng2, mYes, take_one, take_many, setAll_cons, setAll_nil, semB, semN, wipe_nil, wipe_cons, mDisp1, mMv, mDPut, mAppend, fDGet, fDIn, M.keyOf, mSl, mPart, mNoPart, fSlL, fInt1_int, fInt1_bool, fSum_ints, fSum_take, mCall1, fMax2_ints, fMin2_ints, cut_to1, fIxL, mLPut, mCallB, CPow, mPar2, mPar3, fLtS, mCall1M, mGet1, fSortedDk, mTry, handle, cxK, mDnew, mGet2, mCallK, M.pick]
            exact pair_lt (hp x hx) (hp y (List.mem_of_mem_tail hy)) _ ⟨_, rfl, h1, by simpa [bodySem, mRet, mAndV, mOrV, mNotV, mUn, mSlot, mOp2, mTmp, mC, mVar, mMv, mCallP, mCons, mNil, mTup, mLst, mIfS, mNotT, mAndT, mOrT, mTest, mTruth, mSeq, mNext, mRaise, mDrop, mSet, mAsgT, mIf, fIsi, fInS, fEqS, fInt, fIntC, fLen, opd_tmp, opd_slot, data_no, data_val, data_lst, data_dct, Cell.rest, mLc_eq, mFor_eq, mItL, mItT, mItS, mItD, mZip, mRng1, mRng2, mYes, take_one, take_many, setAll_cons, setAll_nil, semB, semN, wipe_nil, wipe_cons, mDisp1, mMv, mDPut, mAppend, fDGet, fDIn, M.keyOf, mSl, mPart, mNoPart, fSlL, fInt1_int, fInt1_bool, fSum_ints, fSum_take, mCall1, fMax2_ints, fMin2_ints, cut_to1, fIxL, mLPut, mCallB, CPow, mPar2, mPar3, fLtS, mCall1M, mGet1, fSortedDk, mTry, handle, cxK, mDnew, mGet2, mCallK, M.pick, pairLt] using h2⟩
          · simp [bodySem, mRet, mAndV, mOrV, mNotV, mUn, mSlot, mOp2, mTmp, mC, mVar, mMv, mCallP, mCons, mNil, mTup, mLst, mIfS, mNotT, mAndT, mOrT, mTest, mTruth, mSeq, mNext, mRaise, mDrop, mSet, mAsgT, mIf, fIsi, fInS, fEqS, fInt, fIntC, fLen, opd_tmp, opd_slot, data_no, data_val, data_lst, data_dct, Cell.rest, mLc_eq, mFor_eq, mItL, mItT, mItS, mItD, mZip, mRng1, mRng2, mYes, take_one, take_many, setAll_cons, setAll_nil, semB, semN, wipe_nil, wipe_cons, mDisp1, mMv, mDPut, mAppend, fDGet, fDIn, M.keyOf, mSl, mPart, mNoPart, fSlL, fInt1_int, fInt1_bool, fSum_ints, fSum_take, mCall1, fMax2_ints, fMin2_ints, cut_to1, fIxL, mLPut, mCallB, CPow, mPar2, mPar3, fLtS, mCall1M, mGet1, fSortedDk, mTry, handle, cxK, mDnew, mGet2, mCallK, M.pick]
            refine fAll_map ?_
            have e := zip_up ds
            rw [List.drop_one] at e
            rw [e]
            simpa using k _
  | _ =>
    simp [bodySem, mRet, mAndV, mOrV, mNotV, mUn, mSlot, mOp2, mTmp, mC, mVar, mMv, mCallP, mCons, mNil, mTup, mLst, mIfS, mNotT, mAndT, mOrT, mTest, mTruth, mSeq, mNext, mRaise, mDrop, mSet, mAsgT, mIf, fIsi, fInS, fEqS, fInt, fIntC, fLen, opd_tmp, opd_slot, data_no, data_val, data_lst, data_dct, Cell.rest, mLc_eq, mFor_eq, mItL, mItT, mItS, mItD, mZip, mRng1, mRng2, mYes, take_one, take_many, setAll_cons, setAll_nil, semB, semN, wipe_nil, wipe_cons, mDisp1, mMv, mDPut, mAppend, fDGet, fDIn, M.keyOf, mSl, mPart, mNoPart, fSlL, fInt1_int, fInt1_bool, fSum_ints, fSum_take, mCall1, fMax2_ints, fMin2_ints, cut_to1, fIxL, mLPut, mCallB, CPow, mPar2, mPar3, fLtS, mCall1M, mGet1, fSortedDk, mTry, handle, cxK, mDnew, mGet2, mCallK, M.pick, isTy, isT2, tyD]
    simpa [isWear] using k _
theorem F__law_wear (T : Txt K mg A) : FnOk P w K mg base (L2.CX P w) 3 A.a__law_wear A.fd__law_wear ["_law_bag_here"] (spM K [0] 1 semWear) := by
  have F__law_take := F__law_take (P := P) (w := w) (base := base) T
  have F__law_pick := F__law_pick (P := P) (w := w) (base := base) T
  refine fnB T.f__law_wear sc__law_wear [0] semWear fun cdv B oth s H E hr => ?_
  have hu1 := hu_of hr
  have hu64 := hr.units
  have hu65 := hu65_of hr
  refine ⟨_, (sss_cons (ss_par3 3 4 5 (se_callB0 0 (F__law_take) (hr.mono (by decide)) (by rfl) T.g__law_take T.k__law_take (T.b__law_take) (takes_of rfl rfl rfl rfl) (pv 0) (sa_cons se_int sa_nil)) (se_lst sa_nil) (se_callB0 0 (F__law_take) (hr.mono (by decide)) (by rfl) T.g__law_take T.k__law_take (T.b__law_take) (takes_of rfl rfl rfl rfl) (pv 0) (sa_cons se_int sa_nil)) (by decide) (by decide) (by decide) (fun _ _ _ p0 p1 p2 => ps_par3 rfl sc__law_wear.nd rfl rfl rfl (by decide) (by decide) (by decide) rfl rfl rfl (pa_cons p0 (pa_cons p1 (pa_cons p2 pa_nil))) rfl)) (sss_cons (ss_set 1 sc__law_wear.nd rfl (Or.inl rfl) (se_sl sl_list ss_slL (so_of (se_lst (sa_cons se_str (sa_cons se_str (sa_cons se_str (sa_cons se_str (sa_cons se_str (sa_cons se_str sa_nil)))))))) (sp_some (se_callB0 0 (F__law_take) (hr.mono (by decide)) (by rfl) T.g__law_take T.k__law_take (T.b__law_take) (takes_of rfl rfl rfl rfl) (pv 0) (sa_cons se_int sa_nil))) (sp_some (se_bin op_add os_add (so_of se_int) (so_of (se_callB0 0 (F__law_take) (hr.mono (by decide)) (by rfl) T.g__law_take T.k__law_take (T.b__law_take) (takes_of rfl rfl rfl rfl) (pv 0) (sa_cons se_int sa_nil))))))) (sss_cons (ss_for (si_rng1 (by rfl) T.n_range (sa_cons (se_if (st_cmp op_gt os_gt (so_var 3) (so_of se_int)) (se_bin op_add os_add (so_of se_int) (so_of (se_callB0 0 (F__law_take) (hr.mono (by decide)) (by rfl) T.g__law_take T.k__law_take (T.b__law_take) (takes_of rfl rfl rfl rfl) (pv 0) (sa_cons se_int sa_nil)))) (se_bin op_add os_add (so_of se_int) (so_of (se_callB0 0 (F__law_take) (hr.mono (by decide)) (by rfl) T.g__law_take T.k__law_take (T.b__law_take) (takes_of rfl rfl rfl rfl) (pv 0) (sa_cons se_int sa_nil))))) sa_nil)) (sg_one 2 sc__law_wear.nd rfl (Or.inl rfl)) (sss_cons (ss_set 6 sc__law_wear.nd rfl (Or.inl rfl) (se_if (st_cmp op_eq os_eqS (so_var 3) (so_of se_int)) (se_unTy (cr_listS rfl) cs_listS (by rfl) T.n_list rfl (so_of se_str)) (se_var 1))) (sss_cons (ss_set 7 sc__law_wear.nd rfl (Or.inr rfl) (se_callB0 0 (F__law_pick) (hr.mono (by decide)) (by rfl) T.g__law_pick T.k__law_pick (T.b__law_pick) (takes_of rfl rfl rfl rfl) (pv 0) (sa_cons (se_var 6) sa_nil))) (sss_cons (ss_set 6 sc__law_wear.nd rfl (Or.inl rfl) (se_bin op_catS os_cat (so_var 6) (so_of (se_repL (se_lst (sa_cons se_str sa_nil)) (se_unTy call_int1 cs_int (by rfl) T.n_int rfl (so_of (se_or (se_cmp op_gt os_gt (so_var 3) (so_of se_int)) (se_one (se_and (se_cmp op_eq os_eqS (so_var 3) (so_of se_int)) (se_one (se_cmp op_eq os_eqS (so_var 5) (so_of se_int)))))))))))) (sss_cons (ss_if (st_cmp op_eq os_eqS (so_var 3) (so_of se_int)) (sss_one (ss_setLc 6 (si_list (se_var 1)) (fun _ _ _ _ _ => (sg_one 9 sc__law_wear.nd rfl (Or.inl rfl))) (fun _ _ _ _ _ => (sts_one (st_cmp op_eq os_eqS (so_of (se_cmp op_lt_str os_ltS (so_var 9) (so_of se_str))) (so_of (se_cmp op_lt_str os_ltS (so_var 7) (so_of se_str)))))) (fun _ _ _ _ _ => (se_var 9)) (fun _ _ _ _ a b c d => ps_setLc (i := 6) rfl sc__law_wear.nd rfl rfl (sw_true rfl rfl rfl (by decide +kernel)) a (blkOk_by (own := [("_law_sign", 9)]) (N := ["_law_bag_here", "_law_signs", "_law_turn", "_law_way", "_law_found", "_law_dots", "_law_pool", "_law_one", "_law_other", "_law_sign"]) (sc := defScope s__law_wear) (by decide +kernel)) b c d))) sss_nil) (sss_cons (ss_set 8 sc__law_wear.nd rfl (Or.inl rfl) (se_callB0 0 (F__law_pick) (hr.mono (by decide)) (by rfl) T.g__law_pick T.k__law_pick (T.b__law_pick) (takes_of rfl rfl rfl rfl) (pv 0) (sa_cons (se_var 6) sa_nil))) (sss_cons (ss_if (st_cmp op_in_seq (os_inS false) (so_var 3) (so_of (se_tup (sa_cons se_int (sa_cons se_int sa_nil))))) (sss_cons (ss_set 6 sc__law_wear.nd rfl (Or.inl rfl) (se_bin op_catS os_cat (so_var 1) (so_of (se_lst (sa_cons se_str (sa_cons (se_ix ix_list os_ixL (so_var 1) (so_of se_int)) sa_nil)))))) (sss_one (ss_set 8 sc__law_wear.nd rfl (Or.inl rfl) (se_ix ix_list os_ixL (so_var 6) (so_of (se_bin op_add os_add (so_of (se_bin op_add os_add (so_of (se_index 1 (pv 1) (se_var 7) (fun _ p => pe_bm PySem.F.plainAttrs_list PySem.F.slot_list_index PySem.F.type_list_index mt_index (pv 1) (pa_cons p pa_nil)))) (so_of se_int))) (so_of (se_unTy call_int1 cs_int (by rfl) T.n_int rfl (so_of (se_and (se_cmp op_eq os_eqS (so_var 3) (so_of se_int)) (se_one (se_cmp op_eq os_eqS (so_var 7) (so_of (se_ix ix_list os_ixL (so_var 1) (so_of se_neg))))))))))))))) sss_nil) (sss_one (ss_if (SW.st (sw_and (st_cmp op_ne os_neS (so_var 7) (so_var 8)) (sw_and (st_cmp (op_niT hu65) (os_inD true) (so_of (se_tup (sa_cons (se_var 7) (sa_cons (se_var 8) sa_nil)))) (so_var 4)) (sw_and1 (st_cmp op_lt os_lt (so_of (se_len (by rfl) T.n_len (so_var 4))) (so_of se_int)))))) (sss_one (ss_append 4 (pv 4) (se_tup (sa_cons (se_var 7) (sa_cons (se_var 8) sa_nil))) (fun _ p => ps_expr (pe_bm PySem.F.plainAttrs_list PySem.F.slot_list_append PySem.F.type_list_append mt_append (pv 4) (pa_cons p pa_nil))))) sss_nil)))))))) (fun _ _ _ a b c => ps_for (passes_of rfl) rfl a b c)) (sss_one (ss_ret (se_unTy call_tuple_of cs_tuple (by rfl) T.n_tuple rfl (so_of (se_unB (cr_sortedDt hu65) cs_sorted (by rfl) T.n_sorted rfl (so_var 4))))))))), ?_⟩
  intro xk args Kd _ h
  obtain ⟨bs, c, rfl, hb, hc, kk⟩ := h
  simp [bodySem, mRet, mAndV, mOrV, mNotV, mUn, mSlot, mOp2, mTmp, mC, mVar, mMv, mCallP, mCons, mNil, mTup, mLst, mIfS, mNotT, mAndT, mOrT, mTest, mTruth, mSeq, mNext, mRaise, mDrop, mSet, mAsgT, mIf, fIsi, fInS, fEqS, fInt, fIntC, fLen, opd_tmp, opd_slot, data_no, data_val, data_lst, data_dct, Cell.rest, mLc_eq, mFor_eq, mItL, mItT, mItS, mItD, mZip, mRng1, mRng2, mYes, take_one, take_many, setAll_cons, setAll_nil, semB, semN, wipe_nil, wipe_cons, mDisp1, mMv, mDPut, mAppend, fDGet, fDIn, M.keyOf, mSl, mPart, mNoPart, fSlL, fInt1_int, fInt1_bool, fSum_ints, fSum_take, mCall1, fMax2_ints, fMin2_ints, cut_to1, fIxL, mLPut, mCallB, CPow, mPar2, mPar3, fLtS, mCall1M, mGet1, fSortedDk, mTry, handle, cxK, mDnew, mGet2, mCallK, M.pick]
  refine take_ok hb (by omega) (by omega) (by omega) fun b1 way hb1 w0 w1 => ?_
  simp [bodySem, mRet, mAndV, mOrV, mNotV, mUn, mSlot, mOp2, mTmp, mC, mVar, mMv, mCallP, mCons, mNil, mTup, mLst, mIfS, mNotT, mAndT, mOrT, mTest, mTruth, mSeq, mNext, mRaise, mDrop, mSet, mAsgT, mIf, fIsi, fInS, fEqS, fInt, fIntC, fLen, opd_tmp, opd_slot, data_no, data_val, data_lst, data_dct, Cell.rest, mLc_eq, mFor_eq, mItL, mItT, mItS, mItD, mZip, mRng1, mRng2, mYes, take_one, take_many, setAll_cons, setAll_nil, semB, semN, wipe_nil, wipe_cons, mDisp1, mMv, mDPut, mAppend, fDGet, fDIn, M.keyOf, mSl, mPart, mNoPart, fSlL, fInt1_int, fInt1_bool, fSum_ints, fSum_take, mCall1, fMax2_ints, fMin2_ints, cut_to1, fIxL, mLPut, mCallB, CPow, mPar2, mPar3, fLtS, mCall1M, mGet1, fSortedDk, mTry, handle, cxK, mDnew, mGet2, mCallK, M.pick]
  refine take_ok hb1 (by omega) (by omega) (by omega) fun b2 dots hb2 d0 d1 => ?_
  simp [bodySem, mRet, mAndV, mOrV, mNotV, mUn, mSlot, mOp2, mTmp, mC, mVar, mMv, mCallP, mCons, mNil, mTup, mLst, mIfS, mNotT, mAndT, mOrT, mTest, mTruth, mSeq, mNext, mRaise, mDrop, mSet, mAsgT, mIf, fIsi, fInS, fEqS, fInt, fIntC, fLen, opd_tmp, opd_slot, data_no, data_val, data_lst, data_dct, Cell.rest, mLc_eq, mFor_eq, mItL, mItT, mItS, mItD, mZip, mRng1, mRng2, mYes, take_one, take_many, setAll_cons, setAll_nil, semB, semN, wipe_nil, wipe_cons, mDisp1, mMv, mDPut, mAppend, fDGet, fDIn, M.keyOf, mSl, mPart, mNoPart, fSlL, fInt1_int, fInt1_bool, fSum_ints, fSum_take, mCall1, fMax2_ints, fMin2_ints, cut_to1, fIxL, mLPut, mCallB, CPow, mPar2, mPar3, fLtS, mCall1M, mGet1, fSortedDk, mTry, handle, cxK, mDnew, mGet2, mCallK, M.pick]
  refine ⟨by decide, ?_⟩
  refine take_ok hb2 (by omega) (by omega) (by omega) fun b3 lo hb3 lo0 lo1 => ?_
  simp [bodySem, mRet, mAndV, mOrV, mNotV, mUn, mSlot, mOp2, mTmp, mC, mVar, mMv, mCallP, mCons, mNil, mTup, mLst, mIfS, mNotT, mAndT, mOrT, mTest, mTruth, mSeq, mNext, mRaise, mDrop, mSet, mAsgT, mIf, fIsi, fInS, fEqS, fInt, fIntC, fLen, opd_tmp, opd_slot, data_no, data_val, data_lst, data_dct, Cell.rest, mLc_eq, mFor_eq, mItL, mItT, mItS, mItD, mZip, mRng1, mRng2, mYes, take_one, take_many, setAll_cons, setAll_nil, semB, semN, wipe_nil, wipe_cons, mDisp1, mMv, mDPut, mAppend, fDGet, fDIn, M.keyOf, mSl, mPart, mNoPart, fSlL, fInt1_int, fInt1_bool, fSum_ints, fSum_take, mCall1, fMax2_ints, fMin2_ints, cut_to1, fIxL, mLPut, mCallB, CPow, mPar2, mPar3, fLtS, mCall1M, mGet1, fSortedDk, mTry, handle, cxK, mDnew, mGet2, mCallK, M.pick]
  refine take_ok hb3 (by omega) (by omega) (by omega) fun b4 hi hb4 hi0 hi1 => ?_
  obtain ⟨sg, esg, hsg, hne, hl⟩ := sig_ok lo0 lo1 hi0 hi1
  simp [bodySem, mRet, mAndV, mOrV, mNotV, mUn, mSlot, mOp2, mTmp, mC, mVar, mMv, mCallP, mCons, mNil, mTup, mLst, mIfS, mNotT, mAndT, mOrT, mTest, mTruth, mSeq, mNext, mRaise, mDrop, mSet, mAsgT, mIf, fIsi, fInS, fEqS, fInt, fIntC, fLen, opd_tmp, opd_slot, data_no, data_val, data_lst, data_dct, Cell.rest, mLc_eq, mFor_eq, mItL, mItT, mItS, mItD, mZip, mRng1, mRng2, mYes, take_one, take_many, setAll_cons, setAll_nil, semB, semN, wipe_nil, wipe_cons, mDisp1, mMv, mDPut, mAppend, fDGet, fDIn, M.keyOf, mSl, mPart, mNoPart, fSlL, fInt1_int, fInt1_bool, fSum_ints, fSum_take, mCall1, fMax2_ints, fMin2_ints, cut_to1, fIxL, mLPut, mCallB, CPow, mPar2, mPar3, fLtS, mCall1M, mGet1, fSortedDk, mTry, handle, cxK, mDnew, mGet2, mCallK, M.pick, esg]
  have last : ∀ fs : Wr, Prs fs → ∀ bs' S c2 c6 c7 c8 c9, BagAt (c + 99) bs' → mRet (mUn fTuple (mTmp (mUn fSorted (mSlot 4)))) (fun cls pl env => xk cls pl (clear [0] 1 env))
      { nx := fun env => Kd (.val .none) (clear [0] 1 env), rt := fun c env => Kd c (clear [0] 1 env) } [.lst bs', S, c2, .val (.int way), .lst (fs.map wrPair), .val (.int dots), c6, c7, c8, c9] := fun fs hP bs' S c2 c6 c7 c8 c9 hb' => by
    simp [bodySem, mRet, mAndV, mOrV, mNotV, mUn, mSlot, mOp2, mTmp, mC, mVar, mMv, mCallP, mCons, mNil, mTup, mLst, mIfS, mNotT, mAndT, mOrT, mTest, mTruth, mSeq, mNext, mRaise, mDrop, mSet, mAsgT, mIf, fIsi, fInS, fEqS, fInt, fIntC, fLen, opd_tmp, opd_slot, data_no, data_val, data_lst, data_dct, Cell.rest, mLc_eq, mFor_eq, mItL, mItT, mItS, mItD, mZip, mRng1, mRng2, mYes, take_one, take_many, setAll_cons, setAll_nil, semB, semN, wipe_nil, wipe_cons, mDisp1, mMv, mDPut, mAppend, fDGet, fDIn, M.keyOf, mSl, mPart, mNoPart, fSlL, fInt1_int, fInt1_bool, fSum_ints, fSum_take, mCall1, fMax2_ints, fMin2_ints, cut_to1, fIxL, mLPut, mCallB, CPow, mPar2, mPar3, fLtS, mCall1M, mGet1, fSortedDk, mTry, handle, cxK, mDnew, mGet2, mCallK, M.pick]
    refine fSorted_ok hP fun gs _ w => ?_
    simp [bodySem, mRet, mAndV, mOrV, mNotV, mUn, mSlot, mOp2, mTmp, mC, mVar, mMv, mCallP, mCons, mNil, mTup, mLst, mIfS, mNotT, mAndT, mOrT, mTest, mTruth, mSeq, mNext, mRaise, mDrop, mSet, mAsgT, mIf, fIsi, fInS, fEqS, fInt, fIntC, fLen, opd_tmp, opd_slot, data_no, data_val, data_lst, data_dct, Cell.rest, mLc_eq, mFor_eq, mItL, mItT, mItS, mItD, mZip, mRng1, mRng2, mYes, take_one, take_many, setAll_cons, setAll_nil, semB, semN, wipe_nil, wipe_cons, mDisp1, mMv, mDPut, mAppend, fDGet, fDIn, M.keyOf, mSl, mPart, mNoPart, fSlL, fInt1_int, fInt1_bool, fSum_ints, fSum_take, mCall1, fMax2_ints, fMin2_ints, cut_to1, fIxL, mLPut, mCallB, CPow, mPar2, mPar3, fLtS, mCall1M, mGet1, fSortedDk, mTry, handle, cxK, mDnew, mGet2, mCallK, M.pick, fTuple]
    exact kk bs' gs (hb'.mono (by omega)) w
  split
  · refine take_ok hb4 (by omega) (by omega) (by omega) fun b5 n hb5 n0 n1 => ?_
    simp [bodySem, mRet, mAndV, mOrV, mNotV, mUn, mSlot, mOp2, mTmp, mC, mVar, mMv, mCallP, mCons, mNil, mTup, mLst, mIfS, mNotT, mAndT, mOrT, mTest, mTruth, mSeq, mNext, mRaise, mDrop, mSet, mAsgT, mIf, fIsi, fInS, fEqS, fInt, fIntC, fLen, opd_tmp, opd_slot, data_no, data_val, data_lst, data_dct, Cell.rest, mLc_eq, mFor_eq, mItL, mItT, mItS, mItD, mZip, mRng1, mRng2, mYes, take_one, take_many, setAll_cons, setAll_nil, semB, semN, wipe_nil, wipe_cons, mDisp1, mMv, mDPut, mAppend, fDGet, fDIn, M.keyOf, mSl, mPart, mNoPart, fSlL, fInt1_int, fInt1_bool, fSum_ints, fSum_take, mCall1, fMax2_ints, fMin2_ints, cut_to1, fIxL, mLPut, mCallB, CPow, mPar2, mPar3, fLtS, mCall1M, mGet1, fSortedDk, mTry, handle, cxK, mDnew, mGet2, mCallK, M.pick]
    refine ⟨by omega, by omega, ?_⟩
    exact wear_loop hb5 (by omega) w0 w1 d0 d1 hsg hne hl (by omega) fun bs' S c2 c6 c7 c8 c9 fs hb' hP => last fs hP bs' S c2 c6 c7 c8 c9 (hb'.mono (by omega))
  · refine take_ok hb4 (by omega) (by omega) (by omega) fun b5 n hb5 n0 n1 => ?_
    simp [bodySem, mRet, mAndV, mOrV, mNotV, mUn, mSlot, mOp2, mTmp, mC, mVar, mMv, mCallP, mCons, mNil, mTup, mLst, mIfS, mNotT, mAndT, mOrT, mTest, mTruth, mSeq, mNext, mRaise, mDrop, mSet, mAsgT, mIf, fIsi, fInS, fEqS, fInt, fIntC, fLen, opd_tmp, opd_slot, data_no, data_val, data_lst, data_dct, Cell.rest, mLc_eq, mFor_eq, mItL, mItT, mItS, mItD, mZip, mRng1, mRng2, mYes, take_one, take_many, setAll_cons, setAll_nil, semB, semN, wipe_nil, wipe_cons, mDisp1, mMv, mDPut, mAppend, fDGet, fDIn, M.keyOf, mSl, mPart, mNoPart, fSlL, fInt1_int, fInt1_bool, fSum_ints, fSum_take, mCall1, fMax2_ints, fMin2_ints, cut_to1, fIxL, mLPut, mCallB, CPow, mPar2, mPar3, fLtS, mCall1M, mGet1, fSortedDk, mTry, handle, cxK, mDnew, mGet2, mCallK, M.pick]
    refine ⟨by omega, by omega, ?_⟩
    exact wear_loop hb5 (by omega) w0 w1 d0 d1 hsg hne hl (by omega) fun bs' S c2 c6 c7 c8 c9 fs hb' hP => last fs hP bs' S c2 c6 c7 c8 c9 (hb'.mono (by omega))
theorem F_need_wear (T : Txt K mg A) : FnOk P w K mg base (L2.CX P w) 4 A.a_need_wear A.fd_need_wear ["thing"] (spM K [] 1 (semN isWear A.e_BadWear)) := by
  have F_is_wear := F_is_wear (P := P) (w := w) (base := base) T
  refine fnB T.f_need_wear sc_need_wear [] (semN isWear A.e_BadWear) fun cdv B oth s H E hr => ?_
  have hu1 := hu_of hr
  have hu64 := hr.units
  have hu65 := hu65_of hr
  refine ⟨_, (sss_one (ss_if (st_not (st_val (se_callP (F_is_wear) (hr.mono (by decide)) (by rfl) T.g_is_wear T.k_is_wear (T.b_is_wear) (takes_of rfl rfl rfl rfl) (sa_cons (se_var 0) sa_nil)))) (sss_one (ss_raise rfl (takes_of rfl rfl rfl rfl) (pmk_own PySem.F.excBase_ValueError T.x_BadWear T.g_BadWear T.k_BadWear (raises_own T.u_BadWear T.t_BadWear) (by exact rfl)))) sss_nil)), ?_⟩
  intro xk args Kd _ h
  obtain ⟨d, rfl, k⟩ := h
  simp [bodySem, mRet, mAndV, mOrV, mNotV, mUn, mSlot, mOp2, mTmp, mC, mVar, mMv, mCallP, mCons, mNil, mTup, mLst, mIfS, mNotT, mAndT, mOrT, mTest, mTruth, mSeq, mNext, mRaise, mDrop, mSet, mAsgT, mIf, fIsi, fInS, fEqS, fInt, fIntC, fLen, opd_tmp, opd_slot, data_no, data_val, data_lst, data_dct, Cell.rest, mLc_eq, mFor_eq, mItL, mItT, mItS, mItD, mZip, mRng1, mRng2, mYes, take_one, take_many, setAll_cons, setAll_nil, semB, semN, wipe_nil, wipe_cons, mDisp1, mMv, mDPut, mAppend, fDGet, fDIn, M.keyOf, mSl, mPart, mNoPart, fSlL, fInt1_int, fInt1_bool, fSum_ints, fSum_take, mCall1, fMax2_ints, fMin2_ints, cut_to1, fIxL, mLPut, mCallB, CPow, mPar2, mPar3, fLtS, mCall1M, mGet1, fSortedDk, mTry, handle, cxK, mDnew, mGet2, mCallK, M.pick, semB]
  split at k
  · rename_i q
    rw [q]
    simpa using k _
  · rename_i q
    rw [Bool.eq_false_iff.mpr q]
    simpa using k _
theorem F_steps (T : Txt K mg A) : FnOk P w K mg base (L2.CX P w) 5 A.a_steps A.fd_steps ["wear", "one", "other"] (spM K [] 3 (semSteps A.e_BadSign A.e_BadWear)) := by
  have F_need_wear := F_need_wear (P := P) (w := w) (base := base) T
  have F_need_worn := F_need_worn (P := P) (w := w) (base := base) T
  have F_need_seen := F_need_seen (P := P) (w := w) (base := base) T
  have F_steps_from := F_steps_from (P := P) (w := w) (base := base) T
  refine fnB T.f_steps sc_steps [] (semSteps A.e_BadSign A.e_BadWear) fun cdv B oth s H E hr => ?_
  have hu1 := hu_of hr
  have hu64 := hr.units
  have hu65 := hu65_of hr
  refine ⟨_, (sss_cons (ss_expr (se_callP (F_need_wear) (hr.mono (by decide)) (by rfl) T.g_need_wear T.k_need_wear (T.b_need_wear) (takes_of rfl rfl rfl rfl) (sa_cons (se_var 0) sa_nil))) (sss_cons (ss_expr (se_callP (F_need_worn) (hr.mono (by decide)) (by rfl) T.g_need_worn T.k_need_worn (T.b_need_worn) (takes_of rfl rfl rfl rfl) (sa_cons (se_var 1) sa_nil))) (sss_cons (ss_expr (se_callP (F_need_seen) (hr.mono (by decide)) (by rfl) T.g_need_seen T.k_need_seen (T.b_need_seen) (takes_of rfl rfl rfl rfl) (sa_cons (se_var 2) sa_nil))) (sss_cons (ss_if (st_cmp op_eq os_eqS (so_var 2) (so_of se_str)) (sss_one (ss_ret se_int)) sss_nil) (sss_one (ss_ret (se_get1 hu1 (so_of (se_callP (F_steps_from) (hr.mono (by decide)) (by rfl) T.g_steps_from T.k_steps_from (T.b_steps_from) (takes_of rfl rfl rfl rfl) (sa_cons (se_var 0) (sa_cons (se_var 1) sa_nil)))) (so_var 2) ⟨rfl, rfl, rfl, rfl⟩))))))), ?_⟩
  intro xk args Kd _ h
  obtain ⟨d1, d2, d3, rfl, k⟩ := h
  simp [bodySem, mRet, mAndV, mOrV, mNotV, mUn, mSlot, mOp2, mTmp, mC, mVar, mMv, mCallP, mCons, mNil, mTup, mLst, mIfS, mNotT, mAndT, mOrT, mTest, mTruth, mSeq, mNext, mRaise, mDrop, mSet, mAsgT, mIf, fIsi, fInS, fEqS, fInt, fIntC, fLen, opd_tmp, opd_slot, data_no, data_val, data_lst, data_dct, Cell.rest, mLc_eq, mFor_eq, mItL, mItT, mItS, mItD, mZip, mRng1, mRng2, mYes, take_one, take_many, setAll_cons, setAll_nil, semB, semN, wipe_nil, wipe_cons, mDisp1, mMv, mDPut, mAppend, fDGet, fDIn, M.keyOf, mSl, mPart, mNoPart, fSlL, fInt1_int, fInt1_bool, fSum_ints, fSum_take, mCall1, fMax2_ints, fMin2_ints, cut_to1, fIxL, mLPut, mCallB, CPow, mPar2, mPar3, fLtS, mCall1M, mGet1, fSortedDk, mTry, handle, cxK, mDnew, mGet2, mCallK, M.pick]
  cases q1 : isWear d1 with
  | false => rw [q1] at k; simpa using k _
  | true =>
    rw [q1] at k
    cases q2 : isIn WRN d2 with
    | false => rw [q2] at k; simpa using k _
    | true =>
      rw [q2] at k
      cases q3 : isIn SEN d3 with
      | false => rw [q3] at k; simpa using k _
      | true =>
        rw [q3] at k
        obtain ⟨w, rfl, hw, _⟩ := wear_is q1
        obtain ⟨x, rfl, _⟩ := isIn_str q2
        obtain ⟨y, rfl, _⟩ := isIn_str q3
        simp only [if_true] at k ⊢
        have k := k w x y rfl rfl rfl
        by_cases e : y = "?"
        · rw [if_pos e] at k
          exact .inr ⟨by rw [eqS_str]; simp [e], k _⟩
        · rw [if_neg e] at k
          refine .inl ⟨by rw [eqS_str]; simp [e], ?_⟩
          refine from_ok hw fun f e D => ?_
          simp [bodySem, mRet, mAndV, mOrV, mNotV, mUn, mSlot, mOp2, mTmp, mC, mVar, mMv, mCallP, mCons, mNil, mTup, mLst, mIfS, mNotT, mAndT, mOrT, mTest, mTruth, mSeq, mNext, mRaise, mDrop, mSet, mAsgT, mIf, fIsi, fInS, fEqS, fInt, fIntC, fLen, opd_tmp, opd_slot, data_no, data_val, data_lst, data_dct, Cell.rest, mLc_eq, mFor_eq, mItL, mItT, mItS, mItD, mZip, mRng1, mRng2, mYes, take_one, take_many, setAll_cons, setAll_nil, semB, semN, wipe_nil, wipe_cons, mDisp1, mMv, mDPut, mAppend, fDGet, fDIn, M.keyOf, mSl, mPart, mNoPart, fSlL, fInt1_int, fInt1_bool, fSum_ints, fSum_take, mCall1, fMax2_ints, fMin2_ints, cut_to1, fIxL, mLPut, mCallB, CPow, mPar2, mPar3, fLtS, mCall1M, mGet1, fSortedDk, mTry, handle, cxK, mDnew, mGet2, mCallK, M.pick, getK_enc, D.at_]
          cases q : dist w x y with
          | none => rw [q] at k; exact k _
          | some n => rw [q] at k; exact k _
theorem F_comes_to (T : Txt K mg A) : FnOk P w K mg base (L2.CX P w) 5 A.a_comes_to A.fd_comes_to ["wear", "sign"] (spM K [] 2 (semComesTo A.e_BadSign A.e_BadWear)) := by
  have F_need_wear := F_need_wear (P := P) (w := w) (base := base) T
  have F_need_worn := F_need_worn (P := P) (w := w) (base := base) T
  have F_steps_from := F_steps_from (P := P) (w := w) (base := base) T
  refine fnB T.f_comes_to sc_comes_to [] (semComesTo A.e_BadSign A.e_BadWear) fun cdv B oth s H E hr => ?_
  have hu1 := hu_of hr
  have hu64 := hr.units
  have hu65 := hu65_of hr
  refine ⟨_, (sss_cons (ss_expr (se_callP (F_need_wear) (hr.mono (by decide)) (by rfl) T.g_need_wear T.k_need_wear (T.b_need_wear) (takes_of rfl rfl rfl rfl) (sa_cons (se_var 0) sa_nil))) (sss_cons (ss_expr (se_callP (F_need_worn) (hr.mono (by decide)) (by rfl) T.g_need_worn T.k_need_worn (T.b_need_worn) (takes_of rfl rfl rfl rfl) (sa_cons (se_var 1) sa_nil))) (sss_one (ss_ret (se_unTy call_tuple_of cs_tuple (by rfl) T.n_tuple rfl (so_of (se_unB (call_sortedD rfl) cs_sortedDk (by rfl) T.n_sorted rfl (so_of (se_callP (F_steps_from) (hr.mono (by decide)) (by rfl) T.g_steps_from T.k_steps_from (T.b_steps_from) (takes_of rfl rfl rfl rfl) (sa_cons (se_var 0) (sa_cons (se_var 1) sa_nil))))))))))), ?_⟩
  intro xk args Kd _ h
  obtain ⟨d1, d2, rfl, k⟩ := h
  simp [bodySem, mRet, mAndV, mOrV, mNotV, mUn, mSlot, mOp2, mTmp, mC, mVar, mMv, mCallP, mCons, mNil, mTup, mLst, mIfS, mNotT, mAndT, mOrT, mTest, mTruth, mSeq, mNext, mRaise, mDrop, mSet, mAsgT, mIf, fIsi, fInS, fEqS, fInt, fIntC, fLen, opd_tmp, opd_slot, data_no, data_val, data_lst, data_dct, Cell.rest, mLc_eq, mFor_eq, mItL, mItT, mItS, mItD, mZip, mRng1, mRng2, mYes, take_one, take_many, setAll_cons, setAll_nil, semB, semN, wipe_nil, wipe_cons, mDisp1, mMv, mDPut, mAppend, fDGet, fDIn, M.keyOf, mSl, mPart, mNoPart, fSlL, fInt1_int, fInt1_bool, fSum_ints, fSum_take, mCall1, fMax2_ints, fMin2_ints, cut_to1, fIxL, mLPut, mCallB, CPow, mPar2, mPar3, fLtS, mCall1M, mGet1, fSortedDk, mTry, handle, cxK, mDnew, mGet2, mCallK, M.pick]
  cases q1 : isWear d1 with
  | false => rw [q1] at k; simpa using k _
  | true =>
    rw [q1] at k
    cases q2 : isIn WRN d2 with
    | false => rw [q2] at k; simpa using k _
    | true =>
      rw [q2] at k
      obtain ⟨w, rfl, hw, _⟩ := wear_is q1
      obtain ⟨x, rfl, _⟩ := isIn_str q2
      simp only [if_true] at k ⊢
      have k := k w x rfl rfl
      refine from_ok hw fun f e D => ?_
      simp [bodySem, mRet, mAndV, mOrV, mNotV, mUn, mSlot, mOp2, mTmp, mC, mVar, mMv, mCallP, mCons, mNil, mTup, mLst, mIfS, mNotT, mAndT, mOrT, mTest, mTruth, mSeq, mNext, mRaise, mDrop, mSet, mAsgT, mIf, fIsi, fInS, fEqS, fInt, fIntC, fLen, opd_tmp, opd_slot, data_no, data_val, data_lst, data_dct, Cell.rest, mLc_eq, mFor_eq, mItL, mItT, mItS, mItD, mZip, mRng1, mRng2, mYes, take_one, take_many, setAll_cons, setAll_nil, semB, semN, wipe_nil, wipe_cons, mDisp1, mMv, mDPut, mAppend, fDGet, fDIn, M.keyOf, mSl, mPart, mNoPart, fSlL, fInt1_int, fInt1_bool, fSum_ints, fSum_take, mCall1, fMax2_ints, fMin2_ints, cut_to1, fIxL, mLPut, mCallB, CPow, mPar2, mPar3, fLtS, mCall1M, mGet1, fSortedDk, mTry, handle, cxK, mDnew, mGet2, mCallK, M.pick, keys_enc]
      refine ⟨by have := dist_len D; omega, fun ys pm st => ?_⟩
      simp [fTuple]
      exact k ys (pm.nodup_iff.mpr D.nd) (fun y => by rw [pm.mem_iff]; exact dist_mem D y) st _
theorem F_comes_from (T : Txt K mg A) : FnOk P w K mg base (L2.CX P w) 5 A.a_comes_from A.fd_comes_from ["wear", "seen"] (spM K [] 2 (semComesFrom A.e_BadSign A.e_BadWear)) := by
  have F_need_wear := F_need_wear (P := P) (w := w) (base := base) T
  have F_need_seen := F_need_seen (P := P) (w := w) (base := base) T
  have F_steps_from := F_steps_from (P := P) (w := w) (base := base) T
  refine fnB T.f_comes_from sc_comes_from [] (semComesFrom A.e_BadSign A.e_BadWear) fun cdv B oth s H E hr => ?_
  have hu1 := hu_of hr
  have hu64 := hr.units
  have hu65 := hu65_of hr
  refine ⟨_, (sss_cons (ss_expr (se_callP (F_need_wear) (hr.mono (by decide)) (by rfl) T.g_need_wear T.k_need_wear (T.b_need_wear) (takes_of rfl rfl rfl rfl) (sa_cons (se_var 0) sa_nil))) (sss_cons (ss_expr (se_callP (F_need_seen) (hr.mono (by decide)) (by rfl) T.g_need_seen T.k_need_seen (T.b_need_seen) (takes_of rfl rfl rfl rfl) (sa_cons (se_var 1) sa_nil))) (sss_cons (ss_if (st_cmp op_eq os_eqS (so_var 1) (so_of se_str)) (sss_one (ss_ret (se_glob (by rfl) T.g_SIGNS T.r_SIGNS T.d_SIGNS))) sss_nil) (sss_one (ss_ret (se_unTy call_tuple_of cs_tuple (by rfl) T.n_tuple rfl (so_of (se_lc rfl sc_comes_from.nd (si_tup (se_glob (by rfl) T.g_SIGNS T.r_SIGNS T.d_SIGNS)) (blkOk_by (own := [("sign", 2)]) (N := ["wear", "seen", "sign"]) (sc := defScope s_comes_from) (by decide +kernel)) (fun _ _ _ _ _ => (sg_one 2 sc_comes_from.nd rfl (Or.inl rfl))) (fun _ _ _ _ _ => (sts_one (st_dIn hu1 (so_var 1) (so_of (se_callP (F_steps_from) (hr.mono (by decide)) (by rfl) T.g_steps_from T.k_steps_from (T.b_steps_from) takes0 (sa_cons (se_var 0) (sa_cons (se_var 2) sa_nil))))))) (fun _ _ _ _ _ => (se_var 2)) (fun _ _ _ _ a b c d => pe_lc rfl sc_comes_from.nd a (blkOk_by (own := [("sign", 2)]) (N := ["wear", "seen", "sign"]) (sc := defScope s_comes_from) (by decide +kernel)) b c d))))))))), ?_⟩
  intro xk args Kd _ h
  obtain ⟨d1, d2, rfl, k⟩ := h
  simp [bodySem, mRet, mAndV, mOrV, mNotV, mUn, mSlot, mOp2, mTmp, mC, mVar, mMv, mCallP, mCons, mNil, mTup, mLst, mIfS, mNotT, mAndT, mOrT, mTest, mTruth, mSeq, mNext, mRaise, mDrop, mSet, mAsgT, mIf, fIsi, fInS, fEqS, fInt, fIntC, fLen, opd_tmp, opd_slot, data_no, data_val, data_lst, data_dct, Cell.rest, mLc_eq, mFor_eq, mItL, mItT, mItS, mItD, mZip, mRng1, mRng2, mYes, take_one, take_many, setAll_cons, setAll_nil, semB, semN, wipe_nil, wipe_cons, mDisp1, mMv, mDPut, mAppend, fDGet, fDIn, M.keyOf, mSl, mPart, mNoPart, fSlL, fInt1_int, fInt1_bool, fSum_ints, fSum_take, mCall1, fMax2_ints, fMin2_ints, cut_to1, fIxL, mLPut, mCallB, CPow, mPar2, mPar3, fLtS, mCall1M, mGet1, fSortedDk, mTry, handle, cxK, mDnew, mGet2, mCallK, M.pick]
  cases q1 : isWear d1 with
  | false => rw [q1] at k; simpa using k _
  | true =>
    rw [q1] at k
    cases q2 : isIn SEN d2 with
    | false => rw [q2] at k; simpa using k _
    | true =>
      rw [q2] at k
      obtain ⟨w, rfl, hw, _⟩ := wear_is q1
      obtain ⟨y, rfl, _⟩ := isIn_str q2
      simp only [if_true] at k ⊢
      have k := k w y rfl rfl
      unfold fromL at k
      by_cases e : y = "?"
      · rw [if_pos e] at k
        exact .inr ⟨by rw [eqS_str]; simp [e], k _⟩
      · rw [if_neg e] at k
        refine .inl ⟨by rw [eqS_str]; simp [e], ?_⟩
        let F : PyData → Bool := fun d => match d with | .str x => (dist w x y).isSome | _ => false
        have eS : [PyData.str "a", PyData.str "b", PyData.str "c", PyData.str "d", PyData.str "e", PyData.str "f"] = SGN.map PyData.str := rfl
        rw [eS]
        refine lc_by F id (small_line (by decide)) (fun d hd acc N h1 h2 => ?_) ?_
        · obtain ⟨x, hx, rfl⟩ := List.mem_map.mp hd
          simp [bodySem, mRet, mAndV, mOrV, mNotV, mUn, mSlot, mOp2, mTmp, mC, mVar, mMv, mCallP, mCons, mNil, mTup, mLst, mIfS, mNotT, mAndT, mOrT, mTest, mTruth, mSeq, mNext, mRaise, mDrop, mSet, mAsgT, mIf, fIsi, fInS, fEqS, fInt, fIntC, fLen, opd_tmp, opd_slot, data_no, data_val, data_lst, data_dct, Cell.rest, mLc_eq, mFor_eq, mItL, mItT, mItS, mItD, mZip, mRng1, mRng2, mYes, take_one, take_many, setAll_cons, setAll_nil, semB, semN, wipe_nil, wipe_cons, mDisp1, mMv, mDPut, mAppend, fDGet, fDIn, M.keyOf, mSl, mPart, mNoPart, fSlL, fInt1_int, fInt1_bool, fSum_ints, fSum_take, mCall1, fMax2_ints, fMin2_ints, cut_to1, fIxL, mLPut, mCallB, CPow, mPar2, mPar3, fLtS, mCall1M, mGet1, fSortedDk, mTry, handle, cxK, mDnew, mGet2, mCallK, M.pick]
          refine from_ok hw fun f e D => ?_
          cases q : dist w x y with
          | none =>
            simp [F, q] at h2
            simp [bodySem, mRet, mAndV, mOrV, mNotV, mUn, mSlot, mOp2, mTmp, mC, mVar, mMv, mCallP, mCons, mNil, mTup, mLst, mIfS, mNotT, mAndT, mOrT, mTest, mTruth, mSeq, mNext, mRaise, mDrop, mSet, mAsgT, mIf, fIsi, fInS, fEqS, fInt, fIntC, fLen, opd_tmp, opd_slot, data_no, data_val, data_lst, data_dct, Cell.rest, mLc_eq, mFor_eq, mItL, mItT, mItS, mItD, mZip, mRng1, mRng2, mYes, take_one, take_many, setAll_cons, setAll_nil, semB, semN, wipe_nil, wipe_cons, mDisp1, mMv, mDPut, mAppend, fDGet, fDIn, M.keyOf, mSl, mPart, mNoPart, fSlL, fInt1_int, fInt1_bool, fSum_ints, fSum_take, mCall1, fMax2_ints, fMin2_ints, cut_to1, fIxL, mLPut, mCallB, CPow, mPar2, mPar3, fLtS, mCall1M, mGet1, fSortedDk, mTry, handle, cxK, mDnew, mGet2, mCallK, M.pick, getK_enc, D.at_, q]
            exact h2
          | some n =>
            simp [F, q] at h2
            simp [bodySem, mRet, mAndV, mOrV, mNotV, mUn, mSlot, mOp2, mTmp, mC, mVar, mMv, mCallP, mCons, mNil, mTup, mLst, mIfS, mNotT, mAndT, mOrT, mTest, mTruth, mSeq, mNext, mRaise, mDrop, mSet, mAsgT, mIf, fIsi, fInS, fEqS, fInt, fIntC, fLen, opd_tmp, opd_slot, data_no, data_val, data_lst, data_dct, Cell.rest, mLc_eq, mFor_eq, mItL, mItT, mItS, mItD, mZip, mRng1, mRng2, mYes, take_one, take_many, setAll_cons, setAll_nil, semB, semN, wipe_nil, wipe_cons, mDisp1, mMv, mDPut, mAppend, fDGet, fDIn, M.keyOf, mSl, mPart, mNoPart, fSlL, fInt1_int, fInt1_bool, fSum_ints, fSum_take, mCall1, fMax2_ints, fMin2_ints, cut_to1, fIxL, mLPut, mCallB, CPow, mPar2, mPar3, fLtS, mCall1M, mGet1, fSortedDk, mTry, handle, cxK, mDnew, mGet2, mCallK, M.pick, getK_enc, D.at_, q]
            exact ⟨h1, h2⟩
        · rw [List.map_id]
          have : (List.filter F (SGN.map PyData.str)) = (SGN.filter fun x => (dist w x y).isSome).map PyData.str := by rw [List.filter_map]; rfl
          rw [this]
          simp [bodySem, mRet, mAndV, mOrV, mNotV, mUn, mSlot, mOp2, mTmp, mC, mVar, mMv, mCallP, mCons, mNil, mTup, mLst, mIfS, mNotT, mAndT, mOrT, mTest, mTruth, mSeq, mNext, mRaise, mDrop, mSet, mAsgT, mIf, fIsi, fInS, fEqS, fInt, fIntC, fLen, opd_tmp, opd_slot, data_no, data_val, data_lst, data_dct, Cell.rest, mLc_eq, mFor_eq, mItL, mItT, mItS, mItD, mZip, mRng1, mRng2, mYes, take_one, take_many, setAll_cons, setAll_nil, semB, semN, wipe_nil, wipe_cons, mDisp1, mMv, mDPut, mAppend, fDGet, fDIn, M.keyOf, mSl, mPart, mNoPart, fSlL, fInt1_int, fInt1_bool, fSum_ints, fSum_take, mCall1, fMax2_ints, fMin2_ints, cut_to1, fIxL, mLPut, mCallB, CPow, mPar2, mPar3, fLtS, mCall1M, mGet1, fSortedDk, mTry, handle, cxK, mDnew, mGet2, mCallK, M.pick, fTuple]
          exact k _
theorem F__law_refused (T : Txt K mg A) : FnOk P w K mg base (L2.CX P w) 6 A.a__law_refused A.fd__law_refused ["_law_way", "_law_wear_here", "_law_one", "_law_other"] (spM K [] 4 semRefused2) := by
  have F_steps := F_steps (P := P) (w := w) (base := base) T
  have F_comes_to := F_comes_to (P := P) (w := w) (base := base) T
  have F_comes_from := F_comes_from (P := P) (w := w) (base := base) T
  refine fnB T.f__law_refused sc__law_refused [] semRefused2 fun cdv B oth s H E hr => ?_
  have hu1 := hu_of hr
  have hu64 := hr.units
  have hu65 := hu65_of hr
  refine ⟨_, (sss_cons (ss_set 4 sc__law_refused.nd rfl (Or.inl rfl) se_bl) (sss_cons (ss_try rfl rfl (takes_of rfl rfl rfl rfl) (fun _ _ _ tkw pow => (sss_one (ss_if (st_cmp op_eq os_eqS (so_var 0) (so_of se_int)) (sss_one (ss_expr (se_callP (F_steps) (hr.mono (by decide)) (by rfl) T.g_steps T.k_steps (T.b_steps) tkw (sa_cons (se_var 1) (sa_cons (se_var 2) (sa_cons (se_var 3) sa_nil)))))) (sss_one (ss_if (st_cmp op_eq os_eqS (so_var 0) (so_of se_int)) (sss_one (ss_expr (se_callP (F_comes_to) (hr.mono (by decide)) (by rfl) T.g_comes_to T.k_comes_to (T.b_comes_to) tkw (sa_cons (se_var 1) (sa_cons (se_var 2) sa_nil))))) (sss_one (ss_expr (se_callP (F_comes_from) (hr.mono (by decide)) (by rfl) T.g_comes_from T.k_comes_from (T.b_comes_from) tkw (sa_cons (se_var 1) (sa_cons (se_var 3) sa_nil)))))))))) (hok_cons ⟨rfl, by decide, Or.inl T.g_BadSign⟩ (fun _ _ _ => (sss_one (ss_set 4 sc__law_refused.nd rfl (Or.inl rfl) se_bl))) (hok_cons ⟨rfl, by decide, Or.inl T.g_StoneError⟩ (fun _ _ _ => (sss_one (ss_set 4 sc__law_refused.nd rfl (Or.inl rfl) se_bl))) hok_nil))) (sss_one (ss_ret (se_mv 4))))), ?_⟩
  intro xk args Kd _ h
  obtain ⟨i, d1, d2, d3, rfl, hw, k⟩ := h
  simp [bodySem, mRet, mAndV, mOrV, mNotV, mUn, mSlot, mOp2, mTmp, mC, mVar, mMv, mCallP, mCons, mNil, mTup, mLst, mIfS, mNotT, mAndT, mOrT, mTest, mTruth, mSeq, mNext, mRaise, mDrop, mSet, mAsgT, mIf, fIsi, fInS, fEqS, fInt, fIntC, fLen, opd_tmp, opd_slot, data_no, data_val, data_lst, data_dct, Cell.rest, mLc_eq, mFor_eq, mItL, mItT, mItS, mItD, mZip, mRng1, mRng2, mYes, take_one, take_many, setAll_cons, setAll_nil, semB, semN, wipe_nil, wipe_cons, mDisp1, mMv, mDPut, mAppend, fDGet, fDIn, M.keyOf, mSl, mPart, mNoPart, fSlL, fInt1_int, fInt1_bool, fSum_ints, fSum_take, mCall1, fMax2_ints, fMin2_ints, cut_to1, fIxL, mLPut, mCallB, CPow, mPar2, mPar3, fLtS, mCall1M, mGet1, fSortedDk, mTry, handle, cxK, mDnew, mGet2, mCallK, M.pick, T.m_BadSign_BadSign, eqS_int]
  by_cases i0 : i = 0
  · right
    refine ⟨i0, d1, d2, d3, rfl, ?_⟩
    rw [if_pos hw]
    cases q2 : isIn WRN d2 with
    | false =>
      have : refB i d2 d3 = true := by simp [refB, i0, q2]
      rw [this] at k
      simpa [T.m_BadSign_BadSign] using k _
    | true =>
      cases q3 : isIn SEN d3 with
      | false =>
        have : refB i d2 d3 = true := by simp [refB, i0, q2, q3]
        rw [this] at k
        simpa [T.m_BadSign_BadSign] using k _
      | true =>
        have : refB i d2 d3 = false := by simp [refB, i0, q2, q3]
        rw [this] at k
        simp
        intros
        exact k _
  · left
    refine ⟨i0, ?_⟩
    by_cases i1 : i = 1
    · right
      refine ⟨i1, d1, d2, rfl, ?_⟩
      rw [if_pos hw]
      cases q2 : isIn WRN d2 with
      | false =>
        have : refB i d2 d3 = true := by simp [refB, i1, q2]
        rw [this] at k
        simpa [T.m_BadSign_BadSign] using k _
      | true =>
        have : refB i d2 d3 = false := by simp [refB, i1, q2]
        rw [this] at k
        simp
        intros
        exact k _
    · left
      refine ⟨i1, d1, d3, rfl, ?_⟩
      rw [if_pos hw]
      cases q3 : isIn SEN d3 with
      | false =>
        have : refB i d2 d3 = true := by simp [refB, i0, i1, q3]
        rw [this] at k
        simpa [T.m_BadSign_BadSign] using k _
      | true =>
        have : refB i d2 d3 = false := by simp [refB, i0, i1, q3]
        rw [this] at k
        simp
        intros
        exact k _
theorem F__law_right (T : Txt K mg A) : FnG P w K mg base (L2.CX P w) 7 A.a__law_right A.fd__law_right ["_law_bag_here"] (spM K [] 1 semRight) := by
  have F__law_wear := F__law_wear (P := P) (w := w) (base := base) T
  have F__law_reach := F__law_reach (P := P) (w := w) (base := base) T
  have F__law_due := F__law_due (P := P) (w := w) (base := base) T
  have F_steps := F_steps (P := P) (w := w) (base := base) T
  have F_comes_to := F_comes_to (P := P) (w := w) (base := base) T
  have F_comes_from := F_comes_from (P := P) (w := w) (base := base) T
  have F__law_pick := F__law_pick (P := P) (w := w) (base := base) T
  have F__law_refused := F__law_refused (P := P) (w := w) (base := base) T
  have F__law_take := F__law_take (P := P) (w := w) (base := base) T
  refine fnBG T.f__law_right sc__law_right [] semRight fun cdv B oth s H E hgd hr => ?_
  have hu1 := hu_of hr
  have hu64 := hr.units
  have hu65 := hu65_of hr
  refine ⟨_, (sss_cons (ss_set 1 sc__law_right.nd rfl (Or.inr rfl) (se_callB0 0 (F__law_wear) (hr.mono (by decide)) (by rfl) T.g__law_wear T.k__law_wear (T.b__law_wear) (takes_of rfl rfl rfl rfl) (pv 0) sa_nil)) (sss_cons (ss_set 2 sc__law_right.nd rfl (Or.inr rfl) (se_callP (F__law_reach) (hr.mono (by decide)) (by rfl) T.g__law_reach T.k__law_reach (T.b__law_reach) (takes_of rfl rfl rfl rfl) (sa_cons (se_var 1) sa_nil))) (sss_cons (ss_set 3 sc__law_right.nd rfl (Or.inl rfl) (se_unB (cr_repr hgd hu65) cs_repr (by rfl) T.n_repr rfl (so_of (se_callP (F__law_due) (hr.mono (by decide)) (by rfl) T.g__law_due T.k__law_due (T.b__law_due) (takes_of rfl rfl rfl rfl) (sa_cons (se_var 2) sa_nil))))) (sss_cons (ss_if (st_cmp op_ne os_neS (so_of (se_unB (cr_repr hgd hu65) cs_repr (by rfl) T.n_repr rfl (so_of (se_lc rfl sc__law_right.nd (si_str se_str) (blkOk_by (own := [("_law_one", 4)]) (N := ["_law_bag_here", "_law_wear_here", "_law_reach_here", "_law_due_here", "_law_one", "_law_seen", "_law_more", "_law_bad", "_law_told"]) (sc := defScope s__law_right) (by decide +kernel)) (fun _ _ _ _ _ => (sg_one 4 sc__law_right.nd rfl (Or.inr rfl))) (fun _ _ _ _ _ => sts_nil) (fun _ _ _ _ _ => (se_lc rfl sc__law_right.nd (si_str se_str) (by exact blkOk_by (own := [("_law_seen", 5)]) (by rfl)) (fun _ _ _ _ _ => (sg_one 5 sc__law_right.nd rfl (Or.inl rfl))) (fun _ _ _ _ _ => sts_nil) (fun _ _ _ _ _ => (se_callP (F_steps) (hr.mono (by decide)) (by rfl) T.g_steps T.k_steps (T.b_steps) takes0 (sa_cons (se_var 1) (sa_cons (se_var 4) (sa_cons (se_var 5) sa_nil))))) (fun _ _ _ _ a b c d => pe_lc rfl sc__law_right.nd a (by exact blkOk_by (own := [("_law_seen", 5)]) (by rfl)) b c d))) (fun _ _ _ _ a b c d => pe_lc rfl sc__law_right.nd a (blkOk_by (own := [("_law_one", 4)]) (N := ["_law_bag_here", "_law_wear_here", "_law_reach_here", "_law_due_here", "_law_one", "_law_seen", "_law_more", "_law_bad", "_law_told"]) (sc := defScope s__law_right) (by decide +kernel)) b c d))))) (so_var 3)) (sss_one (ss_ret se_bl)) sss_nil) (sss_cons (ss_for (si_str se_str) (sg_one 4 sc__law_right.nd rfl (Or.inl rfl)) (sss_one (ss_if (SW.st (sw_or (st_cmp op_ne os_neS (so_of (se_unB (cr_repr hgd hu65) cs_repr (by rfl) T.n_repr rfl (so_of (se_callP (F_comes_to) (hr.mono (by decide)) (by rfl) T.g_comes_to T.k_comes_to (T.b_comes_to) (takes_of rfl rfl rfl rfl) (sa_cons (se_var 1) (sa_cons (se_var 4) sa_nil)))))) (so_of (se_unB (cr_repr hgd hu65) cs_repr (by rfl) T.n_repr rfl (so_of (se_unTy call_tuple_of cs_tuple (by rfl) T.n_tuple rfl (so_of (se_unB (cr_sortedDt hu65) cs_sorted (by rfl) T.n_sorted rfl (so_of (se_unTy (call_listD rfl) cs_listD (by rfl) T.n_list rfl (so_of (se_dGet hu1 (so_var 2) (so_var 4)))))))))))) (sw_or1 (st_cmp (op_neD hu64) os_neD (so_of (se_callK (ks := ["sign", "wear"]) (π := [1, 0]) (F_comes_to) (hr.mono (by decide)) (by rfl) T.g_comes_to T.k_comes_to T.kb_comes_to_10 (takes_of rfl rfl rfl rfl) (sk_cons (se_var 4) (sk_cons (se_var 1) sk_nil)) rfl rfl (by decide))) (so_of (se_callP (F_comes_to) (hr.mono (by decide)) (by rfl) T.g_comes_to T.k_comes_to (T.b_comes_to) (takes_of rfl rfl rfl rfl) (sa_cons (se_var 1) (sa_cons (se_var 4) sa_nil)))))))) (sss_one (ss_ret se_bl)) sss_nil)) (fun _ _ _ a b c => ps_for (passes_of rfl) rfl a b c)) (sss_cons (ss_for (si_str se_str) (sg_one 5 sc__law_right.nd rfl (Or.inr rfl)) (sss_cons (ss_set 8 sc__law_right.nd rfl (Or.inl rfl) (se_unTy call_tuple_of cs_tuple (by rfl) T.n_tuple rfl (so_of (se_lc rfl sc__law_right.nd (si_str se_str) (blkOk_by (own := [("_law_one", 4)]) (N := ["_law_bag_here", "_law_wear_here", "_law_reach_here", "_law_due_here", "_law_one", "_law_seen", "_law_more", "_law_bad", "_law_told"]) (sc := defScope s__law_right) (by decide +kernel)) (fun _ _ _ _ _ => (sg_one 4 sc__law_right.nd rfl (Or.inl rfl))) (fun _ _ _ _ _ => (sts_one (SW.st (sw_or (st_cmp op_eq os_eqS (so_var 5) (so_of se_str)) (sw_or1 (st_dIn hu1 (so_var 5) (so_of (se_dGet hu1 (so_var 2) (so_var 4))))))))) (fun _ _ _ _ _ => (se_var 4)) (fun _ _ _ _ a b c d => pe_lc rfl sc__law_right.nd a (blkOk_by (own := [("_law_one", 4)]) (N := ["_law_bag_here", "_law_wear_here", "_law_reach_here", "_law_due_here", "_law_one", "_law_seen", "_law_more", "_law_bad", "_law_told"]) (sc := defScope s__law_right) (by decide +kernel)) b c d))))) (sss_one (ss_if (SW.st (sw_or (st_cmp op_ne os_neS (so_of (se_unB (cr_repr hgd hu65) cs_repr (by rfl) T.n_repr rfl (so_of (se_callP (F_comes_from) (hr.mono (by decide)) (by rfl) T.g_comes_from T.k_comes_from (T.b_comes_from) (takes_of rfl rfl rfl rfl) (sa_cons (se_var 1) (sa_cons (se_var 5) sa_nil)))))) (so_of (se_unB (cr_repr hgd hu65) cs_repr (by rfl) T.n_repr rfl (so_var 8)))) (sw_or1 (st_cmp (op_neD hu64) os_neD (so_of (se_callK (ks := ["seen", "wear"]) (π := [1, 0]) (F_comes_from) (hr.mono (by decide)) (by rfl) T.g_comes_from T.k_comes_from T.kb_comes_from_10 (takes_of rfl rfl rfl rfl) (sk_cons (se_var 5) (sk_cons (se_var 1) sk_nil)) rfl rfl (by decide))) (so_var 8))))) (sss_one (ss_ret se_bl)) sss_nil))) (fun _ _ _ a b c => ps_for (passes_of rfl) rfl a b c)) (sss_cons (ss_set 6 sc__law_right.nd rfl (Or.inr rfl) (se_callB0 0 (F__law_wear) (hr.mono (by decide)) (by rfl) T.g__law_wear T.k__law_wear (T.b__law_wear) (takes_of rfl rfl rfl rfl) (pv 0) sa_nil)) (sss_cons (ss_if (st_cmp op_ne os_neS (so_of (se_unB (cr_repr hgd hu65) cs_repr (by rfl) T.n_repr rfl (so_of (se_lc rfl sc__law_right.nd (si_str se_str) (blkOk_by (own := [("_law_one", 4)]) (N := ["_law_bag_here", "_law_wear_here", "_law_reach_here", "_law_due_here", "_law_one", "_law_seen", "_law_more", "_law_bad", "_law_told"]) (sc := defScope s__law_right) (by decide +kernel)) (fun _ _ _ _ _ => (sg_one 4 sc__law_right.nd rfl (Or.inr rfl))) (fun _ _ _ _ _ => sts_nil) (fun _ _ _ _ _ => (se_lc rfl sc__law_right.nd (si_str se_str) (by exact blkOk_by (own := [("_law_seen", 5)]) (by rfl)) (fun _ _ _ _ _ => (sg_one 5 sc__law_right.nd rfl (Or.inl rfl))) (fun _ _ _ _ _ => sts_nil) (fun _ _ _ _ _ => (se_callP (F_steps) (hr.mono (by decide)) (by rfl) T.g_steps T.k_steps (T.b_steps) takes0 (sa_cons (se_var 6) (sa_cons (se_var 4) (sa_cons (se_var 5) sa_nil))))) (fun _ _ _ _ a b c d => pe_lc rfl sc__law_right.nd a (by exact blkOk_by (own := [("_law_seen", 5)]) (by rfl)) b c d))) (fun _ _ _ _ a b c d => pe_lc rfl sc__law_right.nd a (blkOk_by (own := [("_law_one", 4)]) (N := ["_law_bag_here", "_law_wear_here", "_law_reach_here", "_law_due_here", "_law_one", "_law_seen", "_law_more", "_law_bad", "_law_told"]) (sc := defScope s__law_right) (by decide +kernel)) b c d))))) (so_of (se_unB (cr_repr hgd hu65) cs_repr (by rfl) T.n_repr rfl (so_of (se_callP (F__law_due) (hr.mono (by decide)) (by rfl) T.g__law_due T.k__law_due (T.b__law_due) (takes_of rfl rfl rfl rfl) (sa_cons (se_callP (F__law_reach) (hr.mono (by decide)) (by rfl) T.g__law_reach T.k__law_reach (T.b__law_reach) (takes_of rfl rfl rfl rfl) (sa_cons (se_var 6) sa_nil)) sa_nil)))))) (sss_one (ss_ret se_bl)) sss_nil) (sss_cons (ss_if (st_cmp op_ne os_neS (so_of (se_unB (cr_repr hgd hu65) cs_repr (by rfl) T.n_repr rfl (so_of (se_lc rfl sc__law_right.nd (si_str se_str) (blkOk_by (own := [("_law_one", 4)]) (N := ["_law_bag_here", "_law_wear_here", "_law_reach_here", "_law_due_here", "_law_one", "_law_seen", "_law_more", "_law_bad", "_law_told"]) (sc := defScope s__law_right) (by decide +kernel)) (fun _ _ _ _ _ => (sg_one 4 sc__law_right.nd rfl (Or.inr rfl))) (fun _ _ _ _ _ => sts_nil) (fun _ _ _ _ _ => (se_lc rfl sc__law_right.nd (si_str se_str) (by exact blkOk_by (own := [("_law_seen", 5)]) (by rfl)) (fun _ _ _ _ _ => (sg_one 5 sc__law_right.nd rfl (Or.inl rfl))) (fun _ _ _ _ _ => sts_nil) (fun _ _ _ _ _ => (se_callK (ks := ["other", "one", "wear"]) (π := [2, 1, 0]) (F_steps) (hr.mono (by decide)) (by rfl) T.g_steps T.k_steps T.kb_steps_210 takes0 (sk_cons (se_var 5) (sk_cons (se_var 4) (sk_cons (se_var 1) sk_nil))) rfl rfl (by decide))) (fun _ _ _ _ a b c d => pe_lc rfl sc__law_right.nd a (by exact blkOk_by (own := [("_law_seen", 5)]) (by rfl)) b c d))) (fun _ _ _ _ a b c d => pe_lc rfl sc__law_right.nd a (blkOk_by (own := [("_law_one", 4)]) (N := ["_law_bag_here", "_law_wear_here", "_law_reach_here", "_law_due_here", "_law_one", "_law_seen", "_law_more", "_law_bad", "_law_told"]) (sc := defScope s__law_right) (by decide +kernel)) b c d))))) (so_var 3)) (sss_one (ss_ret se_bl)) sss_nil) (sss_cons (ss_set 7 sc__law_right.nd rfl (Or.inl rfl) (se_callB0 0 (F__law_pick) (hr.mono (by decide)) (by rfl) T.g__law_pick T.k__law_pick (T.b__law_pick) (takes_of rfl rfl rfl rfl) (pv 0) (sa_cons (se_lst (sa_cons se_str (sa_cons se_str (sa_cons se_str (sa_cons se_str (sa_cons se_non (sa_cons se_int (sa_cons (se_tup (sa_cons se_str sa_nil)) (sa_cons (se_lst (sa_cons se_str sa_nil)) (sa_cons se_str (sa_cons se_str (sa_cons se_str (sa_cons se_bl sa_nil))))))))))))) sa_nil))) (sss_cons (ss_if (SW.st (sw_or (st_not (st_val (se_callP (F__law_refused) (hr.mono (by decide)) (by rfl) T.g__law_refused T.k__law_refused (T.b__law_refused) (takes_of rfl rfl rfl rfl) (sa_cons (se_callB0 0 (F__law_take) (hr.mono (by decide)) (by rfl) T.g__law_take T.k__law_take (T.b__law_take) (takes_of rfl rfl rfl rfl) (pv 0) (sa_cons se_int sa_nil)) (sa_cons (se_var 1) (sa_cons (se_var 7) (sa_cons se_str sa_nil))))))) (sw_or1 (st_not (st_val (se_callP (F__law_refused) (hr.mono (by decide)) (by rfl) T.g__law_refused T.k__law_refused (T.b__law_refused) (takes_of rfl rfl rfl rfl) (sa_cons (se_callB0 0 (F__law_pick) (hr.mono (by decide)) (by rfl) T.g__law_pick T.k__law_pick (T.b__law_pick) (takes_of rfl rfl rfl rfl) (pv 0) (sa_cons (se_lst (sa_cons se_int (sa_cons se_int sa_nil))) sa_nil)) (sa_cons (se_var 1) (sa_cons se_str (sa_cons (se_var 7) sa_nil)))))))))) (sss_one (ss_ret se_bl)) sss_nil) (sss_one (ss_ret (se_and (se_callP (F__law_refused) (hr.mono (by decide)) (by rfl) T.g__law_refused T.k__law_refused (T.b__law_refused) (takes_of rfl rfl rfl rfl) (sa_cons (se_callB0 0 (F__law_take) (hr.mono (by decide)) (by rfl) T.g__law_take T.k__law_take (T.b__law_take) (takes_of rfl rfl rfl rfl) (pv 0) (sa_cons se_int sa_nil)) (sa_cons (se_var 1) (sa_cons se_str (sa_cons se_non sa_nil))))) (se_one (se_callP (F__law_refused) (hr.mono (by decide)) (by rfl) T.g__law_refused T.k__law_refused (T.b__law_refused) (takes_of rfl rfl rfl rfl) (sa_cons se_int (sa_cons (se_var 1) (sa_cons (se_callB0 0 (F__law_pick) (hr.mono (by decide)) (by rfl) T.g__law_pick T.k__law_pick (T.b__law_pick) (takes_of rfl rfl rfl rfl) (pv 0) (sa_cons (se_lst (sa_cons se_str (sa_cons (se_var 7) sa_nil))) sa_nil)) (sa_cons (se_var 7) sa_nil)))))))))))))))))))), ?_⟩
  intro xk args Kd _ h
  obtain ⟨bs, rfl, hb, k⟩ := h
  simp [bodySem, mRet, mAndV, mOrV, mNotV, mUn, mSlot, mOp2, mTmp, mC, mVar, mMv, mCallP, mCons, mNil, mTup, mLst, mIfS, mNotT, mAndT, mOrT, mTest, mTruth, mSeq, mNext, mRaise, mDrop, mSet, mAsgT, mIf, fIsi, fInS, fEqS, fInt, fIntC, fLen, opd_tmp, opd_slot, data_no, data_val, data_lst, data_dct, Cell.rest, mLc_eq, mFor_eq, mItL, mItT, mItS, mItD, mZip, mRng1, mRng2, mYes, take_one, take_many, setAll_cons, setAll_nil, semB, semN, wipe_nil, wipe_cons, mDisp1, mMv, mDPut, mAppend, fDGet, fDIn, M.keyOf, mSl, mPart, mNoPart, fSlL, fInt1_int, fInt1_bool, fSum_ints, fSum_take, mCall1, fMax2_ints, fMin2_ints, cut_to1, fIxL, mLPut, mCallB, CPow, mPar2, mPar3, fLtS, mCall1M, mGet1, fSortedDk, mTry, handle, cxK, mDnew, mGet2, mCallK, M.pick]
  refine wear_ok hb (by omega) fun b1 w hb1 hw => ?_
  simp [bodySem, mRet, mAndV, mOrV, mNotV, mUn, mSlot, mOp2, mTmp, mC, mVar, mMv, mCallP, mCons, mNil, mTup, mLst, mIfS, mNotT, mAndT, mOrT, mTest, mTruth, mSeq, mNext, mRaise, mDrop, mSet, mAsgT, mIf, fIsi, fInS, fEqS, fInt, fIntC, fLen, opd_tmp, opd_slot, data_no, data_val, data_lst, data_dct, Cell.rest, mLc_eq, mFor_eq, mItL, mItT, mItS, mItD, mZip, mRng1, mRng2, mYes, take_one, take_many, setAll_cons, setAll_nil, semB, semN, wipe_nil, wipe_cons, mDisp1, mMv, mDPut, mAppend, fDGet, fDIn, M.keyOf, mSl, mPart, mNoPart, fSlL, fInt1_int, fInt1_bool, fSum_ints, fSum_take, mCall1, fMax2_ints, fMin2_ints, cut_to1, fIxL, mLPut, mCallB, CPow, mPar2, mPar3, fLtS, mCall1M, mGet1, fSortedDk, mTry, handle, cxK, mDnew, mGet2, mCallK, M.pick]
  refine reach_ok hw fun R hR hN _ => ?_
  obtain ⟨w', ew, hl, hm⟩ := wear_is hw
  cases wearD_inj ew
  simp [bodySem, mRet, mAndV, mOrV, mNotV, mUn, mSlot, mOp2, mTmp, mC, mVar, mMv, mCallP, mCons, mNil, mTup, mLst, mIfS, mNotT, mAndT, mOrT, mTest, mTruth, mSeq, mNext, mRaise, mDrop, mSet, mAsgT, mIf, fIsi, fInS, fEqS, fInt, fIntC, fLen, opd_tmp, opd_slot, data_no, data_val, data_lst, data_dct, Cell.rest, mLc_eq, mFor_eq, mItL, mItT, mItS, mItD, mZip, mRng1, mRng2, mYes, take_one, take_many, setAll_cons, setAll_nil, semB, semN, wipe_nil, wipe_cons, mDisp1, mMv, mDPut, mAppend, fDGet, fDIn, M.keyOf, mSl, mPart, mNoPart, fSlL, fInt1_int, fInt1_bool, fSum_ints, fSum_take, mCall1, fMax2_ints, fMin2_ints, cut_to1, fIxL, mLPut, mCallB, CPow, mPar2, mPar3, fLtS, mCall1M, mGet1, fSortedDk, mTry, handle, cxK, mDnew, mGet2, mCallK, M.pick, dot_signs, seen_signs]
  refine ⟨w, R, rfl, hR, fun _ => ⟨_, rfl, fRepr_ok (due_sm hm) ?_⟩⟩
  refine rows1 hw fun c5 => ⟨_, rfl, fRepr_ok (due_sm hm) ?_⟩
  simp [bodySem, mRet, mAndV, mOrV, mNotV, mUn, mSlot, mOp2, mTmp, mC, mVar, mMv, mCallP, mCons, mNil, mTup, mLst, mIfS, mNotT, mAndT, mOrT, mTest, mTruth, mSeq, mNext, mRaise, mDrop, mSet, mAsgT, mIf, fIsi, fInS, fEqS, fInt, fIntC, fLen, opd_tmp, opd_slot, data_no, data_val, data_lst, data_dct, Cell.rest, mLc_eq, mFor_eq, mItL, mItT, mItS, mItD, mZip, mRng1, mRng2, mYes, take_one, take_many, setAll_cons, setAll_nil, semB, semN, wipe_nil, wipe_cons, mDisp1, mMv, mDPut, mAppend, fDGet, fDIn, M.keyOf, mSl, mPart, mNoPart, fSlL, fInt1_int, fInt1_bool, fSum_ints, fSum_take, mCall1, fMax2_ints, fMin2_ints, cut_to1, fIxL, mLPut, mCallB, CPow, mPar2, mPar3, fLtS, mCall1M, mGet1, fSortedDk, mTry, handle, cxK, mDnew, mGet2, mCallK, M.pick, eqS_str]
  refine for_by (fun i env => ∃ c4 c5, env = [.lst b1, .val (wearD w), .val (.dict (reachD R)), .val (.str (PyData.list (dueD w)).shown), c4, c5, .no, .no, .no]) ⟨_, _, rfl⟩ (fun i d env hi hW E hE _ _ _ => ?_) fun env hW => ?_
  · obtain ⟨c4, c5, rfl⟩ := hW
    obtain ⟨x, hx, rfl⟩ := str_at hi
    have xw := List.mem_of_getElem? hx
    simp [bodySem, mRet, mAndV, mOrV, mNotV, mUn, mSlot, mOp2, mTmp, mC, mVar, mMv, mCallP, mCons, mNil, mTup, mLst, mIfS, mNotT, mAndT, mOrT, mTest, mTruth, mSeq, mNext, mRaise, mDrop, mSet, mAsgT, mIf, fIsi, fInS, fEqS, fInt, fIntC, fLen, opd_tmp, opd_slot, data_no, data_val, data_lst, data_dct, Cell.rest, mLc_eq, mFor_eq, mItL, mItT, mItS, mItD, mZip, mRng1, mRng2, mYes, take_one, take_many, setAll_cons, setAll_nil, semB, semN, wipe_nil, wipe_cons, mDisp1, mMv, mDPut, mAppend, fDGet, fDIn, M.keyOf, mSl, mPart, mNoPart, fSlL, fInt1_int, fInt1_bool, fSum_ints, fSum_take, mCall1, fMax2_ints, fMin2_ints, cut_to1, fIxL, mLPut, mCallB, CPow, mPar2, mPar3, fLtS, mCall1M, mGet1, fSortedDk, mTry, handle, cxK, mDnew, mGet2, mCallK, M.pick]
    refine comes_ok' hw xw fun _ => ⟨_, rfl, fRepr_ok (comesL_sm w x) ?_⟩
    have gk := getK_reach (R := R) xw
    simp [bodySem, mRet, mAndV, mOrV, mNotV, mUn, mSlot, mOp2, mTmp, mC, mVar, mMv, mCallP, mCons, mNil, mTup, mLst, mIfS, mNotT, mAndT, mOrT, mTest, mTruth, mSeq, mNext, mRaise, mDrop, mSet, mAsgT, mIf, fIsi, fInS, fEqS, fInt, fIntC, fLen, opd_tmp, opd_slot, data_no, data_val, data_lst, data_dct, Cell.rest, mLc_eq, mFor_eq, mItL, mItT, mItS, mItD, mZip, mRng1, mRng2, mYes, take_one, take_many, setAll_cons, setAll_nil, semB, semN, wipe_nil, wipe_cons, mDisp1, mMv, mDPut, mAppend, fDGet, fDIn, M.keyOf, mSl, mPart, mNoPart, fSlL, fInt1_int, fInt1_bool, fSum_ints, fSum_take, mCall1, fMax2_ints, fMin2_ints, cut_to1, fIxL, mLPut, mCallB, CPow, mPar2, mPar3, fLtS, mCall1M, mGet1, fSortedDk, mTry, handle, cxK, mDnew, mGet2, mCallK, M.pick, gk, fListD]
    have ek : List.map (fun x => x.fst) (encK (R x)) = ((R x).map (·.1)).map PyData.str := by unfold encK; rw [List.map_map, List.map_map]; rfl
    rw [ek]
    refine fSorted_strs (ys := comesL w x) (fun y => ?_) (hN x xw) (comesL_asc w x) ?_ ?_
    · rw [comesL_mem hm xw, ← hR x xw y]
      have q := @look_none y (R x)
      exact ⟨fun a b => q.mp b a, fun a => Classical.byContradiction fun b => a (q.mpr b)⟩
    · have := nodup_le (m := WRN) (hN x xw) fun y hy => dist_in hm xw (by rw [← hR x xw y]; exact fun z => look_none.mp z hy)
      exact Nat.le_trans this (by decide)
    simp [bodySem, mRet, mAndV, mOrV, mNotV, mUn, mSlot, mOp2, mTmp, mC, mVar, mMv, mCallP, mCons, mNil, mTup, mLst, mIfS, mNotT, mAndT, mOrT, mTest, mTruth, mSeq, mNext, mRaise, mDrop, mSet, mAsgT, mIf, fIsi, fInS, fEqS, fInt, fIntC, fLen, opd_tmp, opd_slot, data_no, data_val, data_lst, data_dct, Cell.rest, mLc_eq, mFor_eq, mItL, mItT, mItS, mItD, mZip, mRng1, mRng2, mYes, take_one, take_many, setAll_cons, setAll_nil, semB, semN, wipe_nil, wipe_cons, mDisp1, mMv, mDPut, mAppend, fDGet, fDIn, M.keyOf, mSl, mPart, mNoPart, fSlL, fInt1_int, fInt1_bool, fSum_ints, fSum_take, mCall1, fMax2_ints, fMin2_ints, cut_to1, fIxL, mLPut, mCallB, CPow, mPar2, mPar3, fLtS, mCall1M, mGet1, fSortedDk, mTry, handle, cxK, mDnew, mGet2, mCallK, M.pick, fTuple]
    refine fRepr_ok (comesL_sm w x) ?_
    simp [bodySem, mRet, mAndV, mOrV, mNotV, mUn, mSlot, mOp2, mTmp, mC, mVar, mMv, mCallP, mCons, mNil, mTup, mLst, mIfS, mNotT, mAndT, mOrT, mTest, mTruth, mSeq, mNext, mRaise, mDrop, mSet, mAsgT, mIf, fIsi, fInS, fEqS, fInt, fIntC, fLen, opd_tmp, opd_slot, data_no, data_val, data_lst, data_dct, Cell.rest, mLc_eq, mFor_eq, mItL, mItT, mItS, mItD, mZip, mRng1, mRng2, mYes, take_one, take_many, setAll_cons, setAll_nil, semB, semN, wipe_nil, wipe_cons, mDisp1, mMv, mDPut, mAppend, fDGet, fDIn, M.keyOf, mSl, mPart, mNoPart, fSlL, fInt1_int, fInt1_bool, fSum_ints, fSum_take, mCall1, fMax2_ints, fMin2_ints, cut_to1, fIxL, mLPut, mCallB, CPow, mPar2, mPar3, fLtS, mCall1M, mGet1, fSortedDk, mTry, handle, cxK, mDnew, mGet2, mCallK, M.pick, eqS_str]
    refine comes_ok' hw xw fun _ => ?_
    refine comes_ok' hw xw fun _ => ⟨_, rfl, _, rfl, fEqD_same (comesL_sm w x) ?_⟩
    simp
    exact hE _ ⟨_, _, rfl⟩
  · obtain ⟨c4, c5, rfl⟩ := hW
    simp [bodySem, mRet, mAndV, mOrV, mNotV, mUn, mSlot, mOp2, mTmp, mC, mVar, mMv, mCallP, mCons, mNil, mTup, mLst, mIfS, mNotT, mAndT, mOrT, mTest, mTruth, mSeq, mNext, mRaise, mDrop, mSet, mAsgT, mIf, fIsi, fInS, fEqS, fInt, fIntC, fLen, opd_tmp, opd_slot, data_no, data_val, data_lst, data_dct, Cell.rest, mLc_eq, mFor_eq, mItL, mItT, mItS, mItD, mZip, mRng1, mRng2, mYes, take_one, take_many, setAll_cons, setAll_nil, semB, semN, wipe_nil, wipe_cons, mDisp1, mMv, mDPut, mAppend, fDGet, fDIn, M.keyOf, mSl, mPart, mNoPart, fSlL, fInt1_int, fInt1_bool, fSum_ints, fSum_take, mCall1, fMax2_ints, fMin2_ints, cut_to1, fIxL, mLPut, mCallB, CPow, mPar2, mPar3, fLtS, mCall1M, mGet1, fSortedDk, mTry, handle, cxK, mDnew, mGet2, mCallK, M.pick, seen_signs]
    refine for_by (fun i env => ∃ c4 c5 c8, env = [.lst b1, .val (wearD w), .val (.dict (reachD R)), .val (.str (PyData.list (dueD w)).shown), c4, c5, .no, .no, c8]) ⟨_, _, _, rfl⟩ (fun i d env hi hW E hE _ _ _ => ?_) fun env hW => ?_
    · obtain ⟨c4, c5, c8, rfl⟩ := hW
      obtain ⟨y, hy, rfl⟩ := str_at hi
      have yw := List.mem_of_getElem? hy
      simp [bodySem, mRet, mAndV, mOrV, mNotV, mUn, mSlot, mOp2, mTmp, mC, mVar, mMv, mCallP, mCons, mNil, mTup, mLst, mIfS, mNotT, mAndT, mOrT, mTest, mTruth, mSeq, mNext, mRaise, mDrop, mSet, mAsgT, mIf, fIsi, fInS, fEqS, fInt, fIntC, fLen, opd_tmp, opd_slot, data_no, data_val, data_lst, data_dct, Cell.rest, mLc_eq, mFor_eq, mItL, mItT, mItS, mItD, mZip, mRng1, mRng2, mYes, take_one, take_many, setAll_cons, setAll_nil, semB, semN, wipe_nil, wipe_cons, mDisp1, mMv, mDPut, mAppend, fDGet, fDIn, M.keyOf, mSl, mPart, mNoPart, fSlL, fInt1_int, fInt1_bool, fSum_ints, fSum_take, mCall1, fMax2_ints, fMin2_ints, cut_to1, fIxL, mLPut, mCallB, CPow, mPar2, mPar3, fLtS, mCall1M, mGet1, fSortedDk, mTry, handle, cxK, mDnew, mGet2, mCallK, M.pick, abc_signs]
      let F : PyData → Bool := fun d => match d with | .str x => decide (y = "?") || (dist w x y).isSome | _ => false
      refine lc_by F id (small_line (by decide)) (fun d hd acc N h1 h2 => ?_) ?_
      · obtain ⟨x, hx, rfl⟩ := List.mem_map.mp hd
        have gk := getK_reach (R := R) (sgn_wrn hx)
        have la := hR x (sgn_wrn hx) y
        simp [F] at h2
        by_cases e : y = "?"
        · simp [e] at h2
          simp [bodySem, mRet, mAndV, mOrV, mNotV, mUn, mSlot, mOp2, mTmp, mC, mVar, mMv, mCallP, mCons, mNil, mTup, mLst, mIfS, mNotT, mAndT, mOrT, mTest, mTruth, mSeq, mNext, mRaise, mDrop, mSet, mAsgT, mIf, fIsi, fInS, fEqS, fInt, fIntC, fLen, opd_tmp, opd_slot, data_no, data_val, data_lst, data_dct, Cell.rest, mLc_eq, mFor_eq, mItL, mItT, mItS, mItD, mZip, mRng1, mRng2, mYes, take_one, take_many, setAll_cons, setAll_nil, semB, semN, wipe_nil, wipe_cons, mDisp1, mMv, mDPut, mAppend, fDGet, fDIn, M.keyOf, mSl, mPart, mNoPart, fSlL, fInt1_int, fInt1_bool, fSum_ints, fSum_take, mCall1, fMax2_ints, fMin2_ints, cut_to1, fIxL, mLPut, mCallB, CPow, mPar2, mPar3, fLtS, mCall1M, mGet1, fSortedDk, mTry, handle, cxK, mDnew, mGet2, mCallK, M.pick, gk, getK_enc, la, eqS_str, e]
          exact ⟨h1, h2⟩
        · cases q : dist w x y with
          | none =>
            simp [e, q] at h2
            simp [bodySem, mRet, mAndV, mOrV, mNotV, mUn, mSlot, mOp2, mTmp, mC, mVar, mMv, mCallP, mCons, mNil, mTup, mLst, mIfS, mNotT, mAndT, mOrT, mTest, mTruth, mSeq, mNext, mRaise, mDrop, mSet, mAsgT, mIf, fIsi, fInS, fEqS, fInt, fIntC, fLen, opd_tmp, opd_slot, data_no, data_val, data_lst, data_dct, Cell.rest, mLc_eq, mFor_eq, mItL, mItT, mItS, mItD, mZip, mRng1, mRng2, mYes, take_one, take_many, setAll_cons, setAll_nil, semB, semN, wipe_nil, wipe_cons, mDisp1, mMv, mDPut, mAppend, fDGet, fDIn, M.keyOf, mSl, mPart, mNoPart, fSlL, fInt1_int, fInt1_bool, fSum_ints, fSum_take, mCall1, fMax2_ints, fMin2_ints, cut_to1, fIxL, mLPut, mCallB, CPow, mPar2, mPar3, fLtS, mCall1M, mGet1, fSortedDk, mTry, handle, cxK, mDnew, mGet2, mCallK, M.pick, gk, getK_enc, la, eqS_str, e, q]
            exact h2
          | some n =>
            simp [e, q] at h2
            simp [bodySem, mRet, mAndV, mOrV, mNotV, mUn, mSlot, mOp2, mTmp, mC, mVar, mMv, mCallP, mCons, mNil, mTup, mLst, mIfS, mNotT, mAndT, mOrT, mTest, mTruth, mSeq, mNext, mRaise, mDrop, mSet, mAsgT, mIf, fIsi, fInS, fEqS, fInt, fIntC, fLen, opd_tmp, opd_slot, data_no, data_val, data_lst, data_dct, Cell.rest, mLc_eq, mFor_eq, mItL, mItT, mItS, mItD, mZip, mRng1, mRng2, mYes, take_one, take_many, setAll_cons, setAll_nil, semB, semN, wipe_nil, wipe_cons, mDisp1, mMv, mDPut, mAppend, fDGet, fDIn, M.keyOf, mSl, mPart, mNoPart, fSlL, fInt1_int, fInt1_bool, fSum_ints, fSum_take, mCall1, fMax2_ints, fMin2_ints, cut_to1, fIxL, mLPut, mCallB, CPow, mPar2, mPar3, fLtS, mCall1M, mGet1, fSortedDk, mTry, handle, cxK, mDnew, mGet2, mCallK, M.pick, gk, getK_enc, la, eqS_str, e, q]
            exact ⟨h1, h2⟩
      · rw [List.map_id]
        have eF : (List.filter F (SGN.map PyData.str)) = (fromL w y).map PyData.str := by
          rw [List.filter_map]
          unfold fromL
          by_cases e : y = "?"
          · rw [if_pos e]
            congr 1
            refine List.filter_eq_self.mpr fun a _ => ?_
            simp [F, e]
          · rw [if_neg e]
            congr 1
            refine List.filter_congr fun a _ => ?_
            simp [F, e]
        rw [eF]
        simp [bodySem, mRet, mAndV, mOrV, mNotV, mUn, mSlot, mOp2, mTmp, mC, mVar, mMv, mCallP, mCons, mNil, mTup, mLst, mIfS, mNotT, mAndT, mOrT, mTest, mTruth, mSeq, mNext, mRaise, mDrop, mSet, mAsgT, mIf, fIsi, fInS, fEqS, fInt, fIntC, fLen, opd_tmp, opd_slot, data_no, data_val, data_lst, data_dct, Cell.rest, mLc_eq, mFor_eq, mItL, mItT, mItS, mItD, mZip, mRng1, mRng2, mYes, take_one, take_many, setAll_cons, setAll_nil, semB, semN, wipe_nil, wipe_cons, mDisp1, mMv, mDPut, mAppend, fDGet, fDIn, M.keyOf, mSl, mPart, mNoPart, fSlL, fInt1_int, fInt1_bool, fSum_ints, fSum_take, mCall1, fMax2_ints, fMin2_ints, cut_to1, fIxL, mLPut, mCallB, CPow, mPar2, mPar3, fLtS, mCall1M, mGet1, fSortedDk, mTry, handle, cxK, mDnew, mGet2, mCallK, M.pick, fTuple]
        refine from_seen_ok hw yw fun _ => ⟨_, rfl, fRepr_ok (fromL_sm w y) ?_⟩
        simp [bodySem, mRet, mAndV, mOrV, mNotV, mUn, mSlot, mOp2, mTmp, mC, mVar, mMv, mCallP, mCons, mNil, mTup, mLst, mIfS, mNotT, mAndT, mOrT, mTest, mTruth, mSeq, mNext, mRaise, mDrop, mSet, mAsgT, mIf, fIsi, fInS, fEqS, fInt, fIntC, fLen, opd_tmp, opd_slot, data_no, data_val, data_lst, data_dct, Cell.rest, mLc_eq, mFor_eq, mItL, mItT, mItS, mItD, mZip, mRng1, mRng2, mYes, take_one, take_many, setAll_cons, setAll_nil, semB, semN, wipe_nil, wipe_cons, mDisp1, mMv, mDPut, mAppend, fDGet, fDIn, M.keyOf, mSl, mPart, mNoPart, fSlL, fInt1_int, fInt1_bool, fSum_ints, fSum_take, mCall1, fMax2_ints, fMin2_ints, cut_to1, fIxL, mLPut, mCallB, CPow, mPar2, mPar3, fLtS, mCall1M, mGet1, fSortedDk, mTry, handle, cxK, mDnew, mGet2, mCallK, M.pick]
        refine fRepr_ok (fromL_sm w y) ?_
        simp [bodySem, mRet, mAndV, mOrV, mNotV, mUn, mSlot, mOp2, mTmp, mC, mVar, mMv, mCallP, mCons, mNil, mTup, mLst, mIfS, mNotT, mAndT, mOrT, mTest, mTruth, mSeq, mNext, mRaise, mDrop, mSet, mAsgT, mIf, fIsi, fInS, fEqS, fInt, fIntC, fLen, opd_tmp, opd_slot, data_no, data_val, data_lst, data_dct, Cell.rest, mLc_eq, mFor_eq, mItL, mItT, mItS, mItD, mZip, mRng1, mRng2, mYes, take_one, take_many, setAll_cons, setAll_nil, semB, semN, wipe_nil, wipe_cons, mDisp1, mMv, mDPut, mAppend, fDGet, fDIn, M.keyOf, mSl, mPart, mNoPart, fSlL, fInt1_int, fInt1_bool, fSum_ints, fSum_take, mCall1, fMax2_ints, fMin2_ints, cut_to1, fIxL, mLPut, mCallB, CPow, mPar2, mPar3, fLtS, mCall1M, mGet1, fSortedDk, mTry, handle, cxK, mDnew, mGet2, mCallK, M.pick, eqS_str]
        refine from_seen_ok hw yw fun _ => ⟨_, rfl, ?_⟩
        refine fEqD_same (fromL_sm w y) ?_
        simp
        exact hE _ ⟨_, _, _, rfl⟩
    · obtain ⟨c4, c5, c8, rfl⟩ := hW
      simp [bodySem, mRet, mAndV, mOrV, mNotV, mUn, mSlot, mOp2, mTmp, mC, mVar, mMv, mCallP, mCons, mNil, mTup, mLst, mIfS, mNotT, mAndT, mOrT, mTest, mTruth, mSeq, mNext, mRaise, mDrop, mSet, mAsgT, mIf, fIsi, fInS, fEqS, fInt, fIntC, fLen, opd_tmp, opd_slot, data_no, data_val, data_lst, data_dct, Cell.rest, mLc_eq, mFor_eq, mItL, mItT, mItS, mItD, mZip, mRng1, mRng2, mYes, take_one, take_many, setAll_cons, setAll_nil, semB, semN, wipe_nil, wipe_cons, mDisp1, mMv, mDPut, mAppend, fDGet, fDIn, M.keyOf, mSl, mPart, mNoPart, fSlL, fInt1_int, fInt1_bool, fSum_ints, fSum_take, mCall1, fMax2_ints, fMin2_ints, cut_to1, fIxL, mLPut, mCallB, CPow, mPar2, mPar3, fLtS, mCall1M, mGet1, fSortedDk, mTry, handle, cxK, mDnew, mGet2, mCallK, M.pick, seen_signs, dot_signs]
      refine wear_ok hb1 (by omega) fun b2 v hb2 hv => ?_
      obtain ⟨v', ev, hvl, hvm⟩ := wear_is hv
      cases wearD_inj ev
      simp [bodySem, mRet, mAndV, mOrV, mNotV, mUn, mSlot, mOp2, mTmp, mC, mVar, mMv, mCallP, mCons, mNil, mTup, mLst, mIfS, mNotT, mAndT, mOrT, mTest, mTruth, mSeq, mNext, mRaise, mDrop, mSet, mAsgT, mIf, fIsi, fInS, fEqS, fInt, fIntC, fLen, opd_tmp, opd_slot, data_no, data_val, data_lst, data_dct, Cell.rest, mLc_eq, mFor_eq, mItL, mItT, mItS, mItD, mZip, mRng1, mRng2, mYes, take_one, take_many, setAll_cons, setAll_nil, semB, semN, wipe_nil, wipe_cons, mDisp1, mMv, mDPut, mAppend, fDGet, fDIn, M.keyOf, mSl, mPart, mNoPart, fSlL, fInt1_int, fInt1_bool, fSum_ints, fSum_take, mCall1, fMax2_ints, fMin2_ints, cut_to1, fIxL, mLPut, mCallB, CPow, mPar2, mPar3, fLtS, mCall1M, mGet1, fSortedDk, mTry, handle, cxK, mDnew, mGet2, mCallK, M.pick, seen_signs, dot_signs]
      refine rows2 hv fun c5 => ⟨_, rfl, fRepr_ok (due_sm hvm) ?_⟩
      simp [bodySem, mRet, mAndV, mOrV, mNotV, mUn, mSlot, mOp2, mTmp, mC, mVar, mMv, mCallP, mCons, mNil, mTup, mLst, mIfS, mNotT, mAndT, mOrT, mTest, mTruth, mSeq, mNext, mRaise, mDrop, mSet, mAsgT, mIf, fIsi, fInS, fEqS, fInt, fIntC, fLen, opd_tmp, opd_slot, data_no, data_val, data_lst, data_dct, Cell.rest, mLc_eq, mFor_eq, mItL, mItT, mItS, mItD, mZip, mRng1, mRng2, mYes, take_one, take_many, setAll_cons, setAll_nil, semB, semN, wipe_nil, wipe_cons, mDisp1, mMv, mDPut, mAppend, fDGet, fDIn, M.keyOf, mSl, mPart, mNoPart, fSlL, fInt1_int, fInt1_bool, fSum_ints, fSum_take, mCall1, fMax2_ints, fMin2_ints, cut_to1, fIxL, mLPut, mCallB, CPow, mPar2, mPar3, fLtS, mCall1M, mGet1, fSortedDk, mTry, handle, cxK, mDnew, mGet2, mCallK, M.pick]
      refine reach_ok hv fun R2 hR2 _ _ => ?_
      simp [bodySem, mRet, mAndV, mOrV, mNotV, mUn, mSlot, mOp2, mTmp, mC, mVar, mMv, mCallP, mCons, mNil, mTup, mLst, mIfS, mNotT, mAndT, mOrT, mTest, mTruth, mSeq, mNext, mRaise, mDrop, mSet, mAsgT, mIf, fIsi, fInS, fEqS, fInt, fIntC, fLen, opd_tmp, opd_slot, data_no, data_val, data_lst, data_dct, Cell.rest, mLc_eq, mFor_eq, mItL, mItT, mItS, mItD, mZip, mRng1, mRng2, mYes, take_one, take_many, setAll_cons, setAll_nil, semB, semN, wipe_nil, wipe_cons, mDisp1, mMv, mDPut, mAppend, fDGet, fDIn, M.keyOf, mSl, mPart, mNoPart, fSlL, fInt1_int, fInt1_bool, fSum_ints, fSum_take, mCall1, fMax2_ints, fMin2_ints, cut_to1, fIxL, mLPut, mCallB, CPow, mPar2, mPar3, fLtS, mCall1M, mGet1, fSortedDk, mTry, handle, cxK, mDnew, mGet2, mCallK, M.pick]
      refine ⟨v, R2, rfl, hR2, fun _ => ⟨_, rfl, fRepr_ok (due_sm hvm) ?_⟩⟩
      simp [bodySem, mRet, mAndV, mOrV, mNotV, mUn, mSlot, mOp2, mTmp, mC, mVar, mMv, mCallP, mCons, mNil, mTup, mLst, mIfS, mNotT, mAndT, mOrT, mTest, mTruth, mSeq, mNext, mRaise, mDrop, mSet, mAsgT, mIf, fIsi, fInS, fEqS, fInt, fIntC, fLen, opd_tmp, opd_slot, data_no, data_val, data_lst, data_dct, Cell.rest, mLc_eq, mFor_eq, mItL, mItT, mItS, mItD, mZip, mRng1, mRng2, mYes, take_one, take_many, setAll_cons, setAll_nil, semB, semN, wipe_nil, wipe_cons, mDisp1, mMv, mDPut, mAppend, fDGet, fDIn, M.keyOf, mSl, mPart, mNoPart, fSlL, fInt1_int, fInt1_bool, fSum_ints, fSum_take, mCall1, fMax2_ints, fMin2_ints, cut_to1, fIxL, mLPut, mCallB, CPow, mPar2, mPar3, fLtS, mCall1M, mGet1, fSortedDk, mTry, handle, cxK, mDnew, mGet2, mCallK, M.pick, eqS_str, seen_signs, dot_signs]
      refine rows3 hw fun c5 => ⟨_, rfl, fRepr_ok (due_sm hm) ?_⟩
      simp [bodySem, mRet, mAndV, mOrV, mNotV, mUn, mSlot, mOp2, mTmp, mC, mVar, mMv, mCallP, mCons, mNil, mTup, mLst, mIfS, mNotT, mAndT, mOrT, mTest, mTruth, mSeq, mNext, mRaise, mDrop, mSet, mAsgT, mIf, fIsi, fInS, fEqS, fInt, fIntC, fLen, opd_tmp, opd_slot, data_no, data_val, data_lst, data_dct, Cell.rest, mLc_eq, mFor_eq, mItL, mItT, mItS, mItD, mZip, mRng1, mRng2, mYes, take_one, take_many, setAll_cons, setAll_nil, semB, semN, wipe_nil, wipe_cons, mDisp1, mMv, mDPut, mAppend, fDGet, fDIn, M.keyOf, mSl, mPart, mNoPart, fSlL, fInt1_int, fInt1_bool, fSum_ints, fSum_take, mCall1, fMax2_ints, fMin2_ints, cut_to1, fIxL, mLPut, mCallB, CPow, mPar2, mPar3, fLtS, mCall1M, mGet1, fSortedDk, mTry, handle, cxK, mDnew, mGet2, mCallK, M.pick, eqS_str]
      refine ⟨by decide, by decide, ?_⟩
      refine pick_ok hb2 (by omega) (by decide) (by decide) fun b3 d hb3 hd => ?_
      have badW : isIn WRN d = false := by
        simp at hd
        rcases hd with rfl | rfl | rfl | rfl | rfl | rfl | rfl | rfl | rfl | rfl | rfl | rfl <;> decide
      have badS : isIn SEN d = false := by
        simp at hd
        rcases hd with rfl | rfl | rfl | rfl | rfl | rfl | rfl | rfl | rfl | rfl | rfl | rfl <;> decide
      simp [bodySem, mRet, mAndV, mOrV, mNotV, mUn, mSlot, mOp2, mTmp, mC, mVar, mMv, mCallP, mCons, mNil, mTup, mLst, mIfS, mNotT, mAndT, mOrT, mTest, mTruth, mSeq, mNext, mRaise, mDrop, mSet, mAsgT, mIf, fIsi, fInS, fEqS, fInt, fIntC, fLen, opd_tmp, opd_slot, data_no, data_val, data_lst, data_dct, Cell.rest, mLc_eq, mFor_eq, mItL, mItT, mItS, mItD, mZip, mRng1, mRng2, mYes, take_one, take_many, setAll_cons, setAll_nil, semB, semN, wipe_nil, wipe_cons, mDisp1, mMv, mDPut, mAppend, fDGet, fDIn, M.keyOf, mSl, mPart, mNoPart, fSlL, fInt1_int, fInt1_bool, fSum_ints, fSum_take, mCall1, fMax2_ints, fMin2_ints, cut_to1, fIxL, mLPut, mCallB, CPow, mPar2, mPar3, fLtS, mCall1M, mGet1, fSortedDk, mTry, handle, cxK, mDnew, mGet2, mCallK, M.pick]
      refine take_ok hb3 (by omega) (by omega) (by omega) fun b4 t hb4 t0 t1 => ?_
      simp [bodySem, mRet, mAndV, mOrV, mNotV, mUn, mSlot, mOp2, mTmp, mC, mVar, mMv, mCallP, mCons, mNil, mTup, mLst, mIfS, mNotT, mAndT, mOrT, mTest, mTruth, mSeq, mNext, mRaise, mDrop, mSet, mAsgT, mIf, fIsi, fInS, fEqS, fInt, fIntC, fLen, opd_tmp, opd_slot, data_no, data_val, data_lst, data_dct, Cell.rest, mLc_eq, mFor_eq, mItL, mItT, mItS, mItD, mZip, mRng1, mRng2, mYes, take_one, take_many, setAll_cons, setAll_nil, semB, semN, wipe_nil, wipe_cons, mDisp1, mMv, mDPut, mAppend, fDGet, fDIn, M.keyOf, mSl, mPart, mNoPart, fSlL, fInt1_int, fInt1_bool, fSum_ints, fSum_take, mCall1, fMax2_ints, fMin2_ints, cut_to1, fIxL, mLPut, mCallB, CPow, mPar2, mPar3, fLtS, mCall1M, mGet1, fSortedDk, mTry, handle, cxK, mDnew, mGet2, mCallK, M.pick]
      refine refused2_ok hw ?_ fun _ => ?_
      · have : t = 0 ∨ t = 1 := by omega
        rcases this with rfl | rfl <;> simp [refB, badW]
      simp [bodySem, mRet, mAndV, mOrV, mNotV, mUn, mSlot, mOp2, mTmp, mC, mVar, mMv, mCallP, mCons, mNil, mTup, mLst, mIfS, mNotT, mAndT, mOrT, mTest, mTruth, mSeq, mNext, mRaise, mDrop, mSet, mAsgT, mIf, fIsi, fInS, fEqS, fInt, fIntC, fLen, opd_tmp, opd_slot, data_no, data_val, data_lst, data_dct, Cell.rest, mLc_eq, mFor_eq, mItL, mItT, mItS, mItD, mZip, mRng1, mRng2, mYes, take_one, take_many, setAll_cons, setAll_nil, semB, semN, wipe_nil, wipe_cons, mDisp1, mMv, mDPut, mAppend, fDGet, fDIn, M.keyOf, mSl, mPart, mNoPart, fSlL, fInt1_int, fInt1_bool, fSum_ints, fSum_take, mCall1, fMax2_ints, fMin2_ints, cut_to1, fIxL, mLPut, mCallB, CPow, mPar2, mPar3, fLtS, mCall1M, mGet1, fSortedDk, mTry, handle, cxK, mDnew, mGet2, mCallK, M.pick]
      refine ⟨by decide, ?_⟩
      refine pick_ok hb4 (by omega) (by decide) (by decide) fun b5 z hb5 hz => ?_
      simp at hz
      simp [bodySem, mRet, mAndV, mOrV, mNotV, mUn, mSlot, mOp2, mTmp, mC, mVar, mMv, mCallP, mCons, mNil, mTup, mLst, mIfS, mNotT, mAndT, mOrT, mTest, mTruth, mSeq, mNext, mRaise, mDrop, mSet, mAsgT, mIf, fIsi, fInS, fEqS, fInt, fIntC, fLen, opd_tmp, opd_slot, data_no, data_val, data_lst, data_dct, Cell.rest, mLc_eq, mFor_eq, mItL, mItT, mItS, mItD, mZip, mRng1, mRng2, mYes, take_one, take_many, setAll_cons, setAll_nil, semB, semN, wipe_nil, wipe_cons, mDisp1, mMv, mDPut, mAppend, fDGet, fDIn, M.keyOf, mSl, mPart, mNoPart, fSlL, fInt1_int, fInt1_bool, fSum_ints, fSum_take, mCall1, fMax2_ints, fMin2_ints, cut_to1, fIxL, mLPut, mCallB, CPow, mPar2, mPar3, fLtS, mCall1M, mGet1, fSortedDk, mTry, handle, cxK, mDnew, mGet2, mCallK, M.pick]
      obtain ⟨zi, rfl, hzi⟩ : ∃ zi : Int, z = .int zi ∧ (zi = 0 ∨ zi = 2) := by
        rcases hz with rfl | rfl
        · exact ⟨0, rfl, .inl rfl⟩
        · exact ⟨2, rfl, .inr rfl⟩
      refine refused2_ok hw ?_ fun _ => ?_
      · rcases hzi with rfl | rfl <;> simp [refB, badS]
      simp [bodySem, mRet, mAndV, mOrV, mNotV, mUn, mSlot, mOp2, mTmp, mC, mVar, mMv, mCallP, mCons, mNil, mTup, mLst, mIfS, mNotT, mAndT, mOrT, mTest, mTruth, mSeq, mNext, mRaise, mDrop, mSet, mAsgT, mIf, fIsi, fInS, fEqS, fInt, fIntC, fLen, opd_tmp, opd_slot, data_no, data_val, data_lst, data_dct, Cell.rest, mLc_eq, mFor_eq, mItL, mItT, mItS, mItD, mZip, mRng1, mRng2, mYes, take_one, take_many, setAll_cons, setAll_nil, semB, semN, wipe_nil, wipe_cons, mDisp1, mMv, mDPut, mAppend, fDGet, fDIn, M.keyOf, mSl, mPart, mNoPart, fSlL, fInt1_int, fInt1_bool, fSum_ints, fSum_take, mCall1, fMax2_ints, fMin2_ints, cut_to1, fIxL, mLPut, mCallB, CPow, mPar2, mPar3, fLtS, mCall1M, mGet1, fSortedDk, mTry, handle, cxK, mDnew, mGet2, mCallK, M.pick]
      refine take_ok hb5 (by omega) (by omega) (by omega) fun b6 t2 hb6 t20 t21 => ?_
      simp [bodySem, mRet, mAndV, mOrV, mNotV, mUn, mSlot, mOp2, mTmp, mC, mVar, mMv, mCallP, mCons, mNil, mTup, mLst, mIfS, mNotT, mAndT, mOrT, mTest, mTruth, mSeq, mNext, mRaise, mDrop, mSet, mAsgT, mIf, fIsi, fInS, fEqS, fInt, fIntC, fLen, opd_tmp, opd_slot, data_no, data_val, data_lst, data_dct, Cell.rest, mLc_eq, mFor_eq, mItL, mItT, mItS, mItD, mZip, mRng1, mRng2, mYes, take_one, take_many, setAll_cons, setAll_nil, semB, semN, wipe_nil, wipe_cons, mDisp1, mMv, mDPut, mAppend, fDGet, fDIn, M.keyOf, mSl, mPart, mNoPart, fSlL, fInt1_int, fInt1_bool, fSum_ints, fSum_take, mCall1, fMax2_ints, fMin2_ints, cut_to1, fIxL, mLPut, mCallB, CPow, mPar2, mPar3, fLtS, mCall1M, mGet1, fSortedDk, mTry, handle, cxK, mDnew, mGet2, mCallK, M.pick]
      refine refused2_ok hw ?_ fun _ => ?_
      · have : t2 = 0 ∨ t2 = 1 := by omega
        have q : isIn WRN (.str "?") = false := by decide
        rcases this with rfl | rfl <;> simp [refB, q]
      simp [bodySem, mRet, mAndV, mOrV, mNotV, mUn, mSlot, mOp2, mTmp, mC, mVar, mMv, mCallP, mCons, mNil, mTup, mLst, mIfS, mNotT, mAndT, mOrT, mTest, mTruth, mSeq, mNext, mRaise, mDrop, mSet, mAsgT, mIf, fIsi, fInS, fEqS, fInt, fIntC, fLen, opd_tmp, opd_slot, data_no, data_val, data_lst, data_dct, Cell.rest, mLc_eq, mFor_eq, mItL, mItT, mItS, mItD, mZip, mRng1, mRng2, mYes, take_one, take_many, setAll_cons, setAll_nil, semB, semN, wipe_nil, wipe_cons, mDisp1, mMv, mDPut, mAppend, fDGet, fDIn, M.keyOf, mSl, mPart, mNoPart, fSlL, fInt1_int, fInt1_bool, fSum_ints, fSum_take, mCall1, fMax2_ints, fMin2_ints, cut_to1, fIxL, mLPut, mCallB, CPow, mPar2, mPar3, fLtS, mCall1M, mGet1, fSortedDk, mTry, handle, cxK, mDnew, mGet2, mCallK, M.pick]
      refine ⟨by decide, ?_⟩
      refine pick_ok hb6 (by omega) (by simp) (by simp) fun b7 z2 hb7 hz2 => ?_
      have badZ : isIn WRN z2 = false := by
        simp at hz2
        rcases hz2 with rfl | rfl
        · decide
        · exact badW
      simp [bodySem, mRet, mAndV, mOrV, mNotV, mUn, mSlot, mOp2, mTmp, mC, mVar, mMv, mCallP, mCons, mNil, mTup, mLst, mIfS, mNotT, mAndT, mOrT, mTest, mTruth, mSeq, mNext, mRaise, mDrop, mSet, mAsgT, mIf, fIsi, fInS, fEqS, fInt, fIntC, fLen, opd_tmp, opd_slot, data_no, data_val, data_lst, data_dct, Cell.rest, mLc_eq, mFor_eq, mItL, mItT, mItS, mItD, mZip, mRng1, mRng2, mYes, take_one, take_many, setAll_cons, setAll_nil, semB, semN, wipe_nil, wipe_cons, mDisp1, mMv, mDPut, mAppend, fDGet, fDIn, M.keyOf, mSl, mPart, mNoPart, fSlL, fInt1_int, fInt1_bool, fSum_ints, fSum_take, mCall1, fMax2_ints, fMin2_ints, cut_to1, fIxL, mLPut, mCallB, CPow, mPar2, mPar3, fLtS, mCall1M, mGet1, fSortedDk, mTry, handle, cxK, mDnew, mGet2, mCallK, M.pick]
      refine refused2_ok hw ?_ fun _ => ?_
      · simp [refB, badZ]
      exact k _
theorem F_law (T : Txt K mg A) : FnG P w K mg base (L2.CX P w) 8 A.a_law A.fd_law ["_law_script"] (spM K [] 1 semLaw) := by
  have F__law_right := F__law_right (P := P) (w := w) (base := base) T
  have F__law_bag := F__law_bag (P := P) (w := w) (base := base) T
  refine fnBG T.f_law sc_law [] semLaw fun cdv B oth s H E hgd hr => ?_
  have hu1 := hu_of hr
  have hu64 := hr.units
  have hu65 := hu65_of hr
  refine ⟨_, (sss_cons (ss_for (si_rng1 (by rfl) T.n_range (sa_cons (se_callB (call_max2 rfl) cs_max2 (by rfl) T.n_max rfl (sa_cons se_int (sa_cons (se_callB (call_min2 rfl) cs_min2 (by rfl) T.n_min rfl (sa_cons se_int (sa_cons (se_len (by rfl) T.n_len (so_var 0)) sa_nil))) sa_nil))) sa_nil)) (sg_one 1 sc_law.nd rfl (Or.inl rfl)) (sss_one (ss_if (st_not (st_val (se_call1G (F__law_right) (hr.mono (by decide)) hgd (by rfl) T.g__law_right T.k__law_right (T.b__law_right) (takes_of rfl rfl rfl rfl) (se_callP (F__law_bag) (hr.mono (by decide)) (by rfl) T.g__law_bag T.k__law_bag (T.b__law_bag) (takes_of rfl rfl rfl rfl) (sa_cons (se_var 0) (sa_cons (se_var 1) sa_nil)))))) (sss_one (ss_ret se_bl)) sss_nil)) (fun _ _ _ a b c => ps_for (passes_of rfl) rfl a b c)) (sss_one (ss_ret se_bl))), ?_⟩
  intro xk args Kd _ h
  obtain ⟨ns, rfl, hl, _, kk⟩ := h
  simp [bodySem, mRet, mAndV, mOrV, mNotV, mUn, mSlot, mOp2, mTmp, mC, mVar, mMv, mCallP, mCons, mNil, mTup, mLst, mIfS, mNotT, mAndT, mOrT, mTest, mTruth, mSeq, mNext, mRaise, mDrop, mSet, mAsgT, mIf, fIsi, fInS, fEqS, fInt, fIntC, fLen, opd_tmp, opd_slot, data_no, data_val, data_lst, data_dct, Cell.rest, mLc_eq, mFor_eq, mItL, mItT, mItS, mItD, mZip, mRng1, mRng2, mYes, take_one, take_many, setAll_cons, setAll_nil, semB, semN, wipe_nil, wipe_cons, mDisp1, mMv, mDPut, mAppend, fDGet, fDIn, M.keyOf, mSl, mPart, mNoPart, fSlL, fInt1_int, fInt1_bool, fSum_ints, fSum_take, mCall1, fMax2_ints, fMin2_ints, cut_to1, fIxL, mLPut, mCallB, CPow, mPar2, mPar3, fLtS, mCall1M, mGet1, fSortedDk, mTry, handle, cxK, mDnew, mGet2, mCallK, M.pick, lenD]
  obtain ⟨J, hJ, hJ2, hJ3⟩ : ∃ J : Int, (if 1 < if (ns.length : Int) < 4 then (ns.length : Int) else 4 then if (ns.length : Int) < 4 then (ns.length : Int) else 4 else 1) = J ∧ J ≤ 4 ∧ 0 ≤ J := ⟨_, rfl, by split <;> (try split) <;> omega, by split <;> (try split) <;> omega⟩
  rw [hJ]
  refine ⟨by omega, by omega, ?_⟩
  refine for_by (fun _ env => ∃ c1, env = [.val (.list (ns.map .int)), c1]) ⟨_, rfl⟩ (fun k d env hk hW E hE _ _ _ => ?_) fun env hW => ?_
  · obtain ⟨c1, rfl⟩ := hW
    obtain ⟨rfl, hk2⟩ := range_at hk
    simp [bodySem, mRet, mAndV, mOrV, mNotV, mUn, mSlot, mOp2, mTmp, mC, mVar, mMv, mCallP, mCons, mNil, mTup, mLst, mIfS, mNotT, mAndT, mOrT, mTest, mTruth, mSeq, mNext, mRaise, mDrop, mSet, mAsgT, mIf, fIsi, fInS, fEqS, fInt, fIntC, fLen, opd_tmp, opd_slot, data_no, data_val, data_lst, data_dct, Cell.rest, mLc_eq, mFor_eq, mItL, mItT, mItS, mItD, mZip, mRng1, mRng2, mYes, take_one, take_many, setAll_cons, setAll_nil, semB, semN, wipe_nil, wipe_cons, mDisp1, mMv, mDPut, mAppend, fDGet, fDIn, M.keyOf, mSl, mPart, mNoPart, fSlL, fInt1_int, fInt1_bool, fSum_ints, fSum_take, mCall1, fMax2_ints, fMin2_ints, cut_to1, fIxL, mLPut, mCallB, CPow, mPar2, mPar3, fLtS, mCall1M, mGet1, fSortedDk, mTry, handle, cxK, mDnew, mGet2, mCallK, M.pick]
    refine bag_ok hl (by omega) (by omega) fun bs e hb => ?_
    simp [bodySem, mRet, mAndV, mOrV, mNotV, mUn, mSlot, mOp2, mTmp, mC, mVar, mMv, mCallP, mCons, mNil, mTup, mLst, mIfS, mNotT, mAndT, mOrT, mTest, mTruth, mSeq, mNext, mRaise, mDrop, mSet, mAsgT, mIf, fIsi, fInS, fEqS, fInt, fIntC, fLen, opd_tmp, opd_slot, data_no, data_val, data_lst, data_dct, Cell.rest, mLc_eq, mFor_eq, mItL, mItT, mItS, mItD, mZip, mRng1, mRng2, mYes, take_one, take_many, setAll_cons, setAll_nil, semB, semN, wipe_nil, wipe_cons, mDisp1, mMv, mDPut, mAppend, fDGet, fDIn, M.keyOf, mSl, mPart, mNoPart, fSlL, fInt1_int, fInt1_bool, fSum_ints, fSum_take, mCall1, fMax2_ints, fMin2_ints, cut_to1, fIxL, mLPut, mCallB, CPow, mPar2, mPar3, fLtS, mCall1M, mGet1, fSortedDk, mTry, handle, cxK, mDnew, mGet2, mCallK, M.pick, semRight]
    exact ⟨hb, hE _ ⟨_, rfl⟩⟩
  · obtain ⟨c1, rfl⟩ := hW
    simp [bodySem, mRet, mAndV, mOrV, mNotV, mUn, mSlot, mOp2, mTmp, mC, mVar, mMv, mCallP, mCons, mNil, mTup, mLst, mIfS, mNotT, mAndT, mOrT, mTest, mTruth, mSeq, mNext, mRaise, mDrop, mSet, mAsgT, mIf, fIsi, fInS, fEqS, fInt, fIntC, fLen, opd_tmp, opd_slot, data_no, data_val, data_lst, data_dct, Cell.rest, mLc_eq, mFor_eq, mItL, mItT, mItS, mItD, mZip, mRng1, mRng2, mYes, take_one, take_many, setAll_cons, setAll_nil, semB, semN, wipe_nil, wipe_cons, mDisp1, mMv, mDPut, mAppend, fDGet, fDIn, M.keyOf, mSl, mPart, mNoPart, fSlL, fInt1_int, fInt1_bool, fSum_ints, fSum_take, mCall1, fMax2_ints, fMin2_ints, cut_to1, fIxL, mLPut, mCallB, CPow, mPar2, mPar3, fLtS, mCall1M, mGet1, fSortedDk, mTry, handle, cxK, mDnew, mGet2, mCallK, M.pick]
    exact kk _
end
set_option maxHeartbeats 0 in
theorem all_mk {l : PySem.W.OpenLaw} {w : World} {K : PySem.W.Frag} {h : Heap} {mg : Str → Option Value} {fa : Addr} (X : K.In h) (G : h.Ns mainGlobals mg) (hfa : mg "law" = some (.ref fa))
    {f_is_sign : Addr} {od_is_sign an_is_sign : Option Addr} {sl_is_sign : Array (Option Value)} {oc_is_sign kV_is_sign dc_is_sign pm_is_sign cd_is_sign ct_is_sign : Value}
    {f_is_worn : Addr} {od_is_worn an_is_worn : Option Addr} {sl_is_worn : Array (Option Value)} {oc_is_worn kV_is_worn dc_is_worn pm_is_worn cd_is_worn ct_is_worn : Value}
    {f_is_seen : Addr} {od_is_seen an_is_seen : Option Addr} {sl_is_seen : Array (Option Value)} {oc_is_seen kV_is_seen dc_is_seen pm_is_seen cd_is_seen ct_is_seen : Value}
    {f_need_worn : Addr} {od_need_worn an_need_worn : Option Addr} {sl_need_worn : Array (Option Value)} {oc_need_worn kV_need_worn dc_need_worn pm_need_worn cd_need_worn ct_need_worn : Value}
    {f_need_seen : Addr} {od_need_seen an_need_seen : Option Addr} {sl_need_seen : Array (Option Value)} {oc_need_seen kV_need_seen dc_need_seen pm_need_seen cd_need_seen ct_need_seen : Value}
    {f_is_wear : Addr} {od_is_wear an_is_wear : Option Addr} {sl_is_wear : Array (Option Value)} {oc_is_wear kV_is_wear dc_is_wear pm_is_wear cd_is_wear ct_is_wear : Value}
    {f_is_pair : Addr} {od_is_pair an_is_pair : Option Addr} {sl_is_pair : Array (Option Value)} {oc_is_pair kV_is_pair dc_is_pair pm_is_pair cd_is_pair ct_is_pair : Value}
    {f_need_wear : Addr} {od_need_wear an_need_wear : Option Addr} {sl_need_wear : Array (Option Value)} {oc_need_wear kV_need_wear dc_need_wear pm_need_wear cd_need_wear ct_need_wear : Value}
    {f_steps_from : Addr} {od_steps_from an_steps_from : Option Addr} {sl_steps_from : Array (Option Value)} {oc_steps_from kV_steps_from dc_steps_from pm_steps_from cd_steps_from ct_steps_from : Value}
    {f_steps : Addr} {od_steps an_steps : Option Addr} {sl_steps : Array (Option Value)} {oc_steps kV_steps dc_steps pm_steps cd_steps ct_steps : Value}
    {f_comes_to : Addr} {od_comes_to an_comes_to : Option Addr} {sl_comes_to : Array (Option Value)} {oc_comes_to kV_comes_to dc_comes_to pm_comes_to cd_comes_to ct_comes_to : Value}
    {f_comes_from : Addr} {od_comes_from an_comes_from : Option Addr} {sl_comes_from : Array (Option Value)} {oc_comes_from kV_comes_from dc_comes_from pm_comes_from cd_comes_from ct_comes_from : Value}
    {f__law_bag : Addr} {od__law_bag an__law_bag : Option Addr} {sl__law_bag : Array (Option Value)} {oc__law_bag kV__law_bag dc__law_bag pm__law_bag cd__law_bag ct__law_bag : Value}
    {f__law_take : Addr} {od__law_take an__law_take : Option Addr} {sl__law_take : Array (Option Value)} {oc__law_take kV__law_take dc__law_take pm__law_take cd__law_take ct__law_take : Value}
    {f__law_pick : Addr} {od__law_pick an__law_pick : Option Addr} {sl__law_pick : Array (Option Value)} {oc__law_pick kV__law_pick dc__law_pick pm__law_pick cd__law_pick ct__law_pick : Value}
    {f__law_wear : Addr} {od__law_wear an__law_wear : Option Addr} {sl__law_wear : Array (Option Value)} {oc__law_wear kV__law_wear dc__law_wear pm__law_wear cd__law_wear ct__law_wear : Value}
    {f__law_reach : Addr} {od__law_reach an__law_reach : Option Addr} {sl__law_reach : Array (Option Value)} {oc__law_reach kV__law_reach dc__law_reach pm__law_reach cd__law_reach ct__law_reach : Value}
    {f__law_due : Addr} {od__law_due an__law_due : Option Addr} {sl__law_due : Array (Option Value)} {oc__law_due kV__law_due dc__law_due pm__law_due cd__law_due ct__law_due : Value}
    {f__law_refused : Addr} {od__law_refused an__law_refused : Option Addr} {sl__law_refused : Array (Option Value)} {oc__law_refused kV__law_refused dc__law_refused pm__law_refused cd__law_refused ct__law_refused : Value}
    {f__law_right : Addr} {od__law_right an__law_right : Option Addr} {sl__law_right : Array (Option Value)} {oc__law_right kV__law_right dc__law_right pm__law_right cd__law_right ct__law_right : Value}
    {f_law : Addr} {od_law an_law : Option Addr} {sl_law : Array (Option Value)} {oc_law kV_law dc_law pm_law cd_law ct_law : Value}
    {cc_SIGNS : Addr} {co_SIGNS : Option Addr} {ci_SIGNS : Array Value} {cn_SIGNS : Nat} {cs_SIGNS : Array (Option Value)}
    {cc_WORN_SIGNS : Addr} {co_WORN_SIGNS : Option Addr} {ci_WORN_SIGNS : Array Value} {cn_WORN_SIGNS : Nat} {cs_WORN_SIGNS : Array (Option Value)}
    {cc_SEEN_SIGNS : Addr} {co_SEEN_SIGNS : Option Addr} {ci_SEEN_SIGNS : Array Value} {cn_SEEN_SIGNS : Nat} {cs_SEEN_SIGNS : Array (Option Value)}
    {ctMOST_PAIRS : Tok}
    {ee_BadSign : Addr}
    {ee_BadWear : Addr}
    {ee_StoneError : Addr}
    (a_is_sign : PySem.W.nsIn K mainGlobals "is_sign" = some (some (.ref f_is_sign)))
    (l_is_sign : K.lookup f_is_sign = some ⟨oc_is_sign, od_is_sign, .func (PySem.W.fnOf "is_sign" "is_sign" (defArgs s_is_sign) (defBody s_is_sign) (defScope s_is_sign) .none kV_is_sign dc_is_sign pm_is_sign an_is_sign cd_is_sign ct_is_sign), sl_is_sign⟩)
    (c_is_sign : PySem.W.codeIn K cd_is_sign "is_sign" = true)
    (k_is_sign : PySem.W.keepIn K (.ref f_is_sign) = true)
    (a_is_worn : PySem.W.nsIn K mainGlobals "is_worn" = some (some (.ref f_is_worn)))
    (l_is_worn : K.lookup f_is_worn = some ⟨oc_is_worn, od_is_worn, .func (PySem.W.fnOf "is_worn" "is_worn" (defArgs s_is_worn) (defBody s_is_worn) (defScope s_is_worn) .none kV_is_worn dc_is_worn pm_is_worn an_is_worn cd_is_worn ct_is_worn), sl_is_worn⟩)
    (c_is_worn : PySem.W.codeIn K cd_is_worn "is_worn" = true)
    (k_is_worn : PySem.W.keepIn K (.ref f_is_worn) = true)
    (a_is_seen : PySem.W.nsIn K mainGlobals "is_seen" = some (some (.ref f_is_seen)))
    (l_is_seen : K.lookup f_is_seen = some ⟨oc_is_seen, od_is_seen, .func (PySem.W.fnOf "is_seen" "is_seen" (defArgs s_is_seen) (defBody s_is_seen) (defScope s_is_seen) .none kV_is_seen dc_is_seen pm_is_seen an_is_seen cd_is_seen ct_is_seen), sl_is_seen⟩)
    (c_is_seen : PySem.W.codeIn K cd_is_seen "is_seen" = true)
    (k_is_seen : PySem.W.keepIn K (.ref f_is_seen) = true)
    (a_need_worn : PySem.W.nsIn K mainGlobals "need_worn" = some (some (.ref f_need_worn)))
    (l_need_worn : K.lookup f_need_worn = some ⟨oc_need_worn, od_need_worn, .func (PySem.W.fnOf "need_worn" "need_worn" (defArgs s_need_worn) (defBody s_need_worn) (defScope s_need_worn) .none kV_need_worn dc_need_worn pm_need_worn an_need_worn cd_need_worn ct_need_worn), sl_need_worn⟩)
    (c_need_worn : PySem.W.codeIn K cd_need_worn "need_worn" = true)
    (k_need_worn : PySem.W.keepIn K (.ref f_need_worn) = true)
    (a_need_seen : PySem.W.nsIn K mainGlobals "need_seen" = some (some (.ref f_need_seen)))
    (l_need_seen : K.lookup f_need_seen = some ⟨oc_need_seen, od_need_seen, .func (PySem.W.fnOf "need_seen" "need_seen" (defArgs s_need_seen) (defBody s_need_seen) (defScope s_need_seen) .none kV_need_seen dc_need_seen pm_need_seen an_need_seen cd_need_seen ct_need_seen), sl_need_seen⟩)
    (c_need_seen : PySem.W.codeIn K cd_need_seen "need_seen" = true)
    (k_need_seen : PySem.W.keepIn K (.ref f_need_seen) = true)
    (a_is_wear : PySem.W.nsIn K mainGlobals "is_wear" = some (some (.ref f_is_wear)))
    (l_is_wear : K.lookup f_is_wear = some ⟨oc_is_wear, od_is_wear, .func (PySem.W.fnOf "is_wear" "is_wear" (defArgs s_is_wear) (defBody s_is_wear) (defScope s_is_wear) .none kV_is_wear dc_is_wear pm_is_wear an_is_wear cd_is_wear ct_is_wear), sl_is_wear⟩)
    (c_is_wear : PySem.W.codeIn K cd_is_wear "is_wear" = true)
    (k_is_wear : PySem.W.keepIn K (.ref f_is_wear) = true)
    (a_is_pair : PySem.W.nsIn K mainGlobals "is_pair" = some (some (.ref f_is_pair)))
    (l_is_pair : K.lookup f_is_pair = some ⟨oc_is_pair, od_is_pair, .func (PySem.W.fnOf "is_pair" "is_pair" (defArgs s_is_pair) (defBody s_is_pair) (defScope s_is_pair) .none kV_is_pair dc_is_pair pm_is_pair an_is_pair cd_is_pair ct_is_pair), sl_is_pair⟩)
    (c_is_pair : PySem.W.codeIn K cd_is_pair "is_pair" = true)
    (k_is_pair : PySem.W.keepIn K (.ref f_is_pair) = true)
    (a_need_wear : PySem.W.nsIn K mainGlobals "need_wear" = some (some (.ref f_need_wear)))
    (l_need_wear : K.lookup f_need_wear = some ⟨oc_need_wear, od_need_wear, .func (PySem.W.fnOf "need_wear" "need_wear" (defArgs s_need_wear) (defBody s_need_wear) (defScope s_need_wear) .none kV_need_wear dc_need_wear pm_need_wear an_need_wear cd_need_wear ct_need_wear), sl_need_wear⟩)
    (c_need_wear : PySem.W.codeIn K cd_need_wear "need_wear" = true)
    (k_need_wear : PySem.W.keepIn K (.ref f_need_wear) = true)
    (a_steps_from : PySem.W.nsIn K mainGlobals "steps_from" = some (some (.ref f_steps_from)))
    (l_steps_from : K.lookup f_steps_from = some ⟨oc_steps_from, od_steps_from, .func (PySem.W.fnOf "steps_from" "steps_from" (defArgs s_steps_from) (defBody s_steps_from) (defScope s_steps_from) .none kV_steps_from dc_steps_from pm_steps_from an_steps_from cd_steps_from ct_steps_from), sl_steps_from⟩)
    (c_steps_from : PySem.W.codeIn K cd_steps_from "steps_from" = true)
    (k_steps_from : PySem.W.keepIn K (.ref f_steps_from) = true)
    (a_steps : PySem.W.nsIn K mainGlobals "steps" = some (some (.ref f_steps)))
    (l_steps : K.lookup f_steps = some ⟨oc_steps, od_steps, .func (PySem.W.fnOf "steps" "steps" (defArgs s_steps) (defBody s_steps) (defScope s_steps) .none kV_steps dc_steps pm_steps an_steps cd_steps ct_steps), sl_steps⟩)
    (c_steps : PySem.W.codeIn K cd_steps "steps" = true)
    (k_steps : PySem.W.keepIn K (.ref f_steps) = true)
    (a_comes_to : PySem.W.nsIn K mainGlobals "comes_to" = some (some (.ref f_comes_to)))
    (l_comes_to : K.lookup f_comes_to = some ⟨oc_comes_to, od_comes_to, .func (PySem.W.fnOf "comes_to" "comes_to" (defArgs s_comes_to) (defBody s_comes_to) (defScope s_comes_to) .none kV_comes_to dc_comes_to pm_comes_to an_comes_to cd_comes_to ct_comes_to), sl_comes_to⟩)
    (c_comes_to : PySem.W.codeIn K cd_comes_to "comes_to" = true)
    (k_comes_to : PySem.W.keepIn K (.ref f_comes_to) = true)
    (a_comes_from : PySem.W.nsIn K mainGlobals "comes_from" = some (some (.ref f_comes_from)))
    (l_comes_from : K.lookup f_comes_from = some ⟨oc_comes_from, od_comes_from, .func (PySem.W.fnOf "comes_from" "comes_from" (defArgs s_comes_from) (defBody s_comes_from) (defScope s_comes_from) .none kV_comes_from dc_comes_from pm_comes_from an_comes_from cd_comes_from ct_comes_from), sl_comes_from⟩)
    (c_comes_from : PySem.W.codeIn K cd_comes_from "comes_from" = true)
    (k_comes_from : PySem.W.keepIn K (.ref f_comes_from) = true)
    (a__law_bag : PySem.W.nsIn K mainGlobals "_law_bag" = some (some (.ref f__law_bag)))
    (l__law_bag : K.lookup f__law_bag = some ⟨oc__law_bag, od__law_bag, .func (PySem.W.fnOf "_law_bag" "_law_bag" (defArgs s__law_bag) (defBody s__law_bag) (defScope s__law_bag) .none kV__law_bag dc__law_bag pm__law_bag an__law_bag cd__law_bag ct__law_bag), sl__law_bag⟩)
    (c__law_bag : PySem.W.codeIn K cd__law_bag "_law_bag" = true)
    (k__law_bag : PySem.W.keepIn K (.ref f__law_bag) = true)
    (a__law_take : PySem.W.nsIn K mainGlobals "_law_take" = some (some (.ref f__law_take)))
    (l__law_take : K.lookup f__law_take = some ⟨oc__law_take, od__law_take, .func (PySem.W.fnOf "_law_take" "_law_take" (defArgs s__law_take) (defBody s__law_take) (defScope s__law_take) .none kV__law_take dc__law_take pm__law_take an__law_take cd__law_take ct__law_take), sl__law_take⟩)
    (c__law_take : PySem.W.codeIn K cd__law_take "_law_take" = true)
    (k__law_take : PySem.W.keepIn K (.ref f__law_take) = true)
    (a__law_pick : PySem.W.nsIn K mainGlobals "_law_pick" = some (some (.ref f__law_pick)))
    (l__law_pick : K.lookup f__law_pick = some ⟨oc__law_pick, od__law_pick, .func (PySem.W.fnOf "_law_pick" "_law_pick" (defArgs s__law_pick) (defBody s__law_pick) (defScope s__law_pick) .none kV__law_pick dc__law_pick pm__law_pick an__law_pick cd__law_pick ct__law_pick), sl__law_pick⟩)
    (c__law_pick : PySem.W.codeIn K cd__law_pick "_law_pick" = true)
    (k__law_pick : PySem.W.keepIn K (.ref f__law_pick) = true)
    (a__law_wear : PySem.W.nsIn K mainGlobals "_law_wear" = some (some (.ref f__law_wear)))
    (l__law_wear : K.lookup f__law_wear = some ⟨oc__law_wear, od__law_wear, .func (PySem.W.fnOf "_law_wear" "_law_wear" (defArgs s__law_wear) (defBody s__law_wear) (defScope s__law_wear) .none kV__law_wear dc__law_wear pm__law_wear an__law_wear cd__law_wear ct__law_wear), sl__law_wear⟩)
    (c__law_wear : PySem.W.codeIn K cd__law_wear "_law_wear" = true)
    (k__law_wear : PySem.W.keepIn K (.ref f__law_wear) = true)
    (a__law_reach : PySem.W.nsIn K mainGlobals "_law_reach" = some (some (.ref f__law_reach)))
    (l__law_reach : K.lookup f__law_reach = some ⟨oc__law_reach, od__law_reach, .func (PySem.W.fnOf "_law_reach" "_law_reach" (defArgs s__law_reach) (defBody s__law_reach) (defScope s__law_reach) .none kV__law_reach dc__law_reach pm__law_reach an__law_reach cd__law_reach ct__law_reach), sl__law_reach⟩)
    (c__law_reach : PySem.W.codeIn K cd__law_reach "_law_reach" = true)
    (k__law_reach : PySem.W.keepIn K (.ref f__law_reach) = true)
    (a__law_due : PySem.W.nsIn K mainGlobals "_law_due" = some (some (.ref f__law_due)))
    (l__law_due : K.lookup f__law_due = some ⟨oc__law_due, od__law_due, .func (PySem.W.fnOf "_law_due" "_law_due" (defArgs s__law_due) (defBody s__law_due) (defScope s__law_due) .none kV__law_due dc__law_due pm__law_due an__law_due cd__law_due ct__law_due), sl__law_due⟩)
    (c__law_due : PySem.W.codeIn K cd__law_due "_law_due" = true)
    (k__law_due : PySem.W.keepIn K (.ref f__law_due) = true)
    (a__law_refused : PySem.W.nsIn K mainGlobals "_law_refused" = some (some (.ref f__law_refused)))
    (l__law_refused : K.lookup f__law_refused = some ⟨oc__law_refused, od__law_refused, .func (PySem.W.fnOf "_law_refused" "_law_refused" (defArgs s__law_refused) (defBody s__law_refused) (defScope s__law_refused) .none kV__law_refused dc__law_refused pm__law_refused an__law_refused cd__law_refused ct__law_refused), sl__law_refused⟩)
    (c__law_refused : PySem.W.codeIn K cd__law_refused "_law_refused" = true)
    (k__law_refused : PySem.W.keepIn K (.ref f__law_refused) = true)
    (a__law_right : PySem.W.nsIn K mainGlobals "_law_right" = some (some (.ref f__law_right)))
    (l__law_right : K.lookup f__law_right = some ⟨oc__law_right, od__law_right, .func (PySem.W.fnOf "_law_right" "_law_right" (defArgs s__law_right) (defBody s__law_right) (defScope s__law_right) .none kV__law_right dc__law_right pm__law_right an__law_right cd__law_right ct__law_right), sl__law_right⟩)
    (c__law_right : PySem.W.codeIn K cd__law_right "_law_right" = true)
    (k__law_right : PySem.W.keepIn K (.ref f__law_right) = true)
    (a_law : PySem.W.nsIn K mainGlobals "law" = some (some (.ref f_law)))
    (l_law : K.lookup f_law = some ⟨oc_law, od_law, .func (PySem.W.fnOf "law" "law" (defArgs s_law) (defBody s_law) (defScope s_law) .none kV_law dc_law pm_law an_law cd_law ct_law), sl_law⟩)
    (c_law : PySem.W.codeIn K cd_law "law" = true)
    (k_law : PySem.W.keepIn K (.ref f_law) = true)
    (a_SIGNS : PySem.W.nsIn K mainGlobals "SIGNS" = some (some (.ref cc_SIGNS)))
    (l_SIGNS : K.lookup cc_SIGNS = some ⟨.type "tuple", co_SIGNS, .seq ci_SIGNS cn_SIGNS, cs_SIGNS⟩)
    (z_SIGNS : ci_SIGNS.size ≤ sizeLine)
    (v_SIGNS : Vals ((["a", "b", "c", "d", "e", "f"] : List Str).map V.str) ci_SIGNS.toList)
    (a_WORN_SIGNS : PySem.W.nsIn K mainGlobals "WORN_SIGNS" = some (some (.ref cc_WORN_SIGNS)))
    (l_WORN_SIGNS : K.lookup cc_WORN_SIGNS = some ⟨.type "tuple", co_WORN_SIGNS, .seq ci_WORN_SIGNS cn_WORN_SIGNS, cs_WORN_SIGNS⟩)
    (z_WORN_SIGNS : ci_WORN_SIGNS.size ≤ sizeLine)
    (v_WORN_SIGNS : Vals (([".", "a", "b", "c", "d", "e", "f"] : List Str).map V.str) ci_WORN_SIGNS.toList)
    (a_SEEN_SIGNS : PySem.W.nsIn K mainGlobals "SEEN_SIGNS" = some (some (.ref cc_SEEN_SIGNS)))
    (l_SEEN_SIGNS : K.lookup cc_SEEN_SIGNS = some ⟨.type "tuple", co_SEEN_SIGNS, .seq ci_SEEN_SIGNS cn_SEEN_SIGNS, cs_SEEN_SIGNS⟩)
    (z_SEEN_SIGNS : ci_SEEN_SIGNS.size ≤ sizeLine)
    (v_SEEN_SIGNS : Vals (([".", "?", "a", "b", "c", "d", "e", "f"] : List Str).map V.str) ci_SEEN_SIGNS.toList)
    (a_MOST_PAIRS : PySem.W.nsIn K mainGlobals "MOST_PAIRS" = some (some (.int 20 ctMOST_PAIRS)))
    (a_BadSign : PySem.W.nsIn K mainGlobals "BadSign" = some (some (.ref ee_BadSign)))
    (u_BadSign : PySem.W.subIn K (.ref ee_BadSign) (.type "BaseException") = some true)
    (t_BadSign : PySem.W.typeIn K (.ref ee_BadSign) = some (.type "type"))
    (a_BadWear : PySem.W.nsIn K mainGlobals "BadWear" = some (some (.ref ee_BadWear)))
    (u_BadWear : PySem.W.subIn K (.ref ee_BadWear) (.type "BaseException") = some true)
    (t_BadWear : PySem.W.typeIn K (.ref ee_BadWear) = some (.type "type"))
    (a_StoneError : PySem.W.nsIn K mainGlobals "StoneError" = some (some (.ref ee_StoneError)))
    (u_StoneError : PySem.W.subIn K (.ref ee_StoneError) (.type "BaseException") = some true)
    (t_StoneError : PySem.W.typeIn K (.ref ee_StoneError) = some (.type "type"))
    (x_BadSign : PySem.W.excIn K ee_BadSign [.type "ValueError", .type "Exception", .type "BaseException", .type "object"] "ValueError.__new__" = true)
    (kk_BadSign : PySem.W.keepIn K (.ref ee_BadSign) = true)
    (x_BadWear : PySem.W.excIn K ee_BadWear [.type "ValueError", .type "Exception", .type "BaseException", .type "object"] "ValueError.__new__" = true)
    (kk_BadWear : PySem.W.keepIn K (.ref ee_BadWear) = true)
    (i_BadSign : PySem.W.isClsIn K ee_BadSign = true)
    (s_BadSign_BadSign : PySem.W.subIn K (.ref ee_BadSign) (.ref ee_BadSign) = some true)
    (s_BadWear_BadSign : PySem.W.subIn K (.ref ee_BadWear) (.ref ee_BadSign) = some false)
    (i_StoneError : PySem.W.isClsIn K ee_StoneError = true)
    (s_BadSign_StoneError : PySem.W.subIn K (.ref ee_BadSign) (.ref ee_StoneError) = some true)
    (s_BadWear_StoneError : PySem.W.subIn K (.ref ee_BadWear) (.ref ee_StoneError) = some true)
    (z_all : PySem.W.nsIn K mainGlobals "all" = some none)
    (z_int : PySem.W.nsIn K mainGlobals "int" = some none)
    (z_isinstance : PySem.W.nsIn K mainGlobals "isinstance" = some none)
    (z_len : PySem.W.nsIn K mainGlobals "len" = some none)
    (z_list : PySem.W.nsIn K mainGlobals "list" = some none)
    (z_max : PySem.W.nsIn K mainGlobals "max" = some none)
    (z_min : PySem.W.nsIn K mainGlobals "min" = some none)
    (z_range : PySem.W.nsIn K mainGlobals "range" = some none)
    (z_repr : PySem.W.nsIn K mainGlobals "repr" = some none)
    (z_sorted : PySem.W.nsIn K mainGlobals "sorted" = some none)
    (z_str : PySem.W.nsIn K mainGlobals "str" = some none)
    (z_sum : PySem.W.nsIn K mainGlobals "sum" = some none)
    (z_tuple : PySem.W.nsIn K mainGlobals "tuple" = some none)
    (z_zip : PySem.W.nsIn K mainGlobals "zip" = some none)
    : ∃ fd : FuncData, (∀ (s : Shared) (v : Value), BindsTo s fd ⟨[v], []⟩ [("_law_script", v)]) ∧ ∀ bs : Heap, K.In bs → bs.Ns mainGlobals mg → FnG l.prog w K mg bs (L2.CX l.prog w) 8 fa fd ["_law_script"] (spM K [] 1 semLaw) := by
  have e := hfa.symm.trans (PySem.W.mg_of X G a_law)
  cases e
  let A : Ad := {
    a_is_sign := f_is_sign
    fd_is_sign := PySem.W.fnOf "is_sign" "is_sign" (defArgs s_is_sign) (defBody s_is_sign) (defScope s_is_sign) .none kV_is_sign dc_is_sign pm_is_sign an_is_sign cd_is_sign ct_is_sign
    a_is_worn := f_is_worn
    fd_is_worn := PySem.W.fnOf "is_worn" "is_worn" (defArgs s_is_worn) (defBody s_is_worn) (defScope s_is_worn) .none kV_is_worn dc_is_worn pm_is_worn an_is_worn cd_is_worn ct_is_worn
    a_is_seen := f_is_seen
    fd_is_seen := PySem.W.fnOf "is_seen" "is_seen" (defArgs s_is_seen) (defBody s_is_seen) (defScope s_is_seen) .none kV_is_seen dc_is_seen pm_is_seen an_is_seen cd_is_seen ct_is_seen
    a_need_worn := f_need_worn
    fd_need_worn := PySem.W.fnOf "need_worn" "need_worn" (defArgs s_need_worn) (defBody s_need_worn) (defScope s_need_worn) .none kV_need_worn dc_need_worn pm_need_worn an_need_worn cd_need_worn ct_need_worn
    a_need_seen := f_need_seen
    fd_need_seen := PySem.W.fnOf "need_seen" "need_seen" (defArgs s_need_seen) (defBody s_need_seen) (defScope s_need_seen) .none kV_need_seen dc_need_seen pm_need_seen an_need_seen cd_need_seen ct_need_seen
    a_is_wear := f_is_wear
    fd_is_wear := PySem.W.fnOf "is_wear" "is_wear" (defArgs s_is_wear) (defBody s_is_wear) (defScope s_is_wear) .none kV_is_wear dc_is_wear pm_is_wear an_is_wear cd_is_wear ct_is_wear
    a_is_pair := f_is_pair
    fd_is_pair := PySem.W.fnOf "is_pair" "is_pair" (defArgs s_is_pair) (defBody s_is_pair) (defScope s_is_pair) .none kV_is_pair dc_is_pair pm_is_pair an_is_pair cd_is_pair ct_is_pair
    a_need_wear := f_need_wear
    fd_need_wear := PySem.W.fnOf "need_wear" "need_wear" (defArgs s_need_wear) (defBody s_need_wear) (defScope s_need_wear) .none kV_need_wear dc_need_wear pm_need_wear an_need_wear cd_need_wear ct_need_wear
    a_steps_from := f_steps_from
    fd_steps_from := PySem.W.fnOf "steps_from" "steps_from" (defArgs s_steps_from) (defBody s_steps_from) (defScope s_steps_from) .none kV_steps_from dc_steps_from pm_steps_from an_steps_from cd_steps_from ct_steps_from
    a_steps := f_steps
    fd_steps := PySem.W.fnOf "steps" "steps" (defArgs s_steps) (defBody s_steps) (defScope s_steps) .none kV_steps dc_steps pm_steps an_steps cd_steps ct_steps
    a_comes_to := f_comes_to
    fd_comes_to := PySem.W.fnOf "comes_to" "comes_to" (defArgs s_comes_to) (defBody s_comes_to) (defScope s_comes_to) .none kV_comes_to dc_comes_to pm_comes_to an_comes_to cd_comes_to ct_comes_to
    a_comes_from := f_comes_from
    fd_comes_from := PySem.W.fnOf "comes_from" "comes_from" (defArgs s_comes_from) (defBody s_comes_from) (defScope s_comes_from) .none kV_comes_from dc_comes_from pm_comes_from an_comes_from cd_comes_from ct_comes_from
    a__law_bag := f__law_bag
    fd__law_bag := PySem.W.fnOf "_law_bag" "_law_bag" (defArgs s__law_bag) (defBody s__law_bag) (defScope s__law_bag) .none kV__law_bag dc__law_bag pm__law_bag an__law_bag cd__law_bag ct__law_bag
    a__law_take := f__law_take
    fd__law_take := PySem.W.fnOf "_law_take" "_law_take" (defArgs s__law_take) (defBody s__law_take) (defScope s__law_take) .none kV__law_take dc__law_take pm__law_take an__law_take cd__law_take ct__law_take
    a__law_pick := f__law_pick
    fd__law_pick := PySem.W.fnOf "_law_pick" "_law_pick" (defArgs s__law_pick) (defBody s__law_pick) (defScope s__law_pick) .none kV__law_pick dc__law_pick pm__law_pick an__law_pick cd__law_pick ct__law_pick
    a__law_wear := f__law_wear
    fd__law_wear := PySem.W.fnOf "_law_wear" "_law_wear" (defArgs s__law_wear) (defBody s__law_wear) (defScope s__law_wear) .none kV__law_wear dc__law_wear pm__law_wear an__law_wear cd__law_wear ct__law_wear
    a__law_reach := f__law_reach
    fd__law_reach := PySem.W.fnOf "_law_reach" "_law_reach" (defArgs s__law_reach) (defBody s__law_reach) (defScope s__law_reach) .none kV__law_reach dc__law_reach pm__law_reach an__law_reach cd__law_reach ct__law_reach
    a__law_due := f__law_due
    fd__law_due := PySem.W.fnOf "_law_due" "_law_due" (defArgs s__law_due) (defBody s__law_due) (defScope s__law_due) .none kV__law_due dc__law_due pm__law_due an__law_due cd__law_due ct__law_due
    a__law_refused := f__law_refused
    fd__law_refused := PySem.W.fnOf "_law_refused" "_law_refused" (defArgs s__law_refused) (defBody s__law_refused) (defScope s__law_refused) .none kV__law_refused dc__law_refused pm__law_refused an__law_refused cd__law_refused ct__law_refused
    a__law_right := f__law_right
    fd__law_right := PySem.W.fnOf "_law_right" "_law_right" (defArgs s__law_right) (defBody s__law_right) (defScope s__law_right) .none kV__law_right dc__law_right pm__law_right an__law_right cd__law_right ct__law_right
    a_law := fa
    fd_law := PySem.W.fnOf "law" "law" (defArgs s_law) (defBody s_law) (defScope s_law) .none kV_law dc_law pm_law an_law cd_law ct_law
    c_SIGNS := cc_SIGNS
    c_WORN_SIGNS := cc_WORN_SIGNS
    c_SEEN_SIGNS := cc_SEEN_SIGNS
    c_MOST_PAIRS := ctMOST_PAIRS
    e_BadSign := ee_BadSign
    e_BadWear := ee_BadWear
    e_StoneError := ee_StoneError }
  have T : Txt K mg A := {
    f_is_sign := fun_mk l_is_sign c_is_sign k_is_sign
    g_is_sign := PySem.W.mg_of X G a_is_sign
    k_is_sign := k_is_sign
    b_is_sign := Binds.all fun us hl => match us, hl with | [_], _ => rfl
    f_is_worn := fun_mk l_is_worn c_is_worn k_is_worn
    g_is_worn := PySem.W.mg_of X G a_is_worn
    k_is_worn := k_is_worn
    b_is_worn := Binds.all fun us hl => match us, hl with | [_], _ => rfl
    f_is_seen := fun_mk l_is_seen c_is_seen k_is_seen
    g_is_seen := PySem.W.mg_of X G a_is_seen
    k_is_seen := k_is_seen
    b_is_seen := Binds.all fun us hl => match us, hl with | [_], _ => rfl
    f_need_worn := fun_mk l_need_worn c_need_worn k_need_worn
    g_need_worn := PySem.W.mg_of X G a_need_worn
    k_need_worn := k_need_worn
    b_need_worn := Binds.all fun us hl => match us, hl with | [_], _ => rfl
    f_need_seen := fun_mk l_need_seen c_need_seen k_need_seen
    g_need_seen := PySem.W.mg_of X G a_need_seen
    k_need_seen := k_need_seen
    b_need_seen := Binds.all fun us hl => match us, hl with | [_], _ => rfl
    f_is_wear := fun_mk l_is_wear c_is_wear k_is_wear
    g_is_wear := PySem.W.mg_of X G a_is_wear
    k_is_wear := k_is_wear
    b_is_wear := Binds.all fun us hl => match us, hl with | [_], _ => rfl
    f_is_pair := fun_mk l_is_pair c_is_pair k_is_pair
    g_is_pair := PySem.W.mg_of X G a_is_pair
    k_is_pair := k_is_pair
    b_is_pair := Binds.all fun us hl => match us, hl with | [_], _ => rfl
    f_need_wear := fun_mk l_need_wear c_need_wear k_need_wear
    g_need_wear := PySem.W.mg_of X G a_need_wear
    k_need_wear := k_need_wear
    b_need_wear := Binds.all fun us hl => match us, hl with | [_], _ => rfl
    f_steps_from := fun_mk l_steps_from c_steps_from k_steps_from
    g_steps_from := PySem.W.mg_of X G a_steps_from
    k_steps_from := k_steps_from
    b_steps_from := Binds.all fun us hl => match us, hl with | [_, _], _ => rfl
    f_steps := fun_mk l_steps c_steps k_steps
    g_steps := PySem.W.mg_of X G a_steps
    k_steps := k_steps
    b_steps := Binds.all fun us hl => match us, hl with | [_, _, _], _ => rfl
    f_comes_to := fun_mk l_comes_to c_comes_to k_comes_to
    g_comes_to := PySem.W.mg_of X G a_comes_to
    k_comes_to := k_comes_to
    b_comes_to := Binds.all fun us hl => match us, hl with | [_, _], _ => rfl
    f_comes_from := fun_mk l_comes_from c_comes_from k_comes_from
    g_comes_from := PySem.W.mg_of X G a_comes_from
    k_comes_from := k_comes_from
    b_comes_from := Binds.all fun us hl => match us, hl with | [_, _], _ => rfl
    f__law_bag := fun_mk l__law_bag c__law_bag k__law_bag
    g__law_bag := PySem.W.mg_of X G a__law_bag
    k__law_bag := k__law_bag
    b__law_bag := Binds.all fun us hl => match us, hl with | [_, _], _ => rfl
    f__law_take := fun_mk l__law_take c__law_take k__law_take
    g__law_take := PySem.W.mg_of X G a__law_take
    k__law_take := k__law_take
    b__law_take := Binds.all fun us hl => match us, hl with | [_, _], _ => rfl
    f__law_pick := fun_mk l__law_pick c__law_pick k__law_pick
    g__law_pick := PySem.W.mg_of X G a__law_pick
    k__law_pick := k__law_pick
    b__law_pick := Binds.all fun us hl => match us, hl with | [_, _], _ => rfl
    f__law_wear := fun_mk l__law_wear c__law_wear k__law_wear
    g__law_wear := PySem.W.mg_of X G a__law_wear
    k__law_wear := k__law_wear
    b__law_wear := Binds.all fun us hl => match us, hl with | [_], _ => rfl
    f__law_reach := fun_mk l__law_reach c__law_reach k__law_reach
    g__law_reach := PySem.W.mg_of X G a__law_reach
    k__law_reach := k__law_reach
    b__law_reach := Binds.all fun us hl => match us, hl with | [_], _ => rfl
    f__law_due := fun_mk l__law_due c__law_due k__law_due
    g__law_due := PySem.W.mg_of X G a__law_due
    k__law_due := k__law_due
    b__law_due := Binds.all fun us hl => match us, hl with | [_], _ => rfl
    f__law_refused := fun_mk l__law_refused c__law_refused k__law_refused
    g__law_refused := PySem.W.mg_of X G a__law_refused
    k__law_refused := k__law_refused
    b__law_refused := Binds.all fun us hl => match us, hl with | [_, _, _, _], _ => rfl
    f__law_right := fun_mk l__law_right c__law_right k__law_right
    g__law_right := PySem.W.mg_of X G a__law_right
    k__law_right := k__law_right
    b__law_right := Binds.all fun us hl => match us, hl with | [_], _ => rfl
    f_law := fun_mk l_law c_law k_law
    g_law := PySem.W.mg_of X G a_law
    k_law := k_law
    b_law := Binds.all fun us hl => match us, hl with | [_], _ => rfl
    kb_comes_to_10 := fun s ws hl => match ws, hl with | [_, _], _ => .of_eq rfl
    kb_comes_from_10 := fun s ws hl => match ws, hl with | [_, _], _ => .of_eq rfl
    kb_steps_210 := fun s ws hl => match ws, hl with | [_, _, _], _ => .of_eq rfl
    g_SIGNS := PySem.W.mg_of X G a_SIGNS
    r_SIGNS := rfl
    d_SIGNS := tup_dd (xs := ["a", "b", "c", "d", "e", "f"]) l_SIGNS z_SIGNS v_SIGNS
    g_WORN_SIGNS := PySem.W.mg_of X G a_WORN_SIGNS
    r_WORN_SIGNS := rfl
    d_WORN_SIGNS := tup_dd (xs := [".", "a", "b", "c", "d", "e", "f"]) l_WORN_SIGNS z_WORN_SIGNS v_WORN_SIGNS
    g_SEEN_SIGNS := PySem.W.mg_of X G a_SEEN_SIGNS
    r_SEEN_SIGNS := rfl
    d_SEEN_SIGNS := tup_dd (xs := [".", "?", "a", "b", "c", "d", "e", "f"]) l_SEEN_SIGNS z_SEEN_SIGNS v_SEEN_SIGNS
    g_MOST_PAIRS := PySem.W.mg_of X G a_MOST_PAIRS
    r_MOST_PAIRS := ⟨_, rfl⟩
    d_MOST_PAIRS := fun _ => .int _
    g_BadSign := PySem.W.mg_of X G a_BadSign
    g_BadWear := PySem.W.mg_of X G a_BadWear
    g_StoneError := PySem.W.mg_of X G a_StoneError
    x_BadSign := x_BadSign
    k_BadSign := kk_BadSign
    u_BadSign := u_BadSign
    t_BadSign := t_BadSign
    x_BadWear := x_BadWear
    k_BadWear := kk_BadWear
    u_BadWear := u_BadWear
    t_BadWear := t_BadWear
    m_BadSign_BadSign := exm_of u_BadSign i_BadSign t_BadSign s_BadSign_BadSign
    m_BadWear_BadSign := exm_of u_BadSign i_BadSign t_BadSign s_BadWear_BadSign
    m_BadSign_StoneError := exm_of u_StoneError i_StoneError t_StoneError s_BadSign_StoneError
    m_BadWear_StoneError := exm_of u_StoneError i_StoneError t_StoneError s_BadWear_StoneError
    n_all := PySem.W.mg_none_of X G z_all
    n_int := PySem.W.mg_none_of X G z_int
    n_isinstance := PySem.W.mg_none_of X G z_isinstance
    n_len := PySem.W.mg_none_of X G z_len
    n_list := PySem.W.mg_none_of X G z_list
    n_max := PySem.W.mg_none_of X G z_max
    n_min := PySem.W.mg_none_of X G z_min
    n_range := PySem.W.mg_none_of X G z_range
    n_repr := PySem.W.mg_none_of X G z_repr
    n_sorted := PySem.W.mg_none_of X G z_sorted
    n_str := PySem.W.mg_none_of X G z_str
    n_sum := PySem.W.mg_none_of X G z_sum
    n_tuple := PySem.W.mg_none_of X G z_tuple
    n_zip := PySem.W.mg_none_of X G z_zip }
  exact ⟨A.fd_law, fun s v => .of_eq rfl, fun bs _ _ => F_law T⟩
end K02
open PySem PySem.W PyProof.Rows
set_option maxRecDepth 100000 in
set_option maxHeartbeats 0 in
theorem PySem.Challenge.cw_wornstones_k02_steps_and_what_signs_come_holds : PySem.Challenge.rw_wornstones_k02_steps_and_what_signs_come.Holds := by
  w_on; o_law; k_head; (case hw => w_witness2)
  k_fill
  refine M.walkG (l := PySem.Challenge.rw_wornstones_k02_steps_and_what_signs_come) (n := 63) (k := 8) (x := "_law_script") (sp := fun K => M.spM K [] 1 M.semLaw) rfl (by decide) rfl ⟨rfl, by decide, by decide⟩ (fun w h Y => PySem.W.kIn_of Y) ?F (fun K H a ns hl hb _ hS => M.law_start hl hb hS)
  case F =>
    intro w mg fa h KX G hmg
    refine' K02.all_mk KX G hmg ?a_is_sign ?l_is_sign ?c_is_sign ?k_is_sign ?a_is_worn ?l_is_worn ?c_is_worn ?k_is_worn ?a_is_seen ?l_is_seen ?c_is_seen ?k_is_seen ?a_need_worn ?l_need_worn ?c_need_worn ?k_need_worn ?a_need_seen ?l_need_seen ?c_need_seen ?k_need_seen ?a_is_wear ?l_is_wear ?c_is_wear ?k_is_wear ?a_is_pair ?l_is_pair ?c_is_pair ?k_is_pair ?a_need_wear ?l_need_wear ?c_need_wear ?k_need_wear ?a_steps_from ?l_steps_from ?c_steps_from ?k_steps_from ?a_steps ?l_steps ?c_steps ?k_steps ?a_comes_to ?l_comes_to ?c_comes_to ?k_comes_to ?a_comes_from ?l_comes_from ?c_comes_from ?k_comes_from ?a__law_bag ?l__law_bag ?c__law_bag ?k__law_bag ?a__law_take ?l__law_take ?c__law_take ?k__law_take ?a__law_pick ?l__law_pick ?c__law_pick ?k__law_pick ?a__law_wear ?l__law_wear ?c__law_wear ?k__law_wear ?a__law_reach ?l__law_reach ?c__law_reach ?k__law_reach ?a__law_due ?l__law_due ?c__law_due ?k__law_due ?a__law_refused ?l__law_refused ?c__law_refused ?k__law_refused ?a__law_right ?l__law_right ?c__law_right ?k__law_right ?a_law ?l_law ?c_law ?k_law ?a_SIGNS ?l_SIGNS ?z_SIGNS ?v_SIGNS ?a_WORN_SIGNS ?l_WORN_SIGNS ?z_WORN_SIGNS ?v_WORN_SIGNS ?a_SEEN_SIGNS ?l_SEEN_SIGNS ?z_SEEN_SIGNS ?v_SEEN_SIGNS ?a_MOST_PAIRS ?a_BadSign ?u_BadSign ?t_BadSign ?a_BadWear ?u_BadWear ?t_BadWear ?a_StoneError ?u_StoneError ?t_StoneError ?x_BadSign ?kk_BadSign ?x_BadWear ?kk_BadWear ?i_BadSign ?s_BadSign_BadSign ?s_BadWear_BadSign ?i_StoneError ?s_BadSign_StoneError ?s_BadWear_StoneError ?z_all ?z_int ?z_isinstance ?z_len ?z_list ?z_max ?z_min ?z_range ?z_repr ?z_sorted ?z_str ?z_sum ?z_tuple ?z_zip
    (case a_is_sign => k_is); (case l_is_sign => k_is); (case c_is_sign => k_is); (case k_is_sign => k_is)
    (case a_is_worn => k_is); (case l_is_worn => k_is); (case c_is_worn => k_is); (case k_is_worn => k_is)
    (case a_is_seen => k_is); (case l_is_seen => k_is); (case c_is_seen => k_is); (case k_is_seen => k_is)
    (case a_need_worn => k_is); (case l_need_worn => k_is); (case c_need_worn => k_is); (case k_need_worn => k_is)
    (case a_need_seen => k_is); (case l_need_seen => k_is); (case c_need_seen => k_is); (case k_need_seen => k_is)
    (case a_is_wear => k_is); (case l_is_wear => k_is); (case c_is_wear => k_is); (case k_is_wear => k_is)
    (case a_is_pair => k_is); (case l_is_pair => k_is); (case c_is_pair => k_is); (case k_is_pair => k_is)
    (case a_need_wear => k_is); (case l_need_wear => k_is); (case c_need_wear => k_is); (case k_need_wear => k_is)
    (case a_steps_from => k_is); (case l_steps_from => k_is); (case c_steps_from => k_is); (case k_steps_from => k_is)
    (case a_steps => k_is); (case l_steps => k_is); (case c_steps => k_is); (case k_steps => k_is)
    (case a_comes_to => k_is); (case l_comes_to => k_is); (case c_comes_to => k_is); (case k_comes_to => k_is)
    (case a_comes_from => k_is); (case l_comes_from => k_is); (case c_comes_from => k_is); (case k_comes_from => k_is)
    (case a__law_bag => k_is); (case l__law_bag => k_is); (case c__law_bag => k_is); (case k__law_bag => k_is)
    (case a__law_take => k_is); (case l__law_take => k_is); (case c__law_take => k_is); (case k__law_take => k_is)
    (case a__law_pick => k_is); (case l__law_pick => k_is); (case c__law_pick => k_is); (case k__law_pick => k_is)
    (case a__law_wear => k_is); (case l__law_wear => k_is); (case c__law_wear => k_is); (case k__law_wear => k_is)
    (case a__law_reach => k_is); (case l__law_reach => k_is); (case c__law_reach => k_is); (case k__law_reach => k_is)
    (case a__law_due => k_is); (case l__law_due => k_is); (case c__law_due => k_is); (case k__law_due => k_is)
    (case a__law_refused => k_is); (case l__law_refused => k_is); (case c__law_refused => k_is); (case k__law_refused => k_is)
    (case a__law_right => k_is); (case l__law_right => k_is); (case c__law_right => k_is); (case k__law_right => k_is)
    (case a_law => k_is); (case l_law => k_is); (case c_law => k_is); (case k_law => k_is)
    (case a_SIGNS => k_is); (case l_SIGNS => k_is); (case z_SIGNS => exact (by decide)); (case v_SIGNS => exact (.cons ⟨_, rfl⟩ (.cons ⟨_, rfl⟩ (.cons ⟨_, rfl⟩ (.cons ⟨_, rfl⟩ (.cons ⟨_, rfl⟩ (.cons ⟨_, rfl⟩ .nil)))))))
    (case a_WORN_SIGNS => k_is); (case l_WORN_SIGNS => k_is); (case z_WORN_SIGNS => exact (by decide)); (case v_WORN_SIGNS => exact (.cons ⟨_, rfl⟩ (.cons ⟨_, rfl⟩ (.cons ⟨_, rfl⟩ (.cons ⟨_, rfl⟩ (.cons ⟨_, rfl⟩ (.cons ⟨_, rfl⟩ (.cons ⟨_, rfl⟩ .nil))))))))
    (case a_SEEN_SIGNS => k_is); (case l_SEEN_SIGNS => k_is); (case z_SEEN_SIGNS => exact (by decide)); (case v_SEEN_SIGNS => exact (.cons ⟨_, rfl⟩ (.cons ⟨_, rfl⟩ (.cons ⟨_, rfl⟩ (.cons ⟨_, rfl⟩ (.cons ⟨_, rfl⟩ (.cons ⟨_, rfl⟩ (.cons ⟨_, rfl⟩ (.cons ⟨_, rfl⟩ .nil)))))))))
    (case a_MOST_PAIRS => k_is); (case a_BadSign => k_is); (case u_BadSign => k_is); (case t_BadSign => k_is)
    (case a_BadWear => k_is); (case u_BadWear => k_is); (case t_BadWear => k_is); (case a_StoneError => k_is)
    (case u_StoneError => k_is); (case t_StoneError => k_is); (case x_BadSign => k_exc); (case kk_BadSign => k_is)
    (case x_BadWear => k_exc); (case kk_BadWear => k_is); (case i_BadSign => k_is); (case s_BadSign_BadSign => first | rfl | k_is)
    (case s_BadWear_BadSign => first | rfl | k_is); (case i_StoneError => k_is); (case s_BadSign_StoneError => first | rfl | k_is); (case s_BadWear_StoneError => first | rfl | k_is)
    (case z_all => k_is); (case z_int => k_is); (case z_isinstance => k_is); (case z_len => k_is)
    (case z_list => k_is); (case z_max => k_is); (case z_min => k_is); (case z_range => k_is)
    (case z_repr => k_is); (case z_sorted => k_is); (case z_str => k_is); (case z_sum => k_is)
    (case z_tuple => k_is); (case z_zip => k_is)
