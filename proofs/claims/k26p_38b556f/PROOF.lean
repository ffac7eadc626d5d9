import PyProof.Rows.All
import Wide.All
import OpenK.AllK
import Wide.FinOn
import Lean
import PyProof.EqAt
import PyProof.EqKinds
import PyProof.TupleCall
import KE.KSortTup
import KE.KRevSl
import PyProof.Rows.MinMaxN
import PyProof.DictWalks
import PyProof.IsiH_list
import PyProof.DictValues
import PyProof.SumAny
import PyProof.ExcAttrAll.ValueError
import PyProof.P3Eq
import PySem.Challenge.RW_gatherall_k26_whole_cheapest
set_option Elab.async false
set_option linter.all false
set_option maxRecDepth 100000
namespace L2
open PySem PySem.Spec PyProof.Rows
noncomputable abbrev Key := Sum Int Str
noncomputable def z2Z : Key → Value → Bool
 | .inl k, v => Value.isInt k v
 | .inr x, v => Value.isStrOf x v
noncomputable def keyH (w : World) : Key → Int
 | .inl k => hashInt k
 | .inr x => hashStr w x
theorem zd : ∀ {k : Key} {v : Value}, z2Z k v = true → (∃ i t, k = Sum.inl i ∧ v = Value.int i t) ∨ (∃ x t, k = Sum.inr x ∧ v = Value.str x t)
 | .inl i, v, h => by
  obtain ⟨t, e⟩ := Value.isInt_shape (k := i) (v := v) h
  exact .inl ⟨i, t, rfl, e⟩
 | .inr x, v, h => by
  obtain ⟨t, e⟩ := Value.isStrOf_shape (x := x) (v := v) h
  exact .inr ⟨x, t, rfl, e⟩
theorem z40 (i : Int) (t : Tok) : z2Z (.inl i) (.int i t) = true := by simp [z2Z, Value.isInt]
theorem z3V (x : Str) (t : Tok) : z2Z (.inr x) (.str x t) = true := by simp [z2Z, Value.isStrOf]
theorem z7p (a b : Int) : decide ((Sum.inl a : Key) = Sum.inl b) = (a == b) := by
 by_cases e : a = b
 ·subst e; simp
 ·have h : ¬ (Sum.inl a : Key) = Sum.inl b := fun q => e (Sum.inl.inj q)
  rw [decide_eq_false h]
  exact (beq_eq_false_iff_ne.mpr e).symm
theorem z8O (a b : Str) : decide ((Sum.inr a : Key) = Sum.inr b) = decide (a = b) := by
 by_cases e : a = b
 ·subst e; simp
 ·have h : ¬ (Sum.inr a : Key) = Sum.inr b := fun q => e (Sum.inr.inj q)
  rw [decide_eq_false h, decide_eq_false e]
theorem z7d (a : Int) (b : Str) : decide ((Sum.inl a : Key) = Sum.inr b) = false := decide_eq_false (fun q => nomatch q)
theorem z7g (a : Str) (b : Int) : decide ((Sum.inr a : Key) = Sum.inl b) = false := decide_eq_false (fun q => nomatch q)
noncomputable def ze (prog : Program) (w : World) : PySem.KeyKind prog w Key where
 is := z2Z
 hash := keyH w
 inj := fun v a b ha hb => by
  rcases zd ha with ⟨i, t, rfl, rfl⟩ | ⟨x, t, rfl, rfl⟩
  ·rcases zd hb with ⟨j, u, rfl, e⟩ | ⟨y, u, rfl, e⟩
   ·injection e with e1 _; rw [e1]
   ·exact nomatch e
  ·rcases zd hb with ⟨j, u, rfl, e⟩ | ⟨y, u, rfl, e⟩
   ·exact nomatch e
   ·injection e with e1 _; rw [e1]
 byValue := fun k v h => by
  rcases zd h with ⟨i, t, rfl, rfl⟩ | ⟨x, t, rfl, rfl⟩ <;> rfl
 pyHash := fun hv h => by
  rcases zd hv with ⟨i, t, rfl, rfl⟩ | ⟨x, t, rfl, rfl⟩
  ·exact wpAny_pyHash_int h
  ·exact wpAny_pyHash_str h
 eqBool := fun hu hv h => by
  rcases zd hu with ⟨i, t, rfl, rfl⟩ | ⟨x, t, rfl, rfl⟩
  ·rcases zd hv with ⟨j, u, rfl, rfl⟩ | ⟨y, u, rfl, rfl⟩
   ·rw [z7p] at h; exact wpAny_eqBool_int h
   ·rw [z7d] at h; exact SeqAt.EqAt.int_str i t y u _ _ _ _ h
  ·rcases zd hv with ⟨j, u, rfl, rfl⟩ | ⟨y, u, rfl, rfl⟩
   ·rw [z7g] at h; exact SeqAt.EqAt.str_int x t j u _ _ _ _ h
   ·rw [z8O] at h; exact wpAny_eqBool_str h
 «strs» := fun k x t v h => by
  rcases zd h with ⟨i, u, rfl, e⟩ | ⟨y, u, rfl, e⟩
  ·exact nomatch e
  ·injection e with e1 _
   subst e1
   cases v <;> rfl
theorem z1K (prog : Program) (w : World) (i : Int) (t : Tok) : (ze prog w).is (.inl i) (.int i t) = true := z40 i t
theorem z1e (prog : Program) (w : World) (x : Str) (t : Tok) : (ze prog w).is (.inr x) (.str x t) = true := z3V x t
end L2
namespace L2
open PySem PySem.Spec PyProof.Rows
inductive V where
 | non | bl (b : Bool) | int (i : Int) | str (x : Str) | byt (b : Array UInt8) | flt (b : UInt64) | ref (a : Addr) | ty (n : String)
 deriving DecidableEq
noncomputable def RelV : V → Value → Prop
 | .non, u => u = Value.none
 | .bl b, u => u = Value.bool b
 | .int i, u => ∃ t, u = Value.int i t
 | .str x, u => ∃ t, u = Value.str x t
 | .byt b, u => ∃ t, u = Value.bytes b t
 | .flt b, u => ∃ t, u = Value.float b t
 | .ref a, u => u = Value.ref a
 | .ty n, u => u = Value.type n
noncomputable abbrev Vals : List V → List Value → Prop := Paired RelV
theorem Vals.length {xs : List V} {us : List Value} (r : Vals xs us) : xs.length = us.length := Paired.length r
theorem Vals.get : ∀ {xs : List V} {us : List Value} {i : Nat} {x : V}, Vals xs us → xs[i]? = some x → ∃ u, us[i]? = some u ∧ RelV x u
 | _, _, _, _, .nil, e => by simp at e
 | _, _, 0, _, .cons r _, e => by simp at e; subst e; exact ⟨_, rfl, r⟩
 | _, _, i + 1, x, .cons _ t, e => by
  obtain ⟨u, h1, h2⟩ := Vals.get (i := i) (x := x) t (by simpa using e)
  exact ⟨u, by simpa using h1, h2⟩
theorem Vals.append : ∀ {xs ys : List V} {us ws : List Value}, Vals xs us → Vals ys ws → Vals (xs ++ ys) (us ++ ws)
 | _, _, _, _, .nil, s => s
 | _, _, _, _, .cons r t, s => .cons r (Vals.append t s)
noncomputable def RelO : Option V → Option Value → Prop
 | some v, some u => RelV v u
 | none, none => True
 | _, _ => False
noncomputable def KV {κ : Type} : List (κ × V) → List (κ × Value) → Prop := Paired fun (p : κ × V) (q : κ × Value) => p.1 = q.1 ∧ RelV p.2 q.2
noncomputable def kV : Key → V
 | .inl i => .int i
 | .inr x => .str x
inductive HO where
 /-- a list -/
 | lst (xs : List V)
 /-- a tuple (never changes) -/
 | tup (xs : List V)
 /-- a dict whose keys are ints and texts; one whose keys are tuples of ints and texts (the empty one is both) -/
 | dK (kvs : List (Key × V)) | dT (kvs : List (List Key × V))
 /-- a set of ints: its members, its size -/
 | set (S : Int → Bool) (n : Nat)
 /-- an instance of the class at C, its dict at dx, its attributes -/
 | ins (C dx : Addr) (fs : List (Str × V))
 /-- the dict of the instance at x -/
 | own (x : Addr)
 /-- the dict of an exception -/
 | xd (fs : List (Str × V))
 /-- a bound method, f of x -/
 | met (f x : Addr)
 /-- a range object lo, lo + 1, .. below hi -/
 | rng (lo hi : Int)
 /-- a thing that is known to the object (the script; a dict while a loop walks it): read, never written while it is so -/
 | frz (o : Obj) (u : HO)
 /-- a code object's table -/
 | tbl (ps : Array Value)
 /-- any other thing, by what is true of its one object (a def of one's own: SetO a S n := HO.ext fun h => ..) -/
 | ext (φ : Heap → Prop)
noncomputable abbrev Hp := Addr → Option HO
noncomputable def upd (H : Hp) (a : Addr) (o : HO) : Hp := fun b => if b = a then some o else H b
theorem zC {H : Hp} {a : Addr} {o : HO} : upd H a o a = some o := by unfold upd; rw [if_pos rfl]
theorem zF {H : Hp} {a b : Addr} {o : HO} (h : b ≠ a) : upd H a o b = H b := by unfold upd; rw [if_neg h]
theorem z1M {H : Hp} {a : Addr} {o u : HO} : upd (upd H a o) a u = upd H a u := by
 funext b; unfold upd; split <;> rfl
theorem z6w {H : Hp} {a b : Addr} {o u : HO} (h : H a = some o) (h' : H b = some u) (d : o ≠ u) : a ≠ b := by
 intro e; subst e; rw [h] at h'; exact d (Option.some.inj h')
theorem zS {H : Hp} {a b : Addr} {o : HO} (h : H a = some o) (h' : H b = none) : a ≠ b := by
 intro e; subst e; rw [h] at h'; cases h'
section
variable (P : Program) (w : World)
noncomputable def ObjOk (H : Hp) (h : Heap) (a : Addr) : HO → Prop
 | .lst xs => xs.length ≤ sizeLine ∧ ∃ (its : List Value) (n : Nat), Vals xs its ∧ h.get? a = some { cls := .type "list", data := .seq its.toArray n }
 | .tup xs => xs.length ≤ sizeLine ∧ ∃ its : List Value, Vals xs its ∧ IsTup h a its.toArray
 | .dK kvs => kvs.length ≤ sizeLine ∧ (a == sysModules) = false ∧ ∃ vs, KV kvs vs ∧ h.DictOf (ze P w) a vs
 | .dT kvs => kvs.length ≤ sizeLine ∧ (a == sysModules) = false ∧ ∃ xs : List (List Key × Addr × Value),
   Paired (fun (p : List Key × V) (q : List Key × Addr × Value) => p.1 = q.1 ∧ H q.2.1 = some (.tup (p.1.map kV)) ∧ RelV p.2 q.2.2) kvs xs ∧
   ∃ o es ep, h.get? a = some o ∧ o.ExactDict ∧ o.data = .dict es ep ∧ es.toList = xs.map (entryOfKey (tupleKind (ze P w))) ∧ (xs.map (·.1)).Nodup
 | .set S n => h.SetOf (intKind P w) a S n
 | .ins C dx fs => H dx = some (.own a) ∧ fs.length ≤ 1000 ∧ dx ≠ a ∧ h.get? a = some (W.instObj C dx) ∧
   ∃ mA, h.Ns1 dx mA ∧ (∀ f, RelO (fs.lookup f) (mA f)) ∧ PySem.Within mA (fs.map (·.1))
 | .own _ => ∃ o, h.get? a = some o
 | .xd fs => ∃ mA, h.Ns1 a mA ∧ ∀ f, RelO (fs.lookup f) (mA f)
 | .rng lo hi => ∃ t u v, h.get? a = some { cls := .type "range", data := .fields #[.int lo t, .int hi u, .int 1 v] }
 | .frz o u => h.get? a = some o ∧ ObjOk H h a u
 | .tbl ps => h.get? a = some { cls := .none, data := .fields ps }
 | .met f x => h.get? a = some (W.methodObj (.ref f) (.ref x))
 | .ext φ => φ h ∧ (∃ o, h.get? a = some o) ∧ ∀ h1 h2 : Heap, φ h1 → (∀ o, h1.get? a = some o → h2.get? a = some o) → φ h2
noncomputable def HOk (H : Hp) (h : Heap) : Prop := ∀ a o, H a = some o → ObjOk P w H h a o
end
section
variable {P : Program} {w : World} {H H' : Hp} {h h' : Heap} {a : Addr} {o : HO}
theorem ObjOk.lt (x : ObjOk P w H h a o) : a < h.objs.size := by
 cases o with
 | lst xs => obtain ⟨_, _, _, _, e⟩ := x; exact Heap.lt_size e
 | tup xs => obtain ⟨_, _, _, p⟩ := x; exact p.lt
 | dK kvs => obtain ⟨_, _, _, _, o, _, _, e, _⟩ := x; exact Heap.lt_size e
 | dT kvs => obtain ⟨_, _, _, _, o, _, _, e, _⟩ := x; exact Heap.lt_size e
 | set S n => obtain ⟨o, _, _, _, e, _⟩ := x; exact Heap.lt_size e
 | ins C dx fs => obtain ⟨_, _, _, e, _⟩ := x; exact Heap.lt_size e
 | own y => obtain ⟨_, e⟩ := x; exact Heap.lt_size e
 | xd fs => obtain ⟨_, ⟨_, _, _, e, _⟩, _⟩ := x; exact Heap.lt_size e
 | rng lo hi => obtain ⟨_, _, _, e⟩ := x; exact Heap.lt_size e
 | frz ob u => obtain ⟨e, _⟩ := x; exact Heap.lt_size e
 | tbl ps => exact Heap.lt_size (show h.get? a = some _ from x)
 | met f y => exact Heap.lt_size (show h.get? a = some _ from x)
 | ext φ => obtain ⟨_, ⟨_, e⟩, _⟩ := x; exact Heap.lt_size e
theorem Paired.mapP {α β : Type} {F G : α → β → Prop} : ∀ {l₁ : List α} {l₂ : List β}, Paired F l₁ l₂ → (∀ a b, F a b → G a b) → Paired G l₁ l₂
 | _, _, .nil, _ => .nil
 | _, _, .cons r t, f => .cons (f _ _ r) (Paired.mapP t f)
theorem ObjOk.stay (x : ObjOk P w H h a o) (k : ∀ b u, (b = a ∨ H b = some (.own a)) → h.get? b = some u → h'.get? b = some u)
  (ho : ∀ b, H b = some (.own a) → H' b = some (.own a)) (ht : ∀ b xs, H b = some (.tup xs) → H' b = some (.tup xs)) : ObjOk P w H' h' a o := by
 induction o with
 | lst xs => obtain ⟨z, its, n, r, e⟩ := x; exact ⟨z, its, n, r, k _ _ (.inl rfl) e⟩
 | tup xs => obtain ⟨z, its, r, ob, e, c⟩ := x; exact ⟨z, its, r, ob, k _ _ (.inl rfl) e, c⟩
 | dK kvs => obtain ⟨z, y, vs, r, ob, es, ep, e, c⟩ := x; exact ⟨z, y, vs, r, ob, es, ep, k _ _ (.inl rfl) e, c⟩
 | dT kvs =>
  obtain ⟨z, y, xs, r, ob, es, ep, e, c⟩ := x
  exact ⟨z, y, xs, Paired.mapP r fun p q z => ⟨z.1, ht _ _ z.2.1, z.2.2⟩, ob, es, ep, k _ _ (.inl rfl) e, c⟩
 | set S n => obtain ⟨ob, es, ep, t, e, c⟩ := x; exact ⟨ob, es, ep, t, k _ _ (.inl rfl) e, c⟩
 | ins C dx fs =>
  obtain ⟨d, z, ne, e, mA, ⟨od, es, ep, e2, c⟩, r⟩ := x
  exact ⟨ho _ d, z, ne, k _ _ (.inl rfl) e, mA, ⟨od, es, ep, k _ _ (.inr d) e2, c⟩, r⟩
 | own y => obtain ⟨ob, e⟩ := x; exact ⟨ob, k _ _ (.inl rfl) e⟩
 | xd fs => obtain ⟨mA, ⟨od, es, ep, e, c⟩, r⟩ := x; exact ⟨mA, ⟨od, es, ep, k _ _ (.inl rfl) e, c⟩, r⟩
 | rng lo hi => obtain ⟨t, u, v, e⟩ := x; exact ⟨t, u, v, k _ _ (.inl rfl) e⟩
 | frz ob u ih => obtain ⟨e, q⟩ := x; exact ⟨k _ _ (.inl rfl) e, ih q⟩
 | tbl ps =>
  have e : h.get? a = some { cls := .none, data := .fields ps } := x
  show h'.get? a = some { cls := .none, data := .fields ps }
  exact k a _ (.inl rfl) e
 | met f y =>
  have e : h.get? a = some (W.methodObj (.ref f) (.ref y)) := x
  show h'.get? a = some (W.methodObj (.ref f) (.ref y))
  exact k a _ (.inl rfl) e
 | ext φ => obtain ⟨p, ⟨o, e⟩, st⟩ := x; exact ⟨st _ _ p fun o q => k _ _ (.inl rfl) q, ⟨o, k _ _ (.inl rfl) e⟩, st⟩
theorem HOk.lt (x : HOk P w H h) (e : H a = some o) : a < h.objs.size := (x a o e).lt
theorem HOk.fresh (x : HOk P w H h) (e : h.objs.size ≤ a) : H a = none := by
 cases q : H a with
 | none => rfl
 | some u => exact absurd (Nat.lt_of_lt_of_le (x.lt q) e) (Nat.lt_irrefl _)
theorem HOk.kept (x : HOk P w H h) (k : ∀ b u, h.get? b = some u → h'.get? b = some u) : HOk P w H h' := fun a o e =>
 (x a o e).stay (fun b u _ q => k b u q) (fun _ q => q) fun _ _ q => q
theorem HOk.laid (x : HOk P w H h) (k : ∀ b u, h.get? b = some u → h'.get? b = some u) (hp : h.objs.size ≤ a) (new : ObjOk P w (upd H a o) h' a o) : HOk P w (upd H a o) h' := fun b u e => by
 have hn := x.fresh hp
 by_cases hb : b = a
 ·subst hb; rw [zC] at e; cases e; exact new
 ·rw [zF hb] at e
  exact (x b u e).stay (fun c v _ q => k c v q) (fun c q => by rw [zF (zS q hn)]; exact q) fun c xs q => by rw [zF (zS q hn)]; exact q
end
noncomputable def Rd (H : Hp) (a : Addr) (u : HO) : Prop := H a = some u ∨ ∃ o, H a = some (.frz o u)
theorem Rd.ok {P : Program} {w : World} {H : Hp} {h : Heap} {a : Addr} {u : HO} (r : Rd H a u) (x : HOk P w H h) : ObjOk P w H h a u := by
 rcases r with r | ⟨o, r⟩
 ·exact x a u r
 ·obtain ⟨_, q⟩ := x a _ r
  exact q
noncomputable def Mut : Option HO → Prop
 | some (.lst _) => True
 | some (.dK _) => True
 | some (.dT _) => True
 | some (.set _ _) => True
 | some (.ins _ _ _) => True
 | some (.ext _) => True
 | _ => False
section
variable {P : Program} {w : World} {H : Hp} {h h' : Heap} {x e : Addr} {o' : HO}
theorem HOk.write (ok : HOk P w H h) (mu : Mut (H x)) (he : e = x ∨ H e = some (.own x)) (k : ∀ b u, b ≠ e → h.get? b = some u → h'.get? b = some u) (heo : ∃ u, h'.get? e = some u)
  (new : ObjOk P w (upd H x o') h' x o') : HOk P w (upd H x o') h' := fun b u q => by
 have nown : ∀ c y, H c = some (.own y) → c ≠ x := fun c y r z => by subst z; rw [r] at mu; exact mu
 have ntup : ∀ c xs, H c = some (.tup xs) → c ≠ x := fun c xs r z => by subst z; rw [r] at mu; exact mu
 by_cases hb : b = x
 ·subst hb; rw [zC] at q; cases q; exact new
 ·rw [zF hb] at q
  by_cases hbe : b = e
  ·have q' : H b = some (.own x) := by
    rcases he with z | z
    ·exact absurd (hbe.trans z) hb
    ·rw [hbe]; exact z
   rw [q] at q'; cases q'
   obtain ⟨v, hv⟩ := heo
   exact ⟨v, by rw [hbe]; exact hv⟩
  ·refine (ok b u q).stay (fun c v hc r => k c v ?_ r) (fun c r => by rw [zF (nown c b r)]; exact r) fun c xs r => by rw [zF (ntup c xs r)]; exact r
   rcases hc with rfl | hc
   ·exact hbe
   ·rintro rfl
    rcases he with z | z
    ·exact nown c b hc z
    ·rw [hc] at z; cases z; exact hb rfl
end
structure Un (fs ex : List Addr) (H H' : Hp) (h h' : Heap) : Prop where
 keep : ∀ b o, h.get? b = some o → H b = none → b ∉ fs → b ∉ ex → h'.get? b = some o
 slot : ∀ b o, h.get? b = some o → H b = none → b ∈ fs → b ∉ ex → ∃ sl, h'.get? b = some { o with slots := sl }
 free : ∀ b o, h.get? b = some o → H b = none → b ∉ ex → H' b = none
 there : ∀ b o, h.get? b = some o → b ∉ ex → ∃ o', h'.get? b = some o'
 tups : ∀ b xs, H b = some (.tup xs) → H' b = some (.tup xs)
 frzs : ∀ b o u, H b = some (.frz o u) → H' b = some (.frz o u)
 tbls : ∀ b ps, H b = some (.tbl ps) → ∃ more, H' b = some (.tbl (ps ++ more))
section
variable {fs fs' ex ex' : List Addr} {H H1 H2 : Hp} {h h1 h2 h' : Heap} {a x e : Addr} {o : HO}
theorem Un.any (u : Un fs ex H H1 h h1) {b : Addr} {ob : Obj} (q : h.get? b = some ob) (n : H b = none) (hx : b ∉ ex) : ∃ sl, h1.get? b = some { ob with slots := sl } := by
 by_cases hb : b ∈ fs
 ·exact u.slot b ob q n hb hx
 ·exact ⟨ob.slots, u.keep b ob q n hb hx⟩
theorem Un.kept (k : ∀ b u, h.get? b = some u → h'.get? b = some u) : Un fs ex H H h h' :=
 ⟨fun b ob q _ _ _ => k b ob q, fun b ob q _ _ _ => ⟨ob.slots, k b ob q⟩, fun _ _ _ n _ => n, fun b ob q _ => ⟨ob, k b ob q⟩, fun _ _ q => q, fun _ _ _ q => q, fun _ ps q => ⟨#[], by rw [q]; simp⟩⟩
theorem Un.refl : Un fs ex H H h h := Un.kept fun _ _ q => q
theorem Un.laid (k : ∀ b u, h.get? b = some u → h'.get? b = some u) (hp : h.objs.size ≤ a) (hn : H a = none) : Un fs ex H (upd H a o) h h' where
 keep := fun b u q _ _ _ => k b u q
 slot := fun b u q _ _ _ => ⟨u.slots, k b u q⟩
 free := fun b u q n _ => by rw [zF (Nat.ne_of_lt (Nat.lt_of_lt_of_le (Heap.lt_size q) hp))]; exact n
 there := fun b u q _ => ⟨u, k b u q⟩
 tups := fun b xs q => by rw [zF (zS q hn)]; exact q
 frzs := fun b u xs q => by rw [zF (zS q hn)]; exact q
 tbls := fun b ps q => ⟨#[], by rw [zF (zS q hn), q]; simp⟩
theorem Un.write (mu : Mut (H x)) (he : e = x ∨ H e = some (.own x)) (k : ∀ b u, b ≠ e → h.get? b = some u → h'.get? b = some u) (heo : ∃ u, h'.get? e = some u) : Un fs ex H (upd H x o) h h' := by
 have hx : ∀ b, H b = none → b ≠ x := fun b n z => by subst z; rw [n] at mu; exact mu
 have hb : ∀ b, H b = none → b ≠ e := fun b n z => by
  subst z
  rcases he with r | r
  ·exact hx b n r
  ·rw [n] at r; cases r
 have hm : ∀ b u, H b = some u → ¬ Mut (some u) → b ≠ x := fun b u q nm z => by subst z; rw [q] at mu; exact nm mu
 refine ⟨fun b u q n _ _ => k b u (hb b n) q, fun b u q n _ _ => ⟨u.slots, k b u (hb b n) q⟩, fun b u q n _ => by rw [zF (hx b n)]; exact n, fun b u q _ => ?_,
  fun b xs q => by rw [zF (hm b _ q fun z => z)]; exact q, fun b u xs q => by rw [zF (hm b _ q fun z => z)]; exact q, fun b ps q => ⟨#[], by rw [zF (hm b _ q fun z => z), q]; simp⟩⟩
 by_cases hbe : b = e
 ·subst hbe; exact heo
 ·exact ⟨u, k b u hbe q⟩
end
noncomputable def trk (h : Heap) (H : Hp) : List Addr := (List.range h.objs.size).filter fun a => (H a).isSome
noncomputable def hidT (h : Heap) (H : Hp) : Heap := W.hideAll h (trk h H)
theorem z3D (h : Heap) (H : Hp) : (hidT h H).objs.size = h.objs.size := W.hideAll_size _ _
theorem z4Y {h : Heap} {H : Hp} {b : Addr} {o : Obj} (e : h.get? b = some o) (n : H b = none) : (hidT h H).get? b = some o :=
 W.hideAll_get _ e fun hm => by
  have q : (H b).isSome = true := (List.mem_filter.mp hm).2
  rw [n] at q; simp at q
theorem z72 {h : Heap} {H : Hp} {b : Addr} {o : Obj} (e : (hidT h H).get? b = some o) : h.get? b = some o ∧ H b = none := by
 have e' : h.get? b = some o := W.of_hideAll (trk h H) e
 refine ⟨e', ?_⟩
 cases q : H b with
 | none => rfl
 | some x =>
  have hm : b ∈ trk h H := List.mem_filter.mpr ⟨List.mem_range.mpr (Heap.lt_size e'), by simp [q]⟩
  have z : (hidT h H).get? b = none := W.hideAll_none (trk h H) hm
  rw [z] at e; cases e
noncomputable def z6o (g h : Heap) (L : Addr) : List (Addr × Obj) := (List.range h.objs.size).filterMap fun a => if a = L ∨ (g.get? a).isSome = true then none else (h.get? a).map fun o => (a, o)
noncomputable def rest (g h : Heap) (L d : Addr) : List (Addr × Obj) := (z6o g h L).filter fun p => decide (p.1 ≠ d)
end L2
namespace L2
open PySem PySem.Spec PyProof.Rows
structure Mod (K : W.Frag) (mg : Str → Option Value) (base : Heap) : Prop where
 kin : K.In base
 glob : base.Ns mainGlobals mg
 blt : ∃ mb, base.Ns builtinsNs mb ∧ ∀ x : Str, x ≠ "__name__" → mb x = bootBuiltins x
 nolimit : base.NoLimit
structure Cx where
 prog : Program
 w : World
 K : W.Frag
 mg : Str → Option Value
 base : Heap
 A : Around
 N : List Str
 s₀ : Shared
 H₀ : Hp
 env : Env
 outer : List Env
 stack : List Env
 ex : List Addr
 fn : Str → Bool
 calm : Bool
 pn : List (Addr × Obj)
 xe : Value → Shared → Prop
noncomputable def frs (l : List Env) : List Addr := l.filterMap (·.frame)
noncomputable abbrev Cx.fs (X : Cx) : List Addr := frs X.outer
noncomputable def Vis (sc : Scope) (x : Str) : Prop := sc.names.lookup x = some .local ∨ sc.names.lookup x = some .cell ∨ sc.names.lookup x = some .free
noncomputable def Loc (sc : Scope) (x : Str) : Prop := sc.names.lookup x = some .local ∨ sc.names.lookup x = some .cell
noncomputable def Look (env : Env) (h : Heap) (m : Str → Option Value) (x : Str) (u : Value) : Prop :=
 (env.kindOf x = some .local ∧ m x = some u) ∨ ((env.kindOf x = some .cell ∨ env.kindOf x = some .free) ∧ ∃ c, env.cells.lookup x = some c ∧ h.IsCell c (some u))
structure Cx.Ok (X : Cx) : Prop where
 mod : Mod X.K X.mg X.base
 kind : X.env.scope.kind = .function
 glob : X.env.globals = mainGlobals
 blt : X.env.builtins = builtinsNs
 above : X.s₀.heap.objs.size ≤ X.env.locals
 inj : ∀ x y c, X.env.cells.lookup x = some c → X.env.cells.lookup y = some c → x = y
 has : ∀ x, (X.env.kindOf x = some .cell ∨ X.env.kindOf x = some .free) → ∃ c, X.env.cells.lookup x = some c
 cab : ∀ x c, X.fn x = true → X.env.cells.lookup x = some c → X.s₀.heap.objs.size ≤ c
 hd : X.calm = true → X.A.handled = none
 frames : X.A.frames = some X.stack
 stk : X.stack = X.outer ∨ (X.stack = X.env :: X.outer ∧ X.env.frame = some X.env.locals)
 exf : ∀ b ∈ X.ex, b ≠ X.env.locals ∧ ∀ x c, X.env.cells.lookup x = some c → c ≠ b
 bs : ∀ b o, X.base.get? b = some o → X.s₀.heap.get? b = some o ∧ X.H₀ b = none
 bsz : X.base.objs.size ≤ X.s₀.heap.objs.size
 noex : ∀ b o, X.base.get? b = some o → b ∉ X.ex
 exfs : ∀ b ∈ X.ex, b ∉ X.fs
 funs : X.s₀.heap.FunFrames X.base X.outer
 frf : ∀ b ∈ X.fs, X.H₀ b = none
structure Inv (X : Cx) (pins : List (Addr × Obj)) (σ : List (Option V)) (H : Hp) (s : Shared) : Prop where
 ok : X.Ok
 os : s.os = X.s₀.os
 bare : AllBare s.gens
 base : Un X.fs X.ex X.H₀ H X.s₀.heap s.heap
 loc : ∃ m, s.heap.Ns X.env.locals m ∧ ∀ (i : Nat) (x : Str) (v : V), X.N[i]? = some x → σ[i]? = some (some v) → Vis X.env.scope x → ∃ u, RelV v u ∧ Look X.env s.heap m x u
 cell : ∀ x c, X.env.cells.lookup x = some c → ∃ v, s.heap.IsCell c v
 free : H X.env.locals = none
 freeC : ∀ x c, X.env.cells.lookup x = some c → H c = none
 pin : ∀ p ∈ X.pn ++ pins, s.heap.get? p.1 = some p.2 ∧ H p.1 = none ∧ p.1 ≠ X.env.locals ∧ p.1 ∉ X.fs ∧ ∀ v, p.2.data ≠ .cell v
 hok : HOk X.prog X.w H s.heap
 len : σ.length = X.N.length
section
variable {X : Cx} {pins : List (Addr × Obj)} {σ : List (Option V)} {H H' : Hp} {s : Shared} {h' : Heap}
theorem Cx.Ok.nofr (ok : X.Ok) {b : Addr} {o : Obj} (e : X.base.get? b = some o) : b ∉ X.fs := fun hb => by
 have := (ok.funs.mem hb).1
 rw [e] at this; cases this
theorem Inv.bs (I : Inv X pins σ H s) : ∀ b o, X.base.get? b = some o → s.heap.get? b = some o ∧ H b = none := fun b o e =>
 ⟨I.base.keep b o (I.ok.bs b o e).1 (I.ok.bs b o e).2 (I.ok.nofr e) (I.ok.noex b o e), I.base.free b o (I.ok.bs b o e).1 (I.ok.bs b o e).2 (I.ok.noex b o e)⟩
theorem Inv.bk (I : Inv X pins σ H s) : ∀ b o, X.base.get? b = some o → s.heap.get? b = some o := fun b o e => (I.bs b o e).1
theorem Inv.mod (I : Inv X pins σ H s) : Mod X.K X.mg X.base := I.ok.mod
theorem Inv.kIn (I : Inv X pins σ H s) : X.K.In s.heap := I.ok.mod.kin.keeps I.bk
theorem Inv.lt (I : Inv X pins σ H s) : X.env.locals < s.heap.objs.size := let ⟨_, hn, _⟩ := I.loc; hn.lt
theorem Inv.sz (I : Inv X pins σ H s) : X.s₀.heap.objs.size ≤ s.heap.objs.size := Nat.le_trans I.ok.above (Nat.le_of_lt I.lt)
theorem Inv.nofs (I : Inv X pins σ H s) {a : Addr} (h : s.heap.objs.size ≤ a) : a ∉ X.fs := fun hb => by
 obtain ⟨_, o, ho, _⟩ := I.ok.funs.mem hb
 exact absurd (Nat.lt_of_lt_of_le (Heap.lt_size ho) (Nat.le_trans I.sz h)) (Nat.lt_irrefl _)
theorem Inv.cne (I : Inv X pins σ H s) : ∀ x c, X.env.cells.lookup x = some c → c ≠ X.env.locals := fun x c e z => by
 obtain ⟨v, o, ho, hd⟩ := I.cell x c e
 obtain ⟨m, ⟨o', es, ep, ho', hd', _⟩, _⟩ := I.loc
 rw [z, ho'] at ho; cases ho; rw [hd'] at hd; cases hd
theorem Inv.funs (I : Inv X pins σ H s) : s.heap.FunFrames X.base X.outer := by
 have all : ∀ (l : List Env), (∀ b ∈ frs l, b ∈ X.fs) → X.s₀.heap.FunFrames X.base l → s.heap.FunFrames X.base l := by
  intro l
  induction l with
  | nil => intro _ _; trivial
  | cons env r ih =>
   intro hs hl
   obtain ⟨hk, ⟨L, o, hf, hn, ho, hd⟩, hr⟩ := hl
   have hL : L ∈ X.fs := hs L (by unfold frs; rw [List.filterMap_cons, hf]; exact List.mem_cons_self)
   obtain ⟨sl, e⟩ := I.base.slot L o ho (I.ok.frf L hL) hL fun z => I.ok.exfs L z hL
   exact ⟨hk, ⟨L, _, hf, hn, e, hd⟩, ih (fun b hb => hs b (by unfold frs; rw [List.filterMap_cons, hf]; exact List.mem_cons_of_mem _ hb)) hr⟩
 exact all X.outer (fun _ hb => hb) I.ok.funs
theorem Inv.stack (I : Inv X pins σ H s) : s.heap.FunFrames X.base X.stack := by
 rcases I.ok.stk with e | ⟨e, hf⟩
 ·rw [e]; exact I.funs
 ·rw [e]
  obtain ⟨m, hn, _⟩ := I.loc
  refine .cons (by rw [I.ok.kind]; decide) hf hn ?_ I.funs
  exact Heap.get?_none_of_le (Nat.le_trans I.ok.bsz I.ok.above)
theorem Inv.stkSub (I : Inv X pins σ H s) : ∀ b ∈ frs X.stack, b ∈ X.env.locals :: X.fs := fun b hb => by
 rcases I.ok.stk with e | ⟨e, hf⟩
 ·rw [e] at hb; exact List.mem_cons_of_mem _ hb
 ·rw [e] at hb
  unfold frs at hb
  rw [List.filterMap_cons, hf] at hb
  exact hb
theorem Inv.stkFree (I : Inv X pins σ H s) : ∀ b ∈ frs X.stack, H b = none := fun b hb => by
 rcases List.mem_cons.mp (I.stkSub b hb) with e | hb
 ·rw [e]; exact I.free
 ·obtain ⟨_, o, ho, _⟩ := I.ok.funs.mem hb
  exact I.base.free b o ho (I.ok.frf b hb) fun z => I.ok.exfs b z hb
theorem Inv.step {g' : Array GenState} {t' : Nat} {d' : Drawn} {ch : List Addr} (I : Inv X pins σ H s)
  (hch : ∀ b ∈ ch, (b ∈ X.ex ∨ X.s₀.heap.objs.size ≤ b) ∧ b ≠ X.env.locals ∧ (∀ x c, X.env.cells.lookup x = some c → c ≠ b) ∧ ∀ p ∈ X.pn ++ pins, p.1 ≠ b)
  (keep : ∀ b o, b ≠ X.env.locals → b ∉ X.fs → b ∉ ch → s.heap.get? b = some o → H b = none → h'.get? b = some o)
  (slot : ∀ b o, b ≠ X.env.locals → b ∈ X.fs → b ∉ ch → s.heap.get? b = some o → H b = none → ∃ sl, h'.get? b = some { o with slots := sl }) (free : ∀ b o, b ∉ ch → s.heap.get? b = some o → H b = none → H' b = none)
  (there : ∀ b o, b ∉ ch → s.heap.get? b = some o → ∃ o', h'.get? b = some o')
  (tups : ∀ b xs, H b = some (.tup xs) → H' b = some (.tup xs)) (frzs : ∀ b o u, H b = some (.frz o u) → H' b = some (.frz o u)) (tbls : ∀ b ps, H b = some (.tbl ps) → ∃ more, H' b = some (.tbl (ps ++ more)))
  (ns : ∀ m, s.heap.Ns X.env.locals m → h'.Ns X.env.locals m) (hok : HOk X.prog X.w H' h') (hg : AllBare g') :
  Inv X pins σ H' { s with heap := h', gens := g', drawn := d', toks := t' } := by
 have neL : ∀ b o, X.s₀.heap.get? b = some o → b ≠ X.env.locals := fun b o e => Nat.ne_of_lt (Nat.lt_of_lt_of_le (Heap.lt_size e) I.ok.above)
 have neC : ∀ b o, X.s₀.heap.get? b = some o → b ∉ X.ex → b ∉ ch := fun b o e hx hb => by
  rcases (hch b hb).1 with z | z
  ·exact hx z
  ·exact absurd (Nat.lt_of_lt_of_le (Heap.lt_size e) z) (Nat.lt_irrefl _)
 have cellK : ∀ x c, X.env.cells.lookup x = some c → ∀ v, s.heap.IsCell c v → h'.IsCell c v := fun x c e v ⟨o, ho, hd⟩ => by
  have nch : c ∉ ch := fun z => (hch c z).2.2.1 x c e rfl
  by_cases hc : c ∈ X.fs
  ·obtain ⟨sl, q⟩ := slot c o (I.cne x c e) hc nch ho (I.freeC x c e)
   exact ⟨_, q, hd⟩
  ·exact ⟨o, keep c o (I.cne x c e) hc nch ho (I.freeC x c e), hd⟩
 refine ⟨I.ok, I.os, hg, ⟨fun b o e n hb hx => ?_, fun b o e n hb hx => ?_, fun b o e n hx => ?_, fun b o e hx => ?_, fun b xs e => tups b xs (I.base.tups b xs e), fun b o xs e => frzs b o xs (I.base.frzs b o xs e), fun b ps e => ?_⟩, ?_, fun x c e => ?_, ?_, fun x c e => ?_, fun p hp => ?_, hok, I.len⟩
 ·exact keep b o (neL b o e) hb (neC b o e hx) (I.base.keep b o e n hb hx) (I.base.free b o e n hx)
 ·obtain ⟨sl, e1⟩ := I.base.slot b o e n hb hx
  obtain ⟨sl', e2⟩ := slot b _ (neL b o e) hb (neC b o e hx) e1 (I.base.free b o e n hx)
  exact ⟨sl', e2⟩
 ·obtain ⟨o', e1⟩ := I.base.there b o e hx
  exact free b o' (neC b o e hx) e1 (I.base.free b o e n hx)
 ·obtain ⟨o', e1⟩ := I.base.there b o e hx
  exact there b o' (neC b o e hx) e1
 ·obtain ⟨m1, e1⟩ := I.base.tbls b ps e
  obtain ⟨m2, e2⟩ := tbls b _ e1
  exact ⟨m1 ++ m2, by rw [e2, Array.append_assoc]⟩
 ·obtain ⟨m, hn, hl⟩ := I.loc
  refine ⟨m, ns m hn, fun i x v e1 e2 e3 => ?_⟩
  obtain ⟨u, r, l⟩ := hl i x v e1 e2 e3
  refine ⟨u, r, ?_⟩
  rcases l with l | ⟨k, c, e, z⟩
  ·exact .inl l
  ·exact .inr ⟨k, c, e, cellK x c e _ z⟩
 ·obtain ⟨v, z⟩ := I.cell x c e
  exact ⟨v, cellK x c e v z⟩
 ·obtain ⟨m, ⟨o, _, _, ho, _⟩, _⟩ := I.loc
  exact free _ o (fun z => (hch _ z).2.1 rfl) ho I.free
 ·obtain ⟨v, o, ho, hd⟩ := I.cell x c e
  exact free c o (fun z => (hch c z).2.2.1 x c e rfl) ho (I.freeC x c e)
 ·obtain ⟨e, n, ne, nf, d⟩ := I.pin p hp
  have nch : p.1 ∉ ch := fun z => (hch p.1 z).2.2.2 p hp rfl
  exact ⟨keep p.1 p.2 ne nf nch e n, free p.1 p.2 nch e n, ne, nf, d⟩
theorem Inv.un {t' : Nat} (I : Inv X pins σ H s) (u : Un X.fs [] H H' s.heap h') (hok : HOk X.prog X.w H' h') : Inv X pins σ H' { s with heap := h', toks := t' } := by
 obtain ⟨m, ⟨o, es, ep, ho, r⟩, _⟩ := id I.loc
 obtain ⟨sl, hL⟩ := u.any ho I.free (by simp)
 exact I.step (g' := s.gens) (d' := s.drawn) (ch := []) (fun _ z => nomatch z) (fun b o _ hb _ e n => u.keep b o e n hb (by simp)) (fun b o _ hb _ e n => u.slot b o e n hb (by simp)) (fun b o _ e n => u.free b o e n (by simp)) (fun b o _ e => u.there b o e (by simp)) u.tups u.frzs u.tbls (fun m' hm => by
  obtain ⟨o', es', ep', ho', r'⟩ := hm
  rw [ho] at ho'; cases ho'
  exact ⟨_, es', ep', hL, r'⟩) hok I.bare
theorem Inv.call {g' : Array GenState} {t' : Nat} {d' : Drawn} {ch : List Addr} (I : Inv X pins σ H s) (u : Un (frs X.stack) ch H H' s.heap h') (hok : HOk X.prog X.w H' h') (hg : AllBare g')
  (hch : ∀ b ∈ ch, (b ∈ X.ex ∨ X.s₀.heap.objs.size ≤ b) ∧ b ≠ X.env.locals ∧ (∀ x c, X.env.cells.lookup x = some c → c ≠ b) ∧ ∀ p ∈ X.pn ++ pins, p.1 ≠ b) :
  Inv X pins σ H' { s with heap := h', gens := g', drawn := d', toks := t' } := by
 obtain ⟨m, ⟨o, es, ep, ho, r⟩, _⟩ := id I.loc
 obtain ⟨sl, hL⟩ := u.any ho I.free fun z => (hch _ z).2.1 rfl
 exact I.step (ch := ch) hch (fun b o hL hb hc e n => u.keep b o e n (fun z => (List.mem_cons.mp (I.stkSub b z)).elim hL hb) hc) (fun b o _ _ hc e n => u.any e n hc) (fun b o hc e n => u.free b o e n hc) (fun b o hc e => u.there b o e hc) u.tups u.frzs u.tbls (fun m' hm => by
  obtain ⟨o', es', ep', ho', r'⟩ := hm
  rw [ho] at ho'; cases ho'
  exact ⟨_, es', ep', hL, r'⟩) hok hg
theorem Inv.turned {t' : Nat} {it : Addr} (I : Inv X pins σ H s) (k : ∀ b o, b ≠ it → s.heap.get? b = some o → h'.get? b = some o) (hn : H it = none) (hL : it ≠ X.env.locals)
  (h1 : it ∈ X.ex ∨ X.s₀.heap.objs.size ≤ it) (h2 : ∀ x c, X.env.cells.lookup x = some c → c ≠ it) (h3 : ∀ p ∈ X.pn ++ pins, p.1 ≠ it) : Inv X pins σ H { s with heap := h', toks := t' } := by
 have nit : ∀ b u, H b = some u → b ≠ it := fun b u e z => by rw [z, hn] at e; cases e
 refine I.step (g' := s.gens) (d' := s.drawn) (ch := [it]) (fun b hb => ?_) (fun b o _ _ hc e _ => k b o (fun z => hc (by simp [z])) e) (fun b o _ _ hc e _ => ⟨o.slots, k b o (fun z => hc (by simp [z])) e⟩) (fun _ _ _ _ n => n)
  (fun b o hc e => ⟨o, k b o (fun z => hc (by simp [z])) e⟩) (fun _ _ e => e) (fun _ _ _ e => e) (fun b ps e => ⟨#[], by rw [e]; simp⟩) (fun m hm => ?_) (fun b u e => ?_) I.bare
 ·have e : b = it := by simpa using hb
  subst e
  exact ⟨h1, hL, h2, h3⟩
 ·obtain ⟨o, es, ep, ho, r⟩ := hm
  exact ⟨o, es, ep, k _ o (Ne.symm hL) ho, r⟩
 ·refine (I.hok b u e).stay (fun c v hc q => k c v ?_ q) (fun _ q => q) fun _ _ q => q
  rcases hc with z | z
  ·rw [z]; exact nit b u e
  ·exact nit c _ z
theorem Inv.tok (I : Inv X pins σ H s) (t : Nat) : Inv X pins σ H { s with toks := t } := I.un (h' := s.heap) (t' := t) Un.refl I.hok
theorem Inv.kept {t' : Nat} (I : Inv X pins σ H s) (k : ∀ b u, s.heap.get? b = some u → h'.get? b = some u) : Inv X pins σ H { s with heap := h', toks := t' } := I.un (Un.kept k) (I.hok.kept k)
theorem Inv.laid {a : Addr} {o : HO} {t' : Nat} (I : Inv X pins σ H s) (k : ∀ b u, s.heap.get? b = some u → h'.get? b = some u) (hp : s.heap.objs.size ≤ a) (new : ObjOk X.prog X.w (upd H a o) h' a o) :
  Inv X pins σ (upd H a o) { s with heap := h', toks := t' } := I.un (Un.laid k hp (I.hok.fresh hp)) (I.hok.laid k hp new)
theorem Inv.write {x e : Addr} {o : HO} {t' : Nat} (I : Inv X pins σ H s) (mu : Mut (H x)) (he : e = x ∨ H e = some (.own x)) (k : ∀ b u, b ≠ e → s.heap.get? b = some u → h'.get? b = some u) (heo : ∃ u, h'.get? e = some u)
  (new : ObjOk X.prog X.w (upd H x o) h' x o) : Inv X pins σ (upd H x o) { s with heap := h', toks := t' } := I.un (Un.write mu he k heo) (I.hok.write mu he k heo new)
theorem Inv.weak {σ' : List (Option V)} (I : Inv X pins σ H s) (hl : σ'.length = σ.length) (w : ∀ (i : Nat) v, σ'[i]? = some (some v) → σ[i]? = some (some v)) : Inv X pins σ' H s :=
 ⟨I.ok, I.os, I.bare, I.base, let ⟨m, hn, hl'⟩ := I.loc; ⟨m, hn, fun i x v e1 e2 e3 => hl' i x v e1 (w i v e2) e3⟩, I.cell, I.free, I.freeC, I.pin, I.hok, hl.trans I.len⟩
theorem Inv.pins_of {pins' : List (Addr × Obj)} (I : Inv X pins σ H s) (h : ∀ p ∈ pins', s.heap.get? p.1 = some p.2 ∧ H p.1 = none ∧ p.1 ≠ X.env.locals ∧ p.1 ∉ X.fs ∧ ∀ v, p.2.data ≠ .cell v) : Inv X pins' σ H s :=
 ⟨I.ok, I.os, I.bare, I.base, I.loc, I.cell, I.free, I.freeC, fun p hp => (List.mem_append.mp hp).elim (fun z => I.pin p (List.mem_append_left _ z)) (h p), I.hok, I.len⟩
theorem z2G {N : List Str} (hN : N.Nodup) {i j : Nat} {x : Str} (a : N[i]? = some x) (b : N[j]? = some x) : i = j := by
 obtain ⟨h1, e1⟩ := List.getElem?_eq_some_iff.mp a
 obtain ⟨h2, e2⟩ := List.getElem?_eq_some_iff.mp b
 exact (List.getElem_inj hN).mp (e1.trans e2.symm)
theorem z0g {M : Model} {A : Around} {E : Value → Shared → Prop} {i : Nat} {x : Str} {v : V} {u : Value} {Q : Unit → Shared → Prop} (I : Inv X pins σ H s) (hN : X.N.Nodup) (hi : X.N[i]? = some x) (hx : Loc X.env.scope x) (r : RelV v u)
  (h : ∀ s', Inv X pins (σ.set i (some v)) H s' → (∃ a, Heap.SameBut a s.heap s'.heap ∧ (a = X.env.locals ∨ X.env.cells.lookup x = some a)) → Q () s') (hf : X.fn x = true ∨ X.env.scope.names.lookup x = some .local := by first | exact .inl rfl | exact .inr rfl | assumption) : wpAny M A (storeName X.env x u) Q E s := by
 obtain ⟨m, hn, hl⟩ := id I.loc
 have hcls : (X.env.scope.kind == .class || (X.env.scope.kind == .module && X.env.locals != X.env.globals)) = false := by rw [I.ok.kind]; rfl
 have hiσ : i < σ.length := by rw [I.len]; exact (List.getElem?_eq_some_iff.mp hi).1
 have cne := I.cne
 have tracked : ∀ {a : Addr} {h' : Heap}, (∃ o, s.heap.get? a = some o ∧ H a = none) → Heap.SameBut a s.heap h' → HOk X.prog X.w H h' := fun {a h'} ha hs b ob e => by
  obtain ⟨_, _, hfree⟩ := ha
  refine (I.hok b ob e).stay (fun c w' hc q => (hs.2 c ?_).trans q) (fun _ q => q) fun _ _ q => q
  rintro rfl
  rcases hc with rfl | hc
  ·rw [hfree] at e; cases e
  ·rw [hfree] at hc; cases hc
 rcases hx with hk | hk
 ·refine wpAny_storeName_local hk hn (fun h' hn' hs => ?_) hcls
  obtain ⟨oL, _, _, hoL, _⟩ := id hn
  refine h _ ⟨I.ok, I.os, I.bare, ⟨fun b o e n hb hx => ?_, fun b o e n hb hx => ?_, I.base.free, fun b o e hx => ?_, I.base.tups, I.base.frzs, I.base.tbls⟩, ⟨_, hn', fun j y v' e1 e2 e3 => ?_⟩, fun y c e => ?_, I.free, I.freeC, fun p hp => ?_, tracked ⟨oL, hoL, I.free⟩ hs, by simpa using I.len⟩ ⟨_, hs, .inl rfl⟩
  ·exact (hs.2 b (Nat.ne_of_lt (Nat.lt_of_lt_of_le (Heap.lt_size e) I.ok.above))).trans (I.base.keep b o e n hb hx)
  ·obtain ⟨sl, e1⟩ := I.base.slot b o e n hb hx
   exact ⟨sl, (hs.2 b (Nat.ne_of_lt (Nat.lt_of_lt_of_le (Heap.lt_size e) I.ok.above))).trans e1⟩
  ·obtain ⟨o', e1⟩ := I.base.there b o e hx
   exact ⟨o', (hs.2 b (Nat.ne_of_lt (Nat.lt_of_lt_of_le (Heap.lt_size e) I.ok.above))).trans e1⟩
  ·by_cases hj : j = i
   ·subst hj
    rw [hi] at e1; cases e1
    rw [List.getElem?_set_self hiσ] at e2
    cases e2
    exact ⟨u, r, .inl ⟨hk, by simp⟩⟩
   ·rw [List.getElem?_set_ne (Ne.symm hj)] at e2
    obtain ⟨u', r', q⟩ := hl j y v' e1 e2 e3
    refine ⟨u', r', ?_⟩
    rcases q with ⟨k, e⟩ | ⟨k, c, e, z⟩
    ·refine .inl ⟨k, ?_⟩
     have : y ≠ x := fun e => hj (z2G hN e1 (e ▸ hi))
     simp [this, e]
    ·exact .inr ⟨k, c, e, z.sameBut hs (cne y c e)⟩
  ·obtain ⟨w', z⟩ := I.cell y c e
   exact ⟨w', z.sameBut hs (cne y c e)⟩
  ·obtain ⟨e, n, ne, nf, d⟩ := I.pin p hp
   exact ⟨(hs.2 p.1 ne).trans e, n, ne, nf, d⟩
 ·have hfn : X.fn x = true := by
   rcases hf with z | z
   ·exact z
   ·rw [z] at hk; cases hk
  obtain ⟨c, hc⟩ := I.ok.has x (.inl hk)
  obtain ⟨w', z⟩ := I.cell x c hc
  refine wpAny_storeName_cell I.ok.kind hk hc z (fun h' hc' hs => ?_)
  obtain ⟨oc, hoc, hocd⟩ := id z
  refine h { s with heap := h' } ⟨I.ok, I.os, I.bare, ⟨fun b o e n hb hx => ?_, fun b o e n hb hx => ?_, I.base.free, fun b o e hx => ?_, I.base.tups, I.base.frzs, I.base.tbls⟩, ⟨m, hn.sameBut hs (Ne.symm (cne x c hc)), fun j y v' e1 e2 e3 => ?_⟩, fun y c' e => ?_, I.free, I.freeC, fun p hp => ?_, tracked ⟨oc, hoc, I.freeC x c hc⟩ hs, by simpa using I.len⟩ ⟨c, hs, .inr hc⟩
  ·exact (hs.2 b (Nat.ne_of_lt (Nat.lt_of_lt_of_le (Heap.lt_size e) (I.ok.cab x c hfn hc)))).trans (I.base.keep b o e n hb hx)
  ·obtain ⟨sl, e1⟩ := I.base.slot b o e n hb hx
   exact ⟨sl, (hs.2 b (Nat.ne_of_lt (Nat.lt_of_lt_of_le (Heap.lt_size e) (I.ok.cab x c hfn hc)))).trans e1⟩
  ·obtain ⟨o', e1⟩ := I.base.there b o e hx
   exact ⟨o', (hs.2 b (Nat.ne_of_lt (Nat.lt_of_lt_of_le (Heap.lt_size e) (I.ok.cab x c hfn hc)))).trans e1⟩
  ·by_cases hj : j = i
   ·subst hj
    rw [hi] at e1; cases e1
    rw [List.getElem?_set_self hiσ] at e2
    cases e2
    exact ⟨u, r, .inr ⟨.inl hk, c, hc, hc'⟩⟩
   ·rw [List.getElem?_set_ne (Ne.symm hj)] at e2
    obtain ⟨u', r', q⟩ := hl j y v' e1 e2 e3
    refine ⟨u', r', ?_⟩
    rcases q with q | ⟨k, c', e, z'⟩
    ·exact .inl q
    ·refine .inr ⟨k, c', e, z'.sameBut hs ?_⟩
     rintro rfl
     exact hj (z2G hN e1 (I.ok.inj _ _ _ e hc ▸ hi))
  ·by_cases hcc : c' = c
   ·subst hcc; exact ⟨_, hc'⟩
   ·obtain ⟨w2, z2⟩ := I.cell y c' e
    exact ⟨w2, z2.sameBut hs hcc⟩
  ·obtain ⟨e, n, ne, nf, d⟩ := I.pin p hp
   refine ⟨(hs.2 p.1 ?_).trans e, n, ne, nf, d⟩
   intro q
   rw [q, hoc] at e
   have q' : oc = p.2 := Option.some.inj e
   exact d w' (by rw [← q']; exact hocd)
theorem z1n {M : Model} {A : Around} {E : Value → Shared → Prop} {i : Nat} {x : Str} {v : V} {u : Value} {Q : Unit → Shared → Prop} (I : Inv X pins σ H s) (hN : X.N.Nodup) (hi : X.N[i]? = some x) (hx : Loc X.env.scope x) (r : RelV v u)
  (h : ∀ s', Inv X pins (σ.set i (some v)) H s' → Q () s') (hf : X.fn x = true ∨ X.env.scope.names.lookup x = some .local := by first | exact .inl rfl | exact .inr rfl | assumption) : wpAny M A (storeName X.env x u) Q E s :=
 z0g I hN hi hx r (fun s' I' _ => h s' I') hf
theorem Inv.call' {s' : Shared} {ch : List Addr} (I : Inv X pins σ H s) (ho : s'.os = s.os) (u : Un (frs X.stack) ch H H' s.heap s'.heap) (hok : HOk X.prog X.w H' s'.heap) (hg : AllBare s'.gens)
  (hch : ∀ b ∈ ch, (b ∈ X.ex ∨ X.s₀.heap.objs.size ≤ b) ∧ b ≠ X.env.locals ∧ (∀ x c, X.env.cells.lookup x = some c → c ≠ b) ∧ ∀ p ∈ X.pn ++ pins, p.1 ≠ b) : Inv X pins σ H' s' := by
 obtain ⟨h', g', d', t', o'⟩ := s'
 have e : o' = s.os := ho
 subst e
 exact I.call (g' := g') (t' := t') (d' := d') u hok hg hch
end
noncomputable abbrev XK := Value → Option Addr → Hp → Prop
noncomputable abbrev St := List (Option V)
noncomputable abbrev VK := V → Hp → Prop
noncomputable abbrev TE := St → Hp → VK → Prop
noncomputable abbrev TT := St → Hp → (Bool → Hp → Prop) → Prop
noncomputable abbrev TA := St → Hp → (List V → Hp → Prop) → Prop
structure Ends where
 nx : St → Hp → Prop
 rt : VK
 bk : St → Hp → Prop := fun _ _ => False
 ct : St → Hp → Prop := fun _ _ => False
noncomputable abbrev TS := Ends → St → Hp → Prop
noncomputable def EP (X : Cx) (pins : List (Addr × Obj)) (σ : St) (Q : VK) (u : Value) (s' : Shared) : Prop := ∃ v H', Inv X pins σ H' s' ∧ RelV v u ∧ Q v H'
noncomputable def TP (X : Cx) (pins : List (Addr × Obj)) (σ : St) (Q : Bool → Hp → Prop) (b : Bool) (s' : Shared) : Prop := ∃ H', Inv X pins σ H' s' ∧ Q b H'
noncomputable def AP (X : Cx) (pins : List (Addr × Obj)) (σ : St) (Q : List V → Hp → Prop) (us : List Value) (s' : Shared) : Prop := ∃ vs H', Inv X pins σ H' s' ∧ Vals vs us ∧ Q vs H'
noncomputable def SP (X : Cx) (pins : List (Addr × Obj)) (D : Ends) (f : Flow) (s' : Shared) : Prop :=
 match f with
 | .next => ∃ σ' H', Inv X pins σ' H' s' ∧ D.nx σ' H'
 | .brk => ∃ σ' H', Inv X pins σ' H' s' ∧ D.bk σ' H'
 | .cont => ∃ σ' H', Inv X pins σ' H' s' ∧ D.ct σ' H'
 | .ret u => ∃ v σ' H', Inv X pins σ' H' s' ∧ RelV v u ∧ D.rt v H'
noncomputable def PE (X : Cx) (e : Expr) (t : TE) : Prop :=
 ∀ (pins : List (Addr × Obj)) (s : Shared) (σ : St) (H : Hp) (Q : VK), Inv X pins σ H s → t σ H Q → wpAny (model X.prog X.w) X.A (eval e X.env) (EP X pins σ Q) X.xe s
noncomputable def PT (X : Cx) (e : Expr) (t : TT) : Prop :=
 ∀ (pins : List (Addr × Obj)) (s : Shared) (σ : St) (H : Hp) (Q : Bool → Hp → Prop), Inv X pins σ H s → t σ H Q → wpAny (model X.prog X.w) X.A (isTrue e X.env (eval e X.env)) (TP X pins σ Q) X.xe s
noncomputable def PW (X : Cx) (e : Expr) (t : TT) : Prop :=
 ∀ (whole : Sem Value) (pins : List (Addr × Obj)) (s : Shared) (σ : St) (H : Hp) (Q : Bool → Hp → Prop), Inv X pins σ H s → t σ H Q → wpAny (model X.prog X.w) X.A (isTrue e X.env whole) (TP X pins σ Q) X.xe s
theorem PW.pt {X : Cx} {e : Expr} {t : TT} (h : PW X e t) : PT X e t := h _
noncomputable def PA (X : Cx) (es : List Expr) (t : TA) : Prop :=
 ∀ (pos : Pos) (pins : List (Addr × Obj)) (s : Shared) (σ : St) (H : Hp) (Q : List V → Hp → Prop), Inv X pins σ H s → t σ H Q → wpAny (model X.prog X.w) X.A (spliced (backTo pos (starEach es X.env))) (AP X pins σ Q) X.xe s
noncomputable def PS (X : Cx) (st : Stmt) (t : TS) : Prop :=
 ∀ (pins : List (Addr × Obj)) (s : Shared) (σ : St) (H : Hp) (D : Ends), Inv X pins σ H s → t D σ H → wpAny (model X.prog X.w) X.A (exec st X.env) (SP X pins D) X.xe s
noncomputable def PSs (X : Cx) (st : List Stmt) (t : TS) : Prop :=
 ∀ (pins : List (Addr × Obj)) (s : Shared) (σ : St) (H : Hp) (D : Ends), Inv X pins σ H s → t D σ H → wpAny (model X.prog X.w) X.A (execs st X.env) (SP X pins D) X.xe s
theorem thn {α : Type} {t : Sem α} {Q Q' : α → Shared → Prop} {M : Model} {A : Around} {E : Value → Shared → Prop} {s : Shared} (h : wpAny M A t Q E s) (hQ : ∀ a s, Q a s → Q' a s) : wpAny M A t Q' E s := wpAny_mono h hQ fun _ _ x => x
end L2
namespace L2
open PySem PySem.Spec PyProof.Rows
section
variable {X : Cx}
noncomputable def tVar (i : Nat) : TE := fun σ H Q => ∃ v, σ[i]? = some (some v) ∧ Q v H
noncomputable def tC (v : V) : TE := fun _ H Q => Q v H
theorem z7W {i : Nat} {x : Str} {pos : Pos} (hN : X.N[i]? = some x) (hv : Vis X.env.scope x) (hd : (x == ("__debug__" : Str)) = false := by decide) (hcd : (x == ("__classdict__" : Str)) = false := by decide) : PE X (.Name x pos) (tVar i) := by
 intro pins s σ H Q I h
 obtain ⟨v, e, h⟩ := h
 obtain ⟨m, hn, hl⟩ := I.loc
 obtain ⟨u, r, l⟩ := hl i x v hN e hv
 have fin : EP X pins σ Q u s := ⟨v, H, I, r, h⟩
 rcases l with ⟨hk, hm⟩ | ⟨hk, c, hc, hcell⟩
 ·exact wpAny_Name (wpAny_loadName_local I.ok.kind hk hn hm fin) hd
 ·rcases hk with hk | hk
  ·exact wpAny_Name (wpAny_loadName_cell I.ok.kind hk hc hcell fin) hd
  ·exact wpAny_Name (wpAny_loadName_free I.ok.kind hk hc hcell fin hcd) hd
theorem z1v {i j pos} : PE X (.Constant (.int i) j pos) (tC (.int i)) := fun _ _ _ H _ I h => wpAny_Constant_int ⟨.int i, H, I.tok _, ⟨_, rfl⟩, h⟩
theorem z8z {b j pos} : PE X (.Constant (.bool b) j pos) (tC (.bl b)) := fun _ _ _ H _ I h => Constant_bool ⟨.bl b, H, I, rfl, h⟩
theorem z7Z {j pos} : PE X (.Constant .none j pos) (tC .non) := fun _ _ _ H _ I h => Constant_none ⟨.non, H, I, rfl, h⟩
noncomputable def Gl (X : Cx) (x : Str) : Prop := X.env.kindOf x = some .globalImplicit
theorem z3f {E : Value → Shared → Prop} {pins : List (Addr × Obj)} {s : Shared} {σ : St} {H : Hp} {x : Str} {u : Value} {pos : Pos} {Q : Value → Shared → Prop} (I : Inv X pins σ H s) (hg : Gl X x) (hm : X.mg x = some u) (h : Q u s)
  (hd : (x == ("__debug__" : Str)) = false := by decide) : wpAny (model X.prog X.w) X.A (eval (.Name x pos) X.env) Q E s :=
 Calls.Name_function_global I.ok.kind hg (Calls.loadGlobal_global (by rw [I.ok.glob]; exact I.mod.glob.keeps I.bk) hm h) hd
theorem z0j {E : Value → Shared → Prop} {pins : List (Addr × Obj)} {s : Shared} {σ : St} {H : Hp} {x : Str} {u : Value} {pos : Pos} {Q : Value → Shared → Prop} (I : Inv X pins σ H s) (hg : Gl X x) (hm : X.mg x = none) (hv : bootBuiltins x = some u) (h : Q u s)
  (hn : x ≠ "__name__" := by decide) (hd : (x == ("__debug__" : Str)) = false := by decide) : wpAny (model X.prog X.w) X.A (eval (.Name x pos) X.env) Q E s := by
 obtain ⟨mb, h1, h2⟩ := I.mod.blt
 exact Calls.Name_function_global I.ok.kind hg (Calls.loadGlobal_builtin (by rw [I.ok.glob]; exact I.mod.glob.keeps I.bk) hm (by rw [I.ok.blt]; exact h1.keeps I.bk) ((h2 x hn).trans hv) h) hd
theorem wG {x : Str} {v : V} {u : Value} {pos : Pos} (hg : Gl X x) (hm : X.mg x = some u) (r : RelV v u) (hd : (x == ("__debug__" : Str)) = false := by decide) : PE X (.Name x pos) (tC v) :=
 fun _ _ _ H _ I h => z3f I hg hm ⟨v, H, I, r, h⟩ hd
theorem wE {x : Str} {v : V} {u : Value} {pos : Pos} (hg : Gl X x) (hm : X.mg x = none) (hv : bootBuiltins x = some u) (r : RelV v u) (hn : x ≠ "__name__" := by decide) (hd : (x == ("__debug__" : Str)) = false := by decide) : PE X (.Name x pos) (tC v) :=
 fun _ _ _ H _ I h => z0j I hg hm hv ⟨v, H, I, r, h⟩ hn hd
variable {a b : Expr} {ta tb : TE} {pos : Pos}
variable {tA tB' : TT} {rest : List Expr}
noncomputable def tAnd (t u : TT) : TT := fun σ H Q => t σ H fun c H1 => if c = true then u σ H1 Q else Q false H1
noncomputable def tOr (t u : TT) : TT := fun σ H Q => t σ H fun c H1 => if c = true then Q true H1 else u σ H1 Q
noncomputable def tNot (t : TT) : TT := fun σ H Q => t σ H fun c H1 => Q (!c) H1
theorem z6j (ha : PT X a tA) : PW X (.BoolOp .And [a] pos) tA := by
 intro wh pins s σ H Q I h
 refine isTrue_and (thn (ha pins s σ H Q I h) fun c s1 e => ?_)
 cases c with
 | true => exact isTrue_and_nil e
 | false => exact e
theorem z7z (ha : PT X a tA) : PW X (.BoolOp .Or [a] pos) tA := by
 intro wh pins s σ H Q I h
 refine isTrue_or (thn (ha pins s σ H Q I h) fun c s1 e => ?_)
 cases c with
 | false => exact isTrue_or_nil e
 | true => exact e
theorem z8Z (ha : PT X a tA) (hb : PW X (.BoolOp .And (b :: rest) pos) tB') : PW X (.BoolOp .And (a :: b :: rest) pos) (tAnd tA tB') := by
 intro wh pins s σ H Q I h
 refine isTrue_and (thn (ha pins s σ H _ I h) fun c s1 ⟨H1, I1, q1⟩ => ?_)
 cases c with
 | true => exact hb wh pins s1 σ H1 Q I1 q1
 | false => exact ⟨H1, I1, q1⟩
theorem z9C (ha : PT X a tA) (hb : PW X (.BoolOp .Or (b :: rest) pos) tB') : PW X (.BoolOp .Or (a :: b :: rest) pos) (tOr tA tB') := by
 intro wh pins s σ H Q I h
 refine isTrue_or (thn (ha pins s σ H _ I h) fun c s1 ⟨H1, I1, q1⟩ => ?_)
 cases c with
 | true => exact ⟨H1, I1, q1⟩
 | false => exact hb wh pins s1 σ H1 Q I1 q1
theorem z7F (ha : PT X a tA) : PT X (.UnaryOp .Not a pos) (tNot tA) := by
 intro pins s σ H Q I h
 exact isTrue_not (ha pins s σ H (fun c H1 => Q (!c) H1) I h)
noncomputable def z9B (ta tb : TE) : TE := fun σ H Q => ta σ H fun x H1 => ∃ c, x = .bl c ∧ if c = true then tb σ H1 Q else Q (.bl false) H1
theorem z7O {op} {t : TE} (h : PE X a t) : PE X (.BoolOp op [a] pos) t := fun pins s σ H Q I hw => BoolOp_one (h pins s σ H Q I hw)
theorem z7a (ha : PE X a ta) (hb : PE X (.BoolOp .And (b :: rest) pos) tb) : PE X (.BoolOp .And (a :: b :: rest) pos) (z9B ta tb) := by
 intro pins s σ H Q I h
 refine BoolOp_and (thn (ha pins s σ H _ I h) fun v s1 ⟨x, H1, I1, r1, q1⟩ => ?_)
 obtain ⟨c, rfl, q1⟩ := q1
 cases r1
 refine wpAny_truthy_bool ?_
 cases c with
 | true => exact hb pins s1 σ H1 Q I1 q1
 | false => exact ⟨.bl false, H1, I1, rfl, q1⟩
noncomputable def tIf (t : TT) (ta tb : TE) : TE := fun σ H Q => t σ H fun c H1 => if c = true then ta σ H1 Q else tb σ H1 Q
theorem z1s {c : Expr} (hc : PT X c tA) (ha : PE X a ta) (hb : PE X b tb) : PE X (.IfExp c a b pos) (tIf tA ta tb) := by
 intro pins s σ H Q I h
 refine wpAny_IfExp (thn (hc pins s σ H _ I h) fun d s1 ⟨H1, I1, q1⟩ => ?_)
 cases d with
 | true => exact ha pins s1 σ H1 Q I1 q1
 | false => exact hb pins s1 σ H1 Q I1 q1
end
end L2
namespace L2
open PySem PySem.Spec PyProof.Rows
noncomputable def SqL (K : W.Frag) (H : Hp) (a : Addr) (xs : List V) : Prop :=
 Rd H a (.lst xs) ∨
  ∃ (o : Obj) (its : Array Value) (n : Nat), K.lookup a = some o ∧ o.cls = .type "list" ∧ o.dict = none ∧ o.data = .seq its n ∧ its.size ≤ sizeLine ∧ Vals xs its.toList
noncomputable def SqT (K : W.Frag) (H : Hp) (a : Addr) (xs : List V) : Prop :=
 Rd H a (.tup xs) ∨
  ∃ (o : Obj) (its : Array Value) (n : Nat), K.lookup a = some o ∧ o.cls = .type "tuple" ∧ o.data = .seq its n ∧ its.size ≤ sizeLine ∧ Vals xs its.toList
noncomputable def absV : Value → Option V
 | .none => some .non
 | .bool b => some (.bl b)
 | .int i _ => some (.int i)
 | .str x _ => some (.str x)
 | .bytes b _ => some (.byt b)
 | .float b _ => some (.flt b)
 | .ref a => some (.ref a)
 | .type n => some (.ty n)
 | _ => none
theorem RelV.abs {x : V} {u : Value} (r : RelV x u) : absV u = some x := by
 cases x with
 | non => cases r; rfl
 | bl _ => cases r; rfl
 | int _ => obtain ⟨t, rfl⟩ := r; rfl
 | str _ => obtain ⟨t, rfl⟩ := r; rfl
 | byt _ => obtain ⟨t, rfl⟩ := r; rfl
 | flt _ => obtain ⟨t, rfl⟩ := r; rfl
 | ref _ => cases r; rfl
 | ty _ => cases r; rfl
theorem RelV.inj {x y : V} {u : Value} (r : RelV x u) (q : RelV y u) : x = y := Option.some.inj (r.abs.symm.trans q.abs)
theorem Vals.inj : ∀ {xs ys : List V} {us : List Value}, Vals xs us → Vals ys us → xs = ys
 | _, _, _, .nil, .nil => rfl
 | _, _, _, .cons r t, .cons r' t' => by rw [r.inj r', Vals.inj t t']
section
variable {X : Cx} {pins : List (Addr × Obj)} {σ : St} {H : Hp} {s : Shared} {a : Addr} {xs ys : List V}
theorem SqL.of {K : W.Frag} (h : H a = some (.lst xs)) : SqL K H a xs := .inl (.inl h)
theorem SqT.of {K : W.Frag} (h : H a = some (.tup xs)) : SqT K H a xs := .inl (.inl h)
theorem Inv.list (I : Inv X pins σ H s) (h : SqL X.K H a xs) : ∃ its : List Value, Vals xs its ∧ PlainL s.heap a its.toArray ∧ xs.length ≤ sizeLine := by
 rcases h with h | ⟨o, its, n, hk, hc, hd, hs, hz, r⟩
 ·obtain ⟨z, its, n, r, e⟩ := h.ok I.hok
  exact ⟨its, r, ⟨_, n, e, rfl, rfl, rfl⟩, z⟩
 ·refine ⟨its.toList, r, ⟨o, n, I.kIn a o hk, hc, hd, by simpa using hs⟩, ?_⟩
  have e := r.length
  simp only [Array.length_toList] at e
  omega
theorem Inv.tuple (I : Inv X pins σ H s) (h : SqT X.K H a xs) : ∃ its : List Value, Vals xs its ∧ IsTup s.heap a its.toArray ∧ xs.length ≤ sizeLine := by
 rcases h with h | ⟨o, its, n, hk, hc, hs, hz, r⟩
 ·obtain ⟨z, its, r, p⟩ := h.ok I.hok
  exact ⟨its, r, p, z⟩
 ·refine ⟨its.toList, r, ⟨o, I.kIn a o hk, hc, n, by simpa using hs⟩, ?_⟩
  have e := r.length
  simp only [Array.length_toList] at e
  omega
theorem Inv.list_inj (I : Inv X pins σ H s) (h : SqL X.K H a xs) (h' : SqL X.K H a ys) : xs = ys := by
 obtain ⟨its, r, ⟨o, n, e, _, _, d⟩, _⟩ := I.list h
 obtain ⟨its', r', ⟨o', n', e', _, _, d'⟩, _⟩ := I.list h'
 rw [e] at e'; cases e'
 rw [d] at d'
 injection d' with d1 _
 have : its = its' := by simpa using congrArg Array.toList d1
 subst this
 exact r.inj r'
theorem Inv.tuple_inj (I : Inv X pins σ H s) (h : SqT X.K H a xs) (h' : SqT X.K H a ys) : xs = ys := by
 obtain ⟨its, r, ⟨o, e, _, n, d⟩, _⟩ := I.tuple h
 obtain ⟨its', r', ⟨o', e', _, n', d'⟩, _⟩ := I.tuple h'
 rw [e] at e'; cases e'
 rw [d] at d'
 injection d' with d1 _
 have : its = its' := by simpa using congrArg Array.toList d1
 subst this
 exact r.inj r'
end
noncomputable abbrev Cx.wish (X : Cx) (E : Value → Shared → Prop) : Cx := { X with xe := E }
noncomputable abbrev Cx.nox (X : Cx) : Cx := X.wish fun _ _ => False
theorem Cx.Ok.wish {X : Cx} (ok : X.Ok) (E : Value → Shared → Prop) : (X.wish E).Ok :=
 ⟨ok.mod, ok.kind, ok.glob, ok.blt, ok.above, ok.inj, ok.has, ok.cab, ok.hd, ok.frames, ok.stk, ok.exf, ok.bs, ok.bsz, ok.noex, ok.exfs, ok.funs, ok.frf⟩
theorem Cx.Ok.unwish {X : Cx} {E : Value → Shared → Prop} (ok : (X.wish E).Ok) : X.Ok :=
 ⟨ok.mod, ok.kind, ok.glob, ok.blt, ok.above, ok.inj, ok.has, ok.cab, ok.hd, ok.frames, ok.stk, ok.exf, ok.bs, ok.bsz, ok.noex, ok.exfs, ok.funs, ok.frf⟩
section
variable {X : Cx} {pins : List (Addr × Obj)} {σ : St} {H : Hp} {s : Shared} {E : Value → Shared → Prop}
theorem Inv.wish (I : Inv X pins σ H s) (E : Value → Shared → Prop) : Inv (X.wish E) pins σ H s := ⟨I.ok.wish E, I.os, I.bare, I.base, I.loc, I.cell, I.free, I.freeC, I.pin, I.hok, I.len⟩
theorem Inv.unwish (I : Inv (X.wish E) pins σ H s) : Inv X pins σ H s := ⟨I.ok.unwish, I.os, I.bare, I.base, I.loc, I.cell, I.free, I.freeC, I.pin, I.hok, I.len⟩
theorem SP.unwish {D : Ends} {f : Flow} {s' : Shared} (h : SP (X.wish E) pins D f s') : SP X pins D f s' := by
 cases f with
 | next => obtain ⟨σ', H', I, q⟩ := h; exact ⟨σ', H', I.unwish, q⟩
 | brk => obtain ⟨σ', H', I, q⟩ := h; exact ⟨σ', H', I.unwish, q⟩
 | cont => obtain ⟨σ', H', I, q⟩ := h; exact ⟨σ', H', I.unwish, q⟩
 | ret u => obtain ⟨v, σ', H', I, r, q⟩ := h; exact ⟨v, σ', H', I.unwish, r, q⟩
theorem PSs.nox {st : List Stmt} {t : TS} (h : PSs X.nox st t) : PSs X st t := fun pins s σ H D I hw =>
 wpAny_mono (h pins s σ H D (I.wish _) hw) (fun _ _ q => q.unwish) fun _ _ z => False.elim z
end
section
variable {X : Cx} {st : Stmt} {rest : List Stmt} {t u : TS} {e : Expr} {te : TE} {pos : Pos}
noncomputable def z9R : TS := fun D σ H => D.nx σ H
noncomputable def tSeq (t u : TS) : TS := fun D σ H => t { D with nx := u D } σ H
theorem pss_nil : PSs X [] z9R := fun _ _ σ H _ I h => wpAny_execs_nil ⟨σ, H, I, h⟩
theorem wB (h1 : PS X st t) (h2 : PSs X rest u) : PSs X (st :: rest) (tSeq t u) := by
 intro pins s σ H D I h
 refine wpAny_execs_cons (thn (h1 pins s σ H { D with nx := u D } I h) fun f s1 q => ?_)
 cases f with
 | next =>
  obtain ⟨σ', H', I', q⟩ := q
  exact h2 pins s1 σ' H' D I' q
 | ret v => exact q
 | brk => exact q
 | cont => exact q
theorem z06 (h1 : PS X st t) : PSs X [st] t := by
 intro pins s σ H D I h
 refine wpAny_execs_cons (thn (h1 pins s σ H D I h) fun f s1 q => ?_)
 cases f with
 | next => exact wpAny_execs_nil q
 | ret v => exact q
 | brk => exact q
 | cont => exact q
theorem Inv.quiet {pins : List (Addr × Obj)} {σ : St} {H : Hp} {s : Shared} (I : Inv X pins σ H s) : interactive X.env = false := by simp [interactive, I.ok.kind]
noncomputable def z96 (te : TE) : TS := fun D σ H => te σ H fun _ H1 => D.nx σ H1
theorem wL (he : PE X e te) (hs : swapsWith e none pos.line X.env = pure false := by rfl) : PS X (.Expr e pos) (z96 te) := by
 intro pins s σ H D I h
 exact wpAny_Expr_any (thn (he pins s σ H _ I h) fun v s1 ⟨x, H1, I1, r1, q1⟩ => ⟨σ, H1, I1, q1⟩) I.quiet hs
noncomputable def tRet (te : TE) : TS := fun D σ H => te σ H D.rt
theorem z2K (he : PE X e te) : PS X (.Return (some e) pos) (tRet te) := by
 intro pins s σ H D I h
 exact wpAny_Return_some (thn (he pins s σ H _ I h) fun v s1 ⟨x, H1, I1, r1, q1⟩ => ⟨x, σ, H1, I1, r1, q1⟩)
noncomputable def tIfS (c : TT) (t u : TS) : TS := fun D σ H => c σ H fun b H1 => if b = true then t D σ H1 else u D σ H1
theorem z6C {c : Expr} {a b : List Stmt} {tc : TT} (hc : PT X c tc) (ha : PSs X a t) (hb : PSs X b u) : PS X (.If c a b pos) (tIfS tc t u) := by
 intro pins s σ H D I h
 refine wpAny_If (thn (hc pins s σ H _ I h) fun d s1 ⟨H1, I1, q1⟩ => ?_)
 cases d with
 | true => exact ha pins s1 σ H1 D I1 q1
 | false => exact hb pins s1 σ H1 D I1 q1
noncomputable def z7w : TS := fun _ _ _ => False
theorem ps_never : PS X st z7w := fun _ _ _ _ _ _ h => h.elim
end
noncomputable abbrev TG := V → St → Hp → (St → Hp → Prop) → Prop
noncomputable abbrev TGs := List V → St → Hp → (St → Hp → Prop) → Prop
noncomputable def PG (X : Cx) (target : Expr) (t : TG) : Prop :=
 ∀ (pins : List (Addr × Obj)) (s : Shared) (σ : St) (H : Hp) (v : V) (u : Value) (Q : St → Hp → Prop), Inv X pins σ H s → RelV v u → t v σ H Q →
  wpAny (model X.prog X.w) X.A (assign target X.env u) (fun _ s' => ∃ σ' H', Inv X pins σ' H' s' ∧ Q σ' H') X.xe s
noncomputable def PGs (X : Cx) (ts : List Expr) (t : TGs) : Prop :=
 ∀ (pins : List (Addr × Obj)) (s : Shared) (σ : St) (H : Hp) (vs : List V) (us : List Value) (Q : St → Hp → Prop), Inv X pins σ H s → Vals vs us → t vs σ H Q →
  wpAny (model X.prog X.w) X.A (assignInOrder ((assignEach ts X.env).map (·.2)) us) (fun _ s' => ∃ σ' H', Inv X pins σ' H' s' ∧ Q σ' H') X.xe s
section
variable {X : Cx} {pos : Pos}
noncomputable def z2h (i : Nat) : TG := fun v σ H Q => Q (σ.set i (some v)) H
theorem ya {i : Nat} {x : Str} (hN : X.N.Nodup) (hi : X.N[i]? = some x) (hx : Loc X.env.scope x) (hf : X.fn x = true ∨ X.env.scope.names.lookup x = some .local := by first | exact .inl rfl | exact .inr rfl | assumption) : PG X (.Name x pos) (z2h i) := by
 intro pins s σ H v u Q I r h
 exact wpAny_assign_Name (z1n I hN hi hx r (fun s' I' => ⟨_, H, I', h⟩) hf)
noncomputable def gNil : TGs := fun vs σ H Q => vs = [] ∧ Q σ H
noncomputable def z8S (t : TG) (u : TGs) : TGs := fun vs σ H Q => ∃ v r, vs = v :: r ∧ t v σ H fun σ' H' => u r σ' H' Q
theorem z6t : PGs X [] gNil := by
 intro pins s σ H vs us Q I r h
 obtain ⟨e, h⟩ := h
 subst e
 cases r
 exact assignInOrder_nil ⟨σ, H, I, h⟩
theorem ur {e : Expr} {es : List Expr} {t : TG} {u : TGs} (h1 : PG X e t) (h2 : PGs X es u)
  (hs : (assignEach (e :: es) X.env).map (·.2) = assign e X.env :: (assignEach es X.env).map (·.2) := by rfl) : PGs X (e :: es) (z8S t u) := by
 intro pins s σ H vs us Q I r h
 obtain ⟨v, vr, e1, h⟩ := h
 subst e1
 cases r with
 | cons r rr =>
  rw [hs]
  refine assignInOrder_cons (thn (h1 pins s σ H _ _ _ I r h) fun _ s1 ⟨σ1, H1, I1, q1⟩ => ?_)
  exact h2 pins s1 σ1 H1 _ _ Q I1 rr q1
noncomputable def gTup (K : W.Frag) (n : Nat) (t : TGs) : TG := fun v σ H Q => ∃ a xs, v = .ref a ∧ SqT K H a xs ∧ xs.length = n ∧ t xs σ H Q
theorem z89 {es : List Expr} {k : Nat} {t : TGs} {n : Nat} (hc : X.calm = true) (h : PGs X es t)
  (hn : (assignEach es X.env).length = n := by rfl) (hst : (assignEach es X.env).findIdx? (·.1) = none := by rfl) : PG X (.Tuple es k pos) (gTup X.K n t) := by
 intro pins s σ H v u Q I r hw
 obtain ⟨a, xs, e1, hq, hl, hw⟩ := hw
 subst e1
 cases r
 obtain ⟨its, rv, ht, hz⟩ := I.tuple hq
 refine assign_Tuple_tuple (I.ok.hd hc) ht (by simp [hn, ← hl, rv.length]) hst fun h' hx => ?_
 have I1 : Inv X pins σ H { s with heap := h' } := I.kept (t' := s.toks) fun b o e => hx b o (Nat.ne_of_lt (Heap.lt_size e)) e
 exact h pins _ σ H xs _ Q I1 (by simpa using rv) hw
noncomputable def tAsg (te : TE) (g : TG) : TS := fun D σ H => te σ H fun x H1 => g x σ H1 D.nx
theorem z7E {tg e : Expr} {te : TE} {g : TG} (he : PE X e te) (hg : PG X tg g) (hs : swapsWithSole [tg] e pos.line X.env = pure false := by rfl) (hw : swappedStores [tg] e X.env = pure none := by rfl)
  (h1 : (assignEach [tg] X.env).map (·.2) = [assign tg X.env] := by rfl) : PS X (.Assign [tg] e pos) (tAsg te g) := by
 intro pins s σ H D I h
 refine wpAny_Assign_stores (thn (he pins s σ H _ I h) fun v s1 ⟨x, H1, I1, r1, q1⟩ => ?_) hs hw
 rw [h1]
 exact thn (hg pins s1 σ H1 x v _ I1 r1 q1) fun _ s2 q => q
theorem z1o {i : Nat} {x : Str} {e : Expr} {te : TE} {pos' : Pos} (hN : X.N.Nodup) (hi : X.N[i]? = some x) (hx : Loc X.env.scope x) (he : PE X e te) (hs : swapsWith e (some (.Name x pos')) pos.line X.env = pure false := by rfl) (hf : X.fn x = true ∨ X.env.scope.names.lookup x = some .local := by first | exact .inl rfl | exact .inr rfl | assumption) :
  PS X (.Assign [.Name x pos'] e pos) (tAsg te (z2h i)) := by
 intro pins s σ H D I h
 refine wpAny_Assign_Name (thn (he pins s σ H _ I h) fun v s1 ⟨y, H1, I1, r1, q1⟩ => ?_) hs
 exact z1n I1 hN hi hx r1 (fun s2 I2 => ⟨_, H1, I2, q1⟩) hf
end
section
variable {X : Cx} {pos : Pos}
noncomputable def z5p (c : TT) (tb : TS) : TS := fun D σ H => ∃ W : Nat → St → Hp → Prop, (∃ m, W m σ H) ∧ ∀ m σ H, W m σ H →
 c σ H fun b H1 => if b = true then ∃ N : St → Hp → Prop, (∀ σ' H', N σ' H' → ∃ m', m' < m ∧ W m' σ' H') ∧ tb { D with nx := N, ct := N, bk := D.nx } σ H1 else D.nx σ H1
theorem z5X {c : Expr} {body : List Stmt} {tc : TT} {tb : TS} (hp : PassesOwn (model X.prog X.w) X.A X.env X.xe) (hc : PT X c tc) (hb : PSs X body tb) : PS X (.While c body [] pos) (z5p tc tb) := by
 intro pins s σ H D I h
 obtain ⟨W, ⟨m0, w0⟩, turn⟩ := h
 refine wpAny_While (codeAny_whileLoop (fun n s' => ∃ σ' H', Inv X pins σ' H' s' ∧ W n σ' H') ?_ m0 ⟨σ, H, I, w0⟩)
 rintro n s1 ⟨σ1, H1, I1, w1⟩
 refine wpAny_passesOwn hp (thn (hc pins s1 σ1 H1 _ I1 (turn n σ1 H1 w1)) fun b s2 ⟨H2, I2, q2⟩ => ?_)
 cases b with
 | true =>
  obtain ⟨N, hN, q2⟩ := q2
  rw [if_pos rfl]
  refine wpAny_passesOwn hp (thn (hb pins s2 σ1 H2 _ I2 q2) fun f s3 q3 => ?_)
  cases f with
  | next =>
   obtain ⟨σ3, H3, I3, n3⟩ := q3
   obtain ⟨m', hm, w3⟩ := hN σ3 H3 n3
   exact ⟨m', hm, σ3, H3, I3, w3⟩
  | cont =>
   obtain ⟨σ3, H3, I3, n3⟩ := q3
   obtain ⟨m', hm, w3⟩ := hN σ3 H3 n3
   exact ⟨m', hm, σ3, H3, I3, w3⟩
  | brk => exact q3
  | ret v => exact q3
 | false =>
  rw [if_neg Bool.false_ne_true]
  exact wpAny_execs_nil ⟨σ1, H2, I2, q2⟩
end
structure It where
 go : Nat → Hp → Prop
 yld : Nat → Hp → V → Hp → Prop
 stop : Nat → Hp → Prop
noncomputable def FpOk (X : Cx) (pins : List (Addr × Obj)) (H : Hp) (b : Addr) : Prop :=
 H b = none ∧ b ≠ X.env.locals ∧ b ∉ X.fs ∧ (b ∈ X.ex ∨ X.s₀.heap.objs.size ≤ b) ∧ (∀ x c, X.env.cells.lookup x = some c → c ≠ b) ∧ ∀ p ∈ X.pn ++ pins, p.1 ≠ b
theorem Inv.fpOk {X : Cx} {pins : List (Addr × Obj)} {σ : St} {H H' : Hp} {s : Shared} {b : Addr} (I : Inv X pins σ H s) (hb : s.heap.objs.size ≤ b) (hn : H' b = none) : FpOk X pins H' b := by
 refine ⟨hn, Nat.ne_of_gt (Nat.lt_of_lt_of_le I.lt hb), I.nofs hb, .inr (Nat.le_trans I.sz hb), fun x c e z => ?_, fun p hp z => ?_⟩
 ·obtain ⟨v, q⟩ := I.cell x c e
  exact absurd (Nat.lt_of_lt_of_le q.lt (by rw [z]; exact hb)) (Nat.lt_irrefl _)
 ·exact absurd (Nat.lt_of_lt_of_le (Heap.lt_size (I.pin p hp).1) (by rw [z]; exact hb)) (Nat.lt_irrefl _)
structure Turn (P : Program) (w : World) (K : W.Frag) (tg : Expr) (J : It) (fp : List Addr) (it : Addr) (tn : Nat → Heap → Prop) : Prop where
 mem : it ∈ fp
 obj : ∀ i h, tn i h → ∀ b ∈ fp, ∃ o, h.get? b = some o ∧ ∀ v, o.data ≠ .cell v
 keep : ∀ i h h', tn i h → (∀ b ∈ fp, ∀ o, h.get? b = some o → h'.get? b = some o) → tn i h'
 item : ∀ (X : Cx), X.prog = P → X.w = w → X.K = K → X.calm = true → ∀ (i : Nat) (pins : List (Addr × Obj)) (s : Shared) (σ : St) (H : Hp) (E : Value → Shared → Prop), Inv X pins σ H s → (∀ b ∈ fp, FpOk X pins H b) → tn i s.heap → J.go i H →
  wpAny (model P w) X.A (pyNext (.ref it)) (fun r s1 => ∃ u, r = some u ∧
   wpAny (model P w) X.A (letOwnedTupleGo tg (.ref it) u) (fun _ s2 => ∃ x H', Inv X pins σ H' s2 ∧ RelV x u ∧ J.yld i H x H' ∧ tn (i + 1) s2.heap ∧ ∀ b ∈ fp, H' b = none) E s1) E s
 done : ∀ (X : Cx), X.prog = P → X.w = w → X.K = K → X.calm = true → ∀ (i : Nat) (pins : List (Addr × Obj)) (s : Shared) (σ : St) (H : Hp) (E : Value → Shared → Prop), Inv X pins σ H s → (∀ b ∈ fp, FpOk X pins H b) → tn i s.heap → J.stop i H →
  wpAny (model P w) X.A (pyNext (.ref it)) (fun r s1 => r = none ∧ Inv X pins σ H s1) E s
 self : ∀ (A : Around) (i : Nat) (s : Shared) (Q : Value → Shared → Prop) (E : Value → Shared → Prop), tn i s.heap → Q (.ref it) s → wpAny (model P w) A (pyIter (.ref it)) Q E s
noncomputable abbrev TI := St → Hp → (It → Hp → Prop) → Prop
noncomputable def PIE (X : Cx) (pins : List (Addr × Obj)) (σ : St) (tg : Expr) (R : It → Hp → Prop) (itv : Value) (s2 : Shared) : Prop :=
 ∃ (it : Addr) (fp : List Addr) (tn : Nat → Heap → Prop) (J : It) (H' : Hp), itv = .ref it ∧ Inv X pins σ H' s2 ∧ Turn X.prog X.w X.K tg J fp it tn ∧ tn 0 s2.heap ∧ (∀ b ∈ fp, FpOk X pins H' b) ∧ R J H'
noncomputable def PI (X : Cx) (tg iter : Expr) (wi : TI) : Prop :=
 ∀ (pins : List (Addr × Obj)) (s : Shared) (σ : St) (H : Hp) (R : It → Hp → Prop), Inv X pins σ H s → wi σ H R →
  wpAny (model X.prog X.w) X.A (eval iter X.env) (fun v s1 => wpAny (model X.prog X.w) X.A (pyIter v) (PIE X pins σ tg R) X.xe s1) X.xe s
theorem z5c {M : Model} {A : Around} {E : Value → Shared → Prop} {s : Shared} {tg : Expr} {it : Addr} {u : Value} {o : Obj} {n : String} {vs : Array Value} {Q : Unit → Shared → Prop} (ho : s.heap.get? it = some o) (hc : o.cls = .type n) (hd : o.data = .fields vs)
    (hn : ["enumerate", "zip", "dict_itemiterator", "dict_reverseitemiterator", "odict_iterator", "itertools.zip_longest", "itertools.pairwise"].contains n = false) (hQ : Q () s) : wpAny M A (letOwnedTupleGo tg (.ref it) u) Q E s := by
  unfold letOwnedTupleGo
  cases tg <;> first
    | exact wpAny_pure hQ
    | (cases u <;> first
        | exact wpAny_pure hQ
        | (refine wpAny_bind (wpAny_load ho ?_)
           rw [hc, hd]
           show wpAny M A (if (["enumerate", "zip", "dict_itemiterator", "dict_reverseitemiterator", "odict_iterator", "itertools.zip_longest", "itertools.pairwise"].contains n && vs[0]? == some (rawInt _)) = true then _ else _) Q E s
           rw [if_neg (by intro h; rw [hn, Bool.false_and] at h; cases h)]
           exact wpAny_pure hQ))
noncomputable def Itl (K : W.Frag) (a : Addr) : It :=
 ⟨fun i H => ∃ xs x, SqL K H a xs ∧ xs[i]? = some x, fun i H x H' => H' = H ∧ ∀ xs, SqL K H a xs → xs[i]? = some x, fun i H => ∃ xs, SqL K H a xs ∧ xs.length ≤ i⟩
noncomputable def Itt (K : W.Frag) (a : Addr) : It :=
 ⟨fun i H => ∃ xs x, SqT K H a xs ∧ xs[i]? = some x, fun i H x H' => H' = H ∧ ∀ xs, SqT K H a xs → xs[i]? = some x, fun i H => ∃ xs, SqT K H a xs ∧ xs.length ≤ i⟩
noncomputable def Itr (lo : Int) (n : Nat) : It := ⟨fun i _ => i < n, fun i H x H' => H' = H ∧ x = .int (lo + i), fun i _ => n ≤ i⟩
theorem z3P {P : Program} {w : World} {K : W.Frag} {tg : Expr} (a it : Addr) : Turn P w K tg (Itl K a) [it] it (fun i h => h.IsListIter it a i) where
 mem := by simp
 obj := fun i h st b hb => by
  have e : b = it := by simpa using hb
  subst e
  obtain ⟨o, e, c, d⟩ := st
  exact ⟨o, e, fun v z => by rw [d] at z; cases z⟩
 keep := fun i h h' st k => st.at fun o e => k it (by simp) o e
 item := by
  intro X hP hw hK hc i pins s σ H E I hf st hg
  subst hP hw hK
  obtain ⟨xs, x, hq, hx⟩ := hg
  obtain ⟨its, rv, p, hz⟩ := I.list hq
  obtain ⟨u, hu, ru⟩ := rv.get hx
  obtain ⟨f0, f1, f2, f3, f4, f5⟩ := hf it (by simp)
  refine wpAny_pyNext_list_item st p.isList (x := u) (by simpa using hu) fun h' st' sb => ?_
  have I1 : Inv X pins σ H { s with heap := h' } := I.turned (t' := s.toks) (fun b o hb e => (sb.2 b hb).trans e) f0 f1 f3 f4 f5
  obtain ⟨o, e, c, d⟩ := id st'
  exact ⟨u, rfl, z5c (s := { s with heap := h' }) e c d (by decide) ⟨x, H, I1, ru, ⟨rfl, fun ys hy => by rw [I.list_inj hy hq]; exact hx⟩, st', fun b hb => (hf b hb).1⟩⟩
 done := by
  intro X hP hw hK hc i pins s σ H E I hf st hg
  subst hP hw hK
  obtain ⟨xs, hq, hx⟩ := hg
  obtain ⟨its, rv, p, hz⟩ := I.list hq
  obtain ⟨f0, f1, f2, f3, f4, f5⟩ := hf it (by simp)
  have hl := rv.length
  exact wpAny_pyNext_list_end (I.ok.hd hc) st p.isList (by simp; omega) fun h' eb => ⟨rfl, I.turned (t' := s.toks) (fun b o hb e => eb b o hb e) f0 f1 f3 f4 f5⟩
 self := fun _ _ _ _ _ st h => wpAny_pyIter_listiter st h
theorem z2c {P : Program} {w : World} {K : W.Frag} {tg : Expr} (a it : Addr) : Turn P w K tg (Itt K a) [it] it (fun i h => h.IsTupleIter it a i) where
 mem := by simp
 obj := fun i h st b hb => by
  have e : b = it := by simpa using hb
  subst e
  obtain ⟨o, e, c, d⟩ := st
  exact ⟨o, e, fun v z => by rw [d] at z; cases z⟩
 keep := fun i h h' st k => st.at fun o e => k it (by simp) o e
 item := by
  intro X hP hw hK hc i pins s σ H E I hf st hg
  subst hP hw hK
  obtain ⟨xs, x, hq, hx⟩ := hg
  obtain ⟨its, rv, p, hz⟩ := I.tuple hq
  obtain ⟨u, hu, ru⟩ := rv.get hx
  obtain ⟨f0, f1, f2, f3, f4, f5⟩ := hf it (by simp)
  refine wpAny_pyNext_tuple_item st (show s.heap.IsTuple a its.toArray from p) (x := u) (by simpa using hu) fun h' st' sb => ?_
  have I1 : Inv X pins σ H { s with heap := h' } := I.turned (t' := s.toks) (fun b o hb e => (sb.2 b hb).trans e) f0 f1 f3 f4 f5
  obtain ⟨o, e, c, d⟩ := id st'
  exact ⟨u, rfl, z5c (s := { s with heap := h' }) e c d (by decide) ⟨x, H, I1, ru, ⟨rfl, fun ys hy => by rw [I.tuple_inj hy hq]; exact hx⟩, st', fun b hb => (hf b hb).1⟩⟩
 done := by
  intro X hP hw hK hc i pins s σ H E I hf st hg
  subst hP hw hK
  obtain ⟨xs, hq, hx⟩ := hg
  obtain ⟨its, rv, p, hz⟩ := I.tuple hq
  obtain ⟨f0, f1, f2, f3, f4, f5⟩ := hf it (by simp)
  have hl := rv.length
  exact wpAny_pyNext_tuple_end (I.ok.hd hc) st (show s.heap.IsTuple a its.toArray from p) (by simp; omega) fun h' eb => ⟨rfl, I.turned (t' := s.toks) (fun b o hb e => eb b o hb e) f0 f1 f3 f4 f5⟩
 self := fun _ _ _ _ _ st h => wpAny_pyIter_tupleiter st h
theorem z2S {P : Program} {w : World} {K : W.Frag} {tg : Expr} (it : Addr) (lo : Int) (n : Nat) : Turn P w K tg (Itr lo n) [it] it (fun i h => IsRangeIter h it (lo + (i : Nat) * 1) ((n : Int) - (i : Nat)) 1) where
 mem := by simp
 obj := fun i h st b hb => by
  have e : b = it := by simpa using hb
  subst e
  exact ⟨_, st, fun v z => by
   have z' : Data.fields _ = Data.cell v := z
   cases z'⟩
 keep := fun i h h' st k => k it (by simp) _ st
 item := by
  intro X hP hw hK hc i pins s σ H E I hf st hg
  subst hP hw hK
  obtain ⟨f0, f1, f2, f3, f4, f5⟩ := hf it (by simp)
  have W := Walks.range (prog := X.prog) (w := X.w) (I.ok.hd hc) it lo 1 n
  refine W.item i s _ _ hg st fun v h' tk hv st' kk => ?_
  obtain ⟨t, rfl⟩ := hv
  have I1 : Inv X pins σ H { s with heap := h', toks := tk } := I.turned (fun b o hb e => kk b o (by simpa using hb) e) f0 f1 f3 f4 f5
  refine ⟨_, rfl, z5c (s := { s with heap := h', toks := tk }) (n := "range_iterator") st' rfl rfl (by decide) ⟨.int (lo + i), H, I1, ⟨t, ?_⟩, ⟨rfl, rfl⟩, st', fun b hb => (hf b hb).1⟩⟩
  rw [Int.mul_one]
 done := by
  intro X hP hw hK hc i pins s σ H E I hf st hg
  subst hP hw hK
  obtain ⟨f0, f1, f2, f3, f4, f5⟩ := hf it (by simp)
  exact wpAny_pyNext_range_end (I.ok.hd hc) st (by have : n ≤ i := hg; omega) fun h' eb => ⟨rfl, I.turned (t' := s.toks) (fun b o hb e => eb b o hb e) f0 f1 f3 f4 f5⟩
 self := fun _ _ _ _ _ st h => wpAny_pyIter_rangeiter st h
end L2
namespace L2
open PySem PySem.Spec PyProof.Rows
section
variable {X : Cx} {tg : Expr}
theorem z5Z {pins : List (Addr × Obj)} {σ : St} {H : Hp} {s : Shared} {R : It → Hp → Prop} {E : Value → Shared → Prop} {lo hi : Int} {t u v : Tok} {tk : Nat} (I : Inv X pins σ H s) (h1 : -(2 ^ 62) ≤ lo) (h2 : lo < 2 ^ 62) (h3 : -(2 ^ 62) ≤ hi) (h4 : hi < 2 ^ 62)
  (q : R (Itr lo (hi - lo).toNat) H) : wpAny (model X.prog X.w) X.A (pyIter (.ref s.heap.objs.size)) (PIE X pins σ tg R) E { s with heap := s.heap.push { cls := .type "range", data := .fields #[.int lo t, .int hi u, .int 1 v] }, toks := tk } := by
 refine wpAny_pyIter_range (IsRange.new ..) (small_one h1 h2 h3 h4) ?_
 have I1 : Inv X pins σ H { s with heap := s.heap.push { cls := .type "range", data := .fields #[.int lo t, .int hi u, .int 1 v] }, toks := tk } := I.kept fun b o e => Heap.get?_push_of_some _ e
 refine ⟨(s.heap.push { cls := .type "range", data := .fields #[.int lo t, .int hi u, .int 1 v] }).objs.size, [(s.heap.push { cls := .type "range", data := .fields #[.int lo t, .int hi u, .int 1 v] }).objs.size], _, _, H, rfl,
  I1.kept (t' := tk) fun b o e => Heap.get?_push_of_some _ e, z2S _ lo (hi - lo).toNat, ?_, fun b hb => ?_, q⟩
 ·have e1 : lo + ((0 : Nat) : Int) * 1 = lo := by simp
  have e2 : (((hi - lo).toNat : Nat) : Int) - ((0 : Nat) : Int) = Builtin.Range.rangeSize lo hi 1 := by rw [rangeSize_one]; split <;> omega
  show IsRangeIter _ _ (lo + ((0 : Nat) : Int) * 1) ((((hi - lo).toNat : Nat) : Int) - ((0 : Nat) : Int)) 1
  rw [e1, e2]
  exact Heap.get?_push_size _ rfl
 ·have e : b = (s.heap.push { cls := .type "range", data := .fields #[.int lo t, .int hi u, .int 1 v] }).objs.size := by simpa using hb
  subst e
  exact I1.fpOk (Nat.le_refl _) (I1.hok.fresh (Nat.le_refl _))
noncomputable def z9A (ta : TA) : TI := fun σ H R => ta σ H fun vs H1 => ∃ j : Int, vs = [.int j] ∧ -(2 ^ 62) ≤ j ∧ j < 2 ^ 62 ∧ R (Itr 0 j.toNat) H1
theorem z4I {a : Expr} {ta : TA} {p pos : Pos} (hg : Gl X "range") (hm : X.mg "range" = none) (ha : PA X [a] ta) (hs : starEach [a] X.env = [(false, eval a X.env)] := by rfl) : PI X tg (.Call (.Name "range" p) [a] [] pos) (z9A ta) := by
 intro pins s σ H R I h
 refine Call_ (z0j I hg hm boot_range (PyProof.Rows.callWith_type1 (thn (ha pos pins s σ H _ I h) fun us s1 ⟨vs, H1, I1, r1, q1⟩ => ?_) hs rfl))
 obtain ⟨j, e, q1, q2, q⟩ := q1
 subst e
 cases r1 with
 | cons r rr =>
  cases rr
  obtain ⟨t, rfl⟩ := r
  exact call_range_1 (z5Z I1 (by omega) (by omega) q1 q2 (by simpa using q))
noncomputable def tFor (wi : TI) (g : TG) (tb : TS) : TS := fun D σ H => wi σ H fun J H1 => ∃ W : Nat → Nat → St → Hp → Prop, (∃ m, W 0 m σ H1) ∧ ∀ i m σ H, W i m σ H →
 (J.stop i H ∧ D.nx σ H) ∨ (J.go i H ∧ ∃ N : St → Hp → Prop, (∀ σ' H', N σ' H' → ∃ m', m' < m ∧ W (i + 1) m' σ' H') ∧ ∀ x H', J.yld i H x H' → g x σ H' fun σ2 H2 => tb { D with nx := N, ct := N, bk := D.nx } σ2 H2)
noncomputable def uS (fp : List Addr) (h : Heap) : List (Addr × Obj) := fp.filterMap fun b => (h.get? b).map fun o => (b, o)
theorem yw {fp : List Addr} {h : Heap} {b : Addr} {o : Obj} (hb : b ∈ fp) (e : h.get? b = some o) : (b, o) ∈ uS fp h := List.mem_filterMap.mpr ⟨b, hb, by rw [e]; rfl⟩
theorem z3C {fp : List Addr} {h : Heap} {p : Addr × Obj} (hp : p ∈ uS fp h) : p.1 ∈ fp ∧ h.get? p.1 = some p.2 := by
 obtain ⟨b, hb, e⟩ := List.mem_filterMap.mp hp
 cases q : h.get? b with
 | none => rw [q] at e; cases e
 | some o =>
  rw [q] at e
  have e' : (b, o) = p := Option.some.inj e
  subst e'
  exact ⟨hb, q⟩
theorem Inv.pinned {pins : List (Addr × Obj)} {σ : St} {H : Hp} {s : Shared} {fp : List Addr} (I : Inv X pins σ H s) (hf : ∀ b ∈ fp, FpOk X pins H b) (ho : ∀ b ∈ fp, ∃ o, s.heap.get? b = some o ∧ ∀ v, o.data ≠ .cell v) : Inv X (pins ++ uS fp s.heap) σ H s :=
 I.pins_of fun p hp => (List.mem_append.mp hp).elim (fun z => I.pin p (List.mem_append_right _ z)) fun z => by
  obtain ⟨hb, e⟩ := z3C z
  obtain ⟨f0, f1, f2, _⟩ := hf p.1 hb
  obtain ⟨o, e', d⟩ := ho p.1 hb
  rw [e] at e'; cases e'
  exact ⟨e, f0, f1, f2, d⟩
theorem Inv.unpinned {pins pl : List (Addr × Obj)} {σ : St} {H : Hp} {s : Shared} (I : Inv X (pins ++ pl) σ H s) : Inv X pins σ H s := I.pins_of fun p hp => I.pin p (List.mem_append_right _ (List.mem_append_left _ hp))
theorem z8g {iter : Expr} {body : List Stmt} {wi : TI} {g : TG} {tb : TS} {pos : Pos} (hp : PassesOwn (model X.prog X.w) X.A X.env X.xe) (hc : X.calm = true) (hi : PI X tg iter wi) (hg : PG X tg g) (hb : PSs X body tb)
  (hs : ∀ x, foldedSetIterable iter X.env x = pure x := by intro _; rfl) : PS X (.For tg iter body [] pos) (tFor wi g tb) := by
 intro pins s σ H D I h
 refine wpAny_For (thn (hi pins s σ H _ I h) fun v s1 h1 => thn h1 fun itv s2 h2 => ?_) hs
 obtain ⟨it, fp, tn, J, H2, e, I2, T, st2, f2, W, ⟨m0, w0⟩, turn⟩ := h2
 subst e
 have stat : ∀ {H' : Hp}, (∀ b ∈ fp, H' b = none) → ∀ b ∈ fp, FpOk X pins H' b := fun hn b hb => ⟨hn b hb, (f2 b hb).2⟩
 refine codeAny_forLoop_any (fun n s' => ∃ i σ' H', Inv X pins σ' H' s' ∧ tn i s'.heap ∧ (∀ b ∈ fp, H' b = none) ∧ W i n σ' H') ?_ m0 ⟨0, σ, H2, I2, st2, fun b hb => (f2 b hb).1, w0⟩
 rintro n s3 ⟨i, σ3, H3, I3, st3, fr3, w3⟩
 rcases turn i n σ3 H3 w3 with ⟨stop, qn⟩ | ⟨go, N, hN, step⟩
 ·refine wpAny_passesOwn hp (thn (T.done X rfl rfl rfl hc i pins s3 σ3 H3 X.xe I3 (stat fr3) st3 stop) fun r s4 ⟨hr, I4⟩ => ?_)
  subst hr
  exact wpAny_execs_nil ⟨σ3, H3, I4, qn⟩
 ·refine wpAny_passesOwn hp (thn (T.item X rfl rfl rfl hc i pins s3 σ3 H3 X.xe I3 (stat fr3) st3 go) fun r s4 ⟨u, hr, h4⟩ => ?_)
  subst hr
  refine wpAny_passesOwn hp (thn h4 fun _ s5 ⟨x, H5, I5, r5, y5, st5, fr5⟩ => ?_)
  have I5' := I5.pinned (stat fr5) (T.obj _ _ st5)
  refine wpAny_passesOwn hp (thn (hg _ s5 σ3 H5 x u _ I5' r5 (step x H5 y5)) fun _ s6 ⟨σ6, H6, I6, q6⟩ => ?_)
  refine wpAny_passesOwn hp (thn (hb _ s6 σ6 H6 _ I6 q6) fun f s7 q7 => ?_)
  have again : ∀ {σ7 : St} {H7 : Hp}, Inv X (pins ++ uS fp s5.heap) σ7 H7 s7 → N σ7 H7 → ∃ m, m < n ∧ ∃ i σ' H', Inv X pins σ' H' s7 ∧ tn i s7.heap ∧ (∀ b ∈ fp, H' b = none) ∧ W i m σ' H' := fun {σ7 H7} I7 n7 => by
   obtain ⟨m', hm, w7⟩ := hN σ7 H7 n7
   refine ⟨m', hm, i + 1, σ7, H7, I7.unpinned, T.keep _ _ _ st5 fun b hb o e => (I7.pin (b, o) (List.mem_append_right _ (List.mem_append_right _ (yw hb e)))).1, fun b hb => ?_, w7⟩
   obtain ⟨o, e, d⟩ := T.obj _ _ st5 b hb
   exact (I7.pin (b, o) (List.mem_append_right _ (List.mem_append_right _ (yw hb e)))).2.1
  cases f with
  | next => obtain ⟨σ7, H7, I7, n7⟩ := q7; exact again I7 n7
  | cont => obtain ⟨σ7, H7, I7, n7⟩ := q7; exact again I7 n7
  | brk => obtain ⟨σ7, H7, I7, q7⟩ := q7; exact ⟨σ7, H7, I7.unpinned, q7⟩
  | ret v => obtain ⟨x7, σ7, H7, I7, r7, q7⟩ := q7; exact ⟨x7, σ7, H7, I7.unpinned, r7, q7⟩
end
end L2
namespace L2
open PySem PySem.Spec PyProof.Rows
noncomputable abbrev R2 := V → V → Hp → VK → Prop
noncomputable def OpR (X : Cx) (f : Value → Value → Sem Value) (r : R2) : Prop :=
 ∀ (pins : List (Addr × Obj)) (s : Shared) (σ : St) (H : Hp) (x y : V) (v u : Value) (Q : VK), Inv X pins σ H s → RelV x v → RelV y u → r x y H Q →
  wpAny (model X.prog X.w) X.A (f v u) (EP X pins σ Q) X.xe s
noncomputable def CallR (X : Cx) (f : Value) (r : List V → Hp → VK → Prop) : Prop :=
 ∀ (pins : List (Addr × Obj)) (s : Shared) (σ : St) (H : Hp) (xs : List V) (us : List Value) (Q : VK), Inv X pins σ H s → Vals xs us → r xs H Q →
  wpAny (model X.prog X.w) X.A (call f us) (EP X pins σ Q) X.xe s
noncomputable def TruR (X : Cx) (r : V → Hp → (Bool → Hp → Prop) → Prop) : Prop :=
 ∀ (pins : List (Addr × Obj)) (s : Shared) (σ : St) (H : Hp) (x : V) (v : Value) (Q : Bool → Hp → Prop), Inv X pins σ H s → RelV x v → r x H Q →
  wpAny (model X.prog X.w) X.A (truthy v) (TP X pins σ Q) X.xe s
noncomputable def tOp (r : R2) (ta tb : TE) : TE := fun σ H Q => ta σ H fun x H1 => tb σ H1 fun y H2 => r x y H2 Q
noncomputable def rI (C : Int → Int → Prop) (g : Int → Int → V) : R2 := fun x y H Q => ∃ i j, x = .int i ∧ y = .int j ∧ C i j ∧ Q (g i j) H
noncomputable def rI0 (g : Int → Int → V) : R2 := fun x y H Q => ∃ i j, x = .int i ∧ y = .int j ∧ Q (g i j) H
section
variable {X : Cx} {a b c : Expr} {ta tb tc : TE} {pos : Pos}
theorem binT (ha : PE X a ta) (hb : PE X b tb) {pins : List (Addr × Obj)} {s : Shared} {σ : St} {H : Hp} {R : V → V → Hp → Prop} (I : Inv X pins σ H s)
  (h : ta σ H fun x H1 => tb σ H1 fun y H2 => R x y H2) {Q : Value → Shared → Prop} {f : Value → Value → Sem Value}
  (hf : ∀ v u s2 x y H2, Inv X pins σ H2 s2 → RelV x v → RelV y u → R x y H2 → wpAny (model X.prog X.w) X.A (f v u) Q X.xe s2) :
  wpAny (model X.prog X.w) X.A (eval a X.env) (fun v s₁ => wpAny (model X.prog X.w) X.A (eval b X.env) (fun u s₂ => wpAny (model X.prog X.w) X.A (f v u) Q X.xe s₂) X.xe s₁) X.xe s := by
 refine thn (ha pins s σ H _ I h) fun v s1 ⟨x, H1, I1, r1, q1⟩ => ?_
 refine thn (hb pins s1 σ H1 _ I1 q1) fun u s2 ⟨y, H2, I2, r2, q2⟩ => ?_
 exact hf v u s2 x y H2 I2 r1 r2 q2
theorem z5J {op : Operator} {r : R2} (ho : OpR X (binaryOp op) r) (ha : PE X a ta) (hb : PE X b tb) : PE X (.BinOp a op b pos) (tOp r ta tb) := by
 intro pins s σ H Q I h
 exact wpAny_BinOp (binT ha hb I h fun v u s2 x y H2 I2 rx ry q => ho pins s2 σ H2 x y v u Q I2 rx ry q)
theorem opI {f : Value → Value → Sem Value} {C : Int → Int → Prop} {g : Int → Int → Int}
  (rule : ∀ (i j : Int) (t u : Tok) (s : Shared) (Q : Value → Shared → Prop) (E : Value → Shared → Prop), C i j → Q (.int (g i j) s.toks) { s with toks := s.toks + 1 } → wpAny (model X.prog X.w) X.A (f (.int i t) (.int j u)) Q E s) :
  OpR X f (rI C fun i j => .int (g i j)) := by
 intro pins s σ H x y v u Q I rx ry h
 obtain ⟨i, j, rfl, rfl, hc, q⟩ := h
 obtain ⟨t, rfl⟩ := rx
 obtain ⟨t', rfl⟩ := ry
 exact rule i j t t' s _ _ hc ⟨.int (g i j), H, I.tok _, ⟨_, rfl⟩, q⟩
theorem opI0 {f : Value → Value → Sem Value} {g : Int → Int → Int}
  (rule : ∀ (i j : Int) (t u : Tok) (s : Shared) (Q : Value → Shared → Prop) (E : Value → Shared → Prop), Q (.int (g i j) s.toks) { s with toks := s.toks + 1 } → wpAny (model X.prog X.w) X.A (f (.int i t) (.int j u)) Q E s) :
  OpR X f (rI0 fun i j => .int (g i j)) := by
 intro pins s σ H x y v u Q I rx ry h
 obtain ⟨i, j, rfl, rfl, q⟩ := h
 obtain ⟨t, rfl⟩ := rx
 obtain ⟨t', rfl⟩ := ry
 exact rule i j t t' s _ _ ⟨.int (g i j), H, I.tok _, ⟨_, rfl⟩, q⟩
theorem opB0 {f : Value → Value → Sem Value} {g : Int → Int → Bool}
  (rule : ∀ (i j : Int) (t u : Tok) (s : Shared) (Q : Value → Shared → Prop) (E : Value → Shared → Prop), Q (.bool (g i j)) s → wpAny (model X.prog X.w) X.A (f (.int i t) (.int j u)) Q E s) :
  OpR X f (rI0 fun i j => .bl (g i j)) := by
 intro pins s σ H x y v u Q I rx ry h
 obtain ⟨i, j, rfl, rfl, q⟩ := h
 obtain ⟨t, rfl⟩ := rx
 obtain ⟨t', rfl⟩ := ry
 exact rule i j t t' s _ _ ⟨.bl (g i j), H, I, rfl, q⟩
noncomputable def CPow (i j : Int) : Prop := 0 ≤ j ∧ j ≤ 1000000 ∧ i.natAbs < 2 ^ 64
noncomputable def CMul (i j : Int) : Prop := (-(2 ^ 64) < i ∧ i < 2 ^ 64) ∨ (-(2 ^ 64) < j ∧ j < 2 ^ 64)
theorem CMul.ok {i j : Int} (h : CMul i j) : IntMulOk i j := by
 rcases h with ⟨h1, h2⟩ | ⟨h1, h2⟩
 ·exact .of_left (intBits_le_64 h1 h2)
 ·exact .of_right (intBits_le_64 h1 h2)
theorem op_add : OpR X (binaryOp .Add) (rI0 fun i j => .int (i + j)) := opI0 fun _ _ _ _ _ _ _ q => add_int q
theorem op_sub : OpR X (binaryOp .Sub) (rI0 fun i j => .int (i - j)) := opI0 fun _ _ _ _ _ _ _ q => sub_int q
theorem op_mul : OpR X (binaryOp .Mult) (rI CMul fun i j => .int (i * j)) := opI fun _ _ _ _ _ _ _ hc q => mul_int q hc.ok
theorem op_mod : OpR X (binaryOp .Mod) (rI (fun _ j => 0 < j) fun i j => .int (i % j)) := opI fun i j _ _ _ _ _ hc q => by
 have h1 : (0 : Int) < j := hc
 exact mod_int' (by omega) (by rw [Int.fmod_eq_emod_of_nonneg i (by omega)]; exact q)
theorem op_pow : OpR X (binaryOp .Pow) (rI CPow fun i j => .int (i ^ j.toNat)) := opI fun _ _ _ _ _ _ _ hc q => pow_int_small hc.1 hc.2.1 hc.2.2 q
end
section
variable {X : Cx} {a b c : Expr} {ta tb tc : TE} {pos : Pos}
theorem z62 {pins : List (Addr × Obj)} {σ : St} {H : Hp} {s : Shared} {Q : VK} {k k' : Bool} (I : Inv X pins σ H s) (q : Q (.bl k) H) (e : k = k') : EP X pins σ Q (.bool k') s := by
 subst e
 exact ⟨.bl k, H, I, rfl, q⟩
theorem op_lt : OpR X (compareOp .Lt) (rI0 fun i j => .bl (decide (i < j))) := opB0 fun _ _ _ _ _ _ _ q => lt_int q
theorem z3n : OpR X (compareOp .LtE) (rI0 fun i j => .bl (decide (i ≤ j))) := opB0 fun _ _ _ _ _ _ _ q => le_int q
theorem z9S : OpR X (compareOp .GtE) (rI0 fun i j => .bl (decide (j ≤ i))) := opB0 fun _ _ _ _ _ _ _ q => ge_int q
theorem op_isN : OpR X (compareOp .Is) (fun x y H Q => y = .non ∧ Q (.bl (decide (x = .non))) H) := by
 intro pins s σ H x y v u Q I rx ry h
 obtain ⟨rfl, q⟩ := h
 cases ry
 refine is_none_gen (z62 I q ?_)
 cases x <;> first
  | (cases rx; rfl)
  | (obtain ⟨t, rfl⟩ := rx; rfl)
theorem op_notN : OpR X (compareOp .IsNot) (fun x y H Q => y = .non ∧ Q (.bl (!decide (x = .non))) H) := by
 intro pins s σ H x y v u Q I rx ry h
 obtain ⟨rfl, q⟩ := h
 cases ry
 refine isnot_none_gen (z62 I q ?_)
 cases x <;> first
  | (cases rx; rfl)
  | (obtain ⟨t, rfl⟩ := rx; rfl)
theorem OpR.or {f : Value → Value → Sem Value} {r r' : R2} (h : OpR X f r) (h' : OpR X f r') : OpR X f (fun x y H Q => r x y H Q ∨ r' x y H Q) := by
 intro pins s σ H x y v u Q I rx ry q
 rcases q with q | q
 ·exact h pins s σ H x y v u Q I rx ry q
 ·exact h' pins s σ H x y v u Q I rx ry q
theorem zb (b : Expr) {op : CmpOp} (h : op ≠ .In := by decide) (h2 : op ≠ .NotIn := by decide) : behindInMarks op b = false := by
 have e1 : (op == CmpOp.In) = false := by cases op <;> first | rfl | exact absurd rfl h
 have e2 : (op == CmpOp.NotIn) = false := by cases op <;> first | rfl | exact absurd rfl h2
 cases b <;> simp [behindInMarks, e1, e2]
theorem z6r {op : CmpOp} {r : R2} (ho : OpR X (compareOp op) r) (ha : PE X a ta) (hb : PE X b tb) (hm : behindInMarks op b = false) : PE X (.Compare a [op] [b] pos) (tOp r ta tb) := by
 intro pins s σ H Q I h
 exact wpAny_Compare1 (binT ha hb I h fun v u s2 x y H2 I2 rx ry q => ho pins s2 σ H2 x y v u Q I2 rx ry q) hm
noncomputable def z9H (t : TE) : TT := fun σ H Q => t σ H fun x H' => ∃ k, x = .bl k ∧ Q k H'
theorem z1X {op : CmpOp} {r : R2} (ho : OpR X (compareOp op) r) (ha : PE X a ta) (hb : PE X b tb) (hm : behindInMarks op b = false) : PT X (.Compare a [op] [b] pos) (z9H (tOp r ta tb)) := by
 intro pins s σ H Q I h
 refine wpAny_isTrue_Compare1 (thn (ha pins s σ H _ I h) fun v s1 ⟨x, H1, I1, r1, q1⟩ => thn (hb pins s1 σ H1 _ I1 q1) fun u s2 ⟨y, H2, I2, r2, q2⟩ =>
  thn (ho pins s2 σ H2 x y v u _ I2 r1 r2 q2) fun c s3 ⟨z, H3, I3, r3, k, e, q3⟩ => ?_) hm
 subst e
 cases r3
 exact wpAny_truthy_bool ⟨H3, I3, q3⟩
noncomputable def z5g (r r' : R2) (ta tb tc : TE) : TE := fun σ H Q => ta σ H fun x H1 => tb σ H1 fun y H2 => r x y H2 fun z H3 => ∃ k, z = .bl k ∧
 (if k = true then tc σ H3 fun w' H4 => r' y w' H4 Q else Q (.bl false) H3)
theorem z4x {op op' : CmpOp} {r r' : R2} (ho : OpR X (compareOp op) r) (ho' : OpR X (compareOp op') r') (ha : PE X a ta) (hb : PE X b tb) (hc : PE X c tc)
  (hm : lastMarks [op, op'] [b, c] = false := by with_unfolding_all rfl) : PE X (.Compare a [op, op'] [b, c] pos) (z5g r r' ta tb tc) := by
 intro pins s σ H Q I h
 refine Compare_chain (thn (ha pins s σ H _ I h) fun v s1 ⟨x, H1, I1, r1, q1⟩ => chain_link (thn (hb pins s1 σ H1 _ I1 q1) fun u s2 ⟨y, H2, I2, r2, q2⟩ =>
  thn (ho pins s2 σ H2 x y v u _ I2 r1 r2 q2) fun d s3 ⟨z, H3, I3, r3, k, e, q3⟩ => ?_)) hm
 subst e
 cases r3
 refine wpAny_truthy_bool ?_
 cases k with
 | false => exact ite_ff ⟨.bl false, H3, I3, rfl, q3⟩
 | true => exact ite_tt (chain_last (thn (hc pins s3 σ H3 _ I3 q3) fun w' s4 ⟨z', H4, I4, r4, q4⟩ => ho' pins s4 σ H4 y z' u w' Q I4 r2 r4 q4))
noncomputable def TruV (K : W.Frag) (x : V) (H : Hp) (k : Bool) : Prop :=
 match x with
 | .non => k = false
 | .bl b => k = b
 | .int i => k = (i != 0)
 | .str y => y.length ≤ sizeLine ∧ k = ((y.length : Int) != 0)
 | .byt y => y.size ≤ sizeLine ∧ k = ((y.size : Int) != 0)
 | .ref p => (∃ xs, SqL K H p xs ∧ k = !xs.isEmpty) ∨ (∃ xs, SqT K H p xs ∧ k = !xs.isEmpty) ∨ ∃ kvs, H p = some (.dK kvs) ∧ k = !kvs.isEmpty
 | _ => False
theorem z2j {κ : Type} {kvs : List (κ × V)} {vs : List (κ × Value)} (r : KV kvs vs) : (!vs.isEmpty) = !kvs.isEmpty := by
 cases r <;> rfl
theorem uV {xs : List V} {its : List Value} (r : Vals xs its) : (!its.toArray.isEmpty) = !xs.isEmpty := by
 cases r <;> simp
theorem z0X : (sizeLine : Nat) < 2 ^ 63 := by rw [sizeLine_eq]; decide
theorem z8W : TruR X (fun x H Q => ∃ k, TruV X.K x H k ∧ Q k H) := by
 intro pins s σ H x v Q I rx h
 obtain ⟨k, e, q⟩ := h
 have hl := z0X
 have hs : sizeLine = 16777216 := sizeLine_eq
 cases x with
 | non =>
  cases rx
  have e' : k = false := e
  subst e'
  exact truthy_none ⟨H, I, q⟩
 | bl b =>
  cases rx
  have e' : k = b := e
  subst e'
  exact wpAny_truthy_bool ⟨H, I, q⟩
 | int i =>
  obtain ⟨t, rfl⟩ := rx
  have e' : k = (i != 0) := e
  subst e'
  exact PySem.P.truthy_int ⟨H, I, q⟩
 | str y =>
  obtain ⟨t, rfl⟩ := rx
  obtain ⟨hy, e'⟩ : y.length ≤ sizeLine ∧ k = ((y.length : Int) != 0) := e
  subst e'
  exact PySem.P.truthy_str (by omega) ⟨H, I.tok _, q⟩
 | byt y =>
  obtain ⟨t, rfl⟩ := rx
  obtain ⟨hy, e'⟩ : y.size ≤ sizeLine ∧ k = ((y.size : Int) != 0) := e
  subst e'
  exact W.truthy_bytes (by omega) ⟨H, I.tok _, q⟩
 | ref p =>
  cases rx
  have e' : (∃ xs, SqL X.K H p xs ∧ k = !xs.isEmpty) ∨ (∃ xs, SqT X.K H p xs ∧ k = !xs.isEmpty) ∨ ∃ kvs, H p = some (.dK kvs) ∧ k = !kvs.isEmpty := e
  rcases e' with ⟨xs, hx, e'⟩ | ⟨xs, hx, e'⟩ | ⟨kvs, hx, e'⟩
  ·subst e'
   obtain ⟨its, r, pl, hz⟩ := I.list hx
   have hlen := r.length
   exact wpAny_truthy_list pl.isList (by simp only [List.size_toArray]; omega) ⟨H, I.tok _, by rw [uV r]; exact q⟩
  ·subst e'
   obtain ⟨its, r, pl, hz⟩ := I.tuple hx
   have hlen := r.length
   exact truthy_tuple pl (by simp only [List.size_toArray]; omega) ⟨H, I.tok _, by rw [uV r]; exact q⟩
  ·subst e'
   obtain ⟨hz, hS, vs, r, m⟩ : kvs.length ≤ sizeLine ∧ (p == sysModules) = false ∧ ∃ vs, KV kvs vs ∧ s.heap.DictOf (ze X.prog X.w) p vs := I.hok p _ hx
   have hlen : kvs.length = vs.length := Paired.length r
   exact wpAny_truthy_dict hS m (by omega) ⟨H, I.tok _, by rw [z2j r]; exact q⟩
 | _ => exact (show False from e).elim
theorem z5e (ha : PE X a ta) (he : ∀ whole, isTrue a X.env whole = (do let v ← whole; standAt a.pos; holding [v] (truthy v))) :
  PT X a (fun σ H Q => ta σ H fun x H' => ∃ k, TruV X.K x H' k ∧ Q k H') := by
 intro pins s σ H Q I h
 exact isTrue_plain (thn (ha pins s σ H _ I h) fun v s1 ⟨x, H1, I1, r1, q1⟩ => z8W pins s1 σ H1 x v Q I1 r1 q1) (he _)
theorem z2W : OpR X (binaryOp .Add) (fun x y H Q => ∃ i j, x = .str i ∧ y = .str j ∧ i.length + j.length ≤ sizeLine ∧ Q (.str (i ++ j)) H) := by
 intro pins s σ H x y v u Q I rx ry h
 obtain ⟨i, j, rfl, rfl, hz, q⟩ := h
 obtain ⟨t, rfl⟩ := rx
 obtain ⟨t', rfl⟩ := ry
 exact add_str (fun t' tk => ⟨.str (i ++ j), H, I.tok _, ⟨_, rfl⟩, q⟩) hz
theorem xY {x : V} {us : List Value} (r : Vals [x] us) : ∃ u, us = [u] ∧ RelV x u := by
 cases r with
 | cons r1 r2 => cases r2; exact ⟨_, rfl, r1⟩
theorem z9F {x y : V} {us : List Value} (r : Vals [x, y] us) : ∃ u w', us = [u, w'] ∧ RelV x u ∧ RelV y w' := by
 cases r with
 | cons r1 r2 =>
  cases r2 with
  | cons r3 r4 => cases r4; exact ⟨_, _, rfl, r1, r3⟩
end
end L2
namespace L2
open PySem PySem.Spec PyProof.Rows
structure ObjM (h : Heap) (x dx C : Addr) (mA : Str → Option Value) : Prop where
 obj : h.get? x = some (W.instObj C dx)
 ns : h.Ns1 dx mA
 ne : dx ≠ x
theorem z3A {h : Heap} {dx : Addr} {mA : Str → Option Value} (n : h.Ns1 dx mA) : ∃ od, h.get? dx = some od ∧ ∀ name, W.lookIn name od = some (mA name) := by
 obtain ⟨o, es, ep, ho, hd, hk, _, hm⟩ := n
 refine ⟨o, ho, fun name => ?_⟩
 have e := hm name
 unfold nsFind findBy at e
 rw [← Array.find?_toList] at e
 unfold W.lookIn
 rw [hd]
 dsimp only
 split
 ·rename_i y q
  rw [q] at e
  exact congrArg some e
 ·rename_i q
  rw [q] at e
  have a : es.toList.any (·.refKey) = false := by
   rw [List.any_eq_false]
   intro y hy
   obtain ⟨z, t, hkey⟩ := hk y (Array.mem_toList_iff.mp hy)
   simp [DictEntry.refKey, hkey]
  have a' : ¬ es.toList.any (·.refKey) = true := by rw [a]; exact Bool.false_ne_true
  rw [if_neg a']
  exact congrArg some e
theorem ObjM.look {h : Heap} {x dx C : Addr} {mA : Str → Option Value} (I : ObjM h x dx C mA) : ∃ od, W.InstAt h x (W.instObj C dx) C (some od) ∧ ∀ name, W.lookIn name od = some (mA name) :=
 let ⟨od, ho, hl⟩ := z3A I.ns
 ⟨od, ⟨I.obj, rfl, rfl, ho⟩, hl⟩
section
variable {prog : Program} {w : World} {A : Around} {E : Value → Shared → Prop} {s : Shared} {K : W.Frag} {x dx C f : Addr} {mA : Str → Option Value} {name : Str} {v : Value}
end
theorem RelO.some_of {v : V} {o : Option Value} (r : RelO (some v) o) : ∃ u, o = some u ∧ RelV v u := by
 cases o with
 | none => exact (show False from r).elim
 | some u => exact ⟨u, rfl, r⟩
section
variable {P : Program} {w : World} {H H' : Hp} {h h' : Heap} {a C dx : Addr} {fs fs' : List (Str × V)}
theorem z6e (hok : HOk P w H h) (e : H a = some (.ins C dx fs)) : ∃ mA, ObjM h a dx C mA ∧ (∀ f, RelO (fs.lookup f) (mA f)) ∧ PySem.Within mA (fs.map (·.1)) ∧ fs.length ≤ 1000 ∧ H dx = some (.own a) := by
 obtain ⟨d, z, ne, ob, mA, n, r, q⟩ := (show ObjOk P w H h a (.ins C dx fs) from hok a _ e)
 exact ⟨mA, ⟨ob, n, ne⟩, r, q, z, d⟩
end
structure Cls (K : W.Frag) (C : Addr) : Prop where
 pg : W.plainGet K C Str.empty = true
 hd : W.hasDictIn K C = true
 po : W.plainOver K C = true
 sa : W.findIn K (.ref C) "__setattr__" = some (some (.builtin "object.__setattr__"))
theorem Cls.get {K : W.Frag} {C : Addr} (c : Cls K C) (f : Str) : W.plainGet K C f = true := c.pg
section
variable {X : Cx} {pins : List (Addr × Obj)} {σ : St} {H : Hp} {s : Shared} {a C dx : Addr} {fs : List (Str × V)} {f : Str} {v : V} {A : Around} {E : Value → Shared → Prop}
end
section
variable {X : Cx} {o e value : Expr} {f : Str} {pos pos' tpos : Pos} {ta tv : TE}
end
section
variable {X : Cx} {pins : List (Addr × Obj)} {σ : St} {H : Hp} {s : Shared} {A : Around} {E : Value → Shared → Prop} {Q : Value → Shared → Prop} {c : Value} {b : Bool}
inductive TyOf (K : W.Frag) (H : Hp) : V → Value → Prop where
 | non : TyOf K H .non (.type "NoneType")
 | bl (x : Bool) : TyOf K H (.bl x) (.type "bool")
 | int (i : Int) : TyOf K H (.int i) (.type "int")
 | str (x : Str) : TyOf K H (.str x) (.type "str")
 | flt (x : UInt64) : TyOf K H (.flt x) (.type "float")
 | lst {a : Addr} {xs : List V} (e : H a = some (.lst xs)) : TyOf K H (.ref a) (.type "list")
 | frz {a : Addr} {o : Obj} {xs : List V} (e : H a = some (.frz o (.lst xs))) : TyOf K H (.ref a) (.type "list")
 | tup {a : Addr} {xs : List V} (e : H a = some (.tup xs)) : TyOf K H (.ref a) (.type "tuple")
 | dK {a : Addr} {kvs : List (Key × V)} (e : H a = some (.dK kvs)) : TyOf K H (.ref a) (.type "dict")
 | dT {a : Addr} {kvs : List (List Key × V)} (e : H a = some (.dT kvs)) : TyOf K H (.ref a) (.type "dict")
 | ins {a C dx : Addr} {fs : List (Str × V)} (e : H a = some (.ins C dx fs)) (cl : Cls K C) (ha : W.findIn K (.ref C) "__class__" = some (some (.builtin "object.__class__")))
   (hn : W.specialIn K (.builtin "object.__class__") "__get__" = some (some (.builtin "getset_descriptor.__get__"))) (htk : W.takesIn K (.builtin "object.__class__") = some true)
   (hm : W.mroIn K C (.type "object") = some true) : TyOf K H (.ref a) (.ref C)
theorem z37 {x : V} {u t : Value} (I : Inv X pins σ H s) (rx : RelV x u) (ty : TyOf X.K H x t) (e : W.kitOne X.K t c = some b) (h : ∀ tk, Q (.bool b) { s with toks := tk }) :
  wpAny (model X.prog X.w) A (call (.builtin "isinstance") [u, c]) Q E s := by
 cases ty with
 | non => cases (show u = Value.none from rx); exact W.kia_one W.kitx_none I.kIn True.intro e (fun z => nomatch z) h
 | bl y => cases (show u = Value.bool y from rx); exact W.kia_one W.kitx_bool I.kIn True.intro e (fun z => nomatch z) h
 | int i => obtain ⟨t, q⟩ := (show ∃ t, u = Value.int i t from rx); cases q; exact W.kia_one W.kitx_int I.kIn True.intro e (fun z => nomatch z) h
 | str y => obtain ⟨t, q⟩ := (show ∃ t, u = Value.str y t from rx); cases q; exact W.kia_one W.kitx_str I.kIn True.intro e (fun z => nomatch z) h
 | flt y => obtain ⟨t, q⟩ := (show ∃ t, u = Value.float y t from rx); cases q; exact W.kia_one W.kitx_float I.kIn True.intro e (fun z => nomatch z) h
 | @lst a xs ea =>
  cases (show u = Value.ref a from rx)
  obtain ⟨_, _, n, _, h1⟩ := (show ObjOk X.prog X.w H s.heap a (.lst xs) from I.hok a _ ea)
  exact W.kia_one W.kitx_list I.kIn ⟨_, h1, rfl⟩ e (fun z => nomatch z) h
 | @frz a ob xs ea =>
  cases (show u = Value.ref a from rx)
  obtain ⟨_, _, _, n, _, h1⟩ := (show ObjOk X.prog X.w H s.heap a (.frz ob (.lst xs)) from I.hok a _ ea)
  exact W.kia_one W.kitx_list I.kIn ⟨_, h1, rfl⟩ e (fun z => nomatch z) h
 | @tup a xs ea =>
  cases (show u = Value.ref a from rx)
  obtain ⟨_, _, _, p⟩ := (show ObjOk X.prog X.w H s.heap a (.tup xs) from I.hok a _ ea)
  obtain ⟨o, h1, h2, _⟩ := p
  exact W.kia_one W.kitx_tuple I.kIn ⟨o, h1, h2⟩ e (fun z => nomatch z) h
 | @dK a kvs ea =>
  cases (show u = Value.ref a from rx)
  obtain ⟨_, _, vs, _, p⟩ := (show ObjOk X.prog X.w H s.heap a (.dK kvs) from I.hok a _ ea)
  obtain ⟨o, es, ep, h1, h2, _⟩ := p
  exact W.kia_one W.kitx_dict I.kIn ⟨o, h1, h2.1⟩ e (fun z => nomatch z) h
 | @dT a kvs ea =>
  cases (show u = Value.ref a from rx)
  obtain ⟨_, _, xs, _, o, es, ep, h1, h2, _⟩ := (show ObjOk X.prog X.w H s.heap a (.dT kvs) from I.hok a _ ea)
  exact W.kia_one W.kitx_dict I.kIn ⟨o, h1, h2.1⟩ e (fun z => nomatch z) h
 | @ins a C dx fs ea cl ha hn htk hm =>
  cases (show u = Value.ref a from rx)
  obtain ⟨mA, O, _⟩ := z6e I.hok ea
  obtain ⟨od, J, _⟩ := O.look
  exact W.kia_one (W.kitx_own (cl.get _) cl.hd ha hn htk hm) I.kIn J e (fun z => nomatch z) h
end
end L2
namespace L2
open PySem PySem.Spec PyProof.Rows
structure Room (k : Nat) (A : Around) : Prop where
 hd : A.handled = none
 dp : A.depth + 3 * k + 5 < recursionLimit
 un : A.units + 16 * k + 200 < cLine
theorem Room.mono {j k : Nat} {A : Around} (r : Room k A) (h : j ≤ k) : Room j A := ⟨r.hd, by have := r.dp; omega, by have := r.un; omega⟩
theorem Room.deeper {k : Nat} {A : Around} (r : Room (k + 1) A) (env : Env) : Room k (A.deeper env) :=
 ⟨r.hd, by have := r.dp; show A.depth + 1 + 3 * k + 5 < _; omega, by have := r.un; show A.units + 3 + 16 * k + 200 < _; omega⟩
theorem Room.depth {k : Nat} {A : Around} (r : Room k A) : A.depth < recursionLimit := by have := r.dp; omega
theorem Room.units {k : Nat} {A : Around} (r : Room k A) : A.units + 64 < cLine := by have := r.un; omega
noncomputable def tNil : TA := fun _ H Q => Q [] H
noncomputable def uQ (ta : TE) (tr : TA) : TA := fun σ H Q => ta σ H fun x H1 => tr σ H1 fun xs H2 => Q (x :: xs) H2
section
variable {X : Cx} {e : Expr} {es : List Expr} {te : TE} {t : TA} {pos : Pos}
theorem pa_nil : PA X [] tNil := fun _ _ _ _ H Q I h => Calls.spliced_nil ⟨[], H, I, .nil, h⟩
theorem zW (ha : PE X e te) (hr : PA X es t) (hs : starEach (e :: es) X.env = (false, eval e X.env) :: starEach es X.env := by rfl) : PA X (e :: es) (uQ te t) := by
 intro pos pins s σ H Q I h
 rw [hs]
 show wpAny _ _ (spliced ((false, eval e X.env) :: backTo pos (starEach es X.env))) _ _ s
 refine Calls.spliced_cons (thn (ha pins s σ H _ I h) fun u s1 ⟨x, H1, I1, r1, q1⟩ => ?_)
 exact thn (hr pos pins s1 σ H1 _ I1 q1) fun us s2 ⟨xs, H2, I2, r2, q2⟩ => ⟨x :: xs, H2, I2, .cons r1 r2, q2⟩
noncomputable def tTup (t : TA) : TE := fun σ H Q => t σ H fun xs H1 => xs.length ≤ sizeLine ∧ ∀ p, H1 p = none → Q (.ref p) (upd H1 p (.tup xs))
noncomputable def tLst (t : TA) : TE := fun σ H Q => t σ H fun xs H1 => xs.length ≤ sizeLine ∧ ∀ p, H1 p = none → Q (.ref p) (upd H1 p (.lst xs))
theorem z7B {x1} (h : PA X es t) : PE X (.Tuple es x1 pos) (tTup t) := by
 intro pins s σ H Q I hq
 refine wpAny_Tuple_spliced (thn (h pos pins s σ H _ I hq) fun us s1 ⟨xs, H1, I1, r, z, q⟩ => ⟨by rw [← r.length]; exact z, ?_⟩)
 have hf : H1 s1.heap.objs.size = none := I1.hok.fresh (Nat.le_refl _)
 refine ⟨.ref s1.heap.objs.size, upd H1 s1.heap.objs.size (.tup xs), I1.laid (t' := s1.toks) (fun b u e => Heap.get?_push_of_some _ e) (Nat.le_refl _) ?_, rfl, q _ hf⟩
 exact ⟨z, us, r, ⟨_, Heap.get?_push_size _ rfl, rfl, _, rfl⟩⟩
theorem z3E (h : PA X es t) : PE X (.List es pos) (tLst t) := by
 intro pins s σ H Q I hq
 refine wpAny_List_spliced (thn (h pos pins s σ H _ I hq) fun us s1 ⟨xs, H1, I1, r, z, q⟩ => ⟨by rw [← r.length]; exact z, ?_⟩)
 have hf : H1 s1.heap.objs.size = none := I1.hok.fresh (Nat.le_refl _)
 refine ⟨.ref s1.heap.objs.size, upd H1 s1.heap.objs.size (.lst xs), I1.laid (t' := s1.toks) (fun b u e => Heap.get?_push_of_some _ e) (Nat.le_refl _) ?_, rfl, q _ hf⟩
 exact ⟨z, us, 0, r, Heap.get?_push_size _ rfl⟩
end
noncomputable abbrev Sp := List V → Hp → VK → XK → Prop
noncomputable abbrev CXT := List Env → Hp → Shared → XK → Value → Shared → Prop
structure Env0 (P : Program) (w : World) (K : W.Frag) (mg : Str → Option Value) (base : Heap) (A : Around) (outer : List Env) (s : Shared) (H : Hp) : Prop where
 frames : A.frames = some outer
 mod : Mod K mg base
 bs : ∀ b o, base.get? b = some o → s.heap.get? b = some o ∧ H b = none
 bsz : base.objs.size ≤ s.heap.objs.size
 funs : s.heap.FunFrames base outer
 frf : ∀ b ∈ frs outer, H b = none
 hok : HOk P w H s.heap
 bare : AllBare s.gens
noncomputable def CE (outer : List Env) (P : Program) (w : World) (H : Hp) (s : Shared) (Q : VK) (u : Value) (s' : Shared) : Prop :=
 ∃ v H', s'.os = s.os ∧ AllBare s'.gens ∧ Un (frs outer) [] H H' s.heap s'.heap ∧ HOk P w H' s'.heap ∧ RelV v u ∧ Q v H'
noncomputable def CR (CX : CXT) (outer : List Env) (P : Program) (w : World) (H : Hp) (s : Shared) (Q : VK) (E : XK) (r : Result) (s' : Shared) : Prop :=
 match r with
 | .ok (.ret u) => CE outer P w H s Q u s'
 | .ok _ => False
 | .error e => CX outer H s E e s'
structure FnOk (P : Program) (w : World) (K : W.Frag) (mg : Str → Option Value) (base : Heap) (CX : CXT) (k : Nat) (f : Addr) (fd : FuncData) (ps : List Str) (sp : Sp) : Prop where
 len : ∀ vs H Q E, sp vs H Q E → vs.length = ps.length
 run : ∀ (A : Around) (outer : List Env) (s : Shared) (H : Hp) (args : Args) (us : List Value) (vs : List V) (Q : VK) (E : XK), Room k A → Env0 P w K mg base A outer s H → BindsTo s fd args (ps.zip us) → Vals vs us → sp vs H Q E →
  codeAny (model P w) A (.call (.ref f) args) (CR CX outer P w H s Q E) s
section
variable {X : Cx} {pins : List (Addr × Obj)} {σ : St} {H : Hp} {s s' : Shared}
theorem Inv.env0 (I : Inv X pins σ H s) : Env0 X.prog X.w X.K X.mg X.base X.A X.stack s H :=
 ⟨I.ok.frames, I.ok.mod, I.bs, Nat.le_trans I.ok.bsz I.sz, I.stack, I.stkFree, I.hok, I.bare⟩
theorem Inv.after {Q : VK} {u : Value} (I : Inv X pins σ H s) (h : CE X.stack X.prog X.w H s Q u s') : EP X pins σ Q u s' := by
 obtain ⟨v, H', os, bare, un, hok, r, q⟩ := h
 obtain ⟨hh, g, d, t, os'⟩ := s'
 obtain rfl : os' = s.os := os
 exact ⟨v, H', I.call (h' := hh) (g' := g) (d' := d) (t' := t) (ch := []) un hok bare (fun b z => absurd z (by simp)), r, q⟩
end
noncomputable def z88 (sp : Sp) (dvs : List V) (E : XK) (t : TA) : TE := fun σ H Q => t σ H fun vs H1 => sp (vs ++ dvs) H1 Q E
noncomputable def Binds (K : W.Frag) (fd : FuncData) (ps : List Str) (ds : List Value) : Prop :=
 ∀ (s : Shared) (us : List Value), K.In s.heap → (us ++ ds).length = ps.length → BindsTo s fd ⟨us, []⟩ (ps.zip (us ++ ds))
theorem Binds.all {K : W.Frag} {fd : FuncData} {ps : List Str} (h : ∀ us : List Value, us.length = ps.length → bindArgs fd ⟨us, []⟩ = pure (ps.zip us)) : Binds K fd ps [] := fun s us _ hl => by
 rw [List.append_nil] at hl ⊢
 exact .of_eq (h us hl)
noncomputable def ua (CX : CXT) (X : Cx) (E : XK) : Prop := ∀ (pins : List (Addr × Obj)) (σ : St) (H : Hp) (s : Shared) (e : Value) (s' : Shared), Inv X pins σ H s → CX X.stack H s E e s' → X.xe e s'
section
variable {X : Cx} {CX : CXT} {k : Nat} {f C : Addr} {fd : FuncData} {ps : List Str} {sp : Sp} {dvs : List V} {ds : List Value} {E : XK} {x m : Str} {p pos apos : Pos} {e o : Expr} {es : List Expr} {ta : TE} {t : TA}
theorem z5n {pins : List (Addr × Obj)} {σ : St} {H : Hp} {s : Shared} {Q : VK} {us : List Value} {vs : List V} (F : FnOk X.prog X.w X.K X.mg X.base CX k f fd ps sp) (hr : Room k X.A) (hb : Binds X.K fd ps ds) (hd : Vals dvs ds) (hx : ua CX X E)
  (I : Inv X pins σ H s) (r : Vals vs us) (h : sp (vs ++ dvs) H Q E) : wpAny (model X.prog X.w) X.A (call (.ref f) us) (EP X pins σ Q) X.xe s := by
 have r2 : Vals (vs ++ dvs) (us ++ ds) := r.append hd
 have hl : (us ++ ds).length = ps.length := by rw [← r2.length]; exact F.len _ _ _ _ h
 refine wpAny_call (codeAny_mono (F.run X.A X.stack s H ⟨us, []⟩ (us ++ ds) (vs ++ dvs) Q E hr I.env0 (hb s us I.kIn hl) r2 h) fun r s' hq => ?_)
 cases r with
 | error e => exact hx pins σ H s e s' I hq
 | ok fl =>
  cases fl with
  | ret u => exact I.after hq
  | next => exact False.elim hq
  | brk => exact False.elim hq
  | cont => exact False.elim hq
theorem z6U (F : FnOk X.prog X.w X.K X.mg X.base CX k f fd ps sp) (hr : Room k X.A) (hg : Gl X x) (hm : X.mg x = some (.ref f)) (hk : W.keepIn X.K (.ref f) = true) (hb : Binds X.K fd ps ds) (hd : Vals dvs ds) (hx : ua CX X E)
  (ha : PA X (e :: es) t) (hdb : (x == ("__debug__" : Str)) = false := by decide) (he : starEach (e :: es) X.env = (false, eval e X.env) :: starEach es X.env := by rfl) (hpl : (backTo pos (starEach es X.env)).any (·.1) = false := by rfl) :
  PE X (.Call (.Name x p) (e :: es) [] pos) (z88 sp dvs E t) := by
 intro pins s σ H Q I h
 refine wpAny_Call_Name_kw (z3f I hg hm ?_ hdb)
 refine W.callWith_K (h₀ := X.base) I.ok.mod.kin hk (thn (ha pos pins s σ H _ I h) fun us s1 ⟨vs, H1, I1, r, q⟩ => ⟨I1.kIn, ?_⟩) he hpl
 exact z5n F hr hb hd hx I1 r q
end
section
variable {X : Cx} {CX : CXT} {k : Nat} {f C : Addr} {fd : FuncData} {ps ks : List Str} {sp : Sp} {E : XK} {x m : Str} {p pos apos kpos : Pos} {e o : Expr} {es : List Expr} {kws : List Keyword} {te ta : TE} {t tk : TA} {nm : Option Str}
variable {g : List Value → List Value → List Value} {gV : List V → List V → List V}
end
structure FnScope (N P : List Str) (sc : Scope) : Prop where
 kind : sc.kind = .function
 co : sc.isCoroutine = false
 gen : sc.isGenerator = false
 nd : N.Nodup
 pre : N.take P.length = P
 par : ∀ x ∈ P, sc.names.lookup x = some .local ∨ sc.names.lookup x = some .cell
 nofree : ∀ y ∈ sc.names, y.2 ≠ .free
theorem z0T {kindOf : Str → Option NameKind} {x : Str} : ∀ {binds : List (Str × Value)} {m : Str → Option Value}, (∀ v, (x, v) ∉ binds) → bindL kindOf binds m x = m x
 | [], _, _ => rfl
 | (n, v) :: r, m, h => by
  unfold bindL
  rw [z0T fun w hw => h w (List.mem_cons_of_mem _ hw)]
  split
  ·have : x ≠ n := by rintro rfl; exact h v List.mem_cons_self
   simp [this]
  ·rfl
theorem z12 {kindOf : Str → Option NameKind} {x : Str} : ∀ {binds : List (Str × Value)} {m : Str → Option Value}, (∀ v, (x, v) ∉ binds) → bindC kindOf binds m x = m x
 | [], _, _ => rfl
 | (n, v) :: r, m, h => by
  unfold bindC
  rw [z12 fun w hw => h w (List.mem_cons_of_mem _ hw)]
  split
  ·rfl
  ·have : x ≠ n := by rintro rfl; exact h v List.mem_cons_self
   simp [this]
theorem z0c {kindOf : Str → Option NameKind} {x : Str} {v : Value} : ∀ {P : List Str} {vs : List Value} {i : Nat} {m : Str → Option Value}, P.Nodup → P[i]? = some x → vs[i]? = some v → kindOf x = some .local →
  bindL kindOf (P.zip vs) m x = some v
 | [], _, _, _, _, h, _, _ => by simp at h
 | _ :: _, [], _, _, _, _, h, _ => by simp at h
 | p :: P, w :: vs, 0, m, nd, h1, h2, hk => by
  simp at h1 h2; subst h1; subst h2
  show bindL kindOf ((p, w) :: P.zip vs) m p = _
  unfold bindL
  rw [z0T fun v hv => (List.nodup_cons.mp nd).1 (List.of_mem_zip hv).1, if_pos hk]
  simp
 | p :: P, w :: vs, i + 1, m, nd, h1, h2, hk => by
  show bindL kindOf ((p, w) :: P.zip vs) m x = _
  unfold bindL
  exact z0c (i := i) (List.nodup_cons.mp nd).2 (by simpa using h1) (by simpa using h2) hk
theorem z0f {kindOf : Str → Option NameKind} {x : Str} {v : Value} : ∀ {P : List Str} {vs : List Value} {i : Nat} {m : Str → Option Value}, P.Nodup → P[i]? = some x → vs[i]? = some v → kindOf x ≠ some .local →
  bindC kindOf (P.zip vs) m x = some v
 | [], _, _, _, _, h, _, _ => by simp at h
 | _ :: _, [], _, _, _, _, h, _ => by simp at h
 | p :: P, w :: vs, 0, m, nd, h1, h2, hk => by
  simp at h1 h2; subst h1; subst h2
  show bindC kindOf ((p, w) :: P.zip vs) m p = _
  unfold bindC
  rw [z12 fun v hv => (List.nodup_cons.mp nd).1 (List.of_mem_zip hv).1, if_neg hk]
  simp
 | p :: P, w :: vs, i + 1, m, nd, h1, h2, hk => by
  show bindC kindOf ((p, w) :: P.zip vs) m x = _
  unfold bindC
  exact z0f (i := i) (List.nodup_cons.mp nd).2 (by simpa using h1) (by simpa using h2) hk
noncomputable def start (N : List Str) (vs : List V) : St := vs.map some ++ List.replicate (N.length - vs.length) none
noncomputable def cxOf (CX : CXT) (P : Program) (w : World) (K : W.Frag) (mg : Str → Option Value) (base : Heap) (N : List Str) (qual : Str) (scope : Scope) (f : Addr) (cd : Value) (A : Around) (outer : List Env) (s : Shared) (H : Hp) (E : XK) : Cx where
 prog := P
 w := w
 K := K
 mg := mg
 base := base
 A := A.deeper (envOfC qual scope s.heap.objs.size f cd)
 N := N
 s₀ := s
 H₀ := H
 env := envOfC qual scope s.heap.objs.size f cd
 outer := outer
 stack := envOfC qual scope s.heap.objs.size f cd :: outer
 ex := []
 calm := true
 fn := fun _ => true
 pn := []
 xe := fun e s' => wpAny (model P w) (A.deeper (envOfC qual scope s.heap.objs.size f cd)) (leaving (envOfC qual scope s.heap.objs.size f cd) e) (fun _ s'' => CX outer H s E e s'') (fun e' s'' => CX outer H s E e' s'') s'
theorem z1x {sc : Scope} {n : Nat} {x : Str} (h : sc.names.lookup x = some .cell) : ∃ c, (cellsFrom n sc.names []).lookup x = some c := by
 have q := W.cellsFrom_some sc.names n [] (.inl h)
 exact Option.isSome_iff_exists.mp q
theorem z3R {CX : CXT} {P : Program} {w : World} {K : W.Frag} {mg : Str → Option Value} {base : Heap} {N ps : List Str} {qual : Str} {scope : Scope} {f : Addr} {cd : Value} {A : Around} {outer : List Env} {s s1 : Shared} {H : Hp} {E : XK} {us : List Value} {vs : List V}
  (S : FnScope N ps scope) (hd : A.handled = none) (e0 : Env0 P w K mg base A outer s H) (hl : vs.length = ps.length) (r : Vals vs us)
  (x : InCallC s s.heap.objs.size (bindL (envOfC qual scope s.heap.objs.size f cd).kindOf (ps.zip us) fun _ => none) (cellsFrom (s.heap.objs.size + 1) scope.names []) (bindC (envOfC qual scope s.heap.objs.size f cd).kindOf (ps.zip us) fun _ => none) s1) :
  Inv (cxOf CX P w K mg base N qual scope f cd A outer s H E) [] (start N vs) H s1 := by
 have hpl : ps.length ≤ N.length := by have := congrArg List.length S.pre; rw [List.length_take] at this; omega
 obtain ⟨h1, tk, rfl, hk⟩ := x.done
 have noA : ∀ b : Addr, b ∉ (cxOf CX P w K mg base N qual scope f cd A outer s H E).ex := fun b z => absurd (show b ∈ ([] : List Addr) from z) (by simp)
 refine ⟨⟨e0.mod, S.kind, rfl, rfl, Nat.le_refl _, fun y z c h1 h2 => ?_, fun y hy => ?_, fun y c _ h => ?_, fun _ => hd, Around.frames_deeper e0.frames, .inr ⟨rfl, rfl⟩, fun b z => absurd z (noA b), e0.bs, e0.bsz, fun b _ _ => noA b, fun b z => absurd z (noA b), e0.funs, e0.frf⟩,
  rfl, e0.bare, Un.kept hk, ⟨_, x.toInCall.ns, fun i y v h1 h2 h3 => ?_⟩, fun y c h => ⟨_, x.cell y c h⟩, e0.hok.fresh (Nat.le_refl _), fun y c h => ?_, fun p hp => absurd (show p ∈ ([] : List (Addr × Obj)) from hp) (by simp), e0.hok.kept hk, ?_⟩
 ·exact name_of_addr x.apart (PySem.mem_of_lookup h1) (PySem.mem_of_lookup h2)
 ·have hy : scope.names.lookup y = some .cell ∨ scope.names.lookup y = some .free := hy
  rcases hy with hy | hy
  ·exact z1x hy
  ·exact absurd rfl (S.nofree _ (PySem.mem_of_lookup hy))
 ·exact Nat.le_of_lt (x.above y c (PySem.mem_of_lookup h))
 ·have hi : i < vs.length := by
   unfold start at h2
   by_cases hi : i < vs.length
   ·exact hi
   ·rw [List.getElem?_append_right (by simpa using hi)] at h2
    rw [List.getElem?_replicate] at h2
    split at h2 <;> cases h2
  have ha : vs[i]? = some v := by
   unfold start at h2
   rw [List.getElem?_append_left (by simpa using hi), List.getElem?_map] at h2
   cases e : vs[i]? with
   | none => rw [e] at h2; cases h2
   | some a => rw [e] at h2; cases h2; rfl
  obtain ⟨u, hu, rv⟩ := r.get ha
  have hp : ps[i]? = some y := by
   rw [← S.pre, List.getElem?_take_of_lt (by omega)]; exact h1
  have ndP : ps.Nodup := by rw [← S.pre]; exact S.nd.sublist (List.take_sublist _ _)
  refine ⟨u, rv, ?_⟩
  rcases S.par y (List.mem_of_getElem? hp) with k | k
  ·exact .inl ⟨k, z0c ndP hp hu k⟩
  ·obtain ⟨c, e⟩ := z1x (n := s.heap.objs.size + 1) k
   refine .inr ⟨.inl k, c, e, ?_⟩
   have q := x.cell y c e
   rw [z0f ndP hp hu (by show scope.names.lookup y ≠ _; rw [k]; decide)] at q
   exact q
 ·exact e0.hok.fresh (Nat.le_of_lt (x.above y c (PySem.mem_of_lookup h)))
 ·unfold start
  show _ = N.length
  rw [List.length_append, List.length_map, List.length_replicate]
  omega
theorem z8j {CX : CXT} {P : Program} {w : World} {K : W.Frag} {mg : Str → Option Value} {base : Heap} {k : Nat} {f : Addr} {name qual : Str} {params : Arguments} {body : List Stmt} {scope : Scope} {dV kV doc pm cdv ct oc : Value} {an od : Option Addr}
  {osl : Array (Option Value)} {N ps : List Str} {sp : Sp} (lk : K.lookup f = some ⟨oc, od, .func (W.fnOf name qual params body scope dV kV doc pm an cdv ct), osl⟩) (hcd : W.codeIn K cdv qual = true) (S : FnScope N ps scope)
  (len : ∀ vs H Q E, sp vs H Q E → vs.length = ps.length)
  (hbody : ∀ (A : Around) (outer : List Env) (s : Shared) (H : Hp) (vs : List V) (Q : VK) (E : XK), Room k (A.deeper (envOfC qual scope s.heap.objs.size f cdv)) → sp vs H Q E →
   ∃ t, PSs (cxOf CX P w K mg base N qual scope f cdv A outer s H E) body t ∧ t { nx := fun _ H' => Q .non H', rt := Q } (start N vs) H) :
  FnOk P w K mg base CX (k + 1) f (W.fnOf name qual params body scope dV kV doc pm an cdv ct) ps sp := by
 refine ⟨len, fun A outer s H args us vs Q E hr e0 hb r hsp => ?_⟩
 have hl := len _ _ _ _ hsp
 have KX : K.In s.heap := e0.mod.kin.keeps fun b o e => (e0.bs b o e).1
 have lim : s.heap.NoLimit := e0.mod.nolimit.keeps fun b o e => (e0.bs b o e).1
 have hkind : ∀ y ∈ ps.zip us, scope.names.lookup y.1 = some .local ∨ (scope.names.lookup y.1 = some .cell ∧ ((cellsFrom (s.heap.objs.size + 1) scope.names []).lookup y.1).isSome = true) := fun ⟨n, v⟩ hy => by
  rcases S.par n (List.of_mem_zip hy).1 with q | q
  ·exact .inl q
  ·exact .inr ⟨q, W.cellsFrom_some _ _ _ (.inl q)⟩
 refine codeAny_call_function hr.depth (KX _ _ lk) rfl S.co S.gen rfl (W.codeRec_of KX hcd) (hb _ _ _ _ ?_)
 refine wpAny_newFunctionEnv_cells S.kind hkind fun env he s1 x => ?_
 subst he
 refine ⟨lim.keeps x.toInCall.keep, codeAny_func ?_⟩
 obtain ⟨t, ht, hq⟩ := hbody A outer s H vs Q E (hr.deeper _) hsp
 have I : Inv (cxOf CX P w K mg base N qual scope f cdv A outer s H E) [] (start N vs) H s1 := z3R S hr.hd e0 hl r x
 refine wpAny_mono (ht [] s1 (start N vs) H _ I hq) (fun fl s' hs => ?_) fun e s' hs => hs
 have fin : ∀ {σ' : St} {H' : Hp} {v : V} {u : Value}, Inv (cxOf CX P w K mg base N qual scope f cdv A outer s H E) [] σ' H' s' → RelV v u → Q v H' → CE outer P w H s Q u s' :=
  fun {σ' H' v u} J rv q => ⟨v, H', J.os, J.bare, J.base, J.hok, rv, q⟩
 cases fl with
 | ret u =>
  obtain ⟨v, σ', H', J, rv, q⟩ := hs
  exact fin J rv q
 | next =>
  obtain ⟨σ', H', J, q⟩ := hs
  exact fin (v := V.non) (u := Value.none) J rfl q
 | brk =>
  obtain ⟨_, _, _, q⟩ := hs
  exact False.elim q
 | cont =>
  obtain ⟨_, _, _, q⟩ := hs
  exact False.elim q
end L2
namespace L2
open PySem PySem.Spec PyProof.Rows
section
variable {X : Cx} {x : Str} {p pos : Pos} {e : Expr} {es : List Expr} {t : TA} {id T : String} {r : List V → Hp → VK → Prop}
noncomputable def tCB (r : List V → Hp → VK → Prop) (t : TA) : TE := fun σ H Q => t σ H fun vs H1 => r vs H1 Q
theorem zz (hc : CallR X (.builtin id) r) (hg : Gl X x) (hm : X.mg x = none) (hv : bootBuiltins x = some (.builtin id)) (ha : PA X (e :: es) t) (hn : x ≠ "__name__" := by decide) (hdb : (x == ("__debug__" : Str)) = false := by decide)
  (he : starEach (e :: es) X.env = (false, eval e X.env) :: starEach es X.env := by rfl) (hpl : (backTo pos (starEach es X.env)).any (·.1) = false := by rfl) : PE X (.Call (.Name x p) (e :: es) [] pos) (tCB r t) := by
 intro pins s σ H Q I h
 refine wpAny_Call_Name_kw (z0j I hg hm hv ?_ hn hdb)
 exact PyProof.Rows.callWith_builtin1 (thn (ha pos pins s σ H _ I h) fun us s1 ⟨vs, H1, I1, r1, q1⟩ => hc pins s1 σ H1 vs us Q I1 r1 q1) he hpl
theorem xX (hc : CallR X (.type T) r) (hg : Gl X x) (hm : X.mg x = none) (hv : bootBuiltins x = some (.type T)) (ha : PA X (e :: es) t) (hn : x ≠ "__name__" := by decide) (hdb : (x == ("__debug__" : Str)) = false := by decide)
  (he : starEach (e :: es) X.env = (false, eval e X.env) :: starEach es X.env := by rfl) (hpl : (backTo pos (starEach es X.env)).any (·.1) = false := by rfl) : PE X (.Call (.Name x p) (e :: es) [] pos) (tCB r t) := by
 intro pins s σ H Q I h
 refine wpAny_Call_Name_kw (z0j I hg hm hv ?_ hn hdb)
 exact PyProof.Rows.callWith_type1 (thn (ha pos pins s σ H _ I h) fun us s1 ⟨vs, H1, I1, r1, q1⟩ => hc pins s1 σ H1 vs us Q I1 r1 q1) he hpl
end
end L2
namespace HT
open PySem PyProof.Rows
noncomputable def lexLt : List Int → List Int → Bool
 | [], [] => false
 | [], _ :: _ => true
 | _ :: _, [] => false
 | x :: xs, y :: ys => if x = y then lexLt xs ys else decide (x < y)
theorem lexLt_cons (x y : Int) (xs ys : List Int) : lexLt (x :: xs) (y :: ys) = if x = y then lexLt xs ys else decide (x < y) := rfl
theorem lexLt_nil_nil : lexLt [] [] = false := rfl
theorem uE (y : Int) (ys : List Int) : lexLt [] (y :: ys) = true := rfl
theorem uP (x : Int) (xs : List Int) : lexLt (x :: xs) [] = false := rfl
theorem z4n (A : Around) (s : Shared) (a : Int) (t : Tok) (c : Int) (u : Tok) : ∃ e, SeqAt.EqAt A s (.int a t) (.int c u) e ∧ (e = true ↔ a = c) :=
 ⟨(a == c), SeqAt.EqAt.int_int a t c u, by simp⟩
theorem z0D (A : Around) (s : Shared) (a : Int) (t : Tok) (c : Int) (u : Tok) (prog : Program) (w : World) (E : Value → Shared → Prop) (Q : Value → Shared → Prop) (h : Q (.bool (decide (a < c))) s) :
  wpAny (model prog w) A (richCompare .Lt (.int a t) (.int c u)) Q E s :=
 (PyProof.Rows.lt_int h : wpAny (model prog w) A (compareOp .Lt (.int a t) (.int c u)) Q E s)
section
open PySem.SeqAt
open PySem.AutoSeq1 (wpAny_loadPart')
open PySem.MeetsSeq PySem.MeetsSeq2 PySem.MeetsSeq3
theorem uo (l b : Addr) (items items2 : Array Value) (n n2 : Nat) (dd dd2 : Option Addr) (sl sl2 : Array (Option Value)) (ns ms : List Int) (hi : IntsAre items.toList ns) (hj : IntsAre items2.toList ms) :
  Meets (Builtin.«tuple.__lt__» ⟨[.ref l, .ref b], []⟩)
   (fun _ R s => s.heap.get? l = some { cls := .type "tuple", dict := dd, data := .seq items n, slots := sl } ∧ s.heap.get? b = some { cls := .type "tuple", dict := dd2, data := .seq items2 n2, slots := sl2 } ∧
    R (.ok (.ret (.bool (lexLt ns ms)))) s) :=
 .of_wp fun prog w A R s h => by
  obtain ⟨hp, g, d, tk, os⟩ := s; obtain ⟨hl, hb, h⟩ := h
  have f2 := AutoSeq1.sub_tuple_tuple
  have z1 : items.size = ns.length := by rw [← hi.length]; simp
  have z2 : items2.size = ms.length := by rw [← hj.length]; simp
  wp_walk using wpAny_loadPart' hl, wpAny_loadPart' hb, wpAny_forIn_list _ (fun rest b s' => b.1 = none ∧ s' = ⟨hp, g, d, tk, os⟩ ∧ ∃ (vs ws : List Value) (ns' ms' : List Int), rest = vs.zip ws ∧
   IntsAre vs ns' ∧ IntsAre ws ms' ∧ ns'.length + items2.size = ms'.length + items.size ∧ R (.ok (.ret (.bool (lexLt ns' ms')))) ⟨hp, g, d, tk, os⟩) _
  case turn =>
   rintro ⟨y, x⟩ rest b s' ⟨hb', rfl, vs, ws, ns', ms', hz, hvi, hwi, hlen, hR⟩
   cases hvi with
   | nil => rw [List.zip_nil_left] at hz; cases hz
   | cons a t hvi' =>
    cases hwi with
    | nil => rw [List.zip_nil_right] at hz; cases hz
    | cons c u hwi' =>
     rw [List.zip_cons_cons] at hz
     injection hz with hyx hrest
     injection hyx with hy hx
     subst hy hx
     rw [lexLt_cons] at hR
     simp only [List.length_cons] at hlen
     obtain ⟨e, he, hiff⟩ := z4n A.in1 ⟨hp, g, d, tk, os⟩ a t c u
     refine wpAny_bind (he prog w _ _ ?_)
     cases e with
     | true =>
      rw [if_pos (hiff.mp rfl)] at hR
      wp_walk
      exact ⟨rfl, rfl, _, _, _, _, hrest, hvi', hwi', by omega, hR⟩
     | false =>
      rw [if_neg (fun q => absurd (hiff.mpr q) Bool.false_ne_true)] at hR
      have hri := z0D A.in1 ⟨hp, g, d, tk, os⟩ a t c u prog w
      wp_walk using hri
      exact ⟨_, rfl, by simpa using hR⟩
  case fin =>
   rintro ⟨b1, b2⟩ s' ⟨hb', rfl, vs, ws, ns', ms', hz, hvi, hwi, hlen, hR⟩
   simp only at hb'
   subst hb'
   have hv : lexLt ns' ms' = decide (items.size < items2.size) := by
    cases hvi with
    | nil =>
     cases hwi with
     | nil =>
      simp only [List.length_nil] at hlen
      rw [lexLt_nil_nil]
      exact (decide_eq_false (by omega)).symm
     | cons c u hw =>
      simp only [List.length_nil, List.length_cons] at hlen
      rw [uE]
      exact (decide_eq_true (by omega)).symm
    | cons a t hv =>
     cases hwi with
     | nil =>
      simp only [List.length_nil, List.length_cons] at hlen
      rw [uP]
      exact (decide_eq_false (by omega)).symm
     | cons c u hw =>
      rw [List.zip_cons_cons] at hz
      cases hz
   rw [hv] at hR
   wp_walk
   exact ⟨_, rfl, by simpa [Builtin.Tuple.tupleCompareSizes] using hR⟩
  case h =>
   exact ⟨rfl, rfl, items.toList, items2.toList, ns, ms, rfl, hi, hj, by omega, h⟩
end
section
variable {prog : Program} {w : World} {A : Around} {E : Value → Shared → Prop} {s : Shared}
theorem lt_tupInts {l b : Addr} {items items2 : Array Value} {ns ms : List Int} {Q : Value → Shared → Prop} (hl : IsTup s.heap l items) (hb : IsTup s.heap b items2) (hi : IntsAre items.toList ns) (hj : IntsAre items2.toList ms)
  (hu : A.units < cLine) (h : Q (.bool (lexLt ns ms)) s) : wpAny (model prog w) A (compareOp .Lt (.ref l) (.ref b)) Q E s := by
 obtain ⟨⟨cls, dd, data, sl⟩, ho, hc, n, hd⟩ := id hl
 obtain ⟨⟨cls2, dd2, data2, sl2⟩, ho2, hc2, n2, hd2⟩ := id hb
 simp only at hc hd hc2 hd2
 subst hc hd hc2 hd2
 exact richCompare_meets_room (op := .Lt) ⟨_, ho, rfl⟩ ⟨_, ho2, rfl⟩ PySem.F.slot_tuple_lt PySem.F.entry_tuple_lt (PySem.F.args_tuple_lt_2 _ _) (uo l b items items2 n n2 dd dd2 sl sl2 ns ms hi hj)
  ⟨ho, ho2, show Value.bool (lexLt ns ms) ≠ Value.notImplemented ∧ Q (.bool (lexLt ns ms)) s from ⟨(fun x => nomatch x), h⟩⟩ hu
theorem cat_tup {t b : Addr} {vs ws : List Value} {Q : Value → Shared → Prop} (ht : IsTup s.heap t vs.toArray) (hb : IsTup s.heap b ws.toArray) (hv : vs ≠ [])
  (h1 : ws = [] → Q (.ref t) s) (h2 : ws ≠ [] → Q (.ref s.heap.objs.size) { s with heap := s.heap.push { cls := .type "tuple", data := .seq (vs ++ ws).toArray } })
  (hsz : vs.length + ws.length ≤ sizeLine) : wpAny (model prog w) A (binaryOp .Add (.ref t) (.ref b)) Q E s := by
 obtain ⟨⟨cls, dd, data, sl⟩, ho, hc, n, hd⟩ := id ht
 obtain ⟨⟨cls2, dd2, data2, sl2⟩, ho2, hc2, n2, hd2⟩ := id hb
 simp only at hc hd hc2 hd2
 subst hc hd hc2 hd2
 have e : vs.toArray ++ ws.toArray = (vs ++ ws).toArray := by simp
 by_cases hw : ws = []
 ·exact concat_meets ⟨_, ho, rfl⟩ ⟨_, ho2, rfl⟩ noFill_tuple_add seq_tuple_add PySem.F.slot_tuple_add PySem.F.entry_tuple_add (PySem.F.args_tuple_add_2 _ _)
   (tuple_addW1 t b vs.toArray ws.toArray n n2 dd dd2 sl sl2 (by simpa using hv) (by simp [hw])) ⟨ho, ho2, h1 hw⟩
 ·refine concat_meets ⟨_, ho, rfl⟩ ⟨_, ho2, rfl⟩ noFill_tuple_add seq_tuple_add PySem.F.slot_tuple_add PySem.F.entry_tuple_add (PySem.F.args_tuple_add_2 _ _)
   (tuple_addW2 t b vs.toArray ws.toArray n n2 dd dd2 sl sl2 (by simpa using hv) (by simpa using hw) (by rw [List.size_toArray, List.size_toArray]; exact hsz)) ⟨ho, ho2, ?_⟩
  rw [e]
  exact h2 hw
end
end HT
namespace L2
open PySem PySem.Spec PyProof.Rows
noncomputable abbrev TO := St → Hp → (Option Int → Hp → Prop) → Prop
theorem ue {ns : List Int} : ∀ {us : List Value}, Vals (ns.map V.int) us → IntsAre us ns := by
 induction ns with
 | nil => intro us r; rw [List.map_nil] at r; cases r; exact .nil
 | cons n ns ih =>
  intro us r
  rw [List.map_cons] at r
  cases r with
  | cons r1 r2 =>
   obtain ⟨t, e⟩ := r1
   subst e
   exact .cons n t (ih r2)
section
variable {X : Cx} {e : Expr} {te : TE} {lo hi : Option Expr} {tl th : TO} {pos p2 : Pos}
noncomputable def rLtT (K : W.Frag) : R2 := fun x y H Q => ∃ a b ns ms, x = .ref a ∧ y = .ref b ∧ SqT K H a (ns.map V.int) ∧ SqT K H b (ms.map V.int) ∧ Q (.bl (HT.lexLt ns ms)) H
theorem z7n (hu : X.A.units < cLine) : OpR X (compareOp .Lt) (rLtT X.K) := by
 intro pins s σ H x y v u Q I rx ry h
 obtain ⟨a, b, ns, ms, rfl, rfl, ha, hb, q⟩ := h
 cases rx
 cases ry
 obtain ⟨its, r1, p1, _⟩ := I.tuple ha
 obtain ⟨its2, r2, p2, _⟩ := I.tuple hb
 have i1 : IntsAre its.toArray.toList ns := ue r1
 have i2 : IntsAre its2.toArray.toList ms := ue r2
 exact HT.lt_tupInts p1 p2 i1 i2 hu ⟨.bl (HT.lexLt ns ms), H, I, rfl, q⟩
noncomputable def z9N (K : W.Frag) : R2 := fun x y H Q => ∃ a b xs ys, x = .ref a ∧ y = .ref b ∧ SqT K H a xs ∧ SqT K H b ys ∧ xs ≠ [] ∧ xs.length + ys.length ≤ sizeLine ∧
 (ys = [] → Q (.ref a) H) ∧ (ys ≠ [] → ∀ p, H p = none → Q (.ref p) (upd H p (.tup (xs ++ ys))))
theorem Vals.nil_iff {xs : List V} {us : List Value} (r : Vals xs us) : us = [] ↔ xs = [] := by
 cases r with
 | nil => simp
 | cons _ _ => simp
theorem z77 : OpR X (binaryOp .Add) (z9N X.K) := by
 intro pins s σ H x y v u Q I rx ry h
 obtain ⟨a, b, xs, ys, rfl, rfl, ha, hb, hx, hz, q1, q2⟩ := h
 cases rx
 cases ry
 obtain ⟨its, r1, p1, _⟩ := I.tuple ha
 obtain ⟨its2, r2, p2, _⟩ := I.tuple hb
 refine HT.cat_tup p1 p2 (fun z => hx (r1.nil_iff.mp z)) (fun z => ⟨.ref a, H, I, rfl, q1 (r2.nil_iff.mp z)⟩) (fun z => ?_) (by rw [← r1.length, ← r2.length]; exact hz)
 refine ⟨.ref s.heap.objs.size, _, I.laid (t' := s.toks) (o := .tup (xs ++ ys)) (fun b ob q => Heap.get?_push_of_some _ q) (Nat.le_refl _) ?_, rfl, q2 (fun w => z (r2.nil_iff.mpr w)) _ (I.hok.fresh (Nat.le_refl _))⟩
 exact ⟨by rw [List.length_append]; exact hz, _, r1.append r2, IsTup.new _ _⟩
end
end L2
namespace L2
open PySem PySem.Spec PyProof.Rows
noncomputable def ixN (n : Nat) (i : Int) : Option Nat := if 0 ≤ i then (if i < n then some i.toNat else none) else if -(n : Int) ≤ i then some (i + n).toNat else none
noncomputable def atI {α : Type} (xs : List α) (i : Int) : Option α := (ixN xs.length i).bind fun j => xs[j]?
theorem z7A {n : Nat} {i : Int} {j : Nat} (h : ixN n i = some j) : seqIndex? i n = some j ∧ j < n ∧ -(n : Int) ≤ i ∧ i < n := by
 unfold ixN at h
 by_cases h0 : 0 ≤ i
 ·rw [if_pos h0] at h
  by_cases h1 : i < n
  ·rw [if_pos h1] at h
   have e : i.toNat = j := Option.some.inj h
   exact ⟨by rw [seqIndex_of h0 h1, e], by omega, by omega, h1⟩
  ·rw [if_neg h1] at h; cases h
 ·rw [if_neg h0] at h
  by_cases h1 : -(n : Int) ≤ i
  ·rw [if_pos h1] at h
   have e : (i + n).toNat = j := Option.some.inj h
   exact ⟨by rw [seqIndex_neg (by omega) h1, e], by omega, h1, by omega⟩
  ·rw [if_neg h1] at h; cases h
theorem z2w {α : Type} {xs : List α} {i : Int} {v : α} (h : atI xs i = some v) : ∃ j, seqIndex? i xs.length = some j ∧ xs[j]? = some v ∧ j < xs.length ∧ -(xs.length : Int) ≤ i ∧ i < xs.length := by
 unfold atI at h
 cases e : ixN xs.length i with
 | none => rw [e] at h; cases h
 | some j =>
  rw [e] at h
  obtain ⟨h1, h2, h3, h4⟩ := z7A e
  exact ⟨j, h1, h, h2, h3, h4⟩
theorem z03 {α : Type} {xs : List α} {j : Nat} {v : α} (h : xs[j]? = some v) : atI xs (j : Int) = some v := by
 have hj : j < xs.length := (List.getElem?_eq_some_iff.mp h).1
 have e : ixN xs.length (j : Int) = some j := by
  unfold ixN
  rw [if_pos (by omega), if_pos (by omega)]; simp
 unfold atI; rw [e]; exact h
noncomputable def z3i (b : Expr) : Prop := ∀ o i, subscripted b false o i = operate [o, i] (getItem o i)
noncomputable def IxR (X : Cx) (r : R2) : Prop :=
 ∀ (value slice : Expr) (pins : List (Addr × Obj)) (s : Shared) (σ : St) (H : Hp) (x y : V) (v u : Value) (Q : VK), Inv X pins σ H s → RelV x v → RelV y u → r x y H Q →
  subscripted slice false v u = operate [v, u] (getItem v u) → wpAny (model X.prog X.w) X.A (subscriptTail value slice v u) (EP X pins σ Q) X.xe s
noncomputable def MtR (X : Cx) (id : String) (r : V → List V → Hp → VK → Prop) : Prop :=
 ∀ (pins : List (Addr × Obj)) (s : Shared) (σ : St) (H : Hp) (x : V) (xs : List V) (v : Value) (us : List Value) (Q : VK), Inv X pins σ H s → RelV x v → Vals xs us → r x xs H Q →
  wpAny (model X.prog X.w) X.A (call (.builtin id) (v :: us)) (EP X pins σ Q) X.xe s
section
variable {X : Cx} {a b : Expr} {ta tb : TE} {pos : Pos}
theorem IxR.or {r r' : R2} (h : IxR X r) (h' : IxR X r') : IxR X (fun x y H Q => r x y H Q ∨ r' x y H Q) := by
 intro value slice pins s σ H x y v u Q I rx ry q hs
 rcases q with q | q
 ·exact h value slice pins s σ H x y v u Q I rx ry q hs
 ·exact h' value slice pins s σ H x y v u Q I rx ry q hs
theorem z6g {r : R2} (hr : IxR X r) (ha : PE X a ta) (hb : PE X b tb) (hs : z3i b) : PE X (.Subscript a b pos) (tOp r ta tb) := by
 intro pins s σ H Q I h
 exact Subscript_ (binT ha hb I h fun v u s2 x y H2 I2 rx ry q => hr a b pins s2 σ H2 x y v u Q I2 rx ry q (hs _ _))
noncomputable def rIxL (K : W.Frag) : R2 := fun x y H Q => ∃ p xs i v, x = .ref p ∧ y = .int i ∧ SqL K H p xs ∧ atI xs i = some v ∧ Q v H
noncomputable def rIxT (K : W.Frag) : R2 := fun x y H Q => ∃ p xs i v, x = .ref p ∧ y = .int i ∧ SqT K H p xs ∧ atI xs i = some v ∧ Q v H
theorem ix_list : IxR X (rIxL X.K) := by
 intro value slice pins s σ H x y v u Q I rx ry h hs
 obtain ⟨p, xs, i, z, rfl, rfl, hq, he, q⟩ := h
 cases rx
 obtain ⟨t, rfl⟩ := ry
 obtain ⟨its, r, pl, hz⟩ := I.list hq
 obtain ⟨j, h1, h2, h3, h4, h5⟩ := z2w he
 obtain ⟨w, ew, rw'⟩ := r.get h2
 have hl := r.length
 have hn := z0X
 have fin : EP X pins σ Q w s := ⟨z, H, I, rw', q⟩
 by_cases h0 : 0 ≤ i
 ·have hj : i.toNat = j := by
   rw [seqIndex_of h0 h5] at h1
   exact Option.some.inj h1
  exact item_listR pl.isList h0 (by omega) (by rw [hj]; simpa using ew) fin hs
 ·have hj : (i + (its.toArray.size : Int)).toNat = j := by
   rw [seqIndex_neg (by omega) h4] at h1
   rw [List.size_toArray, ← hl]
   exact Option.some.inj h1
  exact subscriptTail_builtinR (x := w) pl.isList.typeIs slot_list_getitem.lookup
   (wpAny_getItem_list_neg (Q := fun r s' => r = w ∧ EP X pins σ Q r s') pl.isList (by omega) (by rw [List.size_toArray] <;> omega) (by omega) (by rw [hj]; simpa using ew) ⟨rfl, fin⟩) hs
theorem ix_tup : IxR X (rIxT X.K) := by
 intro value slice pins s σ H x y v u Q I rx ry h hs
 obtain ⟨p, xs, i, z, rfl, rfl, hq, he, q⟩ := h
 cases rx
 obtain ⟨t, rfl⟩ := ry
 obtain ⟨its, r, pl, hz⟩ := I.tuple hq
 obtain ⟨j, h1, h2, h3, h4, h5⟩ := z2w he
 obtain ⟨w, ew, rw'⟩ := r.get h2
 have hl := r.length
 have hn := z0X
 have fin : EP X pins σ Q w s := ⟨z, H, I, rw', q⟩
 exact subscriptTail_builtinR (x := w) pl.typeIs slot_tuple_getitem.lookup
  (getItem_tuple (j := j) (Q := fun r s' => r = w ∧ EP X pins σ Q r s') pl (by omega) (by omega) (by rw [List.size_toArray, ← hl]; exact h1) (by simpa using ew) ⟨rfl, fin⟩) hs
theorem call_len_seq : CallR X (.builtin "len") (fun xs H Q => ∃ p ys, xs = [.ref p] ∧ (SqL X.K H p ys ∨ SqT X.K H p ys) ∧ Q (.int ys.length) H) := by
 intro pins s σ H xs us Q I r h
 obtain ⟨p, ys, rfl, hq, q⟩ := h
 obtain ⟨u, rfl, rx⟩ := xY r
 cases rx
 have hn := z0X
 rcases hq with hq | hq
 ·obtain ⟨its, r', pl, hz⟩ := I.list hq
  have hlen := r'.length
  exact Calls.call_len_list pl.isList (by simp only [List.size_toArray] <;> omega) ⟨.int ys.length, H, I.tok _, ⟨s.toks + 1, by rw [List.size_toArray, hlen]⟩, q⟩
 ·obtain ⟨its, r', pl, hz⟩ := I.tuple hq
  have hlen := r'.length
  exact len_tuple pl (by simp only [List.size_toArray] <;> omega) ⟨.int ys.length, H, I.tok _, ⟨s.toks + 1, by rw [List.size_toArray, hlen]⟩, q⟩
theorem z0i : CallR X (.builtin "len") (fun xs H Q => ∃ z, xs = [.str z] ∧ z.length ≤ sizeLine ∧ Q (.int z.length) H) := by
 intro pins s σ H xs us Q I r h
 obtain ⟨z, rfl, hz, q⟩ := h
 obtain ⟨u, rfl, t, rfl⟩ := xY r
 have hn := z0X
 exact len_str (by omega) ⟨.int z.length, H, I.tok _, ⟨_, rfl⟩, q⟩
theorem CallR.or {f : Value} {r r' : List V → Hp → VK → Prop} (h : CallR X f r) (h' : CallR X f r') : CallR X f (fun xs H Q => r xs H Q ∨ r' xs H Q) := by
 intro pins s σ H xs us Q I rs q
 rcases q with q | q
 ·exact h pins s σ H xs us Q I rs q
 ·exact h' pins s σ H xs us Q I rs q
theorem z0Y : CallR X (.type "list") (fun xs H Q => ∃ p ys, xs = [.ref p] ∧ (SqL X.K H p ys ∨ SqT X.K H p ys) ∧ ∀ l, H l = none → Q (.ref l) (upd H l (.lst ys))) := by
 intro pins s σ H xs us Q I r h
 obtain ⟨p, ys, rfl, hq, q⟩ := h
 obtain ⟨u, rfl, rx⟩ := xY r
 cases rx
 have fin : ∀ (its : List Value), Vals ys its → ys.length ≤ sizeLine → ∀ (h' : Heap) (c' : Nat), (∀ b o', s.heap.get? b = some o' → h'.get? b = some o') →
   h'.get? s.heap.objs.size = some { cls := .type "list", dict := none, data := .seq its.toArray c', slots := #[] } → EP X pins σ Q (.ref s.heap.objs.size) { s with heap := h' } := fun its r' hz h' c' kp e =>
  ⟨.ref s.heap.objs.size, _, I.laid (t' := s.toks) kp (Nat.le_refl _) (show ObjOk X.prog X.w _ h' _ (.lst ys) from ⟨hz, its, c', r', e⟩), rfl, q _ (I.hok.fresh (Nat.le_refl _))⟩
 rcases hq with hq | hq
 ·obtain ⟨its, r', pl, hz⟩ := I.list hq
  have hlen := r'.length
  obtain ⟨o, ho, hc, n, hd⟩ := pl.isList
  exact call_list_seq p (.inl rfl) ho hc hd (fun h' c' kp e => fin its r' hz h' c' kp e) (by simp only [List.size_toArray] <;> omega)
 ·obtain ⟨its, r', pl, hz⟩ := I.tuple hq
  have hlen := r'.length
  obtain ⟨o, ho, hc, n, hd⟩ := pl
  exact call_list_seq p (.inr rfl) ho hc hd (fun h' c' kp e => fin its r' hz h' c' kp e) (by simp only [List.size_toArray] <;> omega)
theorem call_tuple_of : CallR X (.type "tuple") (fun xs H Q => ∃ p ys, xs = [.ref p] ∧ ((SqL X.K H p ys ∧ ∀ l, H l = none → Q (.ref l) (upd H l (.tup ys))) ∨ (SqT X.K H p ys ∧ Q (.ref p) H))) := by
 intro pins s σ H xs us Q I r h
 obtain ⟨p, ys, rfl, h⟩ := h
 obtain ⟨u, rfl, rx⟩ := xY r
 cases rx
 rcases h with ⟨hq, q⟩ | ⟨hq, q⟩
 ·obtain ⟨its, r', pl, hz⟩ := I.list hq
  have hlen := r'.length
  refine call_tuple_list pl.isList (fun h' kp => ?_) (by simp only [List.size_toArray] <;> omega)
  have I1 : Inv X pins σ H { s with heap := h' } := I.kept (t' := s.toks) kp
  have I2 : Inv X pins σ (upd H h'.objs.size (.tup ys)) { s with heap := h'.push { cls := .type "tuple", data := .seq its.toArray } } :=
   I1.laid (t' := s.toks) (fun b o e => Heap.get?_push_of_some _ e) (Nat.le_refl _) (show ObjOk X.prog X.w _ _ _ (.tup ys) from ⟨hz, its, r', IsTup.new _ _⟩)
  exact ⟨.ref h'.objs.size, _, I2, rfl, q _ (I1.hok.fresh (Nat.le_refl _))⟩
 ·obtain ⟨its, r', pl, hz⟩ := I.tuple hq
  exact call_tuple_same pl ⟨.ref p, H, I, rfl, q⟩
noncomputable def tyV (K : W.Frag) (T : String) (x : V) (H : Hp) : Prop := match x with
 | .str _ => T = "str"
 | .int _ => T = "int"
 | .ref p => (T = "list" ∧ ∃ xs, SqL K H p xs) ∨ (T = "tuple" ∧ ∃ o, K.lookup p = some o ∧ o.cls = .type "tuple" ∧ o.dict = none) ∨
   (T = "dict" ∧ ((∃ kvs, H p = some (.dK kvs)) ∨ ∃ kvs, H p = some (.dT kvs))) ∨ (T = "set" ∧ ∃ S n, H p = some (.set S n))
 | _ => False
theorem z8Y {pins : List (Addr × Obj)} {σ : St} {H : Hp} {s : Shared} {T : String} {x : V} {v : Value} (I : Inv X pins σ H s) (r : RelV x v) (ty : tyV X.K T x H) :
  s.TypeIs v T ∧ ∀ a, v = .ref a → ∃ ob, s.heap.get? a = some ob ∧ ob.dict = none := by
 cases x with
 | str z =>
  obtain ⟨t, rfl⟩ := r
  cases (show T = "str" from ty)
  exact ⟨typeIs_str s z t, fun _ e => nomatch e⟩
 | int i =>
  obtain ⟨t, rfl⟩ := r
  cases (show T = "int" from ty)
  exact ⟨typeIs_int s i t, fun _ e => nomatch e⟩
 | ref p =>
  cases r
  rcases ty with ⟨rfl, xs, hq⟩ | ⟨rfl, o, hk, hc, hd⟩ | ⟨rfl, hk⟩ | ⟨rfl, S, n, hk⟩
  ·obtain ⟨its, _, pl, _⟩ := I.list hq
   refine ⟨pl.isList.typeIs, fun a e => ?_⟩
   cases e
   obtain ⟨o, n, e, c, hd, _⟩ := pl
   exact ⟨o, e, hd⟩
  ·refine ⟨⟨o, I.kIn p o hk, hc⟩, fun a e => ?_⟩
   cases e
   exact ⟨o, I.kIn _ o hk, hd⟩
  ·have z : ∃ o, s.heap.get? p = some o ∧ o.ExactDict := by
    rcases hk with ⟨kvs, hk⟩ | ⟨kvs, hk⟩
    ·obtain ⟨_, _, _, _, o, _, _, e, ex, _⟩ := I.hok p _ hk
     exact ⟨o, e, ex⟩
    ·obtain ⟨_, _, _, _, o, _, _, e, ex, _⟩ := I.hok p _ hk
     exact ⟨o, e, ex⟩
   obtain ⟨o, e, ex⟩ := z
   refine ⟨⟨o, e, ex.1⟩, fun a e2 => ?_⟩
   cases e2
   exact ⟨o, e, ex.2.1⟩
  ·obtain ⟨o, _, _, _, e, ex, _⟩ := I.hok p _ hk
   refine ⟨⟨o, e, ex.1⟩, fun a e2 => ?_⟩
   cases e2
   exact ⟨o, e, ex.2.1⟩
 | _ => exact False.elim ty
noncomputable def tBM (K : W.Frag) (T : String) (r : V → List V → Hp → VK → Prop) (to : TE) (t : TA) : TE := fun σ H Q => to σ H fun x H1 => tyV K T x H1 ∧ t σ H1 fun xs H2 => r x xs H2 Q
variable {o e : Expr} {es : List Expr} {to : TE} {t : TA} {name : Str} {apos cpos : Pos} {T id : String} {r : V → List V → Hp → VK → Prop}
theorem z2m (pa : PlainAttrs T) (slot : Slot T name id) (hty : typeOf (.builtin id) = pure (.type "method_descriptor")) (hm : MtR X id r) (ho : PE X o to) (ha : PA X (e :: es) t)
  (hbase : attributeBase o name X.env (eval o X.env) = eval o X.env := by rfl)
  (hfew : ((backTo cpos (starEach (e :: es) X.env)).all (fun x => !x.1) && (backToKw cpos (keywordEach [] X.env)).all (fun x => x.1.isSome)
   && decide ((e :: es).length + ([] : List Keyword).length + (if ([] : List Keyword).isEmpty then 0 else 1) < 30)) = true := by rfl)
  (hline : (apos.endLine == cpos.line) = true := by rfl) (hs : starEach (e :: es) X.env = (false, eval e X.env) :: starEach es X.env := by rfl) (hplain : (backTo cpos (starEach es X.env)).any (·.1) = false := by rfl) :
  PE X (.Call (.Attribute o name apos) (e :: es) [] cpos) (tBM X.K T r to t) := by
 intro pins s σ H Q I h
 refine wpAny_Call_method_late hbase hfew hline rfl (thn (ho pins s σ H _ I h) fun v s1 ⟨x, H1, I1, r1, ty, q1⟩ => ?_)
 obtain ⟨h1, h2⟩ := z8Y I1 r1 ty
 refine ⟨T, id, pa, slot, hty, h1, h2, ?_⟩
 have hA := ha cpos pins s1 σ H1 _ I1 q1
 rw [hs] at hA ⊢
 refine Calls.callWith_builtin (by show (false || (backTo cpos (starEach es X.env)).any (·.1)) = false; rw [hplain] <;> rfl) (Calls.evalArgs_plain ?_)
 exact thn hA fun us s2 ⟨vs, H2, I2, r2, q2⟩ => hm pins s2 σ H2 x vs v us Q I2 r1 r2 q2
/- xs.append(e), list.index on a module's tuple .. are MtR facts of 06m -/
end
end L2
namespace L2
open PySem PySem.Spec PyProof.Rows
noncomputable def MtM (X : Cx) (id : String) (r : V → List V → Hp → VK → Prop) : Prop :=
 ∀ (pins : List (Addr × Obj)) (s : Shared) (σ : St) (H : Hp) (x : V) (xs : List V) (v : Value) (us : List Value) (Q : VK), Inv X pins σ H s → RelV x v → Vals xs us → r x xs H Q →
  wpAny (model X.prog X.w) X.A (call (.builtin id) (v :: us)) (EP X pins σ Q) X.xe s
theorem Vals.one : ∀ {x : V} {us : List Value}, Vals [x] us → ∃ u, us = [u] ∧ RelV x u
 | _, _, .cons r .nil => ⟨_, rfl, r⟩
theorem Vals.eraseIdx : ∀ {xs : List V} {us : List Value} (i : Nat), Vals xs us → Vals (xs.eraseIdx i) (us.eraseIdx i)
 | _, _, _, .nil => .nil
 | _, _, 0, .cons _ t => t
 | _, _, i + 1, .cons r t => .cons r (Vals.eraseIdx i t)
theorem Vals.rep {xs : List V} {us : List Value} (h : Vals xs us) : ∀ k : Nat, Vals (List.replicate k xs).flatten (List.replicate k us).flatten
 | 0 => .nil
 | k + 1 => by
  rw [List.replicate_succ, List.replicate_succ, List.flatten_cons, List.flatten_cons]
  exact Vals.append h (Vals.rep h k)
theorem wv {α : Type} : ∀ (l : List α) (i : Nat), (l.eraseIdx i).length ≤ l.length
 | [], _ => Nat.le_refl _
 | _ :: _, 0 => Nat.le_succ _
 | _ :: r, i + 1 => Nat.succ_le_succ (wv r i)
theorem wP (its : List Value) : ∀ (k : Nat) (acc : List Value),
  List.foldl (fun x1 x2 => x1 ++ x2) acc.toArray (List.replicate k its.toArray) = (acc ++ (List.replicate k its).flatten).toArray
 | 0, acc => by simp
 | k + 1, acc => by
  have e : acc.toArray ++ its.toArray = (acc ++ its).toArray := by simp
  have e2 : (acc ++ its) ++ (List.replicate k its).flatten = acc ++ (List.replicate (k + 1) its).flatten := by
   rw [List.replicate_succ, List.flatten_cons, List.append_assoc]
  rw [← e2, ← wP its k (acc ++ its), ← e, List.replicate_succ, List.foldl_cons]
section
variable {X : Cx} {pins : List (Addr × Obj)} {σ : St} {H : Hp} {s : Shared} {l b : Addr} {xs ys zs : List V}
theorem Inv.lset {its its' : List Value} {n : Nat} {f : Array Value → Array Value} {t' : Nat} (I : Inv X pins σ H s) (hH : H l = some (.lst xs))
  (e : s.heap.get? l = some { cls := .type "list", data := .seq its.toArray n }) (hf : f its.toArray = its'.toArray) (hv : Vals ys its') (hz : ys.length ≤ sizeLine) :
  Inv X pins σ (upd H l (.lst ys)) { s with heap := s.heap.update l (Obj.mapSeq f), toks := t' } := by
 have q := PySem.IsL.update e f
 rw [hf] at q
 refine I.write (x := l) (e := l) (by rw [hH]; exact trivial) (.inl rfl) (fun b' u hb hu => (Heap.get?_update_other s.heap (Obj.mapSeq f) (Ne.symm hb)).trans hu) ⟨_, q⟩ ?_
 exact ⟨hz, its', _, hv, q⟩
theorem Inv.lnew {its : List Value} {t' : Nat} (I : Inv X pins σ H s) (hv : Vals ys its) (hz : ys.length ≤ sizeLine) :
  Inv X pins σ (upd H s.heap.objs.size (.lst ys)) { s with heap := s.heap.push { cls := .type "list", data := .seq its.toArray }, toks := t' } :=
 I.laid (fun _ _ q => Heap.get?_push_of_some _ q) (Nat.le_refl _) ⟨hz, its, 0, hv, Heap.get?_push_size _ rfl⟩
theorem Inv.fresh (I : Inv X pins σ H s) : H s.heap.objs.size = none := I.hok.fresh (Nat.le_refl _)
theorem Inv.lstM (I : Inv X pins σ H s) (hH : H l = some (.lst xs)) : xs.length ≤ sizeLine ∧ ∃ (its : List Value) (n : Nat), Vals xs its ∧ xs.length = its.length ∧ s.heap.get? l = some { cls := .type "list", data := .seq its.toArray n } := by
 obtain ⟨z, its, n, r, e⟩ := I.hok l _ hH
 exact ⟨z, its, n, r, r.length, e⟩
theorem z23 {n : Nat} (h : n ≤ sizeLine) : Builtin.List.listTooLong n = false := by
 unfold Builtin.List.listTooLong
 exact decide_eq_false (by omega)
end
section
variable {X : Cx}
noncomputable def z1G : V → List V → Hp → VK → Prop := fun x vs H Q => ∃ l xs y, x = .ref l ∧ vs = [y] ∧ H l = some (.lst xs) ∧ xs.length < sizeLine ∧ Q .non (upd H l (.lst (xs ++ [y])))
theorem wH : MtM X "list.append" z1G := by
 intro pins s σ H x vs v us Q I rx rv h
 obtain ⟨l, xs, y, rfl, rfl, hH, hz, q⟩ := h
 cases rx
 obtain ⟨u, rfl, ru⟩ := rv.one
 obtain ⟨z, its, n, r, hl, e⟩ := I.lstM hH
 refine call_meets F.slot_list_append ⟨_, e, rfl⟩ F.entry_list_append (F.args_list_append_2 _ _) (PySem.list_append l its.toArray n u (by rw [List.size_toArray]; omega)) ⟨e, ?_⟩
 refine ⟨.non, _, I.lset (its' := its ++ [u]) hH e (by simp) (r.append (.cons ru .nil)) ?_, rfl, q⟩
 rw [List.length_append, List.length_singleton]
 omega
noncomputable def z47 : V → List V → Hp → VK → Prop := fun x vs H Q => ∃ l b xs zs, x = .ref l ∧ vs = [.ref b] ∧ H l = some (.lst xs) ∧ H b = some (.lst zs) ∧ xs.length + zs.length ≤ sizeLine ∧ Q .non (upd H l (.lst (xs ++ zs)))
theorem z3r : MtM X "list.extend" z47 := by
 intro pins s σ H x vs v us Q I rx rv h
 obtain ⟨l, b, xs, zs, rfl, rfl, hH, hB, hz, q⟩ := h
 cases rx
 obtain ⟨u, rfl, ru⟩ := rv.one
 cases ru
 obtain ⟨z, its, n, r, hl, e⟩ := I.lstM hH
 obtain ⟨z2, its2, n2, r2, hl2, e2⟩ := I.lstM hB
 have hsz : its.toArray.size + its2.toArray.size ≤ sizeLine := by rw [List.size_toArray, List.size_toArray]; omega
 have hlong : ¬ (!its.toArray.isEmpty && Builtin.List.listTooLong (its.toArray.size + its2.toArray.size)) = true := by
  rw [z23 hsz, Bool.and_false]
  exact Bool.false_ne_true
 refine call_meets F.slot_list_extend ⟨_, e, rfl⟩ F.entry_list_extend (F.args_list_extend_2 _ _)
  (AutoSeq1.list_extend_list_list_0 l its.toArray n b its2.toArray n2 hlong (by rw [List.size_toArray]; omega) (by omega)) ⟨e, e2, ?_⟩
 refine ⟨.non, _, I.lset (its' := its ++ its2) hH e (by simp) (r.append r2) ?_, rfl, q⟩
 rw [List.length_append]
 omega
noncomputable def z5r : V → List V → Hp → VK → Prop := fun x vs H Q => ∃ l xs i k y, x = .ref l ∧ vs = [.int i] ∧ H l = some (.lst xs) ∧ -(2 ^ 63) ≤ i ∧ i < 2 ^ 63 ∧ seqIndex? i xs.length = some k ∧ xs[k]? = some y ∧ Q y (upd H l (.lst (xs.eraseIdx k)))
theorem z4e : MtM X "list.pop" z5r := by
 intro pins s σ H x vs v us Q I rx rv h
 obtain ⟨l, xs, i, k, y, rfl, rfl, hH, h1, h2, hk, hy, q⟩ := h
 cases rx
 obtain ⟨u, rfl, ru⟩ := rv.one
 obtain ⟨t, rfl⟩ := ru
 obtain ⟨z, its, n, r, hl, e⟩ := I.lstM hH
 obtain ⟨w, hw, rw'⟩ := r.get hy
 refine call_meets F.slot_list_pop ⟨_, e, rfl⟩ F.entry_list_pop (F.args_list_pop_2 _ _)
  (MeetsSeq.list_pop_at l its.toArray n i t k w (fitsIndex_both h1 h2) (by rw [List.size_toArray, ← hl]; exact hk) (by rw [← Array.getElem?_toList]; exact hw) (by rw [List.size_toArray]; omega)) ⟨e, ?_⟩
 refine ⟨y, _, I.lset (its' := its.eraseIdx k) hH e ?_ (r.eraseIdx k) ?_, rw', q⟩
 ·show its.toArray.eraseIdxIfInBounds k = (its.eraseIdx k).toArray
  rw [List.eraseIdxIfInBounds_toArray]
 ·have := wv xs k
  omega
noncomputable def rCat : R2 := fun x y H Q => ∃ l b xs zs, x = .ref l ∧ y = .ref b ∧ H l = some (.lst xs) ∧ H b = some (.lst zs) ∧ xs.length + zs.length ≤ sizeLine ∧ ∀ p, H p = none → Q (.ref p) (upd H p (.lst (xs ++ zs)))
theorem op_cat : OpR X (binaryOp .Add) rCat := by
 intro pins s σ H x y v u Q I rx ry h
 obtain ⟨l, b, xs, zs, rfl, rfl, hH, hB, hz, q⟩ := h
 cases rx
 cases ry
 obtain ⟨z, its, n, r, hl, e⟩ := I.lstM hH
 obtain ⟨z2, its2, n2, r2, hl2, e2⟩ := I.lstM hB
 refine PySem.P.add_list e e2 ?_ (by rw [List.size_toArray, List.size_toArray]; omega)
 have ea : its.toArray ++ its2.toArray = (its ++ its2).toArray := by simp
 rw [ea]
 exact ⟨.ref _, _, I.lnew (t' := s.toks) (r.append r2) (by rw [List.length_append]; omega), rfl, q _ I.fresh⟩
noncomputable def rRep : R2 := fun x y H Q => ∃ l k xs, x = .ref l ∧ y = .int k ∧ H l = some (.lst xs) ∧ -(2 ^ 63) ≤ k ∧ k < 2 ^ 63 ∧ xs.length * k.toNat ≤ sizeLine ∧
 ∀ p, H p = none → Q (.ref p) (upd H p (.lst (List.replicate k.toNat xs).flatten))
theorem z48 {α : Type} (xs : List α) (k : Nat) : (List.replicate k xs).flatten.length = k * xs.length := by
 induction k with
 | zero => simp
 | succ k ih => rw [List.replicate_succ, List.flatten_cons, List.length_append, ih, Nat.succ_mul, Nat.add_comm]
theorem z8P : OpR X (binaryOp .Mult) rRep := by
 intro pins s σ H x y v u Q I rx ry h
 obtain ⟨l, k, xs, rfl, rfl, hH, h1, h2, hz, q⟩ := h
 cases rx
 obtain ⟨t, rfl⟩ := ry
 obtain ⟨z, its, n, r, hl, e⟩ := I.lstM hH
 have hlen : its.toArray.size * k.toNat ≤ sizeLine := by rw [List.size_toArray, ← hl]; exact hz
 have hcap : ¬ its.toArray.size * k.toNat > (2 ^ 63 - 1) / 8 := by
  have : (sizeLine : Nat) ≤ (2 ^ 63 - 1) / 8 := by decide
  omega
 have hfit : ¬ (!Builtin.List.listFitsIndex k) = true := by
  rw [fitsIndex_both h1 h2]
  exact Bool.false_ne_true
 have hlong : ¬ Builtin.List.listTooLong (its.toArray.size * k.toNat) = true := by
  rw [z23 hlen]
  exact Bool.false_ne_true
 have hnew : List.foldl (fun x1 x2 => x1 ++ x2) #[] (List.replicate (if its.toArray.isEmpty = true then 0 else k.toNat) its.toArray) = (List.replicate k.toNat its).flatten.toArray := by
  have f0 : ∀ m : Nat, List.foldl (fun x1 x2 => x1 ++ x2) #[] (List.replicate m its.toArray) = (List.replicate m its).flatten.toArray := fun m => by
   have := wP its m []
   rw [List.nil_append] at this
   exact this
  rw [f0]
  cases its with
  | nil => simp
  | cons a r' => rw [if_neg (by simp)]
 refine wpAny_binaryOp_repeat_ref (T := "list") (U := "int") (by decide) ⟨_, e, rfl⟩ (fun s' => typeIs_int s' k t) noFill_list_mul F.fills_int_mul F.slot_int_rmul repeat_list F.slot_int_index.lookup
  (call_meets F.slot_int_rmul (typeIs_int s k t) F.entry_int_rmul (F.args_int_rmul_2 _ _) (int___rmul___int_list k t l its.toArray n)
   ⟨e, rfl, ⟨_, e, rfl⟩, call_meets F.slot_list_mul ⟨_, e, rfl⟩ F.entry_list_mul (F.args_list_mul_2 _ _) (AutoListH.list___mul___list_int_3 l its.toArray n k t hfit hcap hlong) ⟨e, ?_⟩⟩)
 rw [hnew]
 exact ⟨.ref _, _, I.lnew (t' := s.toks) (r.rep k.toNat) (by rw [z48, Nat.mul_comm]; exact hz), rfl, q _ I.fresh⟩
end
section
variable {prog : Program} {w : World} {A : Around} {E : Value → Shared → Prop} {s : Shared}
set_option maxRecDepth 100000 in
end
section
variable {X : Cx}
end
end L2
namespace L2
open PySem PySem.Spec PyProof.Rows
section
variable {κ : Type} [DecidableEq κ]
noncomputable def valV (kvs : List (κ × V)) (k : κ) : Option V := (kvs.find? fun kv => decide (kv.1 = k)).map (·.2)
noncomputable def putK (kvs : List (κ × V)) (k : κ) (v : V) : List (κ × V) :=
 if (kvs.any fun kv => decide (kv.1 = k)) = true then kvs.map (fun kv => if kv.1 = k then (kv.1, v) else kv) else kvs ++ [(k, v)]
theorem w9 {p : κ × V} {r : List (κ × V)} {k : κ} (e : p.1 = k) : valV (p :: r) k = some p.2 := by simp [valV, List.find?_cons, e]
theorem w5 {p : κ × V} {r : List (κ × V)} {k : κ} (e : ¬ p.1 = k) : valV (p :: r) k = valV r k := by simp [valV, List.find?_cons, e]
theorem z2B (k : κ) : ∀ kvs : List (κ × V), (kvs.any fun kv => decide (kv.1 = k)) = (valV kvs k).isSome
 | [] => rfl
 | p :: r => by
  rw [List.any_cons]
  by_cases e : p.1 = k
  ·simp only [w9 e, decide_eq_true e, Bool.true_or, Option.isSome_some]
  ·rw [w5 e, decide_eq_false e, Bool.false_or]; exact z2B k r
theorem we (kvs : List (κ × V)) (k : κ) (v : V) : (putK kvs k v).length ≤ kvs.length + 1 := by
 unfold putK
 split
 ·rw [List.length_map]; omega
 ·rw [List.length_append, List.length_cons, List.length_nil]; omega
theorem RelO.isSome_eq {o : Option V} {u : Option Value} (r : RelO o u) : o.isSome = u.isSome := by
 cases o with
 | none => cases u with
  | none => rfl
  | some _ => exact (show False from r).elim
 | some _ => cases u with
  | none => exact (show False from r).elim
  | some _ => rfl
theorem KV.val {kvs : List (κ × V)} {vs : List (κ × Value)} (r : KV kvs vs) (k : κ) : RelO (valV kvs k) (valueAt vs k) := by
 unfold KV at r
 induction r with
 | nil => exact True.intro
 | @cons p q ps qs h t ih =>
  obtain ⟨h1, h2⟩ := h
  by_cases e : p.1 = k
  ·have e' : q.1 = k := h1.symm.trans e
   have b : valueAt (q :: qs) k = some q.2 := by simp [valueAt, List.find?_cons, e']
   rw [w9 e, b]; exact h2
  ·have e' : ¬ q.1 = k := fun z => e (h1.trans z)
   have b : valueAt (q :: qs) k = valueAt qs k := by simp [valueAt, List.find?_cons, e']
   rw [w5 e, b]; exact ih
theorem KV.any {kvs : List (κ × V)} {vs : List (κ × Value)} (r : KV kvs vs) (k : κ) : (kvs.any fun kv => decide (kv.1 = k)) = vs.any fun kv => decide (kv.1 = k) := by
 unfold KV at r
 induction r with
 | nil => rfl
 | cons h t ih => rw [List.any_cons, List.any_cons, ih, h.1]
theorem KV.repl {kvs : List (κ × V)} {vs : List (κ × Value)} (r : KV kvs vs) (k : κ) {y : V} {u : Value} (ry : RelV y u) :
  KV (kvs.map fun kv => if kv.1 = k then (kv.1, y) else kv) (vs.map fun kv => if kv.1 = k then (kv.1, u) else kv) := by
 unfold KV at r ⊢
 induction r with
 | nil => exact .nil
 | @cons p q ps qs h t ih =>
  rw [List.map_cons, List.map_cons]
  refine .cons ?_ ih
  obtain ⟨h1, h2⟩ := h
  by_cases e : p.1 = k
  ·rw [if_pos e, if_pos (h1.symm.trans e)]; exact ⟨h1, ry⟩
  ·rw [if_neg e, if_neg (fun z => e (h1.trans z))]; exact ⟨h1, h2⟩
theorem KV.put {kvs : List (κ × V)} {vs : List (κ × Value)} (r : KV kvs vs) (k : κ) {y : V} {u : Value} (ry : RelV y u) : KV (putK kvs k y) (stored vs k u) := by
 unfold putK stored
 rw [r.any k]
 by_cases e : (vs.any fun kv => decide (kv.1 = k)) = true
 ·rw [if_pos e, if_pos e]; exact r.repl k ry
 ·rw [if_neg e, if_neg e]; exact Paired.snoc r ⟨rfl, ry⟩
theorem KV.length {kvs : List (κ × V)} {vs : List (κ × Value)} (r : KV kvs vs) : kvs.length = vs.length := Paired.length r
end
theorem z1c {P : Program} {w : World} {k : Key} {u : Value} (r : RelV (kV k) u) : (ze P w).is k u = true := by
 cases k with
 | inl i => obtain ⟨t, e⟩ := (show ∃ t, u = Value.int i t from r); subst e; exact z1K P w i t
 | inr x => obtain ⟨t, e⟩ := (show ∃ t, u = Value.str x t from r); subst e; exact z1e P w x t
theorem z16 {P : Program} {w : World} : ∀ {ks : List Key} {us : List Value}, Vals (ks.map kV) us → ItemsAre (ze P w) ks us
 | [], _, r => by rw [List.map_nil] at r; cases r; exact .nil
 | k :: ks, _, r => by
  rw [List.map_cons] at r
  cases r with
  | cons h t => exact .cons (z1c h) (z16 t)
noncomputable abbrev KT (H : Hp) : List (List Key × V) → List (List Key × Addr × Value) → Prop := Paired fun p q => p.1 = q.1 ∧ H q.2.1 = some (.tup (p.1.map kV)) ∧ RelV p.2 q.2.2
theorem KT.val {H : Hp} {kvs : List (List Key × V)} {xs : List (List Key × Addr × Value)} (r : KT H kvs xs) (k : List Key) : RelO (valV kvs k) ((atKey xs k).map (·.2)) := by
 induction r with
 | nil => exact True.intro
 | @cons p q ps qs h t ih =>
  obtain ⟨h1, _, h2⟩ := h
  by_cases e : p.1 = k
  ·have e' : q.1 = k := h1.symm.trans e
   have b : atKey (q :: qs) k = some q.2 := by simp [atKey, List.find?_cons, e']
   rw [w9 e, b]; exact h2
  ·have e' : ¬ q.1 = k := fun z => e (h1.trans z)
   have b : atKey (q :: qs) k = atKey qs k := by simp [atKey, List.find?_cons, e']
   rw [w5 e, b]; exact ih
theorem KT.repl {H : Hp} {kvs : List (List Key × V)} {xs : List (List Key × Addr × Value)} (r : KT H kvs xs) (k : List Key) {y : V} {u : Value} (ry : RelV y u) :
  KT H (kvs.map fun kv => if kv.1 = k then (kv.1, y) else kv) (xs.map (putAt k u)) := by
 induction r with
 | nil => exact .nil
 | @cons p q ps qs h t ih =>
  rw [List.map_cons, List.map_cons]
  refine .cons ?_ ih
  obtain ⟨h1, h2, h3⟩ := h
  unfold putAt
  by_cases e : p.1 = k
  ·rw [if_pos e, if_pos (h1.symm.trans e)]; exact ⟨h1, h2, ry⟩
  ·rw [if_neg e, if_neg (fun z => e (h1.trans z))]; exact ⟨h1, h2, h3⟩
theorem KT.put {H : Hp} {kvs : List (List Key × V)} {xs : List (List Key × Addr × Value)} (r : KT H kvs xs) (k : List Key) {b : Addr} {y : V} {u : Value} (hb : H b = some (.tup (k.map kV))) (ry : RelV y u) :
  KT H (putK kvs k y) (storedH xs k b u) := by
 have e : (kvs.any fun kv => decide (kv.1 = k)) = (atKey xs k).isSome := by
  rw [z2B, (r.val k).isSome_eq, Option.isSome_map]
 unfold putK storedH
 rw [e]
 by_cases q : (atKey xs k).isSome = true
 ·rw [if_pos q, if_pos q]; exact r.repl k ry
 ·rw [if_neg q, if_neg q]; exact Paired.snoc r ⟨rfl, hb, ry⟩
theorem KT.keeps {H H' : Hp} {kvs : List (List Key × V)} {xs : List (List Key × Addr × Value)} (r : KT H kvs xs) (ht : ∀ b ys, H b = some (.tup ys) → H' b = some (.tup ys)) : KT H' kvs xs :=
 Paired.mapP r fun _ _ z => ⟨z.1, ht _ _ z.2.1, z.2.2⟩
section
variable {P : Program} {w : World} {H : Hp} {h : Heap} {a : Addr}
theorem z8U {u : HO} (ok : HOk P w H h) (e : Rd H a u) : ObjOk P w H h a u := e.ok ok
theorem z1b {kvs : List (Key × V)} (ok : HOk P w H h) (e : Rd H a (.dK kvs)) : kvs.length ≤ sizeLine ∧ (a == sysModules) = false ∧ ∃ vs, KV kvs vs ∧ h.DictOf (ze P w) a vs :=
 show ObjOk P w H h a (.dK kvs) from z8U ok e
theorem z76 {kvs : List (Key × V)} (ok : HOk P w H h) (e : H a = some (.dK kvs)) : kvs.length ≤ sizeLine ∧ (a == sysModules) = false ∧ ∃ vs, KV kvs vs ∧ h.DictOf (ze P w) a vs := z1b ok (.inl e)
theorem wQ {ks : List Key} (ok : HOk P w H h) (e : H a = some (.tup (ks.map kV))) : (tupleKind (ze P w)).is h ks a := by
 obtain ⟨_, its, r, o, h1, h2, n, h3⟩ := (show ObjOk P w H h a (.tup (ks.map kV)) from ok a _ e)
 exact ⟨o, its.toArray, n, h1, h2, h3, by simpa using z16 r⟩
theorem z1P {kvs : List (List Key × V)} (ok : HOk P w H h) (e : Rd H a (.dT kvs)) : kvs.length ≤ sizeLine ∧ (a == sysModules) = false ∧
  ∃ xs, KT H kvs xs ∧ h.DictOfH (tupleKind (ze P w)) a xs := by
 obtain ⟨z, y, xs, r, o, es, ep, h1, h2, h3, h4, h5⟩ := (show ObjOk P w H h a (.dT kvs) from z8U ok e)
 refine ⟨z, y, xs, r, o, es, ep, h1, h2, h3, h4, fun x hx => ?_, h5⟩
 have all : ∀ {l : List (List Key × V)} {m : List (List Key × Addr × Value)}, KT H l m → ∀ x ∈ m, (tupleKind (ze P w)).is h x.1 x.2.1 := by
  intro l m q
  induction q with
  | nil => intro x hx; exact nomatch hx
  | @cons p q ps qs hq t ih =>
   intro x hx
   rcases List.mem_cons.mp hx with e | hx
   ·subst e
    exact wQ ok (by rw [← hq.1]; exact hq.2.1)
   ·exact ih x hx
 exact all r x hx
theorem z7o {kvs : List (List Key × V)} (ok : HOk P w H h) (e : H a = some (.dT kvs)) : kvs.length ≤ sizeLine ∧ (a == sysModules) = false ∧
  ∃ xs, KT H kvs xs ∧ h.DictOfH (tupleKind (ze P w)) a xs := z1P ok (.inl e)
end
noncomputable def DGet (H : Hp) (a : Addr) (y : V) (r : Option V) : Prop :=
 (∃ kvs k, Rd H a (.dK kvs) ∧ y = kV k ∧ r = valV kvs k) ∨ ∃ kvs k b, Rd H a (.dT kvs) ∧ y = .ref b ∧ H b = some (.tup (k.map kV)) ∧ r = valV kvs k
noncomputable def DPut (H : Hp) (a : Addr) (y v : V) (H' : Hp) : Prop :=
 (∃ kvs k, H a = some (.dK kvs) ∧ y = kV k ∧ kvs.length < sizeLine ∧ H' = upd H a (.dK (putK kvs k v))) ∨
 ∃ kvs k b, H a = some (.dT kvs) ∧ y = .ref b ∧ H b = some (.tup (k.map kV)) ∧ kvs.length < sizeLine ∧ H' = upd H a (.dT (putK kvs k v))
theorem DPut.k {H : Hp} {a : Addr} {kvs : List (Key × V)} {k : Key} {v : V} (e : H a = some (.dK kvs)) (hl : kvs.length < sizeLine) : DPut H a (kV k) v (upd H a (.dK (putK kvs k v))) := .inl ⟨kvs, k, e, rfl, hl, rfl⟩
theorem DPut.t {H : Hp} {a b : Addr} {kvs : List (List Key × V)} {k : List Key} {v : V} (e : H a = some (.dT kvs)) (eb : H b = some (.tup (k.map kV))) (hl : kvs.length < sizeLine) :
  DPut H a (.ref b) v (upd H a (.dT (putK kvs k v))) := .inr ⟨kvs, k, b, e, rfl, eb, hl, rfl⟩
section
variable {X : Cx} {pins : List (Addr × Obj)} {σ : St} {H : Hp} {s : Shared} {a : Addr} {y v : V} {u r : Value} {o : Option V} {A : Around} {E : Value → Shared → Prop}
theorem Inv.big (I : Inv X pins σ H s) : sysModules < s.heap.objs.size := by
 have h : mainGlobals < s.heap.objs.size := (I.mod.glob.keeps I.bk).lt
 exact Nat.lt_trans (by decide) h
theorem z3p {Q : Value → Shared → Prop} (hu : A.units + 1 < cLine) (I : Inv X pins σ H s) (g : DGet H a y (some v)) (ry : RelV y u) (h : ∀ w' s', Inv X pins σ H s' → RelV v w' → Q w' s') :
  wpAny (model X.prog X.w) A (getItem (.ref a) u) Q E s := by
 rcases g with ⟨kvs, k, e, ey, l⟩ | ⟨kvs, k, b, e, ey, eb, l⟩
 ·subst ey
  obtain ⟨z, hd, vs, rel, dd⟩ := z1b I.hok e
  obtain ⟨w', hw, rw'⟩ := RelO.some_of (v := v) (o := valueAt vs k) (by rw [l]; exact rel.val k)
  exact wpAny_getItem_of (z1c ry) dd.mapOf hw (h w' _ (I.tok _) rw')
 ·subst ey
  cases (show u = Value.ref b from ry)
  obtain ⟨z, hd, xs, rel, dd⟩ := z1P I.hok e
  obtain ⟨w', hw, rw'⟩ := RelO.some_of (v := v) (o := (atKey xs k).map (·.2)) (by rw [l]; exact rel.val k)
  obtain ⟨p, hp, hp2⟩ := Option.map_eq_some_iff.mp hw
  refine wpAny_getItem_heap (tupleKind_room_in1 hu) (wQ I.hok eb) dd hp ?_
  rw [hp2]
  exact h w' _ (I.tok _) rw'
theorem d_in {Q : Value → Shared → Prop} (hu : A.units + 1 < cLine) (I : Inv X pins σ H s) (g : DGet H a y o) (ry : RelV y u) (h : ∀ s', Inv X pins σ H s' → Q (.bool o.isSome) s') :
  wpAny (model X.prog X.w) A (compareOp .In u (.ref a)) Q E s := by
 rcases g with ⟨kvs, k, e, ey, l⟩ | ⟨kvs, k, b, e, ey, eb, l⟩
 ·subst ey
  obtain ⟨z, hd, vs, rel, dd⟩ := z1b I.hok e
  refine wpAny_in_of (z1c ry) hd dd.mapOf ?_
  rw [← (rel.val k).isSome_eq, ← l]
  exact h _ (I.tok _)
 ·subst ey
  cases (show u = Value.ref b from ry)
  obtain ⟨z, hd, xs, rel, dd⟩ := z1P I.hok e
  refine wpAny_in_heap (tupleKind_room_in1 hu) (wQ I.hok eb) hd dd ?_
  have q := (rel.val k).isSome_eq
  rw [Option.isSome_map] at q
  rw [← q, ← l]
  exact h _ (I.tok _)
theorem z3q {Q : Value → Shared → Prop} (hu : A.units + 1 < cLine) (I : Inv X pins σ H s) (g : DGet H a y o) (ry : RelV y u) (h : ∀ s', Inv X pins σ H s' → Q (.bool (!o.isSome)) s') :
  wpAny (model X.prog X.w) A (compareOp .NotIn u (.ref a)) Q E s := by
 rcases g with ⟨kvs, k, e, ey, l⟩ | ⟨kvs, k, b, e, ey, eb, l⟩
 ·subst ey
  obtain ⟨z, hd, vs, rel, dd⟩ := z1b I.hok e
  refine wpAny_notIn_of (z1c ry) hd dd.mapOf ?_
  rw [← (rel.val k).isSome_eq, ← l]
  exact h _ (I.tok _)
 ·subst ey
  cases (show u = Value.ref b from ry)
  obtain ⟨z, hd, xs, rel, dd⟩ := z1P I.hok e
  refine wpAny_notIn_heap (tupleKind_room_in1 hu) (wQ I.hok eb) hd dd ?_
  have q := (rel.val k).isSome_eq
  rw [Option.isSome_map] at q
  rw [← q, ← l]
  exact h _ (I.tok _)
theorem uq {h' : Heap} {t' : Nat} {ob : HO} (I : Inv X pins σ H s) (mu : Mut (H a)) (hs : Heap.SameBut a s.heap h') (he : ∃ q, h'.get? a = some q) (new : ObjOk X.prog X.w (upd H a ob) h' a ob) :
  Inv X pins σ (upd H a ob) { s with heap := h', toks := t' } :=
 I.write (x := a) (e := a) mu (.inl rfl) (fun b q hb z => (hs.2 b hb).trans z) he new
theorem z5k {P : Program} {w : World} {H' : Hp} {h' : Heap} {kvs : List (Key × V)} {vs : List (Key × Value)} (z : kvs.length ≤ sizeLine) (hd : (a == sysModules) = false) (rel : KV kvs vs) (dd : h'.DictOf (ze P w) a vs) :
  ObjOk P w H' h' a (.dK kvs) := ⟨z, hd, vs, rel, dd⟩
theorem wg {H' : Hp} {Q : Unit → Shared → Prop} (hu : A.units + 1 < cLine) (I : Inv X pins σ H s) (g : DPut H a y v H') (ry : RelV y u) (rv : RelV v r) (h : ∀ s', Inv X pins σ H' s' → Q () s') :
  wpAny (model X.prog X.w) A (setItem (.ref a) u r) Q E s := by
 rcases g with ⟨kvs, k, e, ey, l, eH⟩ | ⟨kvs, k, b, e, ey, eb, l, eH⟩
 ·subst ey eH
  obtain ⟨z, hd, vs, rel, dd⟩ := z76 I.hok e
  have hz : vs.length ≤ sizeLine := by rw [← rel.length]; exact z
  have hl : (putK kvs k v).length ≤ sizeLine := by have := we kvs k v; omega
  refine wpAny_setItem_pairs (hsz := hz) (z1c ry) dd fun h' dd' hs => h _ ?_
  have he : ∃ q, h'.get? a = some q := let ⟨q, _, _, hq, _⟩ := dd'; ⟨q, hq⟩
  exact uq I (by rw [e]; exact True.intro) hs he (z5k hl hd (rel.put k rv) dd')
 ·subst ey eH
  cases (show u = Value.ref b from ry)
  obtain ⟨z, hd, xs, rel, dd⟩ := z7o I.hok e
  have hz : xs.length ≤ sizeLine := by rw [← Paired.length rel]; exact z
  have hl : (putK kvs k v).length ≤ sizeLine := by have := we kvs k v; omega
  refine wpAny_setItem_heap (hsz := hz) (tupleKind_room_in1 hu) (wQ I.hok eb) dd fun h' dd' hs => h _ ?_
  obtain ⟨q, es, ep, hq, h2, h3, h4, _, h5⟩ := dd'
  refine uq I (by rw [e]; exact True.intro) hs ⟨q, hq⟩ ⟨hl, hd, _, (rel.put k eb rv).keeps fun c ys ec => ?_, q, es, ep, hq, h2, h3, h4, h5⟩
  rw [zF (z6w ec e (fun z => nomatch z))]
  exact ec
end
section
variable {X : Cx} {pins : List (Addr × Obj)} {σ : St} {H : Hp} {s : Shared} {a : Addr} {kvs : List (Key × V)} {k : Key} {u : Value} {A : Around} {E : Value → Shared → Prop}
end
theorem z1g {X : Cx} {pins : List (Addr × Obj)} {σ : St} {H : Hp} {s : Shared} {a : Addr} {y : V} {o : Option V} (I : Inv X pins σ H s) (g : DGet H a y o) : s.TypeIs (.ref a) "dict" := by
 rcases g with ⟨kvs, k, e, _, _⟩ | ⟨kvs, k, b, e, _, _, _⟩
 ·obtain ⟨_, _, vs, _, dd⟩ := z1b I.hok e
  exact dd.typeIs
 ·obtain ⟨_, _, xs, _, dd⟩ := z1P I.hok e
  exact dd.typeIs
section
variable {X : Cx} {o i e value : Expr} {pos pos' tpos : Pos} {td ty tv : TE}
end
theorem z2H {P : Program} {w : World} {H : Hp} (h : Heap) (hb : sysModules < h.objs.size) : ObjOk P w H (h.push { cls := .type "dict", data := .dict #[] }) h.objs.size (.dK []) :=
 ⟨Nat.zero_le _, beq_eq_false_iff_ne.mpr (Ne.symm (Nat.ne_of_lt hb)), [], .nil, Heap.DictOf.new h⟩
noncomputable def z7q : TE := fun _ H Q => ∀ p, H p = none → Q (.ref p) (upd H p (.dK []))
section
variable {X : Cx} {pos : Pos}
theorem pe_dnewK : PE X (.Dict [] [] pos) z7q := fun pins s σ H Q I h =>
 wpAny_Dict_empty ⟨.ref s.heap.objs.size, _, I.laid (a := s.heap.objs.size) (o := .dK []) (t' := s.toks) (fun _ _ q => Heap.get?_push_of_some _ q) (Nat.le_refl _) (z2H s.heap I.big), rfl, h _ (I.hok.fresh (Nat.le_refl _))⟩
end
section
variable {X : Cx} {pins : List (Addr × Obj)} {σ : St} {H : Hp} {s : Shared} {a : Addr} {y d : V} {u r : Value} {o : Option V} {A : Around} {E : Value → Shared → Prop}
end
section
variable {X : Cx} {o e f : Expr} {apos cpos : Pos} {td ty tx : TE}
end
section
variable {X : Cx} {pins : List (Addr × Obj)} {σ : St} {H : Hp} {s : Shared} {a : Addr} {kvs : List (Key × V)} {A : Around} {E : Value → Shared → Prop}
end
section
variable {X : Cx} {pins : List (Addr × Obj)} {σ : St} {H : Hp} {s : Shared} {a : Addr} {y : V} {u : Value} {A : Around} {E : Value → Shared → Prop}
end
end L2
namespace Att
open PySem PySem.W PySem.Calls PyProof.Rows
theorem wV {P : Params} {h : Heap} : ∀ (ns : List Int) (vs : List Value), WellAll P h vs (ns.map WData.int) → IntsAre vs ns := by
 intro ns
 induction ns with
 | nil =>
  intro vs w
  rw [List.map_nil] at w
  cases w
  exact .nil
 | cons n ns ih =>
  intro vs w
  rw [List.map_cons] at w
  cases w with
  | cons a b =>
   cases a
   exact .cons _ _ (ih _ b)
theorem z2o {l : OpenLaw} {n : Nat} (hn : l.most = some n) {P : Params} {h : Heap} {args : List WData} {vals : List Value}
  (hpre : l.row.toRowW.claim.pre args = true) (hwl : WellAll P h vals args) :
  ∃ a vs ns, vals = [Value.ref a] ∧ args = [WData.list (ns.map WData.int)] ∧ h.get? a = some { cls := .type "list", data := .seq vs.toArray } ∧ IntsAre vs ns ∧ ns.length ≤ n := by
 have hsh : WShape.hasAll [] args [.list .int] = true := (pre_splitW hpre).1
 have hc : l.pre.holds [] { args := args } = true := (pre_splitW hpre).2
 obtain ⟨d, r, rfl, h1, h2⟩ := hasAllW_cons hsh
 obtain rfl := hasAllW_nil h2
 obtain ⟨xs, rfl, h3⟩ := hasW_list h1
 obtain ⟨ns, rfl⟩ := items_int h3
 have hlen : ns.length ≤ n := by
  unfold OpenLaw.pre at hc
  have h4 : (WTm.not (.lt (.lit (.int (n : Int))) (.len (.arg 0)))).holds [] { args := [.list (ns.map .int)] } = true := by
   have h4 := (holds_andW hc).1
   rw [hn] at h4
   exact h4
  have h5 := condW_of h4 (w_not (w_lt w_lit (w_len_list (w_arg rfl))))
  rw [List.length_map] at h5
  refine Nat.le_of_not_lt fun q => ?_
  have q' : (n : Int) < ((ns.length : Nat) : Int) := by omega
  first
   | (rw [decide_eq_true q'] at h5; exact absurd h5 (by decide))
   | (simp at h5; omega)
 cases hwl with
 | cons w1 w2 =>
  cases w2
  cases w1 with
  | list ho hall => exact ⟨_, _, ns, rfl, rfl, ho, wV ns _ hall, hlen⟩
theorem z3H (l : OpenLaw) (args : List WData) : l.row.toRowW.claim.post args (.bool true) args = true :=
 postW_of (r := l.row.toRowW) (X := (true == true))
  (show WShape.has [] (.bool true) .bool = true by first | rfl | decide | simp [WShape.has, WShape.arms, WShape.armsAll])
  (show (WTm.eq .res (.lit (.bool true))).value [] { args := args, res := some (.bool true), after := args } = some (.bool (true == true)) from w_eq_bool (w_res rfl) w_lit) rfl
theorem attach_call {l : OpenLaw} {n : Nat} {q : Program} {loose : List Str} {XP : (Str → Option Value) → Heap → Prop} {YP : World → Heap → Prop} {d : DefRec}
  (hn : l.most = some n) (hdf : d.params.defaults = [])
  (call : ∀ (w : World) (s₀ s₁ : Shared) (mg mb : Str → Option Value) (fa : Addr) (o : Obj) (pm cd doc : Value) (a : Addr) (vs : List Value) (ns : List Int),
   Ground q loose [] XP w s₀ mg mb s₁.heap → YP w s₁.heap →
   s₁.heap.get? fa = some o → o.data = .func (docDef d.name d.params d.body d.scope pm cd doc) → s₁.heap.CodeRec cd d.name → mg d.name = some (.ref fa) →
   s₁.heap.get? a = some { cls := .type "list", data := .seq vs.toArray } → IntsAre vs ns → ns.length ≤ n → s₁.gens = #[] →
   codeAny (model l.prog w) callerA (.call (.ref fa) ⟨[.ref a], []⟩) (fun r s' => r = .ok (.ret (.bool true)) ∧ OldK s₁.heap s'.heap ∧ s'.os = s₁.os ∧ AllBare s'.gens) s₁) :
  WalkO q loose XP YP l.row.toRowW d [] (fun f vs => PySem.call f vs) := by
 intro w s₀ s₁ mg mb G Y fa o pm cd doc dV kV ho hd hcd hD hmg hg args vals as hpre hlay hrd hwl hlo
 obtain rfl : dV = .none := Dflts.none hD hdf
 obtain rfl : kV = .none := Dflts.noKw hD
 obtain ⟨a, vs, ns, rfl, rfl, hobj, hints, hlen⟩ := z2o hn hpre hwl
 refine enter_call (codeAny_mono (call w s₀ s₁ mg mb fa o pm cd doc a vs ns G Y ho (fd_plain hd) hcd hmg hobj hints hlen hg) fun r s' hq => ?_)
 obtain ⟨rfl, h2, h3, h4⟩ := hq
 exact ⟨.inl ⟨.bool true, .bool true, [], rfl, fun _ => rfl, .bool true, z3H l _, fun _ => ⟨List.Pairwise.nil, fun _ hm => (nomatch hm)⟩⟩, h2, h3, h4⟩
section
variable {prog : Program} {w : World} {A : Around} {E : Value → Shared → Prop} {s : Shared} {K : Frag}
noncomputable def z9U (h : Heap) (L d : Addr) : List (Addr × Obj) := (List.range h.objs.size).filterMap fun a => if a = L ∨ a = d then none else (h.get? a).map fun o => (a, o)
end
end Att
namespace L2
open PySem PySem.Spec PyProof.Rows
theorem z0v : ∀ {vs : List Value} {ns : List Int}, IntsAre vs ns → Vals (ns.map V.int) vs
 | _, _, .nil => .nil
 | _, _, .cons n t h => .cons ⟨t, rfl⟩ (z0v h)
noncomputable def Only (H : Hp) : Prop := ∀ b, H b = none ∨ ∃ o xs, H b = some (.frz o (.lst xs))
theorem z4N {P : Program} {w : World} {K : W.Frag} {mg mb : Str → Option Value} {CX : CXT} {k : Nat} {fa a : Addr} {fd : FuncData} {x : Str} {sp : Sp} {s₁ : Shared} {vs : List Value} {ns : List Int}
  (KX : K.In s₁.heap) (hns : s₁.heap.Ns mainGlobals mg) (hb : s₁.heap.Ns builtinsNs mb) (hbb : ∀ x : Str, x ≠ "__name__" → mb x = bootBuiltins x) (hlim : s₁.heap.NoLimit) (hg : s₁.gens = #[])
  (ha : s₁.heap.get? a = some { cls := .type "list", data := .seq vs.toArray }) (hi : IntsAre vs ns) (hl : ns.length ≤ sizeLine) (hr : Room k callerA)
  (F : ∀ base : Heap, K.In base → base.Ns mainGlobals mg → FnOk P w K mg base CX k fa fd [x] sp) (hbind : ∀ (s : Shared) (u : Value), BindsTo s fd ⟨[u], []⟩ [(x, u)])
  (hsp : ∀ H : Hp, Only H → SqL K H a (ns.map V.int) → sp [.ref a] H (fun v _ => v = .bl true) fun _ _ _ => False)
  (hCX : ∀ H e s', CX [] H s₁ (fun _ _ _ => False) e s' → False) :
  codeAny (model P w) callerA (.call (.ref fa) ⟨[.ref a], []⟩) (fun r s' => r = .ok (.ret (.bool true)) ∧ OldK s₁.heap s'.heap ∧ s'.os = s₁.os ∧ AllBare s'.gens) s₁ := by
 have rv := z0v hi
 have lenV := hi.length
 have core : ∀ H : Hp, Only H → SqL K H a (ns.map V.int) → HOk P w H s₁.heap → (∀ b, H b ≠ none → b = a) → (H a ≠ none → K.lookup a = none) →
   codeAny (model P w) callerA (.call (.ref fa) ⟨[.ref a], []⟩) (fun r s' => r = .ok (.ret (.bool true)) ∧ OldK s₁.heap s'.heap ∧ s'.os = s₁.os ∧ AllBare s'.gens) s₁ := by
  intro H hO hS hok hA hK
  have base_of : ∀ {b : Addr} {o : Obj}, s₁.heap.get? b = some o → H b = none → (hidT s₁.heap H).get? b = some o := fun e n => z4Y e n
  have noA : ∀ {b : Addr} {o : Obj} {es : Array DictEntry} {ep : Nat}, s₁.heap.get? b = some o → o.data = .dict es ep → H b = none := fun {b o es ep} e d => by
   cases q : H b with
   | none => rfl
   | some u =>
    have e' : b = a := hA b (by rw [q]; simp)
    subst e'
    rw [ha] at e; cases e
    have d' : Data.seq vs.toArray _ = Data.dict es ep := d
    cases d'
  have nsK : ∀ {b : Addr} {m : Str → Option Value}, s₁.heap.Ns b m → (hidT s₁.heap H).Ns b m := fun {b m} ⟨o, es, ep, e, d, r⟩ => ⟨o, es, ep, base_of e (noA e d), d, r⟩
  have hKb : K.In (hidT s₁.heap H) := fun b o e => base_of (KX b o e) (by
   cases q : H b with
   | none => rfl
   | some u =>
    have e' : b = a := hA b (by rw [q]; simp)
    subst e'
    rw [hK (by rw [q]; simp)] at e; cases e)
  have hM : Mod K mg (hidT s₁.heap H) := ⟨hKb, nsK hns, ⟨mb, nsK hb, hbb⟩, let ⟨mc, h1, h2⟩ := hlim; ⟨mc, nsK h1, h2⟩⟩
  have e0 : Env0 P w K mg (hidT s₁.heap H) callerA [] s₁ H := ⟨rfl, hM, fun b o e => z72 e, Nat.le_of_eq (z3D _ _), trivial, fun b hb => absurd (show b ∈ ([] : List Addr) from hb) (by simp), hok, .of_eq hg⟩
  refine codeAny_mono ((F _ hKb (nsK hns)).run callerA [] s₁ H ⟨[.ref a], []⟩ [.ref a] [.ref a] _ _ hr e0 (hbind s₁ (.ref a)) (.cons rfl .nil) (hsp H hO hS)) fun r s' h => ?_
  cases r with
  | error e => exact (hCX H e s' h).elim
  | ok fl =>
   cases fl with
   | next => exact False.elim h
   | brk => exact False.elim h
   | cont => exact False.elim h
   | ret u =>
    obtain ⟨v, H', os, bare, un, hok', r', q⟩ := h
    have q' : v = .bl true := q
    subst q'
    obtain rfl : u = Value.bool true := r'
    refine ⟨rfl, OldK.of_keep fun b o e => ?_, os, bare⟩
    cases q : H b with
    | none => exact un.keep b o e q (by intro z; exact absurd (show b ∈ ([] : List Addr) from z) (by simp)) (by simp)
    | some u =>
     rcases hO b with z | ⟨ob, xs, z⟩
     ·rw [q] at z; cases z
     ·have z2 := un.frzs b ob _ z
      obtain ⟨e1, _⟩ := hok b _ z
      obtain ⟨e2, _⟩ := hok' b _ z2
      rw [e] at e1; cases e1
      exact e2
 cases hk : K.lookup a with
 | some o =>
  have e := KX a o hk
  rw [ha] at e
  cases e
  refine core (fun _ => none) (fun _ => .inl rfl) (.inr ⟨_, vs.toArray, _, hk, rfl, rfl, rfl, by rw [List.size_toArray, lenV]; exact hl, by simpa using rv⟩) (fun b u z => by have z' : (none : Option HO) = some u := z; cases z') (fun b z => absurd rfl z) fun z => absurd rfl z
 | none =>
  refine core (fun b => if b = a then some (.frz { cls := .type "list", data := .seq vs.toArray } (.lst (ns.map V.int))) else none) (fun b => ?_) (.inl (.inr ⟨{ cls := .type "list", data := .seq vs.toArray }, if_pos rfl⟩)) (fun b u z => ?_) (fun b z => ?_) fun _ => hk
  ·by_cases hb : b = a
   ·exact .inr ⟨_, _, if_pos hb⟩
   ·exact .inl (if_neg hb)
  ·by_cases hb : b = a
   ·have z' := (if_pos hb).symm.trans z
    cases z'
    subst hb
    exact ⟨ha, by rw [List.length_map]; exact hl, vs, _, rv, ha⟩
   ·have z' := (if_neg hb).symm.trans z
    cases z'
  ·by_cases hb : b = a
   ·exact hb
   ·exact absurd (if_neg hb) z
end L2
namespace L2
open PySem PySem.Spec PyProof.Rows
noncomputable abbrev KOf {K : W.Frag} {h : Heap} (_ : K.In h) : W.Frag := K
theorem walk_of {l : W.OpenLaw} {n k : Nat} {q : Program} {loose : List Str} {XP : (Str → Option Value) → Heap → Prop} {YP : World → Heap → Prop} {d : DefRec} {K : Params → W.Frag} {CX : World → CXT} {sp : World → Sp} {x : Str}
  (hn : l.most = some n) (hn2 : n ≤ sizeLine) (hdf : d.params.defaults = []) (hr : Room k callerA)
  (hY : ∀ (w : World) (h : Heap), YP w h → (K w.params).In h)
  (F : ∀ (w : World) (mg : Str → Option Value) (fa : Addr) (h : Heap), (K w.params).In h → h.Ns mainGlobals mg → mg d.name = some (.ref fa) →
   ∃ fd : FuncData, (∀ (s : Shared) (u : Value), BindsTo s fd ⟨[u], []⟩ [(x, u)]) ∧
    ∀ base : Heap, (K w.params).In base → base.Ns mainGlobals mg → FnOk l.prog w (K w.params) mg base (CX w) k fa fd [x] (sp w))
  (hsp : ∀ (w : World) (H : Hp) (a : Addr) (ns : List Int), ns.length ≤ n → Only H → SqL (K w.params) H a (ns.map V.int) → sp w [.ref a] H (fun v _ => v = .bl true) fun _ _ _ => False)
  (hCX : ∀ (w : World) (H : Hp) (s : Shared) (e : Value) (s' : Shared), CX w [] H s (fun _ _ _ => False) e s' → False) :
  W.WalkO q loose XP YP l.row.toRowW d [] (fun f vs => PySem.call f vs) := by
 refine Att.attach_call hn hdf fun w s₀ s₁ mg mb fa o pm cd doc a vs ns G Y ho hd hcd hmg hobj hints hlen hg => ?_
 have KX := hY w _ Y
 obtain ⟨fd, hb, hF⟩ := F w mg fa _ KX G.T.g hmg
 exact z4N KX G.T.g G.T.b G.T.builtins G.T.nolimit hg hobj hints (Nat.le_trans hlen hn2) hr hF hb (fun H hO hS => hsp w H a ns hlen hO hS) fun H e s' => hCX w H s₁ e s'
end L2
/- THE LAST THEOREM (shape; LID, My.* are yours):
   My.Adr: a structure of the addresses that your layer names (classes, functions); My.Txt K t: a structure (Prop) of the equations over K;
   My.txt_mk : {K} {implicit addresses ..} (e1 : nsIn K mainGlobals "law" = some (some (.ref f))) (e2 : K.lookup f = some ⟨oc, od, .func (fnOf "law" "law" params body scope dV kV doc pm an cdv ct), sl⟩) (e3 : codeIn K cdv "law" = true) .. : ∃ t, My.Txt K t
set_option maxRecDepth 100000 in
set_option maxHeartbeats 0 in
theorem PySem.Challenge.cw_LID_holds : PySem.Challenge.rw_LID.Holds := by
 w_on; o_law; k_head; (case hw => w_witness2)
 k_fill
 refine L2.walk_of (l := PySem.Challenge.rw_LID) (n := 63) (k := 40) (x := "script") (CX := fun w => ..) (sp := fun _ => My.sp_law) rfl (by decide) rfl ⟨rfl, by decide, by decide⟩ (fun w h Y => W.kIn_of Y) ?F ?S ?C
 case F =>
  intro w mg fa h KX G hmg
  have T : ∃ t, My.Txt (L2.KOf KX) t := by
   dsimp only [L2.KOf]                          -- K must stand as «<heap const> w.params» for k_is
   refine' My.txt_mk ?e1 ?e2 ?e3 ..
   (case e1 => W.k_is)                    -- in the order: a name -> its address -> its object -> its parts
   (case e2 => W.k_is)
   ..
  obtain ⟨t, T⟩ := T
  have e0 := hmg.symm.trans (W.mg_of KX G T.law)
  cases e0                                       -- fa is the law's own address
  exact ⟨_, fun s u => .of_eq rfl, fun base kb nb => My.law_fn T kb nb⟩     -- if «.of_eq rfl» comes too early: refine' ⟨_, ?b, fun base kb nb => My.law_fn T kb nb⟩; exact fun s u => .of_eq rfl
 case S => exact fun w H a ns hl hO hS => ..
 case C => exact ..
(the tactic k_is has no namespace: write k_is) -/
namespace L2
open PySem PySem.Spec PyProof.Rows
noncomputable def z7 (s : Stmt) : Arguments := match s with
 | .FunctionDef _ a _ _ _ _ _ _ _ _ => a
 | _ => { posonlyargs := [], args := [], vararg := none, kwonlyargs := [], kw_defaults := [], kwarg := none, defaults := [] }
noncomputable def z6 (s : Stmt) : List Stmt := match s with
 | .FunctionDef _ _ b _ _ _ _ _ _ _ => b
 | _ => []
noncomputable def z3 (s : Stmt) : Scope := match s with
 | .FunctionDef _ _ _ _ _ _ sc _ _ _ => sc
 | _ => { kind := .function, names := [], isGenerator := false, isCoroutine := false }
noncomputable abbrev CX0 : CXT := fun _ _ _ _ _ _ => False
noncomputable abbrev E0 : XK := fun _ _ _ => False
theorem zU {X : Cx} : ua CX0 X E0 := fun _ _ _ _ _ _ _ h => h.elim
structure Fun (K : W.Frag) (x qual : Str) (st : Stmt) (f : Addr) (fd : FuncData) : Prop where
 ex : ∃ (oc : Value) (od : Option Addr) (kV doc pm : Value) (an : Option Addr) (cdv ct : Value) (osl : Array (Option Value)),
  fd = W.fnOf x qual (z7 st) (z6 st) (z3 st) .none kV doc pm an cdv ct ∧ K.lookup f = some ⟨oc, od, .func fd, osl⟩ ∧ W.codeIn K cdv qual = true
 kp : W.keepIn K (.ref f) = true
section
variable {P : Program} {w : World} {K : W.Frag} {mg : Str → Option Value} {base : Heap}
theorem Fun.ok {x qual : Str} {st : Stmt} {f : Addr} {fd : FuncData} {N ps : List Str} {k : Nat} {sp : Sp} (F : Fun K x qual st f fd) (S : FnScope N ps (z3 st)) (len : ∀ vs H Q E, sp vs H Q E → vs.length = ps.length)
  (hbody : ∀ (cdv : Value) (A : Around) (outer : List Env) (s : Shared) (H : Hp) (vs : List V) (Q : VK) (E : XK), Room k (A.deeper (envOfC qual (z3 st) s.heap.objs.size f cdv)) → sp vs H Q E →
   ∃ t, PSs (cxOf CX0 P w K mg base N qual (z3 st) f cdv A outer s H E).nox (z6 st) t ∧ t { nx := fun _ H' => Q .non H', rt := Q } (start N vs) H) : FnOk P w K mg base CX0 (k + 1) f fd ps sp := by
 obtain ⟨oc, od, kV, doc, pm, an, cdv, ct, osl, rfl, lk, hcd⟩ := F.ex
 refine z8j lk hcd S len fun A outer s H vs Q E hr hsp => ?_
 obtain ⟨t, h, q⟩ := hbody cdv A outer s H vs Q E hr hsp
 exact ⟨t, h.nox, q⟩
theorem Fun.binds {x qual : Str} {st : Stmt} {f : Addr} {fd : FuncData} {ps : List Str} (F : Fun K x qual st f fd)
  (h : ∀ (kV doc pm : Value) (an : Option Addr) (cdv ct : Value) (us : List Value), us.length = ps.length → bindArgs (W.fnOf x qual (z7 st) (z6 st) (z3 st) .none kV doc pm an cdv ct) ⟨us, []⟩ = pure (ps.zip us)) : Binds K fd ps [] := by
 obtain ⟨oc, od, kV, doc, pm, an, cdv, ct, osl, rfl, lk, hcd⟩ := F.ex
 exact .all (h kV doc pm an cdv ct)
theorem zG {x qual : Str} {st : Stmt} {f : Addr} {oc : Value} {od an : Option Addr} {osl : Array (Option Value)} {kV doc pm cdv ct : Value} (l : K.lookup f = some ⟨oc, od, .func (W.fnOf x qual (z7 st) (z6 st) (z3 st) .none kV doc pm an cdv ct), osl⟩)
  (c : W.codeIn K cdv qual = true) (k : W.keepIn K (.ref f) = true) : Fun K x qual st f (W.fnOf x qual (z7 st) (z6 st) (z3 st) .none kV doc pm an cdv ct) := ⟨⟨oc, od, kV, doc, pm, an, cdv, ct, osl, rfl, l, c⟩, k⟩
end
theorem zm {A : Around} {k : Nat} (hr : Room k A) : A.units + 1 < cLine := Nat.lt_of_le_of_lt (Nat.add_le_add_left (by decide : 1 ≤ 64) _) hr.units
section
variable {X : Cx}
theorem pv (i : Nat) {x : Str} {pos : Pos} (hN : X.N[i]? = some x := by rfl) (hv : Vis X.env.scope x := by first | exact Or.inl rfl | exact Or.inr (Or.inl rfl) | exact Or.inr (Or.inr rfl)) (hd : (x == ("__debug__" : Str)) = false := by decide)
  (hcd : (x == ("__classdict__" : Str)) = false := by decide) : PE X (.Name x pos) (tVar i) := z7W hN hv hd hcd
end
theorem ite2 {c A B : Prop} [Decidable c] (h1 : c → A) (h2 : ¬ c → B) : if c then A else B := by
 by_cases h : c
 ·rw [if_pos h]
  exact h1 h
 ·rw [if_neg h]
  exact h2 h
noncomputable def Same (H H' : Hp) : Prop := ∀ b o, H b = some o → H' b = some o
theorem Same.refl (H : Hp) : Same H H := fun _ _ h => h
theorem Same.trans {H H1 H2 : Hp} (a : Same H H1) (b : Same H1 H2) : Same H H2 := fun c o h => b c o (a c o h)
theorem Same.free {H H' : Hp} (e : Same H H') {l : Addr} (h : H' l = Option.none) : H l = Option.none := by
 cases q : H l with
 | none => rfl
 | some o =>
  rw [e l o q] at h
  cases h
theorem Same.seq {K : W.Frag} {H H' : Hp} {a : Addr} {xs : List V} (e : Same H H') (h : SqL K H a xs) : SqL K H' a xs := by
 rcases h with (h | ⟨o, h⟩) | h
 ·exact .inl (.inl (e _ _ h))
 ·exact .inl (.inr ⟨o, e _ _ h⟩)
 ·exact .inr h
section
variable {κ : Type} [DecidableEq κ]
end
end L2
set_option maxHeartbeats 4000000
namespace L2
open PySem PySem.Spec PyProof.Rows
noncomputable def zw (cells : List (Str × Addr)) : List (Str × NameKind) → List (Str × Addr) → List (Str × Addr)
 | [], acc => acc
 | (n, k) :: r, acc => if k = .free then zw cells r ((n, (cells.lookup n).getD 0) :: acc) else zw cells r acc
theorem z4L {scope : Scope} {env : Env} (h : ∀ n, (n, NameKind.free) ∈ scope.names → ∃ c, env.cells.lookup n = some c) :
  closureFor scope env = pure (zw env.cells scope.names []) := by
 simp only [closureFor]
 generalize scope.names = l at h
 generalize ([] : List (Str × Addr)) = acc
 induction l generalizing acc with
 | nil => rfl
 | cons x r ih =>
  obtain ⟨n, k⟩ := x
  rw [List.forIn_cons]
  by_cases hk : k = .free
  ·subst hk
   obtain ⟨c, hc⟩ := h n List.mem_cons_self
   have e : cellOf env n = pure c := by unfold cellOf; rw [hc]
   simp only [beq_self_eq_true, if_true, e, pure_bind]
   have := ih (fun m hm => h m (List.mem_cons_of_mem _ hm)) ((n, c) :: acc)
   unfold zw
   rw [if_pos rfl, hc]
   exact this
  ·have hb : (k == NameKind.free) = false := by simpa using hk
   simp only [hb, Bool.false_eq_true, if_false, pure_bind]
   unfold zw
   rw [if_neg hk]
   exact ih (fun m hm => h m (List.mem_cons_of_mem _ hm)) acc
theorem yM {cells : List (Str × Addr)} : ∀ {l : List (Str × NameKind)} {acc : List (Str × Addr)} {n : Str} {c : Addr}, (n, c) ∈ zw cells l acc → (n, c) ∈ acc ∨ ((n, NameKind.free) ∈ l ∧ c = (cells.lookup n).getD 0)
 | [], _, _, _, h => .inl h
 | (m, k) :: r, acc, n, c, h => by
  unfold zw at h
  split at h
  next hk =>
   rcases yM h with h | ⟨h, e⟩
   ·rcases List.mem_cons.mp h with e | h
    ·cases e; subst hk; exact .inr ⟨List.mem_cons_self, rfl⟩
    ·exact .inl h
   ·exact .inr ⟨List.mem_cons_of_mem _ h, e⟩
  next =>
   rcases yM h with h | ⟨h, e⟩
   ·exact .inl h
   ·exact .inr ⟨List.mem_cons_of_mem _ h, e⟩
theorem yU {α : Type} : ∀ {l : List (Str × α)} {n : Str} {c : α}, (n, c) ∈ l → ∃ c', l.lookup n = some c'
 | (k, v) :: r, n, c, h => by
  rw [List.lookup_cons]
  cases hb : n == k with
  | true => exact ⟨v, rfl⟩
  | false =>
   rcases List.mem_cons.mp h with e | h
   ·cases e; simp at hb
   ·exact yU h
theorem xH {cells : List (Str × Addr)} : ∀ {l : List (Str × NameKind)} {acc : List (Str × Addr)} {n : Str}, ((n, NameKind.free) ∈ l ∨ ∃ c, (n, c) ∈ acc) → ∃ c, (n, c) ∈ zw cells l acc
 | [], _, _, h => by
  rcases h with h | h
  ·exact nomatch h
  ·exact h
 | (m, k) :: r, acc, n, h => by
  unfold zw
  split
  next hk =>
   refine xH ?_
   rcases h with h | ⟨c, h⟩
   ·rcases List.mem_cons.mp h with e | h
    ·cases e; exact .inr ⟨_, List.mem_cons_self⟩
    ·exact .inl h
   ·exact .inr ⟨c, List.mem_cons_of_mem _ h⟩
  next hk =>
   refine xH ?_
   rcases h with h | h
   ·rcases List.mem_cons.mp h with e | h
    ·cases e; exact absurd rfl hk
    ·exact .inl h
   ·exact .inr h
theorem zk : ∀ (l : List (Str × NameKind)) (n : Nat) (acc : List (Str × Addr)), cellsFrom n l acc = cellsFrom n l [] ++ acc
 | [], _, _ => rfl
 | (m, k) :: r, n, acc => by
  unfold cellsFrom
  split
  ·rw [zk r (n + 1) ((m, n) :: acc), zk r (n + 1) [(m, n)], List.append_assoc]; rfl
  ·exact zk r n acc
theorem yi : ∀ {l : List (Str × NameKind)} {n : Nat} {acc : List (Str × Addr)} {x : Str} {c : Addr}, (x, c) ∈ cellsFrom n l acc → (x, c) ∈ acc ∨ ((x, NameKind.cell) ∈ l ∧ n ≤ c)
 | [], _, _, _, _, h => .inl h
 | (m, k) :: r, n, acc, x, c, h => by
  unfold cellsFrom at h
  split at h
  next hk =>
   rcases yi h with h | ⟨h, e⟩
   ·rcases List.mem_cons.mp h with e | h
    ·cases e; rw [beq_iff_eq.mp hk]; exact .inr ⟨List.mem_cons_self, Nat.le_refl _⟩
    ·exact .inl h
   ·exact .inr ⟨List.mem_cons_of_mem _ h, by omega⟩
  next =>
   rcases yi h with h | ⟨h, e⟩
   ·exact .inl h
   ·exact .inr ⟨List.mem_cons_of_mem _ h, e⟩
theorem y6 {scope : Scope} {env : Env} {y : Str} : (relabel scope env).names.lookup y = (scope.names.lookup y).map fun k => if (k == .free && env.scope.kind == .function && env.kindOf y == some .cell) = true then .cell else k := by
 show (scope.names.map _).lookup y = _
 generalize scope.names = l
 induction l with
 | nil => rfl
 | cons x r ih =>
  obtain ⟨n, k⟩ := x
  rw [List.map_cons, List.lookup_cons]
  cases hb : y == n with
  | true =>
   have e := beq_iff_eq.mp hb
   subst e
   by_cases hc : (k == NameKind.free && env.scope.kind == .function && env.kindOf y == some .cell) = true
   ·simp only [hc, if_true, List.lookup_cons, beq_self_eq_true, Option.map_some]
   ·simp only [hc, Bool.false_eq_true, if_false, List.lookup_cons, beq_self_eq_true, Option.map_some]
  | false =>
   by_cases hc : (k == NameKind.free && env.scope.kind == .function && env.kindOf n == some .cell) = true
   ·simp only [hc, if_true, List.lookup_cons, hb]
    exact ih
   ·simp only [hc, Bool.false_eq_true, if_false, List.lookup_cons, hb]
    exact ih
noncomputable def wF (N : List Str) (sc scope : Scope) (x : Str) (N' : List Str) : Bool :=
 scope.kind == .function && (N'.length == N.length + 1) && decide N'.Nodup && N'[N.length]? == some x
 && (scope.names.lookup x == some .local || scope.names.lookup x == some .cell)
 && scope.names.all (fun p => scope.names.lookup p.1 == some p.2)
 && scope.names.all (fun p => !(p.2 == .free) || sc.names.lookup p.1 == some .cell || sc.names.lookup p.1 == some .free)
 && (List.range N.length).all fun i => match N'[i]? with
  | none => true
  | some y => match scope.names.lookup y with
   | none => true
   | some .free => N[i]? == some y
   | some _ => false
structure CompOk (N : List Str) (sc scope : Scope) (x : Str) (N' : List Str) : Prop where
 kind : scope.kind = .function
 len : N'.length = N.length + 1
 nd : N'.Nodup
 here : N'[N.length]? = some x
 tgt : scope.names.lookup x = some .local ∨ scope.names.lookup x = some .cell
 uniq : ∀ p ∈ scope.names, scope.names.lookup p.1 = some p.2
 cap : ∀ y, (y, NameKind.free) ∈ scope.names → sc.names.lookup y = some .cell ∨ sc.names.lookup y = some .free
 see : ∀ i y, i < N.length → N'[i]? = some y → scope.names.lookup y ≠ none → scope.names.lookup y = some .free ∧ N[i]? = some y
theorem CompOk.of {N : List Str} {sc scope : Scope} {x : Str} {N' : List Str} (h : wF N sc scope x N' = true) : CompOk N sc scope x N' := by
 unfold wF at h
 simp only [Bool.and_eq_true, Bool.or_eq_true, beq_iff_eq, decide_eq_true_eq, List.all_eq_true] at h
 obtain ⟨⟨⟨⟨⟨⟨⟨h1, h2⟩, h3⟩, h4⟩, h5⟩, h6⟩, h7⟩, h8⟩ := h
 refine ⟨h1, h2, h3, h4, h5, h6, fun y hy => ?_, fun i y hi e hn => ?_⟩
 ·rcases h7 _ hy with (h | h) | h
  ·simp at h
  ·exact .inl h
  ·exact .inr h
 ·have q := h8 i (List.mem_range.mpr hi)
  rw [e] at q
  dsimp only at q
  cases e2 : scope.names.lookup y with
  | none => exact absurd e2 hn
  | some k =>
   rw [e2] at q
   cases k <;> first | exact (Bool.false_ne_true q).elim | exact ⟨rfl, beq_iff_eq.mp q⟩
noncomputable def zL (X : Cx) (scope : Scope) (C : Addr) : List (Str × Addr) := cellsFrom (C + 1) scope.names (zw X.env.cells scope.names [])
noncomputable def zZ (X : Cx) (scope : Scope) (N' : List Str) (C : Addr) (s : Shared) (H : Hp) (fp : List Addr) : Cx :=
 { X with N := N', s₀ := s, H₀ := H, env := compEnvC scope (zL X scope C) C X.env, outer := X.stack, ex := fp, fn := fun y => scope.names.lookup y == some .cell, pn := [], xe := fun _ _ => False }
section
variable {X : Cx} {pins : List (Addr × Obj)} {σ : St} {H : Hp} {s : Shared} {scope : Scope} {N' : List Str} {x : Str} {fp : List Addr}
theorem zY (ok : X.Ok) (h : CompOk X.N X.env.scope scope x N') {C : Nat} {y : Str} {c : Nat} (e : (y, c) ∈ zL X scope C) :
  (scope.names.lookup y = some .free ∧ X.env.cells.lookup y = some c) ∨ (scope.names.lookup y = some .cell ∧ C + 1 ≤ c) := by
 rcases yi e with z | ⟨z, l⟩
 ·rcases yM z with z | ⟨z, l⟩
  ·exact nomatch z
  ·obtain ⟨c', e'⟩ := ok.has y (h.cap y z)
   rw [e'] at l
   exact .inl ⟨h.uniq _ z, by rw [e', l]; rfl⟩
 ·exact .inr ⟨h.uniq _ z, l⟩
theorem xA (ok : X.Ok) (h : CompOk X.N X.env.scope scope x N') {C : Addr} {y : Str} (e : scope.names.lookup y = some .free) : ∃ c, (zL X scope C).lookup y = some c ∧ X.env.cells.lookup y = some c := by
 obtain ⟨c, m⟩ := xH (cells := X.env.cells) (l := scope.names) (acc := []) (n := y) (.inl (mem_of_lookup e))
 have m' : (y, c) ∈ zL X scope C := by unfold zL; rw [zk]; exact List.mem_append_right _ m
 obtain ⟨c', e'⟩ := yU m'
 rcases zY ok h (mem_of_lookup e') with ⟨_, z⟩ | ⟨z, _⟩
 ·exact ⟨c', e', z⟩
 ·rw [e] at z; cases z
theorem uL {C : Addr} {y : Str} (e : scope.names.lookup y = some .cell) : ∃ c, (zL X scope C).lookup y = some c := Option.isSome_iff_exists.mp (W.cellsFrom_some _ _ _ (.inl e))
theorem wU (h : CompOk X.N X.env.scope scope x N') {C : Addr} {y : Str} {k : NameKind} (e : (compEnvC scope (zL X scope C) C X.env).kindOf y = some k) :
  (scope.names.lookup y = some k ∧ k ≠ .free) ∨ (scope.names.lookup y = some .free ∧ (k = .cell ∨ k = .free)) := by
 have e' : (relabel scope X.env).names.lookup y = some k := e
 rw [y6] at e'
 cases q : scope.names.lookup y with
 | none => rw [q] at e'; cases e'
 | some j =>
  rw [q] at e'
  have e2 := Option.some.inj e'
  dsimp only at e2
  by_cases hj : j = .free
  ·subst hj
   right
   refine ⟨rfl, ?_⟩
   split at e2
   ·exact .inl e2.symm
   ·exact .inr e2.symm
  ·left
   have hb : (j == NameKind.free) = false := by simpa using hj
   rw [hb] at e2
   simp only [Bool.false_and, Bool.false_eq_true, if_false] at e2
   subst e2
   exact ⟨rfl, hj⟩
theorem z5W (I : Inv X pins σ H s) (h : CompOk X.N X.env.scope scope x N') (hf : ∀ b ∈ fp, FpOk X pins H b) (hob : ∀ b ∈ fp, ∃ o, s.heap.get? b = some o) {g : Heap} {C : Nat} {tk : Nat} (hC : s.heap.objs.size ≤ C)
  (hk : ∀ b o, s.heap.get? b = some o → g.get? b = some o) (hn : ∃ m, g.Ns C m) (hcell : ∀ n c, (n, c) ∈ cellsFrom (C + 1) scope.names [] → g.IsCell c none) (hap : (cellsFrom (C + 1) scope.names []).Pairwise fun p q => p.2 ≠ q.2) :
  Inv (zZ X scope N' C s H fp) [] (σ ++ [none]) H { s with heap := g, toks := tk } := by
 have ok := I.ok
 have old : ∀ y (c : Nat), X.env.cells.lookup y = some c → c < s.heap.objs.size := fun y c e => let ⟨_, z⟩ := I.cell y c e; z.lt
 have sub : ∀ b, b ∈ frs X.stack → b ∉ fp := fun b hb z => by
  have f := hf b z
  rcases List.mem_cons.mp (I.stkSub b hb) with e | e
  ·exact f.2.1 e
  ·exact f.2.2.1 e
 refine ⟨⟨ok.mod, h.kind, ok.glob, ok.blt, hC, fun y z c e1 e2 => ?_, fun y hy => ?_, fun y c hfn e => ?_, ok.hd, ok.frames, .inl rfl, fun b hb => ⟨?_, fun y c e => ?_⟩, I.bs, Nat.le_trans ok.bsz I.sz, fun b o e z => ?_, fun b z hb => sub b hb z, I.stack, I.stkFree⟩,
  rfl, I.bare, Un.kept hk, ?_, fun y c e => ?_, I.hok.fresh hC, fun y c e => ?_, fun p hp => (nomatch hp), I.hok.kept hk, ?_⟩
 ·-- apart
  have m1 : (y, c) ∈ zL X scope C := mem_of_lookup e1
  have m2 : (z, c) ∈ zL X scope C := mem_of_lookup e2
  rcases zY ok h m1 with ⟨a1, b1⟩ | ⟨a1, b1⟩ <;> rcases zY ok h m2 with ⟨a2, b2⟩ | ⟨a2, b2⟩
  ·exact ok.inj y z c b1 b2
  ·have := old y c b1; omega
  ·have := old z c b2; omega
  ·unfold zL at m1 m2
   rw [zk] at m1 m2
   have new : ∀ {q : Str}, (q, c) ∈ cellsFrom (C + 1) scope.names [] ++ zw X.env.cells scope.names [] → scope.names.lookup q = some .cell → (q, c) ∈ cellsFrom (C + 1) scope.names [] := fun {q} m a => by
    rcases List.mem_append.mp m with m | m
    ·exact m
    ·rcases yM m with m | ⟨m, _⟩
     ·exact nomatch m
     ·rw [h.uniq _ m] at a; cases a
   exact name_of_addr hap (new m1 a1) (new m2 a2)
 ·have hy' : (∃ k, (compEnvC scope (zL X scope C) C X.env).kindOf y = some k ∧ (k = .cell ∨ k = .free)) := hy.elim (fun e => ⟨_, e, .inl rfl⟩) fun e => ⟨_, e, .inr rfl⟩
  obtain ⟨k, e, hk'⟩ := hy'
  rcases wU h e with ⟨e1, e2⟩ | ⟨e1, _⟩
  ·rcases hk' with rfl | rfl
   ·exact uL e1
   ·exact absurd rfl e2
  ·obtain ⟨c, e3, _⟩ := xA (C := C) ok h e1
   exact ⟨c, e3⟩
 ·have hfn' : scope.names.lookup y = some .cell := beq_iff_eq.mp hfn
  rcases zY ok h (mem_of_lookup (show (zL X scope C).lookup y = some c from e)) with ⟨a, _⟩ | ⟨_, b⟩
  ·rw [hfn'] at a; cases a
  ·show s.heap.objs.size ≤ c; omega
 ·obtain ⟨o, e⟩ := hob b hb
  exact Nat.ne_of_lt (Nat.lt_of_lt_of_le (Heap.lt_size e) hC)
 ·obtain ⟨o, eo⟩ := hob b hb
  rcases zY ok h (mem_of_lookup (show (zL X scope C).lookup y = some c from e)) with ⟨_, q⟩ | ⟨_, q⟩
  ·exact (hf b hb).2.2.2.2.1 y c q
  ·exact Nat.ne_of_gt (Nat.lt_of_lt_of_le (Heap.lt_size eo) (Nat.le_trans hC (Nat.le_trans (Nat.le_succ _) q)))
 ·rcases (hf b z).2.2.2.1 with q | q
  ·exact ok.noex b o e q
  ·have q1 := Heap.lt_size e
   exact absurd (Nat.lt_of_lt_of_le q1 (Nat.le_trans ok.bsz q)) (Nat.lt_irrefl _)
 ·-- what the names hold
  obtain ⟨m, hm⟩ := hn
  obtain ⟨m0, hn0, hl0⟩ := I.loc
  refine ⟨m, hm, fun i y v e1 e2 e3 => ?_⟩
  have hi : i < σ.length := by
   by_cases hi : i < σ.length
   ·exact hi
   ·rw [List.getElem?_append_right (by omega)] at e2
    cases q : i - σ.length with
    | zero => rw [q] at e2; cases e2
    | succ j => rw [q] at e2; cases e2
  rw [List.getElem?_append_left hi] at e2
  have e3' : scope.names.lookup y ≠ none := by
   have : ∃ k, (compEnvC scope (zL X scope C) C X.env).kindOf y = some k := by
    rcases e3 with z | z | z
    ·exact ⟨_, z⟩
    ·exact ⟨_, z⟩
    ·exact ⟨_, z⟩
   obtain ⟨k, z⟩ := this
   rcases wU h z with ⟨q, _⟩ | ⟨q, _⟩ <;> (rw [q]; simp)
  obtain ⟨q1, q2⟩ := h.see i y (by rw [← I.len]; exact hi) e1 e3'
  have cap := h.cap y (mem_of_lookup q1)
  have vis : Vis X.env.scope y := cap.elim (fun z => .inr (.inl z)) fun z => .inr (.inr z)
  obtain ⟨u, r, l⟩ := hl0 i y v q2 e2 vis
  refine ⟨u, r, .inr ?_⟩
  obtain ⟨c, z1, z2⟩ := xA (C := C) ok h q1
  have kd : ∃ k, (compEnvC scope (zL X scope C) C X.env).kindOf y = some k := by
   rcases e3 with z | z | z
   ·exact ⟨_, z⟩
   ·exact ⟨_, z⟩
   ·exact ⟨_, z⟩
  obtain ⟨k, kz⟩ := kd
  rcases l with ⟨l1, _⟩ | ⟨_, c', l2, l3⟩
  ·have l1' : X.env.scope.names.lookup y = some .local := l1
   rcases cap with z | z <;> (rw [l1'] at z; cases z)
  ·rw [z2] at l2
   cases l2
   refine ⟨?_, c, z1, l3.keeps hk⟩
   rcases wU h kz with ⟨q, _⟩ | ⟨_, q⟩
   ·rw [q1] at q; cases q; exact .inr kz
   ·rcases q with rfl | rfl
    ·exact .inl kz
    ·exact .inr kz
 ·have m1 : (y, c) ∈ zL X scope C := mem_of_lookup e
  rcases zY ok h m1 with ⟨_, q⟩ | ⟨a, q⟩
  ·obtain ⟨v, z⟩ := I.cell y c q
   exact ⟨v, z.keeps hk⟩
  ·unfold zL at m1
   rw [zk] at m1
   rcases List.mem_append.mp m1 with m1 | m1
   ·exact ⟨none, hcell y c m1⟩
   ·rcases yM m1 with m | ⟨m, _⟩
    ·exact nomatch m
    ·rw [h.uniq _ m] at a; cases a
 ·rcases zY ok h (mem_of_lookup (show (zL X scope C).lookup y = some c from e)) with ⟨_, q⟩ | ⟨_, q⟩
  ·exact I.freeC y c q
  ·exact I.hok.fresh (by omega)
 ·show (σ ++ [none]).length = N'.length
  rw [h.len, List.length_append, I.len]; rfl
noncomputable def tYes : TT := fun _ H Q => Q true H
noncomputable def PF (X : Cx) (ifs : List Expr) (t : TT) : Prop := (ifs = [] ∧ t = tYes) ∨ ∃ c, ifs = [c] ∧ PT X c t
theorem ww : PF X [] tYes := .inl ⟨rfl, rfl⟩
theorem z28 {c : Expr} {t : TT} (h : PT X c t) : PF X [c] t := .inr ⟨c, rfl, h⟩
structure CompW (J : It) (σ : St) (tc : TT) (te : TE) (n : Nat) (W : Nat → List V → Hp → Prop) : Prop where
 small : n ≤ sizeLine
 stop : ∀ ys H, W n ys H → J.stop n H
 go : ∀ i ys H, i < n → W i ys H → J.go i H
 step : ∀ i ys H v H', i < n → W i ys H → J.yld i H v H' → tc (σ ++ [some v]) H' fun b H3 => if b = true then te (σ ++ [some v]) H3 fun y H4 => W (i + 1) (ys ++ [y]) H4 else W (i + 1) ys H3
noncomputable abbrev zq (us : List Value) (n : Nat) : Obj := { cls := .type "list", data := .seq us.toArray n }
theorem z5R (σ : St) (o : Option V) (v : V) : (σ ++ [o]).set σ.length (some v) = σ ++ [some v] := by
 rw [List.set_append_right _ _ (Nat.le_refl _), Nat.sub_self]; rfl
theorem z2M (I : Inv X pins σ H s) (hf : ∀ b ∈ fp, FpOk X pins H b) {C D : Nat} {H' : Hp} {s' : Shared} {σ' : St} {pl : List (Addr × Obj)} {ys : List V} {us : List Value} {k : Nat} {g : Heap} (hCs : s.heap.objs.size ≤ C) (hDs : s.heap.objs.size ≤ D) (hCD : D ≠ C)
  (J : Inv (zZ X scope N' C s H fp) pl σ' H' s') (hD : s'.heap.get? D = some (zq us k)) (hDn : H' D = none) (r : Vals ys us) (hl : ys.length ≤ sizeLine) (hg : Heap.SameBut C s'.heap g) :
  Inv X pins σ (upd H' D (.lst ys)) { s' with heap := g } := by
 have hCn : H' C = none := J.free
 have un : Un (frs X.stack) fp H H' s.heap s'.heap := J.base
 have ne : ∀ b o, s.heap.get? b = some o → b ≠ C ∧ b ≠ D := fun b o e => ⟨Nat.ne_of_lt (Nat.lt_of_lt_of_le (Heap.lt_size e) hCs), Nat.ne_of_lt (Nat.lt_of_lt_of_le (Heap.lt_size e) hDs)⟩
 have keep : ∀ b o, b ≠ C → s'.heap.get? b = some o → g.get? b = some o := fun b o hb e => (hg.2 b hb).trans e
 refine I.call' (s' := { s' with heap := g }) (ch := fp) J.os ⟨fun b o e n hb hx => ?_, fun b o e n hb hx => ?_, fun b o e n hx => ?_, fun b o e hx => ?_, fun b xs e => ?_, fun b o u e => ?_, fun b ps e => ?_⟩ (fun b o e => ?_) J.bare fun b hb => ?_
 ·exact keep b o (ne b o e).1 (un.keep b o e n hb hx)
 ·obtain ⟨sl, q⟩ := un.slot b o e n hb hx
  exact ⟨sl, keep b _ (ne b o e).1 q⟩
 ·rw [zF (ne b o e).2]; exact un.free b o e n hx
 ·obtain ⟨o', q⟩ := un.there b o e hx
  exact ⟨o', keep b o' (ne b o e).1 q⟩
 ·have q := un.tups b xs e
  rw [zF (zS q hDn)]; exact q
 ·have q := un.frzs b o u e
  rw [zF (zS q hDn)]; exact q
 ·obtain ⟨more, q⟩ := un.tbls b ps e
  exact ⟨more, by rw [zF (zS q hDn)]; exact q⟩
 ·by_cases hb : b = D
  ·subst hb
   rw [zC] at e
   cases e
   exact ⟨hl, us, k, r, keep _ _ hCD hD⟩
  ·rw [zF hb] at e
   refine (J.hok b o e).stay (fun c v hc q => keep c v ?_ q) (fun c q => ?_) fun c xs q => ?_
   ·rintro rfl
    rcases hc with z | z
    ·rw [← z, hCn] at e; cases e
    ·rw [hCn] at z; cases z
   ·rw [zF (zS q hDn)]; exact q
   ·rw [zF (zS q hDn)]; exact q
 ·have f := hf b hb
  exact ⟨f.2.2.2.1, f.2.1, f.2.2.2.2.1, f.2.2.2.2.2⟩
theorem z2Q {elt iter : Expr} {ifs : List Expr} {px pos : Pos} {tc : TT} {te : TE} {J : It} {it : Addr} {tn : Nat → Heap → Prop} {n : Nat} {W : Nat → List V → Hp → Prop} {RR : Value → Addr → Result → Shared → Prop} {E : Value → Shared → Prop}
  (h : CompOk X.N X.env.scope scope x N') (hc : X.calm = true) (he : ∀ C fp, PE (zZ X scope N' C s H fp) elt te) (hi : ∀ C fp, PF (zZ X scope N' C s H fp) ifs tc)
  (I : Inv X pins σ H s) (T : Turn X.prog X.w X.K (.Name x px) J fp it tn) (st : tn 0 s.heap) (hf : ∀ b ∈ fp, FpOk X pins H b) (w0 : W 0 [] H) (CW : CompW J σ tc te n W)
  (hR : ∀ (C D : Nat) s' H' ys us k pl, s.heap.objs.size ≤ C → s.heap.objs.size ≤ D → D ≠ C → Inv (zZ X scope N' C s H fp) pl (σ ++ [none]) H' s' → s'.heap.get? D = some (zq us k) → H' D = none → Vals ys us → ys.length ≤ sizeLine → W n ys H' → RR (.ref D) C (.ok .next) s') :
  wpAny (model X.prog X.w) X.A (newList []) (fun acc s₃ => wpAny (model X.prog X.w) X.A (newFunctionEnv scope X.env.globals (zw X.env.cells scope.names []) [] X.env.qual none .none (some X.env)) (fun cenv s₄ =>
   codeAny (model X.prog X.w) X.A (.compStart (.ListComp elt [⟨.Name x px, iter, ifs, 0⟩] scope pos) 0 (.ref it) acc { cenv with scope := relabel scope X.env }) (RR acc cenv.locals) s₄) E s₃) E s := by
 have hob : ∀ b ∈ fp, ∃ o, s.heap.get? b = some o := fun b hb => let ⟨o, e, _⟩ := T.obj 0 _ st b hb; ⟨o, e⟩
 have hj : X.N.length = σ.length := I.len.symm
 refine wpAny_newList (items := []) ?_ (Nat.zero_le _)
 simp only [newFunctionEnv, Option.isSome_some, if_true]
 refine wpAny_bind (wpAny_alloc ?_)
 refine wpAny_bind (wpAny_layCells _ (fun name kind cells => by cases hkc : kind == NameKind.cell <;> simp [hkc]) _ _ _ _ ?_)
 simp only [List.forIn_nil, pure_bind]
 refine wpAny_pure ?_
 generalize hD : s.heap.objs.size = D
 generalize hg1 : s.heap.push { cls := .type "list", data := .seq ([] : List Value).toArray } = g1
 have z1 : g1.objs.size = D + 1 := by rw [← hg1, Heap.size_push, hD]
 generalize hg2 : g1.push { cls := .type "dict", data := .dict #[] } = g2
 have z2 : g2.objs.size = D + 2 := by rw [← hg2, Heap.size_push, z1]
 have ok2 := cellsFrom_ok scope.names g2 (D + 2) [] ⟨fun _ _ hm => (nomatch hm), List.Pairwise.nil⟩ (Nat.le_of_eq z2.symm)
 dsimp only
 rw [z2] at ok2
 have keep1 : ∀ b o, s.heap.get? b = some o → g1.get? b = some o := fun b o e => by rw [← hg1]; exact Heap.get?_push_of_some _ e
 have keep2 : ∀ b o, g1.get? b = some o → (pushCells g2 scope.names).get? b = some o := fun b o e => pushCells_keeps _ _ b o (by rw [← hg2]; exact Heap.get?_push_of_some _ e)
 have hDobj : (pushCells g2 scope.names).get? D = some (zq [] 0) := keep2 _ _ (by rw [← hg1, ← hD]; exact Heap.get?_push_size _ rfl)
 have hns : (pushCells g2 scope.names).Ns (D + 1) fun _ => none := by
  have q := (Heap.Ns.new g1 (.type "dict")).keeps (h' := pushCells g2 scope.names) fun b o e => pushCells_keeps _ _ b o (by rw [← hg2]; exact e)
  rw [z1] at q; exact q
 have sC : s.heap.objs.size ≤ D + 1 := by omega
 have sD : s.heap.objs.size ≤ D := by omega
 have I4 : ∀ tk, Inv (zZ X scope N' (D + 1) s H fp) [] (σ ++ [none]) H { s with heap := pushCells g2 scope.names, toks := tk } := fun tk =>
  z5W I h hf hob sC (fun b o e => keep2 b o (keep1 b o e)) ⟨_, hns⟩ (fun n c m => (ok2.empty n c m).1) ok2.apart
 have hfp : ∀ {H' : Hp} {pl : List (Addr × Obj)}, (∀ b ∈ fp, H' b = none) → (∀ b ∈ fp, ∀ p ∈ pl, p.1 ≠ b) → ∀ b ∈ fp, FpOk (zZ X scope N' (D + 1) s H fp) pl H' b := fun {H' pl} hn hp b hb => by
  have e := (I4 0).ok.exf b hb
  exact ⟨hn b hb, e.1, (I4 0).ok.exfs b hb, .inl hb, e.2, fun p hpp => hp b hb p hpp⟩
 have bD : ∀ b ∈ fp, D ≠ b := fun b hb => by
  obtain ⟨o, e⟩ := hob b hb
  have z := Heap.lt_size e
  rw [hD] at z
  exact Nat.ne_of_gt z
 have cD : ∀ y c, (compEnvC scope (zL X scope (D + 1)) (D + 1) X.env).cells.lookup y = some c → c ≠ D := fun y c e z => by
  obtain ⟨v, q⟩ := (I4 0).cell y c e
  obtain ⟨o, q1, q2⟩ := q
  rw [z] at q1
  have : some o = some (zq [] 0) := q1.symm.trans hDobj
  cases this
  cases q2
 have pinD : ∀ {pl : List (Addr × Obj)} {σ' : St} {H' : Hp} {s' : Shared} {us : List Value} {k : Nat}, Inv (zZ X scope N' (D + 1) s H fp) pl σ' H' s' → s'.heap.get? D = some (zq us k) → H' D = none → Inv (zZ X scope N' (D + 1) s H fp) [(D, zq us k)] σ' H' s' := fun {pl σ' H' s' us k} J e n =>
  J.pins_of fun p hp => by
   have hp' : p = (D, zq us k) := by simpa using hp
   subst hp'
   refine ⟨e, n, by show D ≠ D + 1; omega, fun z => ?_, fun v z => by cases z⟩
   obtain ⟨_, o, q, _⟩ := (I4 0).ok.funs.mem z
   have z' : D < s.heap.objs.size := Heap.lt_size q
   rw [hD] at z'
   exact absurd z' (Nat.lt_irrefl _)
 have loop : ∀ tk, codeAny (model X.prog X.w) X.A (.compLoop (.ListComp elt [⟨.Name x px, iter, ifs, 0⟩] scope pos) 0 (.ref it) (.ref D) (compEnvC scope (zL X scope (D + 1)) (D + 1) X.env)) (RR (.ref D) (D + 1)) { s with heap := pushCells g2 scope.names, toks := tk } := by
  intro tk
  refine codeAny_compLoop_tests (fun m s' => ∃ i ys us k H' o, m = n - i ∧ i ≤ n ∧ ys.length ≤ i ∧ Inv (zZ X scope N' (D + 1) s H fp) [(D, zq us k)] (σ ++ [o]) H' s' ∧ Vals ys us ∧ tn i s'.heap ∧ (∀ b ∈ fp, H' b = none) ∧ W i ys H') ?_ n
   ⟨0, [], [], 0, H, none, rfl, Nat.zero_le _, Nat.le_refl _, pinD (I4 tk) hDobj (I.hok.fresh sD), .nil, T.keep 0 _ _ st fun b hb o e => keep2 b o (keep1 b o e), fun b hb => (hf b hb).1, w0⟩
  rintro m s1 ⟨i, ys, us, k, H1, o, rfl, hi', hl, I1, rv, st1, fr1, w1⟩
  have hpl : ∀ b ∈ fp, ∀ p ∈ [(D, zq us k)], p.1 ≠ b := fun b hb p hp => by
   have hp' : p = (D, zq us k) := by simpa using hp
   subst hp'; exact bD b hb
  by_cases hlt : i < n
  ·refine wpAny_mono (T.item (zZ X scope N' (D + 1) s H fp) rfl rfl rfl hc i _ s1 (σ ++ [o]) H1 _ I1 (hfp fr1 hpl) st1 (CW.go i ys H1 hlt w1)) (fun r s2 ⟨u, hr, h4⟩ => ?_) fun _ _ e => e
   subst hr
   dsimp only
   have fin : ∀ (v : V) (H2 : Hp) (s3 : Shared), Inv (zZ X scope N' (D + 1) s H fp) [(D, zq us k)] (σ ++ [o]) H2 s3 → RelV v u → J.yld i H1 v H2 → tn (i + 1) s3.heap → (∀ b ∈ fp, H2 b = none) →
     ∀ E', wpAny (model X.prog X.w) X.A (assign (.Name x px) (compEnvC scope (zL X scope (D + 1)) (D + 1) X.env) u) (fun _ s₂ =>
      wpAny (model X.prog X.w) X.A (forIn ifs true fun c r => if r = true then do let ok ← isTrue c (compEnvC scope (zL X scope (D + 1)) (D + 1) X.env) (eval c (compEnvC scope (zL X scope (D + 1)) (D + 1) X.env)); pure (ForInStep.yield ok) else pure (ForInStep.yield r)) (fun okk s₃ =>
       if okk = true then wpAny (model X.prog X.w) X.A (eval elt (compEnvC scope (zL X scope (D + 1)) (D + 1) X.env)) (fun y s₄ =>
        wpAny (model X.prog X.w) X.A (call (.builtin "list.append") [.ref D, y]) (fun _ s₅ => ∃ m, m < n - i ∧ ∃ i ys us k H' o, m = n - i ∧ i ≤ n ∧ ys.length ≤ i ∧ Inv (zZ X scope N' (D + 1) s H fp) [(D, zq us k)] (σ ++ [o]) H' s₅ ∧ Vals ys us ∧ tn i s₅.heap ∧ (∀ b ∈ fp, H' b = none) ∧ W i ys H') E' s₄) E' s₃
       else ∃ m, m < n - i ∧ ∃ i ys us k H' o, m = n - i ∧ i ≤ n ∧ ys.length ≤ i ∧ Inv (zZ X scope N' (D + 1) s H fp) [(D, zq us k)] (σ ++ [o]) H' s₃ ∧ Vals ys us ∧ tn i s₃.heap ∧ (∀ b ∈ fp, H' b = none) ∧ W i ys H') E' s₂) E' s3 := by
    intro v H2 s3 I2 ru y2 st2 fr2 E'
    have I2' := I2.pinned (hfp fr2 hpl) (T.obj _ _ st2)
    have tg : PG (zZ X scope N' (D + 1) s H fp) (.Name x px) (z2h σ.length) := by
     refine ya h.nd (by rw [← hj]; exact h.here) ?_ ?_
     ·show (relabel scope X.env).names.lookup x = _ ∨ _
      rcases h.tgt with e | e
      ·left; rw [y6, e]; rfl
      ·right
       show (relabel scope X.env).names.lookup x = _
       rw [y6, e]; rfl
     ·rcases h.tgt with e | e
      ·right
       show (relabel scope X.env).names.lookup x = _
       rw [y6, e]; rfl
      ·left
       show (scope.names.lookup x == some NameKind.cell) = true
       rw [e]; rfl
    refine wpAny_mono (tg _ s3 _ H2 v u (fun σ' H' => σ' = σ ++ [some v] ∧ H' = H2) I2' ru ⟨z5R _ _ _, rfl⟩) (fun _ s4 ⟨σ4, H4, I4', e4⟩ => ?_) fun _ _ z => z.elim
    obtain ⟨rfl, rfl⟩ := e4
    have stp := CW.step i ys H1 v _ hlt w1 y2
    have kp : ∀ {s5 : Shared} {H5 : Hp}, Inv (zZ X scope N' (D + 1) s H fp) ([(D, zq us k)] ++ uS fp s3.heap) (σ ++ [some v]) H5 s5 → (s5.heap.get? D = some (zq us k) ∧ H5 D = none) ∧ tn (i + 1) s5.heap ∧ ∀ b ∈ fp, H5 b = none := fun {s5 H5} J5 => by
     have pd := J5.pin (D, zq us k) (List.mem_append_right _ (List.mem_append_left _ (by simp)))
     refine ⟨⟨pd.1, pd.2.1⟩, T.keep _ _ _ st2 fun b hb ob e => (J5.pin (b, ob) (List.mem_append_right _ (List.mem_append_right _ (yw hb e)))).1, fun b hb => ?_⟩
     obtain ⟨ob, e, _⟩ := T.obj _ _ st2 b hb
     exact (J5.pin (b, ob) (List.mem_append_right _ (List.mem_append_right _ (yw hb e)))).2.1
    have aft : ∀ (b : Bool) (s5 : Shared) (H5 : Hp), Inv (zZ X scope N' (D + 1) s H fp) ([(D, zq us k)] ++ uS fp s3.heap) (σ ++ [some v]) H5 s5 → (if b = true then te (σ ++ [some v]) H5 fun y H4 => W (i + 1) (ys ++ [y]) H4 else W (i + 1) ys H5) →
      (if b = true then wpAny (model X.prog X.w) X.A (eval elt (compEnvC scope (zL X scope (D + 1)) (D + 1) X.env)) (fun y s₄ =>
        wpAny (model X.prog X.w) X.A (call (.builtin "list.append") [.ref D, y]) (fun _ s₅ => ∃ m, m < n - i ∧ ∃ i ys us k H' o, m = n - i ∧ i ≤ n ∧ ys.length ≤ i ∧ Inv (zZ X scope N' (D + 1) s H fp) [(D, zq us k)] (σ ++ [o]) H' s₅ ∧ Vals ys us ∧ tn i s₅.heap ∧ (∀ b ∈ fp, H' b = none) ∧ W i ys H') E' s₄) E' s5
       else ∃ m, m < n - i ∧ ∃ i ys us k H' o, m = n - i ∧ i ≤ n ∧ ys.length ≤ i ∧ Inv (zZ X scope N' (D + 1) s H fp) [(D, zq us k)] (σ ++ [o]) H' s5 ∧ Vals ys us ∧ tn i s5.heap ∧ (∀ b ∈ fp, H' b = none) ∧ W i ys H') := by
     intro b s5 H5 I5 q5
     cases b with
     | false =>
      rw [if_neg Bool.false_ne_true] at q5 ⊢
      obtain ⟨⟨d1, d2⟩, st5, fr5⟩ := kp I5
      exact ⟨n - (i + 1), by omega, i + 1, ys, us, k, H5, some v, rfl, hlt, by omega, pinD I5 d1 d2, rv, st5, fr5, q5⟩
     | true =>
      rw [if_pos rfl] at q5 ⊢
      refine wpAny_mono (he (D + 1) fp _ s5 _ H5 _ I5 q5) (fun y s6 ⟨w6, H6, I6, r6, q6⟩ => ?_) fun _ _ z => z.elim
      obtain ⟨⟨d1, d2⟩, st6, fr6⟩ := kp I6
      refine append_at d1 (fun g' sb e' => ?_) (by rw [List.size_toArray, ← rv.length]; exact Nat.le_trans hl (Nat.le_trans hi' CW.small))
      have e2 : g'.get? D = some (zq (us ++ [y]) (k + 1)) := by rw [e', List.push_toArray]
      have I7 : Inv (zZ X scope N' (D + 1) s H fp) [] (σ ++ [some v]) H6 { s6 with heap := g' } :=
       (I6.pins_of (pins' := []) fun _ z => nomatch z).turned (t' := s6.toks) (fun b ob hb e => (sb.2 b hb).trans e) d2 (by show D ≠ D + 1; omega) (.inr sD) cD fun p hp => nomatch hp
      refine ⟨n - (i + 1), by omega, i + 1, ys ++ [w6], us ++ [y], k + 1, H6, some v, rfl, hlt, by rw [List.length_append]; simp; omega, pinD I7 e2 d2, rv.append (.cons r6 .nil), T.keep _ _ _ st6 fun b hb ob e => (sb.2 b (bD b hb).symm).trans e, fr6, q6⟩
    rcases hi (D + 1) fp with ⟨rfl, rfl⟩ | ⟨c, rfl, pt⟩
    ·exact wpAny_tests_nil (aft true s4 _ I4' stp)
    ·exact wpAny_tests_one (wpAny_mono (pt _ s4 _ _ _ I4' stp) (fun b s5 ⟨H5, I5, q5⟩ => aft b s5 H5 I5 q5) fun _ _ z => z.elim)
   have h5 := wpAny_bind (f := fun _ => assign (.Name x px) (compEnvC scope (zL X scope (D + 1)) (D + 1) X.env) u) (wpAny_mono h4 (fun _ s3 ⟨v, H2, I2, ru, y2, st2, fr2⟩ => fin v H2 s3 I2 ru y2 st2 fr2 _) fun _ _ e => e)
   rw [show letOwnedTupleGo (.Name x px) (.ref it) u = pure () from rfl, pure_bind] at h5
   exact h5
  ·obtain rfl : i = n := by omega
   refine wpAny_mono (T.done (zZ X scope N' (D + 1) s H fp) rfl rfl rfl hc i _ s1 (σ ++ [o]) H1 _ I1 (hfp fr1 hpl) st1 (CW.stop ys H1 w1)) (fun r s2 ⟨hr, I2⟩ => ?_) fun _ _ e => e
   subst hr
   have pd := I2.pin (D, zq us k) (List.mem_append_right _ (by simp))
   refine hR (D + 1) D s2 H1 ys us k _ sC sD (by omega) (I2.weak (σ' := σ ++ [none]) (by simp) fun j v e => ?_) pd.1 pd.2.1 rv (Nat.le_trans hl CW.small) w1
   by_cases hjl : j < σ.length
   ·rw [List.getElem?_append_left hjl] at e ⊢; exact e
   ·rw [List.getElem?_append_right (by omega)] at e
    cases q : j - σ.length with
    | zero => rw [q] at e; cases e
    | succ j => rw [q] at e; cases e
 have env_eq : ∀ l : Nat, l = D + 1 → ({ scope := relabel scope X.env, locals := l, globals := X.env.globals, cells := cellsFrom (D + 2) scope.names (zw X.env.cells scope.names []), qual := X.env.qual, func := none, code := X.env.code, frame := X.env.frame, builtins := X.env.builtins } : Env) = compEnvC scope (zL X scope (D + 1)) (D + 1) X.env := by
  rintro l rfl; rfl
 rw [z1, z2]
 refine codeAny_compStart_list ?_ (T.self _ 0 _ _ _ (T.keep 0 _ _ st fun b hb o e => keep2 b o (keep1 b o e)) ?_)
 ·exact loop _
 ·exact loop _
noncomputable def z4z (wi : TI) (tc : TT) (te : TE) : TE := fun σ H Q => wi σ H fun J H1 => ∃ (n : Nat) (W : Nat → List V → Hp → Prop), W 0 [] H1 ∧ CompW J σ tc te n W ∧ ∀ ys H', W n ys H' → ∀ D, H' D = none → Q (.ref D) (upd H' D (.lst ys))
theorem z1m (I : Inv X pins σ H s) (h : CompOk X.N X.env.scope scope x N') : closureFor scope X.env = pure (zw X.env.cells scope.names []) :=
 z4L fun n hn => I.ok.has n (h.cap n hn)
theorem z6R {N : List Str} {sc : Scope} {elt iter : Expr} {ifs : List Expr} {px pos : Pos} {wi : TI} {tc : TT} {te : TE} (hc : X.calm = true) (hN : X.N = N) (hsc : X.env.scope = sc) (h : wF N sc scope x N' = true)
  (hi : PI X (.Name x px) iter wi) (hf : ∀ C s H fp, PF (zZ X scope N' C s H fp) ifs tc) (he : ∀ C s H fp, PE (zZ X scope N' C s H fp) elt te)
  (hs : ∀ x, foldedSetIterable iter X.env x = pure x := by intro _; rfl) : PE X (.ListComp elt [⟨.Name x px, iter, ifs, 0⟩] scope pos) (z4z wi tc te) := by
 intro pins s σ H Q I q
 subst hN hsc
 have ok := CompOk.of h
 rw [eval_ListComp]
 refine wpAny_comprehension_free (use := none) rfl hs (z1m I ok) ok.kind (fun y hy hl => by rw [ok.uniq y hy, hl]) (thn (hi pins s σ H _ I q) fun v s1 h1 => thn h1 fun itv s2 h2 => ?_)
 obtain ⟨it, fp, tn, J, H2, e, I2, T, st2, f2, n, W, w0, CW, fin⟩ := h2
 subst e
 refine z2Q (RR := fun acc C => compPost (model X.prog X.w) X.A X.xe none (EP X pins σ Q) acc C) ok hc (fun C fp => he C s2 H2 fp) (fun C fp => hf C s2 H2 fp) I2 T st2 f2 w0 CW ?_
 intro C D s' H' ys us k pl hCs hDs hDC J' hD hDn rv hl w
 obtain ⟨m, hm, _⟩ := J'.loc
 exact ⟨m, hm, fun g hg => ⟨.ref D, _, z2M I2 f2 hCs hDs hDC J' hD hDn rv hl hg, rfl, fin ys H' w D hDn⟩⟩
noncomputable def z5I (i : Nat) (wi : TI) (tc : TT) (te : TE) : TS := fun D σ H => z4z wi tc te σ H fun x H1 => D.nx (σ.set i (some x)) H1
theorem z4B {N : List Str} {sc : Scope} {elt iter : Expr} {ifs : List Expr} {y : Str} {i : Nat} {px py pos spos : Pos} {wi : TI} {tc : TT} {te : TE} (hc : X.calm = true) (hN : X.N = N) (hsc : X.env.scope = sc) (h : wF N sc scope x N' = true)
  (hnd : X.N.Nodup) (hy : X.N[i]? = some y) (hl : X.env.scope.names.lookup y = some .local)
  (hi : PI X (.Name x px) iter wi) (hf : ∀ C s H fp, PF (zZ X scope N' C s H fp) ifs tc) (he : ∀ C s H fp, PE (zZ X scope N' C s H fp) elt te)
  (hsw : swapsWith (.ListComp elt [⟨.Name x px, iter, ifs, 0⟩] scope pos) (some (.Name y py)) spos.line X.env = pure true := by rfl)
  (hs : ∀ x, foldedSetIterable iter X.env x = pure x := by intro _; rfl) : PS X (.Assign [.Name y py] (.ListComp elt [⟨.Name x px, iter, ifs, 0⟩] scope pos) spos) (z5I i wi tc te) := by
 intro pins s σ H D I q
 subst hN hsc
 have ok := CompOk.of h
 rw [exec_Assign_Name_used _ _ _ _ hsw]
 refine wpAny_bind (wpAny_standAt (wpAny_bind ?_))
 show wpAny _ X.A (do let _ ← comprehension (.ListComp elt [⟨.Name x px, iter, ifs, 0⟩] scope pos) scope X.env _ (newList []) false (eval iter X.env) (some (assign (.Name y py) X.env))) _ _ s
 refine wpAny_bind (wpAny_mono (wpAny_comprehension_free (use := some (assign (.Name y py) X.env)) (Q := fun _ s' => SP X pins D .next s') rfl hs (z1m I ok) ok.kind (fun y hy hl => by rw [ok.uniq y hy, hl]) (thn (hi pins s σ H _ I q) fun v s1 h1 => thn h1 fun itv s2 h2 => ?_))
  (fun _ s' z => wpAny_pure (wpAny_pure z)) fun _ _ e => e)
 obtain ⟨it, fp, tn, J, H2, e, I2, T, st2, f2, n, W, w0, CW, fin⟩ := h2
 subst e
 refine z2Q (RR := fun acc C => compPost (model X.prog X.w) X.A X.xe (some (assign (.Name y py) X.env)) (fun _ s' => SP X pins D .next s') acc C) ok hc (fun C fp => he C s2 H2 fp) (fun C fp => hf C s2 H2 fp) I2 T st2 f2 w0 CW ?_
 intro C D' s' H' ys us k pl hCs hDs hDC J' hD hDn rv hlen w
 obtain ⟨m, hm, _⟩ := J'.loc
 have K1 : Inv X pins σ (upd H' D' (.lst ys)) s' := z2M (g := s'.heap) I2 f2 hCs hDs hDC J' hD hDn rv hlen (.refl ..)
 have hCL : C ≠ X.env.locals := Nat.ne_of_gt (Nat.lt_of_lt_of_le I2.lt hCs)
 have hcl : ∀ z c, X.env.cells.lookup z = some c → c ≠ C := fun z c e => by
  obtain ⟨v, q⟩ := I2.cell z c e
  exact Nat.ne_of_lt (Nat.lt_of_lt_of_le q.lt hCs)
 show wpAny (model X.prog X.w) X.A (assign (.Name y py) X.env (.ref D')) _ _ s'
 refine wpAny_assign_Name (z0g (v := .ref D') K1 hnd hy (.inl hl) rfl (fun s'' K2 ch => ?_) (.inr hl))
 obtain ⟨a, sb, ha⟩ := ch
 have hCa : C ≠ a := by
  rcases ha with rfl | ha
  ·exact hCL
  ·exact (hcl y a ha).symm
 refine ⟨m, hm.sameBut sb hCa, fun g hg => ⟨_, _, K2.turned (t' := s''.toks) (it := C) (fun b o hb e => (hg.2 b hb).trans e) ?_ hCL (.inr (Nat.le_trans I2.sz hCs)) hcl fun p hp z => ?_, fin ys H' w D' hDn⟩⟩
 ·rw [zF hDC.symm]; exact J'.free
 ·exact absurd (Nat.lt_of_lt_of_le (Heap.lt_size (I2.pin p hp).1) hCs) (by rw [z]; exact Nat.lt_irrefl _)
end
end L2
namespace L2
open PySem PySem.Spec PyProof.Rows
theorem Vals.back : ∀ {xs : List V} {us : List Value} {i : Nat} {u : Value}, Vals xs us → us[i]? = some u → ∃ x, xs[i]? = some x ∧ RelV x u
 | _, _, _, _, .nil, e => by simp at e
 | _, _, 0, _, .cons r _, e => by simp at e; subst e; exact ⟨_, rfl, r⟩
 | _, _, i + 1, u, .cons _ t, e => by
  obtain ⟨x, h1, h2⟩ := Vals.back (i := i) (u := u) t (by simpa using e)
  exact ⟨x, by simpa using h1, h2⟩
theorem z3g (bs : List Bool) : ((List.range bs.length).all fun i => bs.getD i false) = bs.all id := by
 rw [Bool.eq_iff_iff, List.all_eq_true, List.all_eq_true]
 constructor
 ·intro h b hb
  obtain ⟨i, hi, rfl⟩ := List.mem_iff_getElem.mp hb
  have := h i (List.mem_range.mpr hi)
  simpa [List.getD_eq_getElem?_getD, hi] using this
 ·intro h i hi
  have hi' := List.mem_range.mp hi
  have := h bs[i] (List.getElem_mem hi')
  simpa [List.getD_eq_getElem?_getD, hi'] using this
theorem xJ (ns : List Int) : ∀ j, j ≤ ns.length → preSum (fun i => ns.getD i 0) j = (ns.take j).sum
 | 0, _ => rfl
 | j + 1, h => by
  have hj : j < ns.length := h
  rw [preSum, xJ ns j (by omega), List.take_add_one, List.getElem?_eq_getElem hj, List.sum_append]
  simp [List.getD_eq_getElem?_getD, hj]
section
variable {X : Cx}
theorem z4q {bs : List Bool} {its : List Value} (rv : Vals (bs.map V.bl) its) {i : Nat} {v : Value} (e : its.toArray[i]? = some v) : v = .bool (bs.getD i false) := by
 obtain ⟨x, e1, r⟩ := rv.back (u := v) (i := i) (by simpa using e)
 rw [List.getElem?_map] at e1
 cases q : bs[i]? with
 | none => rw [q] at e1; cases e1
 | some b =>
  rw [q] at e1
  cases e1
  rw [List.getD_eq_getElem?_getD, q]
  exact r
theorem z6F {ns : List Int} {its : List Value} (rv : Vals (ns.map V.int) its) {i : Nat} {v : Value} (e : its.toArray[i]? = some v) : ∃ t, v = .int (ns.getD i 0) t := by
 obtain ⟨x, e1, r⟩ := rv.back (u := v) (i := i) (by simpa using e)
 rw [List.getElem?_map] at e1
 cases q : ns[i]? with
 | none => rw [q] at e1; cases e1
 | some b =>
  rw [q] at e1
  cases e1
  rw [List.getD_eq_getElem?_getD, q]
  exact r
theorem ui {xs : List V} {its : List Value} (rv : Vals xs its) : its.toArray.size = xs.length := by rw [List.size_toArray, rv.length]
theorem z3d (hc : X.calm = true) : CallR X (.builtin "all") (fun xs H Q => ∃ (p : Addr) (bs : List Bool), xs = [.ref p] ∧ SqL X.K H p (bs.map V.bl) ∧ Q (.bl (bs.all id)) H) := by
 intro pins s σ H xs us Q I r h
 obtain ⟨p, bs, rfl, hq, q⟩ := h
 obtain ⟨u, rfl, ru⟩ := xY r
 cases ru
 obtain ⟨its, rv, pl, hz⟩ := I.list hq
 have hlt : p < s.heap.objs.size := by obtain ⟨o, e, _⟩ := pl.isList; exact Heap.lt_size e
 refine call_all_walk (wpAny_pyIter_list pl.isList ⟨s.heap.objs.size, _, _, _, _, _, fun i => bs.getD i false, rfl, Walks.list (A := X.A.in1) (I.ok.hd hc) s.heap.objs.size p (Nat.ne_of_lt hlt) its.toArray, ⟨⟨_, Heap.get?_push_size _ rfl, rfl, rfl⟩, pl.isList.push _⟩, ?_, fun h' tk hk => ?_⟩)
 ·intro i v s' Q' E' hv hQ
  rw [z4q rv hv]
  exact wpAny_truthy_bool hQ
 ·rw [ui rv, List.length_map, z3g]
  exact ⟨.bl _, H, I.kept (t' := tk) fun b o e => hk b o (by simpa using Nat.ne_of_lt (Heap.lt_size e)) (Heap.get?_push_of_some _ e), rfl, q⟩
theorem z3c (hc : X.calm = true) : CallR X (.builtin "sum") (fun xs H Q => ∃ (p : Addr) (ns : List Int), xs = [.ref p] ∧ SqL X.K H p (ns.map V.int) ∧ ns.length ≤ 1000 ∧ (∀ n ∈ ns, 0 ≤ n ∧ n ≤ 1000000) ∧ Q (.int ns.sum) H) := by
 intro pins s σ H xs us Q I r h
 obtain ⟨p, ns, rfl, hq, hl, hb, q⟩ := h
 obtain ⟨u, rfl, ru⟩ := xY r
 cases ru
 obtain ⟨its, rv, pl, hz⟩ := I.list hq
 have hlt : p < s.heap.objs.size := by obtain ⟨o, e, _⟩ := pl.isList; exact Heap.lt_size e
 have lb : ∀ l : List Int, (∀ n ∈ l, 0 ≤ n ∧ n ≤ 1000000) → 0 ≤ l.sum ∧ l.sum ≤ 1000000 * l.length := fun l => by
  induction l with
  | nil => intro _; simp
  | cons x r ih =>
   intro h
   have h1 := h x List.mem_cons_self
   have h2 := ih fun n hn => h n (List.mem_cons_of_mem _ hn)
   rw [List.sum_cons, List.length_cons]
   omega
 have val : ∀ j, 0 ≤ ns.getD j 0 ∧ ns.getD j 0 ≤ 1000000 := fun j => by
  rw [List.getD_eq_getElem?_getD]
  cases e : ns[j]? with
  | none => simp
  | some n => exact hb n (List.mem_of_getElem? e)
 refine call_sum_walk (wpAny_pyIter_list pl.isList ⟨s.heap.objs.size, _, _, _, _, _, fun i => ns.getD i 0, rfl, Walks.list (A := X.A.in1) (I.ok.hd hc) s.heap.objs.size p (Nat.ne_of_lt hlt) its.toArray, ⟨⟨_, Heap.get?_push_size _ rfl, rfl, rfl⟩, pl.isList.push _⟩, fun b hb => ?_, fun i v hv => z6F rv hv, fun j hj => ?_, fun h' tk t' hk => ?_⟩)
 ·rw [Heap.size_push]
  have hb' : b = s.heap.objs.size ∨ b = p := by simpa using hb
  rcases hb' with z | z
  ·rw [z]; exact Nat.lt_succ_self _
  ·rw [z]; exact Nat.lt_succ_of_lt hlt
 ·have hj' : j < ns.length := by rw [ui rv, List.length_map] at hj; exact hj
  have v1 := val j
  have v2 := lb (ns.take (j + 1)) fun n hn => hb n (List.mem_of_mem_take hn)
  rw [xJ ns (j + 1) hj']
  have l2 : (ns.take (j + 1)).length ≤ 1000 := by rw [List.length_take]; omega
  constructor
  ·constructor
   ·show -(2 ^ 63) ≤ ns.getD j 0; omega
   ·show ns.getD j 0 < 2 ^ 63; omega
  ·constructor <;> omega
 ·rw [ui rv, List.length_map, xJ ns _ (Nat.le_refl _), List.take_length]
  exact ⟨.int _, H, I.kept (t' := tk) fun b o e => hk b o (by simpa using Nat.ne_of_lt (Heap.lt_size e)) (Heap.get?_push_of_some _ e), ⟨_, rfl⟩, q⟩
theorem xV : CallR X (.builtin "isinstance") (fun xs H Q => ∃ (x : V) (t : Value) (T : String) (b : Bool), xs = [x, .ty T] ∧ TyOf X.K H x t ∧ W.kitOne X.K t (.type T) = some b ∧ Q (.bl b) H) := by
 intro pins s σ H xs us Q I r h
 obtain ⟨x, t, T, b, rfl, ty, e, q⟩ := h
 obtain ⟨u, w', rfl, r1, r2⟩ := z9F r
 cases r2
 exact z37 I r1 ty e fun tk => ⟨.bl b, H, I.tok tk, rfl, q⟩
theorem z50 (hu : X.A.units < cLine) : OpR X (compareOp .Eq) (fun x y H Q => ∃ (a b : Addr) (xs : List V), x = .ref a ∧ y = .ref b ∧ SqL X.K H a xs ∧ SqL X.K H b [] ∧ Q (.bl xs.isEmpty) H) := by
 intro pins s σ H x y v u Q I rx ry h
 obtain ⟨a, b, xs, rfl, rfl, ha, hb, q⟩ := h
 cases rx
 cases ry
 obtain ⟨its, r1, p1, _⟩ := I.list ha
 obtain ⟨its2, r2, p2, _⟩ := I.list hb
 have z2 : its2.toArray.size = 0 := ui r2
 cases xs with
 | nil =>
  have z1 : its.toArray.size = 0 := ui r1
  refine SeqAt.eq_listAt (e := fun _ => true) p1.isList p2.isList (by rw [z1, z2]) hu (fun j h1 _ => by omega) ?_
  rw [z1]
  exact ⟨.bl true, H, I, rfl, q⟩
 | cons x r =>
  have z1 : its.toArray.size = r.length + 1 := ui r1
  exact SeqAt.eq_list_lengthsAt p1.isList p2.isList (by rw [z1, z2]; rfl) hu ⟨.bl false, H, I, rfl, q⟩
end
end L2
namespace My
local macro_rules | `(tactic| omega) => `(tactic| first | assumption | lia | omega +splitDisjunctions)
open PySem.W PyProof.Rows
noncomputable def Gives {α : Type} (f : Nat → Int) (N : Nat) : KasT α → (α → Prop) → Prop
 | .ret a, Q => Q a
 | .ask i j k, Q => i < N ∧ j < N ∧ Gives f N (k (decide (f i < f j))) Q
theorem Gives.bind {α β : Type} {f : Nat → Int} {N : Nat} {g : α → KasT β} {Q : β → Prop} : ∀ {t : KasT α}, Gives f N t (fun a => Gives f N (g a) Q) → Gives f N (KasT.bind t g) Q
 | .ret _, h => h
 | .ask _ _ k, h => ⟨h.1, h.2.1, Gives.bind (t := k _) h.2.2⟩
theorem Gives.mono {α : Type} {f : Nat → Int} {N : Nat} {Q Q' : α → Prop} (hq : ∀ a, Q a → Q' a) : ∀ {t : KasT α}, Gives f N t Q → Gives f N t Q'
 | .ret a, h => hq a h
 | .ask _ _ k, h => ⟨h.1, h.2.1, Gives.mono hq (t := k _) h.2.2⟩
noncomputable def Bel (N : Nat) (p : Array Nat) : Prop := ∀ k, p.getD k 0 < N
theorem Bel.perm {N : Nat} {p q : Array Nat} (h : Bel N p) (hq : q.Perm p) : Bel N q := fun k => by
 rw [Array.getD_eq_getD_getElem?]
 cases e : q[k]? with
 | none => exact Nat.lt_of_le_of_lt (Nat.zero_le _) (h 0)
 | some v =>
  have m : v ∈ p := hq.mem_iff.mp (Array.mem_of_getElem? e)
  obtain ⟨i, hi, rfl⟩ := Array.mem_iff_getElem.mp m
  have := h i
  rw [Array.getD_eq_getD_getElem?, Array.getElem?_eq_getElem hi] at this
  exact this
section
variable {f : Nat → Int} {N : Nat}
noncomputable def at_ (f : Nat → Int) (p : Array Nat) (k : Nat) : Int := f (p.getD k 0)
noncomputable def Up (f : Nat → Int) (p : Array Nat) (n : Nat) : Prop := ∀ i, i + 1 < n → at_ f p i ≤ at_ f p (i + 1)
noncomputable def Down (f : Nat → Int) (p : Array Nat) (n : Nat) : Prop := ∀ i, i + 1 < n → at_ f p (i + 1) ≤ at_ f p i
theorem Up.le {p : Array Nat} {n : Nat} (h : Up f p n) : ∀ {i j : Nat}, i ≤ j → j < n → at_ f p i ≤ at_ f p j := by
  intro i j hij hj
  induction j with
  | zero => have : i = 0 := by omega
            subst this; exact Int.le_refl _
  | succ j ih =>
    by_cases e : i = j + 1
    · subst e; exact Int.le_refl _
    · exact Int.le_trans (ih (by omega) (by omega)) (h j hj)
theorem wp {p q : Array Nat} {k l : Nat} (h : p[k]? = q[l]?) : p.getD k 0 = q.getD l 0 := by
 rw [Array.getD_eq_getD_getElem?, Array.getD_eq_getD_getElem?, h]
theorem uT {p : Array Nat} {i j : Nat} (hj : j ≤ p.size) (k : Nat) : at_ f (kas_rev p i j) k = if i ≤ k ∧ k < j then at_ f p (i + j - 1 - k) else at_ f p k := by
 have e := getElem?_mirror_all (i := i) hj k
 unfold at_ kas_rev
 split at e
 next h => rw [if_pos h, wp e]
 next h => rw [if_neg h, wp e]
theorem z0C (p : Array Nat) (i j : Nat) : (kas_rev p i j).size = p.size := mirror_size _ _ _ _
theorem yT (p : Array Nat) (i j : Nat) : (kas_rev p i j).Perm p := mirror_perm _ _ _ _
theorem z63 {p : Array Nat} (hp : Bel N p) : ∀ (fu n : Nat), 1 ≤ n → Up f p n → Gives f N (kas_asc p fu n) fun m => n ≤ m ∧ m ≤ n + fu ∧ Up f p m
 | 0, n, _, h => ⟨Nat.le_refl _, Nat.le_refl _, h⟩
 | fu + 1, n, h1, h => by
  refine ⟨hp _, hp _, ?_⟩
  show Gives f N (if decide (f (p.getD n 0) < f (p.getD (n - 1) 0)) = true then _ else _) _
  by_cases c : f (p.getD n 0) < f (p.getD (n - 1) 0)
  ·rw [if_pos (by simpa using c)]
   exact ⟨Nat.le_refl _, by omega, h⟩
  ·rw [if_neg (by simpa using c)]
   refine (z63 hp fu (n + 1) (by omega) fun i hi => ?_).mono fun m ⟨a, b, c⟩ => ⟨by omega, by omega, c⟩
   by_cases e : i + 1 = n
   ·subst e
    unfold at_
    have : i + 1 - 1 = i := by omega
    rw [this] at c
    omega
   ·exact h i (by omega)
theorem uz : ∀ (fu : Nat) (p : Array Nat) (n q : Nat), Bel N p → q + 1 ≤ n → n + fu ≤ p.size → Down f p n → (∀ k, n ≤ k + (q + 1) → k < n → at_ f p k = at_ f p (n - 1)) →
  Gives f N (kas_desc fu p n q) fun r => r.1.Perm p ∧ n ≤ r.2.1 ∧ r.2.1 ≤ n + fu ∧ r.2.2 + 1 ≤ r.2.1 ∧ Down f r.1 r.2.1 ∧ (∀ k, r.2.1 ≤ k + (r.2.2 + 1) → k < r.2.1 → at_ f r.1 k = at_ f r.1 (r.2.1 - 1))
 | 0, p, n, q, hp, h1, h2, h3, h4 => ⟨Array.Perm.refl _, Nat.le_refl _, Nat.le_refl _, h1, h3, h4⟩
 | fu + 1, p, n, q, hp, h1, h2, h3, h4 => by
  refine ⟨hp _, hp _, ?_⟩
  show Gives f N (if decide (f (p.getD n 0) < f (p.getD (n - 1) 0)) = true then _ else _) _
  have hn : n - 1 + 1 = n := by omega
  have single : ∀ (p' : Array Nat) (k : Nat), n + 1 ≤ k + (0 + 1) → k < n + 1 → at_ f p' k = at_ f p' (n + 1 - 1) := fun p' k a b => by
   have : k = n := by omega
   subst this; rfl
  by_cases c : f (p.getD n 0) < f (p.getD (n - 1) 0)
  ·rw [if_pos (by simpa using c)]
   have dn : Down f p (n + 1) := fun i hi => by
    by_cases e : i + 1 = n
    ·subst e
     have : i + 1 - 1 = i := by omega
     rw [this] at c
     unfold at_; omega
    ·exact h3 i (by omega)
   by_cases hq : q > 0
   ·rw [if_pos hq]
    have same : ∀ k, at_ f (kas_rev p (n - (q + 1)) n) k = at_ f p k := fun k => by
     rw [uT (by omega)]
     split
     next h => rw [h4 k (by omega) h.2, h4 _ (by omega) (by omega)]
     next => rfl
    have z := uz fu (kas_rev p (n - (q + 1)) n) (n + 1) 0 (hp.perm (yT _ _ _)) (by omega) (by rw [z0C]; omega) (fun i hi => by rw [same, same]; exact dn i hi) (single _)
    exact z.mono fun r ⟨a1, a2, a3, a4, a5, a6⟩ => ⟨a1.trans (yT _ _ _), by omega, by omega, a4, a5, a6⟩
   ·rw [if_neg hq]
    exact (uz fu p (n + 1) 0 hp (by omega) (by omega) dn (single _)).mono fun r ⟨a1, a2, a3, a4, a5, a6⟩ => ⟨a1, by omega, by omega, a4, a5, a6⟩
  ·rw [if_neg (by simpa using c)]
   refine ⟨hp _, hp _, ?_⟩
   show Gives f N (if decide (f (p.getD (n - 1) 0) < f (p.getD n 0)) = true then _ else _) _
   by_cases d : f (p.getD (n - 1) 0) < f (p.getD n 0)
   ·rw [if_pos (by simpa using d)]
    exact ⟨Array.Perm.refl _, Nat.le_refl _, Nat.le_add_right _ _, h1, h3, h4⟩
   ·rw [if_neg (by simpa using d)]
    have e : at_ f p n = at_ f p (n - 1) := by unfold at_; omega
    refine (uz fu p (n + 1) (q + 1) hp (by omega) (by omega) (fun i hi => ?_) fun k a b => ?_).mono fun r ⟨a1, a2, a3, a4, a5, a6⟩ => ⟨a1, by omega, by omega, a4, a5, a6⟩
    ·by_cases e' : i + 1 = n
     ·subst e'
      rw [e]; exact Int.le_refl _
     ·exact h3 i (by omega)
    ·show at_ f p k = at_ f p n
     by_cases e' : k = n
     ·subst e'; rfl
     ·rw [e]; exact h4 k (by omega) (by omega)
theorem z0G {n nrem : Nat} {p : Array Nat} (hp : Bel N p) (h1 : 1 ≤ n) (h2 : n ≤ nrem) (h3 : nrem ≤ p.size) (h : Down f p n) : Gives f N (kas_tail3 n nrem p) fun r => 1 ≤ r.1 ∧ r.1 ≤ nrem ∧ r.2.Perm p ∧ Up f r.2 r.1 := by
 refine Gives.bind ((z63 (hp.perm (yT _ _ _)) (nrem - n) n h1 fun i hi => ?_).mono fun m ⟨a, b, c⟩ => ⟨by omega, by show m ≤ nrem; omega, yT _ _ _, c⟩)
 rw [uT (by omega), uT (by omega), if_pos (by omega), if_pos (by omega)]
 have := h (0 + n - 1 - (i + 1)) (by omega)
 rwa [show 0 + n - 1 - (i + 1) + 1 = 0 + n - 1 - i by omega] at this
theorem wc {n nrem : Nat} {p : Array Nat} (hp : Bel N p) (h1 : 1 ≤ n) (h2 : n < nrem) (h3 : nrem ≤ p.size) (h : Down f p (n + 1)) : Gives f N (kas_descPart n nrem p) fun r => 1 ≤ r.1 ∧ r.1 ≤ nrem ∧ r.2.Perm p ∧ Up f r.2 r.1 := by
 refine Gives.bind ((uz (nrem - (n + 1)) p (n + 1) 0 hp (by omega) (by omega) h fun k a b => (by have e : k = n := (by omega); rw [e]; rfl)).mono fun r ⟨a1, a2, a3, a4, a5, a6⟩ => ?_)
 have sz : r.1.size = p.size := a1.size_eq
 show Gives f N (if r.2.2 > 0 then _ else _) _
 by_cases hq : r.2.2 > 0
 ·rw [if_pos hq]
  have same : ∀ k, at_ f (kas_rev r.1 (r.2.1 - (r.2.2 + 1)) r.2.1) k = at_ f r.1 k := fun k => by
   rw [uT (by omega)]
   split
   next h => rw [a6 k (by omega) h.2, a6 _ (by omega) (by omega)]
   next => rfl
  exact (z0G ((hp.perm a1).perm (yT _ _ _)) (by omega) (by omega) (by rw [z0C]; omega) fun i hi => by rw [same, same]; exact a5 i hi).mono fun z ⟨b1, b2, b3, b4⟩ => ⟨b1, b2, (b3.trans (yT _ _ _)).trans a1, b4⟩
 ·rw [if_neg hq]
  exact (z0G (hp.perm a1) (by omega) (by omega) (by omega) a5).mono fun z ⟨b1, b2, b3, b4⟩ => ⟨b1, b2, b3.trans a1, b4⟩
theorem z4v {nrem : Nat} {p : Array Nat} (hp : Bel N p) (h1 : 1 ≤ nrem) (h3 : nrem ≤ p.size) : Gives f N (kas_count nrem p) fun r => 1 ≤ r.1 ∧ r.1 ≤ nrem ∧ r.2.Perm p ∧ Up f r.2 r.1 := by
 refine Gives.bind ?_
 have key : ∀ (fu n : Nat), 1 ≤ n → Up f p n → Gives f N (kas_asc p fu n) fun m => n ≤ m ∧ m ≤ n + fu ∧ Up f p m ∧ (m < n + fu → at_ f p m < at_ f p (m - 1)) := by
  intro fu
  induction fu with
  | zero => intro n _ h; exact ⟨Nat.le_refl _, Nat.le_refl _, h, fun z => by omega⟩
  | succ fu ih =>
   intro n h1 h
   refine ⟨hp _, hp _, ?_⟩
   show Gives f N (if decide (f (p.getD n 0) < f (p.getD (n - 1) 0)) = true then _ else _) _
   by_cases c : f (p.getD n 0) < f (p.getD (n - 1) 0)
   ·rw [if_pos (by simpa using c)]
    exact ⟨Nat.le_refl _, by omega, h, fun _ => c⟩
   ·rw [if_neg (by simpa using c)]
    refine (ih (n + 1) (by omega) fun i hi => ?_).mono fun m ⟨a, b, c, d⟩ => ⟨by omega, by omega, c, fun z => d (by omega)⟩
    by_cases e : i + 1 = n
    ·subst e
     unfold at_
     have : i + 1 - 1 = i := by omega
     rw [this] at c
     omega
    ·exact h i (by omega)
 refine (key (nrem - 1) 1 (Nat.le_refl _) fun i hi => by omega).mono fun n ⟨a, b, c, d⟩ => ?_
 show Gives f N (if (n == nrem) = true then _ else _) _
 by_cases e : n = nrem
 ·rw [if_pos (by simpa using e)]
  exact ⟨a, by omega, Array.Perm.refl _, c⟩
 ·rw [if_neg (by simpa using e)]
  have lt := d (by omega)
  by_cases hn : n > 1
  ·rw [if_pos hn]
   refine ⟨hp _, hp _, ?_⟩
   show Gives f N (if decide (f (p.getD 0 0) < f (p.getD (n - 1) 0)) = true then _ else _) _
   by_cases g : f (p.getD 0 0) < f (p.getD (n - 1) 0)
   ·rw [if_pos (by simpa using g)]
    exact ⟨a, by omega, Array.Perm.refl _, c⟩
   ·rw [if_neg (by simpa using g)]
    have flat : ∀ k, k < n → at_ f p k = at_ f p (n - 1) := fun k hk => by
     have l1 := c.le (Nat.zero_le k) hk
     have l2 := c.le (show k ≤ n - 1 by omega) (by omega)
     have : at_ f p (n - 1) ≤ at_ f p 0 := by unfold at_; omega
     omega
    refine (wc (hp.perm (yT _ _ _)) a (by omega) (by rw [z0C]; omega) fun i hi => ?_).mono fun r ⟨b1, b2, b3, b4⟩ => ⟨b1, b2, b3.trans (yT _ _ _), b4⟩
    rw [uT (by omega), uT (by omega)]
    by_cases e1 : i + 1 < n
    ·rw [if_pos (by omega), if_pos (by omega), flat (0 + n - 1 - (i + 1)) (by omega), flat (0 + n - 1 - i) (by omega)]; exact Int.le_refl _
    ·have : i + 1 = n := by omega
     rw [if_neg (by omega), if_pos (by omega), flat (0 + n - 1 - i) (by omega), this]
     omega
  ·rw [if_neg hn]
   have : n = 1 := by omega
   subst this
   refine wc hp a (by omega) h3 fun i hi => ?_
   have : i = 0 := by omega
   subst this
   exact Int.le_of_lt lt
theorem z02 {p : Array Nat} {k : Nat} (hp : Bel N p) (hu : Up f p k) : ∀ (fu l r : Nat), l ≤ r → r ≤ k → r - l ≤ fu → (∀ i, i < l → at_ f p i ≤ at_ f p k) → (∀ i, r ≤ i → i < k → at_ f p k < at_ f p i) →
  Gives f N (kas_place p k fu l r) fun m => m ≤ k ∧ (∀ i, i < m → at_ f p i ≤ at_ f p k) ∧ (∀ i, m ≤ i → i < k → at_ f p k < at_ f p i)
 | 0, l, r, h1, h2, h3, h4, h5 => by
  have : l = r := by omega
  subst this
  exact ⟨h2, h4, h5⟩
 | fu + 1, l, r, h1, h2, h3, h4, h5 => by
  unfold kas_place
  by_cases e : l ≥ r
  ·rw [if_pos e]
   have : l = r := by omega
   subst this
   exact ⟨h2, h4, h5⟩
  ·rw [if_neg e]
   refine ⟨hp _, hp _, ?_⟩
   show Gives f N (if decide (f (p.getD k 0) < f (p.getD ((l + r) / 2) 0)) = true then _ else _) _
   by_cases c : f (p.getD k 0) < f (p.getD ((l + r) / 2) 0)
   ·rw [if_pos (by simpa using c)]
    refine z02 hp hu fu l ((l + r) / 2) (by omega) (by omega) (by omega) h4 fun i hi hk => ?_
    exact Int.lt_of_lt_of_le (show at_ f p k < at_ f p ((l + r) / 2) from c) (hu.le hi hk)
   ·rw [if_neg (by simpa using c)]
    refine z02 hp hu fu ((l + r) / 2 + 1) r (by omega) h2 (by omega) (fun i hi => ?_) h5
    have : at_ f p ((l + r) / 2) ≤ at_ f p k := by unfold at_; omega
    exact Int.le_trans (hu.le (show i ≤ (l + r) / 2 by omega) (by omega)) this
theorem z6B : ∀ (fu : Nat) (p : Array Nat) (k : Nat), Bel N p → 1 ≤ k → k + fu ≤ p.size → Up f p k → Gives f N (kas_bin fu p k) fun r => r.Perm p ∧ Up f r (k + fu)
 | 0, p, k, _, _, _, h => ⟨Array.Perm.refl _, h⟩
 | fu + 1, p, k, hp, h1, h2, h => by
  refine Gives.bind ((z02 hp h k 0 k (Nat.zero_le _) (Nat.le_refl _) (by omega) (fun i hi => by omega) fun i a b => by omega).mono fun l ⟨a, b, c⟩ => ?_)
  have get : ∀ j, at_ f (bubble p k (k - l)) j = if j = l then at_ f p k else if l < j ∧ j ≤ k then at_ f p (j - 1) else at_ f p j := fun j => by
   have e := getElem?_bubble (xs := p) (src := k) (by omega) (k - l) (by omega) j
   have kl : k - (k - l) = l := by omega
   rw [kl] at e
   unfold at_
   split at e
   next h => rw [if_pos h, wp e]
   next h =>
    rw [if_neg h]
    split at e
    next h' => rw [if_pos h', wp e]
    next h' => rw [if_neg h', wp e]
  have z := z6B fu (bubble p k (k - l)) (k + 1) (hp.perm (bubble_perm _ _ _)) (by omega) (by rw [bubble_size]; omega) fun i hi => by
   rw [get, get]
   by_cases e1 : i = l
   ·subst e1
    rw [if_pos rfl, if_neg (by omega)]
    by_cases e2 : i < k
    ·rw [if_pos (by omega)]
     have := c i (Nat.le_refl _) e2
     simpa using Int.le_of_lt this
    ·have : i + 1 ≤ k := by omega
     omega
   ·rw [if_neg e1]
    by_cases e2 : i < l
    ·rw [if_neg (by omega)]
     by_cases e3 : i + 1 = l
     ·rw [if_pos e3]; exact b i e2
     ·rw [if_neg e3, if_neg (by omega)]; exact h i (by omega)
    ·rw [if_pos (by omega), if_neg (by omega), if_pos (by omega)]
     have := h (i - 1) (by omega)
     rwa [show i - 1 + 1 = i + 1 - 1 by omega] at this
  exact z.mono fun r ⟨q1, q2⟩ => ⟨q1.trans (bubble_perm _ _ _), by rw [show k + (fu + 1) = k + 1 + fu by omega]; exact q2⟩
theorem sort_ok {n : Nat} (h2 : 1 ≤ n) : Gives f n (kas_sort n) fun r => r.Perm (List.toArray (List.range n)) ∧ Up f r n := by
 have sz : (List.toArray (List.range n)).size = n := by simp
 have hb : Bel n (List.toArray (List.range n)) := fun k => by
  rw [Array.getD_eq_getD_getElem?]
  by_cases hk : k < n
  ·simp [hk]
  ·simp [hk]; omega
 refine Gives.bind ((z4v hb h2 (by omega)).mono fun r ⟨a1, a2, a3, a4⟩ => ?_)
 show Gives f n (if r.1 < n then _ else _) _
 by_cases e : r.1 < n
 ·rw [if_pos e]
  have hm : max r.1 1 = r.1 := by omega
  rw [hm]
  have z := z6B (f := f) (N := n) (n - r.1) r.2 r.1 (hb.perm a3) a1 (by rw [a3.size_eq, sz]; omega) a4
  exact z.mono fun q ⟨q1, q2⟩ => ⟨q1.trans a3, by rwa [show r.1 + (n - r.1) = n by omega] at q2⟩
 ·rw [if_neg e]
  have : r.1 = n := by omega
  exact ⟨a3, by rwa [this] at a4⟩
end
end My
namespace L2
open PySem PySem.Spec PyProof.Rows
section
variable {prog : Program} {w : World} {A : Around} {R : Result → Shared → Prop}
theorem z2a (hh : A.in1.handled = none) {l I S : Addr} {vs : List Value} {g : Heap} {bt : Nat → Nat → Bool} (hlI : l ≠ I) (hlS : l ≠ S) (hSI : S ≠ I) (hl : g.IsList l vs.toArray)
  (cmp : ∀ i j vi vj (s : Shared) (Q : Value → Shared → Prop) (E : Value → Shared → Prop), vs[i]? = some vi → vs[j]? = some vj → (∀ b o, b ≠ I → b ≠ S → g.get? b = some o → s.heap.get? b = some o) → Q (.bool (bt i j)) s → wpAny (model prog w) A.in1 (richCompare .Lt vi vj) Q E s) :
  ∀ (k j : Nat) (s : Shared) (vb : Value) (c : Nat), vs.length - (j + 1) = k → j + 1 ≤ vs.length → s.heap.IsListIter I l (j + 1) → (∀ b o, b ≠ I → b ≠ S → g.get? b = some o → s.heap.get? b = some o) → vs[argBest bt j]? = some vb →
  s.heap.get? S = some { cls := .type "list", dict := none, data := .seq #[vb, vb] c, slots := #[] } →
  (∀ v h' tk, vs[argBest bt (vs.length - 1)]? = some v → (∀ b o, b ≠ I → b ≠ S → g.get? b = some o → h'.get? b = some o) → R (.ok (.ret v)) { s with heap := h', toks := tk }) →
  codeAny (model prog w) A (.builtin "min.loop" ⟨[.ref I, .none, .ref S], []⟩) R s := by
 have hname : (toString "min" ++ toString ".loop" : String) = "min.loop" := by decide
 have lis : ∀ {h : Heap}, (∀ b o, b ≠ I → b ≠ S → g.get? b = some o → h.get? b = some o) → h.IsList l vs.toArray := fun {h} k => by
  obtain ⟨o, e, r⟩ := hl
  exact ⟨o, k l o hlI hlS e, r⟩
 intro k
 induction k with
 | zero =>
  intro j s vb c hk hj hit kp hv hS hR
  have hin : j + 1 = vs.length := by omega
  refine codeAny_builtin F.entry_min_loop ?_; rw [Around.under_plainId F.plain_min_loop _]
  show wpAny _ A.in1 (seqItems? (.ref S) >>= _) _ _ s
  refine wpAny_bind (wpAny_seqItems hS rfl ?_); show wpAny _ A.in1 (tryCatch (pyNext (.ref I)) _ >>= _) _ _ s
  refine wpAny_bind (wpAny_tryCatch (wpAny_pyNext_list_end hh hit (lis kp) (by simp; omega) fun h' eb => ?_))
  have hS' := eb S _ hSI hS
  show wpAny _ A.in1 (updateSeq S (fun _ => #[]) >>= _) _ _ _; refine wpAny_bind ?_
  refine wpAny_updateSeq hS' rfl (wpAny_bind (wpAny_letGo (wpAny_pure ?_)))
  exact hR vb _ s.toks (by rw [← hin]; exact hv) fun b o hI hS2 e => (Heap.get?_update_other _ _ (Ne.symm hS2)).trans (eb b o hI (kp b o hI hS2 e))
 | succ k ih =>
  intro j s vb c hk hj hit kp hv hS hR
  have hlt : j + 1 < vs.length := by omega
  refine codeAny_builtin F.entry_min_loop ?_; rw [Around.under_plainId F.plain_min_loop _]
  show wpAny _ A.in1 (seqItems? (.ref S) >>= _) _ _ s
  refine wpAny_bind (wpAny_seqItems hS rfl ?_); show wpAny _ A.in1 (tryCatch (pyNext (.ref I)) _ >>= _) _ _ s
  refine wpAny_bind (wpAny_tryCatch (wpAny_pyNext_list_item (x := vs[j + 1]) hit (lis kp) (by simp [hlt]) fun h' hit' sb => ?_))
  have hS' : h'.get? S = _ := (sb.2 S hSI).trans hS
  have kp' : ∀ b o, b ≠ I → b ≠ S → g.get? b = some o → h'.get? b = some o := fun b o hI hS2 e => (sb.2 b hI).trans (kp b o hI hS2 e)
  show wpAny _ A.in1 (tryCatch (holding [vs[j + 1], vs[j + 1]] (richCompare .Lt vs[j + 1] vb >>= _)) _ >>= _) _ _ _
  refine wpAny_bind (wpAny_tryCatch (wpAny_holding (wpAny_bind (cmp (j + 1) (argBest bt j) _ vb _ _ _ (List.getElem?_eq_getElem hlt) hv kp' ?_))))
  refine wpAny_bind (wpAny_holding (wpAny_truthy_bool ?_)); refine wpAny_bind (wpAny_letGo (wpAny_pure ?_))
  cases hb : bt (j + 1) (argBest bt j) with
  | true =>
   simp only [if_true]; refine wpAny_bind ?_
   refine wpAny_updateSeq hS' rfl (wpAny_bind (wpAny_letGo ?_)); rw [hname]
   have kp2 : ∀ b o, b ≠ I → b ≠ S → g.get? b = some o → (h'.update S (Obj.mapSeq fun _ => #[vs[j + 1], vs[j + 1]])).get? b = some o := fun b o hI hS2 e => (Heap.get?_update_other _ _ (Ne.symm hS2)).trans (kp' b o hI hS2 e)
   refine wpAny_pure ⟨plainId_quiet F.plain_min_loop _, ih (j + 1) _ vs[j + 1] _ (by omega) hlt ?_ kp2 (by simp only [argBest, hb, if_true]; exact List.getElem?_eq_getElem hlt) (Heap.get?_update_self _ hS' rfl) fun v h2 tk hv2 k2 => hR v h2 tk hv2 k2⟩
   obtain ⟨oi, e1, e2⟩ := hit'
   exact ⟨oi, (Heap.get?_update_other _ _ hSI).trans e1, e2⟩
  | false =>
   simp only [Bool.false_eq_true, if_false]; refine wpAny_bind (wpAny_letGo ?_); rw [hname]
   exact wpAny_pure ⟨plainId_quiet F.plain_min_loop _, ih (j + 1) _ vb c (by omega) hlt hit' kp' (by simp only [argBest, hb, Bool.false_eq_true, if_false]; exact hv) hS' fun v h2 tk hv2 k2 => hR v h2 tk hv2 k2⟩
theorem z4o {E : Value → Shared → Prop} {s : Shared} {Q : Value → Shared → Prop} (hh : A.in1.handled = none) {l : Addr} {vs : List Value} {bt : Nat → Nat → Bool} (hl : s.heap.IsList l vs.toArray) (hn : 0 < vs.length)
  (cmp : ∀ i j vi vj (s' : Shared) (Q : Value → Shared → Prop) (E : Value → Shared → Prop), vs[i]? = some vi → vs[j]? = some vj → (∀ b o, s.heap.get? b = some o → s'.heap.get? b = some o) → Q (.bool (bt i j)) s' → wpAny (model prog w) A.in1 (richCompare .Lt vi vj) Q E s')
  (h : ∀ v h' tk, vs[argBest bt (vs.length - 1)]? = some v → (∀ b o, s.heap.get? b = some o → h'.get? b = some o) → Q v { s with heap := h', toks := tk }) :
  wpAny (model prog w) A (call (.builtin "min") [.ref l]) Q E s := by
 have hname : (toString "min" ++ toString ".loop" : String) = "min.loop" := by decide
 have hlt : l < s.heap.objs.size := by obtain ⟨o, e, _⟩ := hl; exact Heap.lt_size e
 refine call_function_tree F.kind_min F.plain_min F.entry_min (F.args_min1 _) ?_
 show wpAny _ A.in1 (Builtin.Builtins.bindParams "min" ["key", "default"] 0 ⟨[], []⟩ >>= _) _ _ s
 refine wpAny_bind (wpAny_of_eq (show Builtin.Builtins.bindParams "min" ["key", "default"] 0 ⟨[], []⟩ = pure [none, none] from rfl) ?_); refine wpAny_bind (wpAny_pure ?_)
 refine wpAny_bind (wpAny_pyIter_list hl ?_); refine wpAny_bind (wpAny_newObj_type ?_)
 rw [hname]
 generalize hg1 : s.heap.push { cls := .type "list_iterator", data := .fields #[.ref l, .int 0 0] } = g1
 have z1 : g1.objs.size = s.heap.objs.size + 1 := by rw [← hg1, Heap.size_push]
 have k1 : ∀ b o, s.heap.get? b = some o → g1.get? b = some o := fun b o e => by rw [← hg1]; exact Heap.get?_push_of_some _ e
 have hit : g1.IsListIter s.heap.objs.size l 0 := ⟨_, by rw [← hg1]; exact Heap.get?_push_size _ rfl, rfl, rfl⟩
 have ne : ∀ b o, s.heap.get? b = some o → b ≠ s.heap.objs.size ∧ b ≠ g1.objs.size := fun b o e => by
  have := Heap.lt_size e
  exact ⟨Nat.ne_of_lt this, Nat.ne_of_lt (by rw [z1]; exact Nat.lt_succ_of_lt this)⟩
 have hl1 : g1.IsList l vs.toArray := by obtain ⟨o, e, r⟩ := hl; exact ⟨o, k1 _ _ e, r⟩
 refine wpAny_pure ⟨plainId_quiet F.plain_min_loop _, ?_⟩
 refine codeAny_builtin F.entry_min_loop ?_; rw [Around.under_plainId F.plain_min_loop _]
 show wpAny _ A.in1 (seqItems? (.ref g1.objs.size) >>= _) _ _ _
 have hS0 : (g1.push { cls := .type "list", data := .seq #[] }).get? g1.objs.size = some { cls := .type "list", data := .seq #[] } := Heap.get?_push_size _ rfl
 refine wpAny_bind (wpAny_seqItems hS0 rfl ?_); show wpAny _ A.in1 (tryCatch (pyNext (.ref s.heap.objs.size)) _ >>= _) _ _ _
 have hitP : (g1.push { cls := .type "list", data := .seq #[] }).IsListIter s.heap.objs.size l 0 := by obtain ⟨o, e, r⟩ := hit; exact ⟨o, Heap.get?_push_of_some _ e, r⟩
 have hlP : (g1.push { cls := .type "list", data := .seq #[] }).IsList l vs.toArray := by obtain ⟨o, e, r⟩ := hl1; exact ⟨o, Heap.get?_push_of_some _ e, r⟩
 have hSI : g1.objs.size ≠ s.heap.objs.size := by rw [z1]; omega
 refine wpAny_bind (wpAny_tryCatch (wpAny_pyNext_list_item (x := vs[0]) hitP hlP (by simp [hn]) fun h' hit' sb => ?_))
 have hS' : h'.get? g1.objs.size = _ := (sb.2 _ hSI).trans hS0
 show wpAny _ A.in1 (updateSeq g1.objs.size (fun _ => #[vs[0], vs[0]]) >>= _) _ _ _; refine wpAny_bind ?_
 refine wpAny_updateSeq hS' rfl ?_; rw [hname]
 have kp : ∀ b o, b ≠ s.heap.objs.size → b ≠ g1.objs.size → s.heap.get? b = some o → (h'.update g1.objs.size (Obj.mapSeq fun _ => #[vs[0], vs[0]])).get? b = some o := fun b o hI hS2 e =>
  (Heap.get?_update_other _ _ (Ne.symm hS2)).trans ((sb.2 b hI).trans (Heap.get?_push_of_some _ (k1 b o e)))
 refine wpAny_pure ⟨plainId_quiet F.plain_min_loop _, z2a (g := s.heap) (bt := bt) (vs := vs) hh (Nat.ne_of_lt hlt) (Nat.ne_of_lt (by rw [z1]; exact Nat.lt_succ_of_lt hlt)) hSI hl (fun i j vi vj s' Q' E' e1 e2 k' hq => cmp i j vi vj s' Q' E' e1 e2 (fun b o e => k' b o (ne b o e).1 (ne b o e).2 e) hq)
  _ 0 _ vs[0] _ rfl hn ?_ kp (List.getElem?_eq_getElem hn) (Heap.get?_update_self _ hS' rfl) fun v h2 tk hv k2 => h v h2 tk hv fun b o e => k2 b o (ne b o e).1 (ne b o e).2 e⟩
 obtain ⟨oi, e1, e2⟩ := hit'
 exact ⟨oi, (Heap.get?_update_other _ _ hSI).trans e1, e2⟩
end
section
variable {X : Cx}
end
end L2
namespace L2
open PySem PySem.Spec PyProof.Rows
open PySem.W (KasT kas_sort kas_ask kat_run kat_snds kat_kind kat_lt KatTups KatLex kat_nil kat_cons kat_go kat_yes kat_no kat_one kat_lt_int)
theorem z2L {α : Type} {N : Nat} {f : Nat → Int} {cmp : Nat → Nat → (Bool → Shared → Prop) → Shared → Prop} {Q : α → Shared → Prop} {s : Shared} (hc : ∀ i j C, i < N → j < N → C (decide (f i < f j)) s → cmp i j C s) :
  ∀ {t : KasT α}, My.Gives f N t (fun a => Q a s) → t.kasWp cmp Q s
 | .ret _, h => h
 | .ask i j k, h => hc i j _ h.1 h.2.1 (z2L hc h.2.2)
noncomputable abbrev z1H (vs : List Value) (p : Array Nat) : Array Value := List.toArray (p.toList.map fun i => vs.getD i Value.none)
section
variable {prog : Program} {w : World} {A : Around} {E : Value → Shared → Prop} {s : Shared}
theorem z9J {a : Addr} {vs : List Value} {n : Nat} {P : PySem.Fin → Shared → Prop} {f : Nat → Int} {κ : SortKind} (ho : s.heap.get? a = some (seqObj "list" vs.toArray n)) (h64 : vs.length < 64)
  (kind : ∀ (s' : Shared) (Q : SortKind → Shared → Prop) (E : Value → Shared → Prop), 2 ≤ vs.length → (∀ b o, b ≠ a → s.heap.get? b = some o → s'.heap.get? b = some o) → Q κ s' → wpAny (model prog w) A (keyKind' vs.toArray) Q E s')
  (cmp : ∀ (i j : Nat) (s' : Shared) (Q : Bool → Shared → Prop) (E : Value → Shared → Prop), i < vs.length → j < vs.length → (∀ b o, b ≠ a → s.heap.get? b = some o → s'.heap.get? b = some o) → Q (decide (f i < f j)) s' → wpAny (model prog w) A (keyLt' κ (vs.getD i Value.none) (vs.getD j Value.none)) Q E s')
  (h : ∀ p : Array Nat, p.Perm (List.toArray (List.range vs.length)) → My.Up f p vs.length → P (.done (.ret .none)) { s with heap := sortedHeap s.heap a vs (z1H vs p) }) :
  wpAny (model prog w) A (Builtin.«list.sort» ⟨[.ref a], []⟩) P E s := by
 rw [list_sort_plain]
 have ha : a < s.heap.objs.size := Heap.lt_size ho
 refine wpAny_bind (listItems_at ho rfl ?_); refine wpAny_bind (listUpdate_at ho rfl ?_ (by rw [List.size_toArray, sizeLine_eq]; omega) (Nat.zero_le _))
 obtain ⟨e1, ho1⟩ : ∃ e1, (s.heap.update a (Obj.mapSeq fun _ => (#[] : Array Value))).get? a = some (seqObj "list" #[] e1) := ⟨_, get?_update_seq ho (fun _ => #[])⟩
 refine wpAny_bind (seqEpoch_at ho1 rfl ?_); refine wpAny_bind (wpAny_newTuple ?_ (by rw [sizeLine_eq]; show vs.toArray.toList.length ≤ _; simp; omega)); refine wpAny_bind (wpAny_newList ?_ (Nat.zero_le _)); refine wpAny_holding ?_
 have ho6 : (((s.heap.update a (Obj.mapSeq fun _ => #[])).push (seqObj "tuple" vs.toArray 0)).push (seqObj "list" #[] 0)).get? a = some (seqObj "list" #[] e1) :=
  Heap.get?_push_of_some _ (Heap.get?_push_of_some _ ho1)
 have kp : ∀ b o, b ≠ a → s.heap.get? b = some o → (((s.heap.update a (Obj.mapSeq fun _ => #[])).push (seqObj "tuple" vs.toArray 0)).push (seqObj "list" #[] 0)).get? b = some o := fun b o hb e =>
  Heap.get?_push_of_some _ (Heap.get?_push_of_some _ ((Heap.get?_update_other _ _ (Ne.symm hb)).trans e))
 show wpAny (model prog w) A _ P E { s with heap := ((s.heap.update a (Obj.mapSeq fun _ => #[])).push (seqObj "tuple" vs.toArray 0)).push (seqObj "list" #[] 0) }
 dsimp only
 have hsz : vs.toArray.size = vs.length := by simp
 by_cases h2 : vs.toArray.size < 2
 ·rw [if_pos h2, if_pos h2]; refine wpAny_bind (wpAny_pure ?_); rw [StateT.run_pure]; refine wpAny_bind (wpAny_pure ?_); dsimp only
  have out : (arrOf (SortSt.mk' general' (vs.toArray.zip vs.toArray) #[] 7 none)).map (·.2) = z1H vs (List.toArray (List.range vs.length)) := by
   have z1 : ((vs.toArray.zip vs.toArray).map (·.2)) = vs.toArray := by
    apply Array.toList_inj.mp
    simp [List.map_snd_zip]
   have z2 : z1H vs (List.toArray (List.range vs.length)) = vs.toArray := by
    apply Array.toList_inj.mp
    refine List.ext_getElem (by simp) fun i a b => ?_
    have b' : i < vs.length := by simpa using b
    simp [b']
   rw [z2]
   exact z1
  refine wpAny_bind (seqEpoch_at ho6 rfl ?_)
  rw [out]
  refine wpAny_bind (listUpdate_at ho6 rfl ?_ (Nat.zero_le _) (by rw [List.size_toArray, List.length_map, sizeLine_eq]; simp; omega))
  simp only [bne_self_eq_false, Bool.false_eq_true, if_false]
  exact wpAny_pure (h _ (Array.Perm.refl _) fun i hi => by omega)
 ·rw [if_neg h2, if_neg h2]
  have h2' : 2 ≤ vs.length := by omega
  refine wpAny_bind (kind _ _ _ h2' kp ?_)
  refine wpAny_bind (wpAny_mono (kat_run (E := E) (κ := κ) (ks := vs) (Q := fun st' s' => s' = { s with heap := ((s.heap.update a (Obj.mapSeq fun _ => #[])).push (seqObj "tuple" vs.toArray 0)).push (seqObj "list" #[] 0) } ∧ failedOf st' = none ∧ ∃ p : Array Nat, p.Perm (List.toArray (List.range vs.length)) ∧ My.Up f p vs.length ∧ (arrOf st').map (·.2) = z1H vs p)
   (G := fun p s' => s' = { s with heap := ((s.heap.update a (Obj.mapSeq fun _ => #[])).push (seqObj "tuple" vs.toArray 0)).push (seqObj "list" #[] 0) } ∧ p.Perm (List.toArray (List.range vs.length)) ∧ My.Up f p vs.length) rfl h2' h64
   (fun p st' s' _ har hf ⟨g1, g2, g3⟩ => ⟨g1, hf, p, g2, g3, kat_snds rfl har⟩)
   (z2L (N := vs.length) (f := f) (fun i j C hi hj hC => cmp i j _ C _ hi hj kp hC) ((My.sort_ok (by omega)).mono fun p hp => ⟨rfl, hp⟩))) ?_ fun _ _ e => e)
  rintro ⟨⟨⟩, st'⟩ s' ⟨rfl, hf, p, hp, hup, out⟩
  dsimp only at hf out ⊢
  refine wpAny_bind (seqEpoch_at ho6 rfl ?_)
  rw [out]
  refine wpAny_bind (listUpdate_at ho6 rfl ?_ (Nat.zero_le _) (by rw [List.size_toArray, List.length_map, Array.length_toList, hp.size_eq, sizeLine_eq]; simp; omega))
  rw [hf]
  simp only [bne_self_eq_false, Bool.false_eq_true, if_false]
  exact wpAny_pure (h p hp hup)
end
section
variable {X : Cx}
end
end L2
namespace L2
open PySem PySem.Spec PyProof.Rows
open PySem.W (KasT kas_sort kas_ask kat_run kat_snds kat_kind kat_lt KatTups KatLex kat_nil kat_cons kat_go kat_yes kat_no kat_one kat_lt_int)
mutual
noncomputable def DatV (H : Hp) : PyData → V → Prop
 | .none, v => v = .non
 | .bool b, v => v = .bl b
 | .int i, v => v = .int i
 | .str x, v => v = .str x
 | .list ds, v => ∃ a xs, v = .ref a ∧ H a = some (.lst xs) ∧ DatAll H ds xs
 | .tuple ds, v => ∃ a xs, v = .ref a ∧ H a = some (.tup xs) ∧ DatAll H ds xs
 | .dict _, _ => False
noncomputable def DatAll (H : Hp) : List PyData → List V → Prop
 | [], xs => xs = []
 | d :: ds, xs => ∃ x r, xs = x :: r ∧ DatV H d x ∧ DatAll H ds r
end
mutual
theorem DatV.same {H H' : Hp} (s : ∀ b o, H b = some o → H' b = some o) : ∀ {d : PyData} {v : V}, DatV H d v → DatV H' d v
 | .none, _, h => by simp only [DatV] at h ⊢; exact h
 | .bool _, _, h => by simp only [DatV] at h ⊢; exact h
 | .int _, _, h => by simp only [DatV] at h ⊢; exact h
 | .str _, _, h => by simp only [DatV] at h ⊢; exact h
 | .list _, _, h => by
  simp only [DatV] at h ⊢
  obtain ⟨a, xs, e, h1, h2⟩ := h
  exact ⟨a, xs, e, s _ _ h1, DatAll.same s h2⟩
 | .tuple _, _, h => by
  simp only [DatV] at h ⊢
  obtain ⟨a, xs, e, h1, h2⟩ := h
  exact ⟨a, xs, e, s _ _ h1, DatAll.same s h2⟩
 | .dict _, _, h => by simp only [DatV] at h
theorem DatAll.same {H H' : Hp} (s : ∀ b o, H b = some o → H' b = some o) : ∀ {ds : List PyData} {xs : List V}, DatAll H ds xs → DatAll H' ds xs
 | [], _, h => by simp only [DatAll] at h ⊢; exact h
 | _ :: _, _, h => by
  simp only [DatAll] at h ⊢
  obtain ⟨x, r, e, h1, h2⟩ := h
  exact ⟨x, r, e, DatV.same s h1, DatAll.same s h2⟩
end
mutual
theorem DatV.reads {P : Program} {w : World} {H : Hp} {h : Heap} (ok : HOk P w H h) : ∀ {d : PyData} {v : V} {u : Value}, DatV H d v → RelV v u → ∃ as, Reads h u d as
 | .none, _, _, e, r => by simp only [DatV] at e; subst e; cases r; exact ⟨_, .none⟩
 | .bool _, _, _, e, r => by simp only [DatV] at e; subst e; cases r; exact ⟨_, .bool _⟩
 | .int _, _, _, e, r => by simp only [DatV] at e; subst e; obtain ⟨t, rfl⟩ := r; exact ⟨_, .int _ _⟩
 | .str _, _, _, e, r => by simp only [DatV] at e; subst e; obtain ⟨t, rfl⟩ := r; exact ⟨_, .str _ _⟩
 | .list ds, _, _, e, r => by
  simp only [DatV] at e
  obtain ⟨a, xs, rfl, h1, h2⟩ := e
  cases r
  obtain ⟨_, its, n, rv, g⟩ := (show ObjOk P w H h a (.lst xs) from ok a _ h1)
  obtain ⟨as, ra⟩ := DatAll.reads ok h2 rv
  exact ⟨_, .list g rfl rfl (by simpa using ra)⟩
 | .tuple ds, _, _, e, r => by
  simp only [DatV] at e
  obtain ⟨a, xs, rfl, h1, h2⟩ := e
  cases r
  obtain ⟨_, its, rv, o, g1, g2, n, g3⟩ := (show ObjOk P w H h a (.tup xs) from ok a _ h1)
  obtain ⟨as, ra⟩ := DatAll.reads ok h2 rv
  exact ⟨_, .tuple g1 g2 g3 (by simpa using ra)⟩
 | .dict _, _, _, e, _ => by simp only [DatV] at e
theorem DatAll.reads {P : Program} {w : World} {H : Hp} {h : Heap} (ok : HOk P w H h) : ∀ {ds : List PyData} {xs : List V} {us : List Value}, DatAll H ds xs → Vals xs us → ∃ as, ReadsAll h us ds as
 | [], _, _, e, r => by simp only [DatAll] at e; subst e; cases r; exact ⟨_, .nil⟩
 | d :: ds, _, _, e, r => by
  simp only [DatAll] at e
  obtain ⟨x, r', rfl, h1, h2⟩ := e
  cases r with
  | cons r1 r2 =>
   obtain ⟨as, ra⟩ := DatV.reads ok h1 r1
   obtain ⟨bs, rb⟩ := DatAll.reads ok h2 r2
   exact ⟨_, .cons ra rb⟩
end
section
variable {X : Cx}
noncomputable def rEqD (neg : Bool) : R2 := fun x y H Q => ∃ d e, DatV H d x ∧ DatV H e y ∧ d.canLay0 = true ∧ e.canLay0 = true ∧ min d.depth e.depth ≤ 60 ∧ Q (.bl (if neg then !PyData.eqv d e else PyData.eqv d e)) H
theorem z7u (hu : X.A.units + 64 < cLine) : OpR X (compareOp .Eq) (rEqD false) := by
 intro pins s σ H x y v u Q I rx ry h
 obtain ⟨d, e, h1, h2, c1, c2, hd, q⟩ := h
 obtain ⟨as, r1⟩ := DatV.reads I.hok h1 rx
 obtain ⟨bs, r2⟩ := DatV.reads I.hok h2 ry
 exact SeqAt.compareEq_reads r1 r2 c1 c2 (by omega) ⟨.bl _, H, I, rfl, q⟩
theorem z7S (hu : X.A.units + 64 < cLine) : OpR X (compareOp .NotEq) (rEqD true) := by
 intro pins s σ H x y v u Q I rx ry h
 obtain ⟨d, e, h1, h2, c1, c2, hd, q⟩ := h
 obtain ⟨as, r1⟩ := DatV.reads I.hok h1 rx
 obtain ⟨bs, r2⟩ := DatV.reads I.hok h2 ry
 exact SeqAt.compareNe_reads r1 r2 c1 c2 (by omega) ⟨.bl _, H, I, rfl, q⟩
noncomputable def rInD (neg : Bool) : R2 := fun x y H Q => ∃ d ds, DatV H d x ∧ (DatV H (.list ds) y ∨ DatV H (.tuple ds) y) ∧ d.canLay0 = true ∧ PyData.canLayAll0 ds = true ∧ d.depth ≤ 60 ∧ Q (.bl (if neg then !(ds.any fun y => PyData.eqv y d) else ds.any fun y => PyData.eqv y d)) H
theorem z8I (hu : X.A.units + 64 < cLine) : OpR X (compareOp .In) (rInD false) := by
 intro pins s σ H x y v u Q I rx ry h
 obtain ⟨d, ds, h1, h2, c1, c2, hd, q⟩ := h
 obtain ⟨as, r1⟩ := DatV.reads I.hok h1 rx
 rcases h2 with h2 | h2
 ·obtain ⟨bs, r2⟩ := DatV.reads I.hok h2 ry
  exact SeqAt.in_list_reads r2 r1 c2 c1 (by have := Nat.min_le_right (PyData.depthAll ds) d.depth; omega) ⟨.bl _, H, I, rfl, q⟩
 ·obtain ⟨bs, r2⟩ := DatV.reads I.hok h2 ry
  exact SeqAt.in_tuple_reads r2 r1 c2 c1 (by have := Nat.min_le_right (PyData.depthAll ds) d.depth; omega) ⟨.bl _, H, I, rfl, q⟩
theorem z32 (hu : X.A.units + 64 < cLine) : OpR X (compareOp .NotIn) (rInD true) := by
 intro pins s σ H x y v u Q I rx ry h
 obtain ⟨d, ds, h1, h2, c1, c2, hd, q⟩ := h
 obtain ⟨as, r1⟩ := DatV.reads I.hok h1 rx
 rcases h2 with h2 | h2
 ·obtain ⟨bs, r2⟩ := DatV.reads I.hok h2 ry
  exact SeqAt.notIn_list_reads r2 r1 c2 c1 (by have := Nat.min_le_right (PyData.depthAll ds) d.depth; omega) ⟨.bl _, H, I, rfl, q⟩
 ·obtain ⟨bs, r2⟩ := DatV.reads I.hok h2 ry
  exact SeqAt.notIn_tuple_reads r2 r1 c2 c1 (by have := Nat.min_le_right (PyData.depthAll ds) d.depth; omega) ⟨.bl _, H, I, rfl, q⟩
noncomputable def z7L : R2 := fun x y H Q => ∃ a b xs ys, x = .ref a ∧ y = .ref b ∧ H a = some (.tup xs) ∧ H b = some (.tup ys) ∧ xs.length + ys.length ≤ sizeLine ∧ ∀ p H', Same H H' → H' p = some (.tup (xs ++ ys)) → Q (.ref p) H'
theorem z2O {H : Hp} {D : Addr} {o : HO} (h : H D = none) : Same H (upd H D o) := fun b x e => by rw [zF (zS e h)]; exact e
theorem op_catTT : OpR X (binaryOp .Add) z7L := by
 intro pins s σ H x y v u Q I rx ry h
 obtain ⟨a, b, xs, ys, rfl, rfl, ha, hb, hz, q⟩ := h
 by_cases hx : xs = []
 ·cases rx
  cases ry
  subst hx
  obtain ⟨its, r1, p1, _⟩ := I.tuple (SqT.of (K := X.K) ha)
  obtain ⟨its2, r2, p2, _⟩ := I.tuple (SqT.of (K := X.K) hb)
  cases r1
  obtain ⟨⟨cls, dd, data, sl⟩, ho, hc, n, hd⟩ := id p1
  obtain ⟨⟨cls2, dd2, data2, sl2⟩, ho2, hc2, n2, hd2⟩ := id p2
  simp only at hc hd hc2 hd2
  subst hc hd hc2 hd2
  exact concat_meets ⟨_, ho, rfl⟩ ⟨_, ho2, rfl⟩ noFill_tuple_add seq_tuple_add PySem.F.slot_tuple_add PySem.F.entry_tuple_add (PySem.F.args_tuple_add_2 _ _)
   (tuple_addW0 a b #[] its2.toArray n n2 dd dd2 sl sl2 rfl) ⟨ho, ho2, ⟨.ref b, H, I, rfl, q b H (fun _ _ e => e) (by simpa using hb)⟩⟩
 ·refine z77 pins s σ H _ _ v u Q I rx ry ⟨a, b, xs, ys, rfl, rfl, SqT.of ha, SqT.of hb, hx, hz, fun e => ?_, fun e p hp => q p _ (z2O hp) zC⟩
  subst e
  exact q a H (fun _ _ e => e) (by simpa using ha)
theorem xv : fillsNumberSlot (.type "tuple") "mul" = pure false :=
 PySem.fillsNumberSlot_seq (id := "tuple.__mul__") (r := some (.builtin "tuple.__rmul__")) F.slot_tuple_mul.lookup (by decide +kernel) F.slot_tuple_rmul.lookup (by decide +kernel)
theorem z18 : seqRepeat? (.type "tuple") = pure (some (.builtin "tuple.__mul__")) := by
 unfold seqRepeat?
 rw [PySem.seqSlot_of (T := "tuple") (name := "__mul__") (id := "tuple.__mul__") F.slot_tuple_mul.lookup (by decide +kernel), PySem.seqSlot_of (T := "tuple") (name := "__rmul__") (id := "tuple.__rmul__") F.slot_tuple_rmul.lookup (by decide +kernel)]
 rfl
theorem yg (a : Int) (t : Tok) (l : Addr) (items : Array Value) (n : Nat) (dd : Option Addr) (sl : Array (Option Value)) :
  Meets (Builtin.«int.__rmul__» ⟨[.int a t, .ref l], []⟩) (fun _ R s => s.heap.get? l = some { cls := .type "tuple", dict := dd, data := .seq items n, slots := sl } ∧ R (.ok (.ret Value.notImplemented)) s) :=
 .of_wp fun prog w A R s h => by obtain ⟨hp, g, d, tk, os⟩ := s; obtain ⟨hl, h⟩ := h; wp_walk; exact ⟨_, rfl, h⟩
theorem z1U (l : Addr) (items : Array Value) (n : Nat) (dd : Option Addr) (sl : Array (Option Value)) (x : Int) (u : Tok) (h1 : -(2 ^ 63) ≤ x) (h2 : x < 2 ^ 63) (hc0 : (items.isEmpty || x == 1) = true) :
    Meets (Builtin.«tuple.__mul__» ⟨[.ref l, .int x u], []⟩) (fun _ R s => s.heap.get? l = some { cls := .type "tuple", dict := dd, data := .seq items n, slots := sl } ∧ R (.ok (.ret (Value.ref l))) s) :=
  .of_wp fun prog w A R s h => by
    obtain ⟨hp, g, d, tk, os⟩ := s; obtain ⟨hl, h⟩ := h
    have f1 := AutoSeq1.idx_int
    have hb : (decide (x < -(2 ^ 63)) || decide (x ≥ 2 ^ 63)) = false := by simp; omega
    wp_walk using wpAny_loadPart' hl
    refine wpAny_ite_false (decide_eq_false (by rw [hb]; exact Bool.false_ne_true)) ?_
    wp_walk using wpAny_loadPart' hl
    first
      | exact ⟨_, rfl, h⟩
      | (refine wpAny_ite_true (decide_eq_true hc0) ?_
         wp_walk using wpAny_loadPart' hl
         exact ⟨_, rfl, h⟩)
theorem z1N (l : Addr) (items : Array Value) (n : Nat) (dd : Option Addr) (sl : Array (Option Value)) (x : Int) (u : Tok) (h1 : 1 < x) (h2 : x < 2 ^ 63) (hc0 : items.isEmpty = false) (hz : items.size * x.toNat ≤ sizeLine) :
  Meets (Builtin.«tuple.__mul__» ⟨[.ref l, .int x u], []⟩) (fun _ R s => s.heap.get? l = some { cls := .type "tuple", dict := dd, data := .seq items n, slots := sl } ∧ R (.ok (.ret (Value.ref s.heap.objs.size))) { s with heap := s.heap.push { cls := Value.type "tuple", data := Data.seq (List.foldl (fun x1 x2 => x1 ++ x2) #[] (List.replicate x.toNat items)) }, toks := s.toks }) :=
 .of_wp fun prog w A R s h => by
  obtain ⟨hp, g, d, tk, os⟩ := s; obtain ⟨hl, h⟩ := h
  have f1 := AutoSeq1.idx_int
  have hb : (decide (x < -(2 ^ 63)) || decide (x ≥ 2 ^ 63)) = false := by simp; omega
  have hc1 : (items.isEmpty || x == 1) = false := by rw [hc0]; simp; omega
  have hc2 : (decide (x ≤ 0) || items.isEmpty) = false := by rw [hc0]; simp; omega
  have hm : ((items.size : Int) * x) = ((items.size * x.toNat : Nat) : Int) := by
   rw [Int.natCast_mul, Int.toNat_of_nonneg (by omega)]
  have hc3 : ¬ ((items.size : Int) * x > (2 ^ 63 - 1) / 8) := by
   rw [hm]
   have : (sizeLine : Nat) ≤ (2 ^ 63 - 1) / 8 := by decide
   omega
  have hc4 : Builtin.Tuple.tupleTooMany ((items.size : Int) * x) = false := by
   rw [hm]; unfold Builtin.Tuple.tupleTooMany
   exact decide_eq_false (by omega)
  wp_walk using wpAny_loadPart' hl
  refine wpAny_ite_false (decide_eq_false (by rw [hb]; exact Bool.false_ne_true)) ?_
  wp_walk using wpAny_loadPart' hl
  refine wpAny_ite_false (decide_eq_false (by rw [hc1]; exact Bool.false_ne_true)) ?_
  show wpAny _ _ (if (decide (x ≤ 0) || items.isEmpty) = true then _ else _) _ _ _
  refine wpAny_ite_false (decide_eq_false (by rw [hc2]; exact Bool.false_ne_true)) ?_
  show wpAny _ _ (if (items.size : Int) * x > (2 ^ 63 - 1) / 8 then _ else _) _ _ _
  refine wpAny_ite_false (decide_eq_false hc3) ?_
  show wpAny _ _ (if Builtin.Tuple.tupleTooMany ((items.size : Int) * x) = true then _ else _) _ _ _
  refine wpAny_ite_false (decide_eq_false (by rw [hc4]; exact Bool.false_ne_true)) ?_
  have hsz : sizeOk (.seq (List.foldl (fun x1 x2 => x1 ++ x2) #[] (List.replicate x.toNat items))) := by
   show (List.foldl (fun x1 x2 => x1 ++ x2) #[] (List.replicate x.toNat items)).size ≤ sizeLine
   have f0 : ∀ (m : Nat) (acc : Array Value), (List.foldl (fun x1 x2 => x1 ++ x2) acc (List.replicate m items)).size = acc.size + m * items.size := fun m => by
    induction m with
    | zero => intro acc; simp
    | succ m ih => intro acc; rw [List.replicate_succ, List.foldl_cons, ih, Array.size_append, Nat.succ_mul]; omega
   rw [f0, Nat.mul_comm]; simpa using hz
  exact wpAny_bind (m := Builtin.Tuple.tupleExact _) (wpAny_newObj_type (wpAny_pure ⟨_, rfl, h⟩) hsz)
noncomputable def z7e : R2 := fun x y H Q => ∃ a k xs, x = .ref a ∧ y = .int k ∧ H a = some (.tup xs) ∧ 0 < k ∧ k < 1000000 ∧ xs.length * k.toNat ≤ sizeLine ∧ ∀ p H', Same H H' → H' p = some (.tup (List.replicate k.toNat xs).flatten) → Q (.ref p) H'
theorem op_repTT : OpR X (binaryOp .Mult) z7e := by
 intro pins s σ H x y v u Q I rx ry h
 obtain ⟨l, k, xs, rfl, rfl, hH, h1, h2, hz, q⟩ := h
 cases rx
 obtain ⟨t, rfl⟩ := ry
 obtain ⟨its, r, ht, hl⟩ := I.tuple (SqT.of (K := X.K) hH)
 have hlen : its.length = xs.length := r.length.symm
 obtain ⟨⟨cls, dd, data, sl⟩, ho, hc, n, hd⟩ := id ht
 simp only at hc hd
 subst hc hd
 refine wpAny_binaryOp_repeat_ref (T := "tuple") (U := "int") (by decide) ⟨_, ho, rfl⟩ (fun s' => typeIs_int s' k t) xv F.fills_int_mul F.slot_int_rmul z18 F.slot_int_index.lookup
  (call_meets F.slot_int_rmul (typeIs_int s k t) F.entry_int_rmul (F.args_int_rmul_2 _ _) (yg k t l its.toArray n dd sl)
   ⟨ho, rfl, ⟨_, ho, rfl⟩, ?_⟩)
 by_cases hc : (its.toArray.isEmpty || k == 1) = true
 ·refine call_meets F.slot_tuple_mul ⟨_, ho, rfl⟩ F.entry_tuple_mul (F.args_tuple_mul_2 _ _) (z1U l its.toArray n dd sl k t (by omega) (by omega) hc) ⟨ho, ?_⟩
  refine ⟨.ref l, H, I, rfl, q l H (fun _ _ e => e) ?_⟩
  rw [Bool.or_eq_true] at hc
  rcases hc with hc | hc
  ·have : its = [] := by simpa using hc
   subst this
   cases r
   rw [hH]; simp
  ·have : k = 1 := by simpa using hc
   subst this
   rw [hH]; simp
 ·have hc' : (its.toArray.isEmpty || k == 1) = false := by simpa using hc
  rw [Bool.or_eq_false_iff] at hc'
  have k1 : k ≠ 1 := by simpa using hc'.2
  refine call_meets F.slot_tuple_mul ⟨_, ho, rfl⟩ F.entry_tuple_mul (F.args_tuple_mul_2 _ _) (z1N l its.toArray n dd sl k t (by omega) (by omega) hc'.1 (by rw [List.size_toArray, hlen]; exact hz)) ⟨ho, ?_⟩
  have f0 : List.foldl (fun x1 x2 => x1 ++ x2) #[] (List.replicate k.toNat its.toArray) = (List.replicate k.toNat its).flatten.toArray := by
   have := wP its k.toNat []
   rw [List.nil_append] at this
   exact this
  rw [f0]
  refine ⟨.ref _, _, I.laid (t' := s.toks) (o := .tup (List.replicate k.toNat xs).flatten) (fun b ob q => Heap.get?_push_of_some _ q) (Nat.le_refl _) ?_, rfl, q _ _ (z2O (I.hok.fresh (Nat.le_refl _))) zC⟩
  exact ⟨by rw [z48, Nat.mul_comm]; exact hz, _, r.rep k.toNat, IsTup.new _ _⟩
end
end L2
namespace L2
open PySem PySem.Spec PyProof.Rows
inductive D where
 | p (x : PyData) | scr (ns : List Int) | town | fn (a : Addr) | exc (a C : Addr)
inductive Sl where
 | val (d : D) | own (x : PyData)
inductive Res (α : Type) where
 | ok (a : α) (n : Nat) | err (c : Str) (n : Nat) | bad
noncomputable def Mx (α : Type) : Type := Nat → Res α
noncomputable def Mx.ret {α : Type} (a : α) : Mx α := fun n => .ok a n
noncomputable def Mx.bind {α β : Type} (m : Mx α) (f : α → Mx β) : Mx β := fun n => match m n with
 | .ok a n' => f a n'
 | .err c n' => .err c n'
 | .bad => .bad
noncomputable def Mx.bad {α : Type} : Mx α := fun _ => .bad
noncomputable def Mx.opt {α : Type} : Option α → Mx α
 | some a => Mx.ret a
 | none => Mx.bad
noncomputable instance : Monad Mx where
 pure := Mx.ret
 bind := Mx.bind
theorem Mx.bind_def {α β : Type} (m : Mx α) (f : α → Mx β) (n : Nat) : (m >>= f) n = (match m n with | .ok a n' => f a n' | .err c n' => .err c n' | .bad => .bad) := rfl
noncomputable abbrev Env' := List (Option Sl)
inductive Out where
 | nx (ρ : Env') | rt (d : D) | bk (ρ : Env') | ct (ρ : Env')
noncomputable def Kp (S : Addr → Prop) (H H' : Hp) : Prop := ∀ b o, H b = some o → (¬ S b ∨ ∃ xs, o = .tup xs) → H' b = some o
theorem Kp.refl (S : Addr → Prop) (H : Hp) : Kp S H H := fun _ _ h _ => h
theorem Kp.trans {S : Addr → Prop} {H H1 H2 : Hp} (a : Kp S H H1) (b : Kp S H1 H2) : Kp S H H2 := fun c o h k => b c o (a c o h k) k
theorem Kp.of {S : Addr → Prop} {H H' : Hp} (s : Same H H') : Kp S H H' := fun b o h _ => s b o h
theorem Kp.mono {S S' : Addr → Prop} {H H' : Hp} (k : Kp S H H') (h : ∀ a, S a → S' a) : Kp S' H H' := fun b o e q => k b o e (q.imp (fun z w => z (h b w)) id)
noncomputable def z0F : HO → Prop
 | .dK _ => True
 | .dT _ => True
 | _ => False
theorem Rd.kp {S : Addr → Prop} {H H' : Hp} (k : Kp S H H') {b : Addr} {u : HO} (h : Rd H b u) (q : ¬ S b) : Rd H' b u := by
 rcases h with h | ⟨o, h⟩
 ·exact .inl (k b u h (.inl q))
 ·exact .inr ⟨o, k b _ h (.inl q)⟩
theorem Rd.some {H : Hp} {a : Addr} {u : HO} (h : Rd H a u) : H a ≠ none := by
 rcases h with h | ⟨o, h⟩ <;> (rw [h]; intro z; cases z)
theorem Rd.not_tup {H : Hp} {a : Addr} {u : HO} (h : Rd H a u) (hd : z0F u) : ∀ xs, H a ≠ .some (.tup xs) := fun xs z => by
 rcases h with h | ⟨o, h⟩
 ·rw [h] at z; cases z; exact hd
 ·rw [h] at z; cases z
noncomputable def Pl (H : Hp) (a : Addr) : Prop := ∃ o, H a = some o ∧ ∀ ob u, o ≠ .frz ob u
theorem Pl.some {H : Hp} {a : Addr} (h : Pl H a) : H a ≠ none := by
 obtain ⟨o, e, _⟩ := h
 rw [e]; intro z; cases z
theorem Pl.kp {S : Addr → Prop} {H H' : Hp} {a : Addr} (h : Pl H a) (k : Kp S H H') (q : ¬ S a) : Pl H' a := by
 obtain ⟨o, e, n⟩ := h
 exact ⟨o, k _ _ e (.inl q), n⟩
theorem Pl.rd {H : Hp} {a : Addr} {u : HO} (h : Pl H a) (r : Rd H a u) : H a = .some u := by
 obtain ⟨o, e, n⟩ := h
 rcases r with r | ⟨ob, r⟩
 ·exact r
 ·rw [e] at r; cases r; exact absurd rfl (n ob u)
theorem Pl.upd {H : Hp} {a : Addr} {o : HO} (n : ∀ ob u, o ≠ .frz ob u := by intro _ _ z; cases z) : Pl (upd H a o) a := ⟨o, zC, n⟩
noncomputable def kD : Key → PyData
 | .inl i => .int i
 | .inr x => .str x
noncomputable def kT (k : List Key) : PyData := .tuple (k.map kD)
noncomputable def DctAt (H : Hp) (a : Addr) (ks : List (PyData × V)) : Prop :=
 (∃ l : List (Key × V), Rd H a (.dK l) ∧ ks = l.map fun kv => (kD kv.1, kv.2)) ∨ ∃ l : List (List Key × V), Rd H a (.dT l) ∧ ks = l.map fun kv => (kT kv.1, kv.2)
theorem DctAt.kp {S : Addr → Prop} {H H' : Hp} {a : Addr} {ks : List (PyData × V)} (k : Kp S H H') (hs : ¬ S a) (h : DctAt H a ks) : DctAt H' a ks := by
 rcases h with ⟨l, h, e⟩ | ⟨l, h, e⟩
 ·exact .inl ⟨l, h.kp k hs, e⟩
 ·exact .inr ⟨l, h.kp k hs, e⟩
theorem DctAt.some {H : Hp} {a : Addr} {ks : List (PyData × V)} (h : DctAt H a ks) : H a ≠ none := by
 rcases h with ⟨l, h, _⟩ | ⟨l, h, _⟩ <;> exact h.some
theorem DctAt.not_tup {H : Hp} {a : Addr} {ks : List (PyData × V)} (h : DctAt H a ks) : ∀ xs, H a ≠ .some (.tup xs) := by
 rcases h with ⟨l, h, _⟩ | ⟨l, h, _⟩ <;> exact h.not_tup True.intro
mutual
noncomputable def DatS (S : Addr → Prop) (H : Hp) : PyData → V → Prop
 | .none, v => v = .non
 | .bool b, v => v = .bl b
 | .int i, v => v = .int i
 | .str x, v => v = .str x
 | .list ds, v => ∃ a xs, v = .ref a ∧ ¬ S a ∧ H a = some (.lst xs) ∧ DatsS S H ds xs
 | .tuple ds, v => ∃ a xs, v = .ref a ∧ H a = some (.tup xs) ∧ DatsS S H ds xs
 | .dict kvs, v => ∃ a ks, v = .ref a ∧ ¬ S a ∧ DctAt H a ks ∧ DctS S H kvs ks
noncomputable def DatsS (S : Addr → Prop) (H : Hp) : List PyData → List V → Prop
 | [], xs => xs = []
 | d :: ds, xs => ∃ x r, xs = x :: r ∧ DatS S H d x ∧ DatsS S H ds r
noncomputable def DctS (S : Addr → Prop) (H : Hp) : List (PyData × PyData) → List (PyData × V) → Prop
 | [], xs => xs = []
 | (k, d) :: ds, xs => ∃ x r, xs = (k, x) :: r ∧ DatS S H d x ∧ DctS S H ds r
end
noncomputable def Dat1 (T S : Addr → Prop) (H : Hp) : PyData → V → Prop
 | .list ds, v => ∃ a xs, v = .ref a ∧ ¬ T a ∧ H a = some (.lst xs) ∧ DatsS S H ds xs
 | .dict kvs, v => ∃ a ks, v = .ref a ∧ ¬ T a ∧ DctAt H a ks ∧ DctS S H kvs ks
 | d, v => DatS S H d v
theorem DatS.one {T S : Addr → Prop} {H : Hp} {d : PyData} {v : V} (hT : ∀ a, T a → S a) (h : DatS S H d v) : Dat1 T S H d v := by
 cases d <;> simp only [DatS, Dat1] at h ⊢
 case list => obtain ⟨a, xs, e, h0, h1, h2⟩ := h; exact ⟨a, xs, e, fun z => h0 (hT a z), h1, h2⟩
 case dict => obtain ⟨a, xs, e, h0, h1, h2⟩ := h; exact ⟨a, xs, e, fun z => h0 (hT a z), h1, h2⟩
 all_goals exact h
mutual
theorem DatS.kp {S S' : Addr → Prop} {H H' : Hp} (s : Kp S H H') (hS : ∀ a, S' a → S a ∨ H a = none) : ∀ {d : PyData} {v : V}, DatS S H d v → DatS S' H' d v
 | .none, _, h => by simp only [DatS] at h ⊢; exact h
 | .bool _, _, h => by simp only [DatS] at h ⊢; exact h
 | .int _, _, h => by simp only [DatS] at h ⊢; exact h
 | .str _, _, h => by simp only [DatS] at h ⊢; exact h
 | .list _, _, h => by
  simp only [DatS] at h ⊢
  obtain ⟨a, xs, e, h0, h1, h2⟩ := h
  exact ⟨a, xs, e, fun z => (hS a z).elim h0 fun q => (by rw [q] at h1; cases h1), s _ _ h1 (.inl h0), DatsS.kp s hS h2⟩
 | .tuple _, _, h => by
  simp only [DatS] at h ⊢
  obtain ⟨a, xs, e, h1, h2⟩ := h
  exact ⟨a, xs, e, s _ _ h1 (.inr ⟨_, rfl⟩), DatsS.kp s hS h2⟩
 | .dict _, _, h => by
  simp only [DatS] at h ⊢
  obtain ⟨a, xs, e, h0, h1, h2⟩ := h
  exact ⟨a, xs, e, fun z => (hS a z).elim h0 fun q => h1.some q, h1.kp s h0, DctS.kp s hS h2⟩
theorem DatsS.kp {S S' : Addr → Prop} {H H' : Hp} (s : Kp S H H') (hS : ∀ a, S' a → S a ∨ H a = none) : ∀ {ds : List PyData} {xs : List V}, DatsS S H ds xs → DatsS S' H' ds xs
 | [], _, h => by simp only [DatsS] at h ⊢; exact h
 | _ :: _, _, h => by
  simp only [DatsS] at h ⊢
  obtain ⟨x, r, e, h1, h2⟩ := h
  exact ⟨x, r, e, DatS.kp s hS h1, DatsS.kp s hS h2⟩
theorem DctS.kp {S S' : Addr → Prop} {H H' : Hp} (s : Kp S H H') (hS : ∀ a, S' a → S a ∨ H a = none) : ∀ {ds : List (PyData × PyData)} {xs : List (PyData × V)}, DctS S H ds xs → DctS S' H' ds xs
 | [], _, h => by simp only [DctS] at h ⊢; exact h
 | (_, _) :: _, _, h => by
  simp only [DctS] at h ⊢
  obtain ⟨x, r, e, h1, h2⟩ := h
  exact ⟨x, r, e, DatS.kp s hS h1, DctS.kp s hS h2⟩
end
theorem Dat1.move {T T' S S' : Addr → Prop} {H H' : Hp} (s : Kp S H H') (hS : ∀ a, S' a → S a ∨ H a = none) {d : PyData} {v : V} (top : ∀ a, v = .ref a → H a ≠ none → ¬ T a → (∀ o, H a = some o → H' a = some o) ∧ ¬ T' a) (h : Dat1 T S H d v) : Dat1 T' S' H' d v := by
 cases d <;> simp only [Dat1] at h ⊢
 case list =>
  obtain ⟨b, xs, rfl, h0, h1, h2⟩ := h
  obtain ⟨t1, t2⟩ := top b rfl (by rw [h1]; intro z; cases z) h0
  exact ⟨b, xs, rfl, t2, t1 _ h1, DatsS.kp s hS h2⟩
 case dict =>
  obtain ⟨b, xs, rfl, h0, h1, h2⟩ := h
  obtain ⟨t1, t2⟩ := top b rfl h1.some h0
  refine ⟨b, xs, rfl, t2, ?_, DctS.kp s hS h2⟩
  have mv : ∀ {u : HO}, Rd H b u → Rd H' b u := fun {u} h => h.imp (t1 _) fun ⟨o, h⟩ => ⟨o, t1 _ h⟩
  rcases h1 with ⟨l, h, e⟩ | ⟨l, h, e⟩
  ·exact .inl ⟨l, mv h, e⟩
  ·exact .inr ⟨l, mv h, e⟩
 all_goals exact DatS.kp s hS h
theorem Dat1.kp {T U S : Addr → Prop} {H H' : Hp} (s : Kp T H H') (hT : ∀ a, T a → U a) (hU : ∀ a, U a → S a) {d : PyData} {v : V} (h : Dat1 U S H d v) : Dat1 U S H' d v :=
 h.move (s.mono fun a z => hU a (hT a z)) (fun a z => .inl z) fun a _ _ ht => ⟨fun o e => s _ _ e (.inl fun z => ht (hT a z)), ht⟩
theorem Dat1.weak {T S : Addr → Prop} {H : Hp} {d : PyData} {v : V} (h : Dat1 T S H d v) : Dat1 (fun _ => False) S H d v := by
 cases d <;> simp only [Dat1] at h ⊢
 case list => obtain ⟨b, xs, e, _, h⟩ := h; exact ⟨b, xs, e, id, h⟩
 case dict => obtain ⟨b, xs, e, _, h⟩ := h; exact ⟨b, xs, e, id, h⟩
 all_goals exact h
structure Gh where
 aS : Addr
 ns : List Int
 aT : Option Addr
 S0 : Addr → Prop
 H0 : Hp
noncomputable def Gh.T (g : Gh) : Addr → Prop := fun b => g.aT = some b
noncomputable def Gh.U (g : Gh) : Addr → Prop := fun b => g.S0 b ∨ g.aT = some b
noncomputable def Gh.S (g : Gh) (ow : Nat → Option Addr) : Addr → Prop := fun b => g.S0 b ∨ g.aT = some b ∨ ∃ i, ow i = some b
noncomputable def Twn (g : Gh) (H : Hp) (n : Nat) : Prop := ∀ a, g.aT = some a → H a = some (.lst (List.replicate n (.int 0)))
noncomputable def Scp (K : W.Frag) (g : Gh) (H : Hp) : Prop := (∀ H' : Hp, SqL K H' g.aS (g.ns.map V.int)) ∨ (g.aT ≠ some g.aS ∧ SqL K H g.aS (g.ns.map V.int))
noncomputable def z8a (a C : Addr) : Heap → Prop := fun h => ∃ o, h.get? a = some o ∧ o.cls = .ref C
noncomputable def Rep (g : Gh) (S : Addr → Prop) (H : Hp) : D → V → Prop
 | .p x, v => DatS S H x v
 | .scr ns, v => ns = g.ns ∧ v = .ref g.aS
 | .town, v => ∃ a, g.aT = some a ∧ v = .ref a
 | .fn a, v => v = .ref a
 | .exc a C, v => v = .ref a ∧ ¬ S a ∧ H a = some (.ext (z8a a C))
noncomputable def Rep1 (g : Gh) (S : Addr → Prop) (H : Hp) : D → V → Prop
 | .p x, v => Dat1 g.U S H x v
 | .scr ns, v => ns = g.ns ∧ v = .ref g.aS
 | .town, v => ∃ a, g.aT = some a ∧ v = .ref a
 | .fn a, v => v = .ref a
 | .exc a C, v => v = .ref a ∧ ¬ S a ∧ H a = some (.ext (z8a a C))
theorem Rep1.d1 {g : Gh} {S : Addr → Prop} {H : Hp} {x : PyData} {v : V} (h : Rep1 g S H (.p x) v) : Dat1 g.U S H x v := h
theorem Rep.one {g : Gh} {S : Addr → Prop} {H : Hp} {d : D} {v : V} (hT : ∀ a, g.U a → S a) (h : Rep g S H d v) : Rep1 g S H d v := by
 cases d with
 | p x => exact DatS.one hT h
 | scr => exact h
 | town => exact h
 | fn => exact h
 | exc => exact h
theorem Rep.kp {g : Gh} {S S' : Addr → Prop} {H H' : Hp} (s : Kp S H H') (hS : ∀ a, S' a → S a ∨ H a = none) {d : D} {v : V} (h : Rep g S H d v) : Rep g S' H' d v := by
 cases d with
 | p x => exact DatS.kp s hS h
 | scr => exact h
 | town => exact h
 | fn => exact h
 | exc a C => exact ⟨h.1, fun z => (hS _ z).elim h.2.1 fun q => (by have k := h.2.2; rw [q] at k; cases k), s _ _ h.2.2 (.inl h.2.1)⟩
structure Frm (K : W.Frag) (g : Gh) (ow : Nat → Option Addr) (ρ : Env') (n : Nat) (σ : St) (H : Hp) : Prop where
 scr : Scp K g g.H0
 twn : Twn g H n
 sub : ∀ a, g.S0 a → g.H0 a ≠ none
 ext : Kp g.T g.H0 H
 val : ∀ (i : Nat) (d : D), ρ[i]? = some (some (Sl.val d)) → ∃ v, σ[i]? = some (some v) ∧ Rep g (g.S ow) H d v
 own : ∀ (i : Nat) (x : PyData), ρ[i]? = some (some (Sl.own x)) → ∃ a, ow i = some a ∧ σ[i]? = some (some (.ref a)) ∧ Dat1 g.U (g.S ow) H x (.ref a)
 owi : ∀ (i : Nat) (a : Addr), ow i = some a → g.H0 a = none ∧ Pl H a ∧ g.aT ≠ some a ∧ i < ρ.length
 inj : ∀ (i j : Nat) (a : Addr), ow i = some a → ow j = some a → i = j
 len : ρ.length = σ.length
section
variable {K : W.Frag} {g : Gh} {ow : Nat → Option Addr} {ρ : Env'} {n n' : Nat} {σ : St} {H H' : Hp}
theorem Kp.some {S : Addr → Prop} (k : Kp S H H') {a : Addr} (h : H a ≠ none) (hs : ¬ S a) : H' a ≠ none := by
 cases e : H a with
 | none => exact absurd e h
 | some o => rw [k _ _ e (.inl hs)]; intro z; cases z
theorem Frm.dom (f : Frm K g ow ρ n σ H) : ∀ a, g.S ow a → H a ≠ none := by
 intro a h
 by_cases ht : g.aT = .some a
 ·rw [f.twn a ht]; intro z; cases z
 ·rcases h with h | h | ⟨i, h⟩
  ·exact f.ext.some (f.sub a h) ht
  ·exact absurd h ht
  ·exact (f.owi i a h).2.1.some
theorem Frm.kp (f : Frm K g ow ρ n σ H) (k : Kp g.T H H') (t : Twn g H' n') : Frm K g ow ρ n' σ H' := by
 have kS : Kp (g.S ow) H H' := k.mono fun a h => .inr (.inl h)
 refine ⟨f.scr, t, f.sub, f.ext.trans k, fun i d e => ?_, fun i x e => ?_, fun i a e => ?_, f.inj, f.len⟩
 ·obtain ⟨v, e1, r⟩ := f.val i d e
  exact ⟨v, e1, r.kp kS fun a h => .inl h⟩
 ·obtain ⟨a, e1, e2, r⟩ := f.own i x e
  exact ⟨a, e1, e2, r.kp k (fun a h => .inr h) fun a h => h.elim .inl fun z => .inr (.inl z)⟩
 ·obtain ⟨e1, e2, e3, e4⟩ := f.owi i a e
  exact ⟨e1, e2.kp k e3, e3, e4⟩
theorem Frm.scp (f : Frm K g ow ρ n σ H) : Scp K g H := by
 rcases f.scr with h | ⟨h1, h2⟩
 ·exact .inl h
 ·refine .inr ⟨h1, ?_⟩
  rcases h2 with (h | ⟨o, h⟩) | h
  ·exact .inl (.inl (f.ext _ _ h (.inl h1)))
  ·exact .inl (.inr ⟨o, f.ext _ _ h (.inl h1)⟩)
  ·exact .inr h
end
noncomputable abbrev RG (α β : Type) := Gh → (Addr → Prop) → Hp → Hp → α → β → Prop
noncomputable def AftG {α β : Type} (R : Hp → Hp → α → β → Prop) (g : Gh) (Er : Str → Hp → Prop) (H : Hp) (r : Res α) (Q : β → Hp → Prop) : Prop := match r with
 | .ok a n' => ∀ v H', Kp g.T H H' → Twn g H' n' → R H H' a v → Q v H'
 | .err c n' => ∀ H', Kp g.T g.H0 H' → Twn g H' n' → Er c H'
 | .bad => False
noncomputable def rdG {α β : Type} (R : RG α β) (K : W.Frag) (Er : Str → Hp → Prop) (m : Env' → Mx α) : St → Hp → (β → Hp → Prop) → Prop := fun σ H Q =>
 ∃ g ow ρ n, Frm K g ow ρ n σ H ∧ AftG (R g (g.S ow)) g Er H (m ρ n) Q
noncomputable abbrev RE : RG D V := fun g S _ H' d v => Rep g S H' d v
noncomputable abbrev RW : RG D V := fun g S _ H' d v => Rep1 g S H' d v
noncomputable abbrev RF : RG PyData V := fun g S H H' x v => ∃ a, v = .ref a ∧ H a = none ∧ Pl H' a ∧ Dat1 (fun _ => False) (fun b => S b ∨ b = a) H' x (.ref a)
noncomputable abbrev RT : RG Bool Bool := fun _ _ _ _ a b => a = b
inductive All2 {α β : Type} (R : α → β → Prop) : List α → List β → Prop where
 | nil : All2 R [] []
 | cons {a b as bs} : R a b → All2 R as bs → All2 R (a :: as) (b :: bs)
theorem All2.imp {α β : Type} {R R' : α → β → Prop} (h : ∀ a b, R a b → R' a b) : ∀ {as : List α} {bs : List β}, All2 R as bs → All2 R' as bs
 | _, _, .nil => .nil
 | _, _, .cons r t => .cons (h _ _ r) (All2.imp h t)
theorem All2.length {α β : Type} {R : α → β → Prop} : ∀ {as : List α} {bs : List β}, All2 R as bs → as.length = bs.length
 | _, _, .nil => rfl
 | _, _, .cons _ t => congrArg (· + 1) (All2.length t)
noncomputable abbrev RA : RG (List D) (List V) := fun g S _ H' ds vs => All2 (Rep g S H') ds vs
noncomputable abbrev RAW : RG (List D) (List V) := fun g S _ H' ds vs => All2 (Rep1 g S H') ds vs
section
variable {α β γ δ : Type} {K : W.Frag} {g : Gh} {ow : Nat → Option Addr} {ρ : Env'} {n n' : Nat} {σ : St} {H H' : Hp} {Er : Str → Hp → Prop}
theorem AftG.bind {R1 : Hp → Hp → α → γ → Prop} {R2 : Hp → Hp → β → δ → Prop} {m : Mx α} {f : α → Mx β} {Q : δ → Hp → Prop} {Z : γ → Hp → Prop} (h : AftG R2 g Er H ((m >>= f) n) Q)
  (k : ∀ a n' v H1, Kp g.T H H1 → Twn g H1 n' → R1 H H1 a v → (∀ {R3 : Hp → Hp → β → δ → Prop}, (∀ H2 b u, R3 H1 H2 b u → R2 H H2 b u) → AftG R3 g Er H1 (f a n') Q) → Z v H1) : AftG R1 g Er H (m n) Z := by
 rw [Mx.bind_def] at h
 cases e : m n with
 | ok a n' =>
  rw [e] at h
  refine fun v H1 k1 t1 r1 => k a n' v H1 k1 t1 r1 fun {R3} hR => ?_
  have h : AftG R2 g Er H (f a n') Q := h
  show AftG R3 g Er H1 (f a n') Q
  generalize f a n' = r at h
  cases r with
  | ok b n2 => exact fun v2 H2 k2 t2 r2 => h v2 H2 (k1.trans k2) t2 (hR _ _ _ r2)
  | err c n2 => exact h
  | bad => exact h
 | err c n' => rw [e] at h; exact h
 | bad => rw [e] at h; exact h
theorem AftG.imp {R1 R2 : Hp → Hp → α → γ → Prop} {r : Res α} {Q Q' : γ → Hp → Prop} (h : AftG R1 g Er H r Q) (hR : ∀ H' a v, R2 H H' a v → R1 H H' a v) (hQ : ∀ v H', Q v H' → Q' v H') : AftG R2 g Er H r Q' := by
 cases r with
 | ok a n' => exact fun v H' k t r => hQ v H' (h v H' k t (hR _ _ _ r))
 | err c n' => exact h
 | bad => exact h
end
theorem PE.imp {X : Cx} {e : Expr} {t t' : TE} (h : PE X e t) (k : ∀ σ H Q, t' σ H Q → t σ H Q) : PE X e t' := fun pins s σ H Q I q => h pins s σ H Q I (k σ H Q q)
theorem PT.imp {X : Cx} {e : Expr} {t t' : TT} (h : PT X e t) (k : ∀ σ H Q, t' σ H Q → t σ H Q) : PT X e t' := fun pins s σ H Q I q => h pins s σ H Q I (k σ H Q q)
theorem PA.imp {X : Cx} {e : List Expr} {t t' : TA} (h : PA X e t) (k : ∀ σ H Q, t' σ H Q → t σ H Q) : PA X e t' := fun pos pins s σ H Q I q => h pos pins s σ H Q I (k σ H Q q)
theorem PS.imp {X : Cx} {e : Stmt} {t t' : TS} (h : PS X e t) (k : ∀ σ H Q, t' Q σ H → t Q σ H) : PS X e t' := fun pins s σ H Q I q => h pins s σ H Q I (k σ H Q q)
theorem PSs.imp {X : Cx} {e : List Stmt} {t t' : TS} (h : PSs X e t) (k : ∀ σ H Q, t' Q σ H → t Q σ H) : PSs X e t' := fun pins s σ H Q I q => h pins s σ H Q I (k σ H Q q)
noncomputable abbrev DE (K : W.Frag) (Er : Str → Hp → Prop) (X : Cx) (e : Expr) (m : Env' → Mx D) : Prop := PE X e (rdG RE K Er m)
noncomputable abbrev DW (K : W.Frag) (Er : Str → Hp → Prop) (X : Cx) (e : Expr) (m : Env' → Mx D) : Prop := PE X e (rdG RW K Er m)
noncomputable abbrev DF (K : W.Frag) (Er : Str → Hp → Prop) (X : Cx) (e : Expr) (m : Env' → Mx PyData) : Prop := PE X e (rdG RF K Er m)
noncomputable abbrev DT (K : W.Frag) (Er : Str → Hp → Prop) (X : Cx) (e : Expr) (m : Env' → Mx Bool) : Prop := PT X e (rdG RT K Er m)
noncomputable abbrev DA (K : W.Frag) (Er : Str → Hp → Prop) (X : Cx) (es : List Expr) (m : Env' → Mx (List D)) : Prop := PA X es (rdG RA K Er m)
noncomputable abbrev DAW (K : W.Frag) (Er : Str → Hp → Prop) (X : Cx) (es : List Expr) (m : Env' → Mx (List D)) : Prop := PA X es (rdG RAW K Er m)
section
variable {K : W.Frag} {Er : Str → Hp → Prop} {X : Cx} {e a b : Expr} {m ma mb : Env' → Mx D}
theorem DE.w (h : DE K Er X e m) : DW K Er X e m := h.imp fun σ H Q ⟨g, ow, ρ, n, f, q⟩ => ⟨g, ow, ρ, n, f, q.imp (fun _ _ _ r => r.one fun _ z => z.elim .inl fun z => .inr (.inl z)) fun _ _ z => z⟩
noncomputable def mP (m : Env' → Mx PyData) : Env' → Mx D := fun ρ => m ρ >>= fun x => pure (.p x)
theorem DF.de {mf : Env' → Mx PyData} (h : DF K Er X e mf) : DE K Er X e (mP mf) := h.imp fun σ H Q ⟨g, ow, ρ, n, f, q⟩ => ⟨g, ow, ρ, n, f, by
 refine AftG.bind q fun x n' v H1 k1 t1 r1 c => ?_
 obtain ⟨a, rfl, ha, _, d⟩ := r1
 have hn : ¬ g.S ow a := fun z => f.dom a z ha
 refine c (R3 := fun _ H2 b u => Rep g (g.S ow) H2 b u) (fun _ _ _ z => z) (.ref a) H1 (Kp.refl _ _) t1 ?_
 show DatS _ _ x _
 cases x <;> simp only [Dat1, DatS] at d ⊢
 case list => obtain ⟨b, xs, e, _, h1, h2⟩ := d; cases e; exact ⟨a, xs, rfl, hn, h1, DatsS.kp (Kp.refl _ _) (fun _ z => .inl (.inl z)) h2⟩
 case dict => obtain ⟨b, xs, e, _, h1, h2⟩ := d; cases e; exact ⟨a, xs, rfl, hn, h1, DctS.kp (Kp.refl _ _) (fun _ z => .inl (.inl z)) h2⟩
 case tuple => obtain ⟨b, xs, e, h1, h2⟩ := d; exact ⟨b, xs, e, h1, DatsS.kp (Kp.refl _ _) (fun _ z => .inl (.inl z)) h2⟩
 all_goals cases d⟩
end
end L2
namespace L2
open PySem PySem.Spec PyProof.Rows
theorem yR {n : Nat} (h : n ≤ 1000000) : n ≤ sizeLine := by rw [sizeLine_eq]; omega
theorem OpR.imp {X : Cx} {f : Value → Value → Sem Value} {r r' : R2} (h : OpR X f r) (k : ∀ x y H Q, r' x y H Q → r x y H Q) : OpR X f r' := fun pins s σ H x y v u Q I rx ry q => h pins s σ H x y v u Q I rx ry (k x y H Q q)
theorem IxR.imp {X : Cx} {r r' : R2} (h : IxR X r) (k : ∀ x y H Q, r' x y H Q → r x y H Q) : IxR X r' := fun va sl pins s σ H x y v u Q I rx ry q => h va sl pins s σ H x y v u Q I rx ry (k x y H Q q)
theorem CallR.imp {X : Cx} {f : Value} {r r' : List V → Hp → VK → Prop} (h : CallR X f r) (k : ∀ xs H Q, r' xs H Q → r xs H Q) : CallR X f r' := fun pins s σ H xs us Q I rx q => h pins s σ H xs us Q I rx (k xs H Q q)
theorem DatsS.length {S : Addr → Prop} {H : Hp} : ∀ {ds : List PyData} {xs : List V}, DatsS S H ds xs → ds.length = xs.length
 | [], _, h => by simp only [DatsS] at h; subst h; rfl
 | _ :: _, _, h => by
  simp only [DatsS] at h
  obtain ⟨x, r, rfl, _, h2⟩ := h
  simp [DatsS.length h2]
theorem DatsS.append {S : Addr → Prop} {H : Hp} : ∀ {ds es : List PyData} {xs ys : List V}, DatsS S H ds xs → DatsS S H es ys → DatsS S H (ds ++ es) (xs ++ ys)
 | [], _, _, _, h, k => by simp only [DatsS] at h; subst h; exact k
 | _ :: _, _, _, _, h, k => by
  simp only [DatsS] at h
  obtain ⟨x, r, rfl, h1, h2⟩ := h
  show DatsS S H (_ :: (_ ++ _)) _
  simp only [DatsS]
  exact ⟨x, _, rfl, h1, DatsS.append h2 k⟩
theorem DatsS.get {S : Addr → Prop} {H : Hp} : ∀ {ds : List PyData} {xs : List V} {i : Nat} {d : PyData}, DatsS S H ds xs → ds[i]? = some d → ∃ x, xs[i]? = some x ∧ DatS S H d x
 | [], _, _, _, _, e => by simp at e
 | _ :: _, _, 0, _, h, e => by
  simp only [DatsS] at h
  obtain ⟨x, r, rfl, h1, h2⟩ := h
  simp at e; subst e; exact ⟨x, rfl, h1⟩
 | _ :: _, _, i + 1, _, h, e => by
  simp only [DatsS] at h
  obtain ⟨x, r, rfl, h1, h2⟩ := h
  simpa using DatsS.get (i := i) h2 (by simpa using e)
theorem DatsS.cons {S : Addr → Prop} {H : Hp} {d : PyData} {ds : List PyData} {x : V} {xs : List V} (h : DatS S H d x) (k : DatsS S H ds xs) : DatsS S H (d :: ds) (x :: xs) := by
 simp only [DatsS]; exact ⟨x, xs, rfl, h, k⟩
theorem DatsS.nil {S : Addr → Prop} {H : Hp} : DatsS S H [] [] := by simp only [DatsS]
section
variable {K : W.Frag} {Er : Str → Hp → Prop} {X : Cx} {e a b c : Expr} {m ma mb mc : Env' → Mx D} {pos : Pos}
noncomputable def slW : Option (Option Sl) → Option D
 | some (some (Sl.val d)) => some d
 | some (some (Sl.own x)) => some (.p x)
 | _ => none
noncomputable def slV : Option (Option Sl) → Option D
 | some (some (Sl.val d)) => some d
 | _ => none
noncomputable def mVar (i : Nat) : Env' → Mx D := fun ρ => Mx.opt (slW ρ[i]?)
noncomputable def mVal (i : Nat) : Env' → Mx D := fun ρ => Mx.opt (slV ρ[i]?)
theorem z8 {i : Nat} (h : PE X e (tVar i)) : DW K Er X e (mVar i) := h.imp fun σ H Q ⟨g, ow, ρ, n, f, q⟩ => by
 unfold mVar at q
 cases e : ρ[i]? with
 | none => rw [e] at q; exact q.elim
 | some o =>
  cases o with
  | none => rw [e] at q; exact q.elim
  | some sl =>
   rw [e] at q
   cases sl with
   | val d =>
    obtain ⟨v, e1, r⟩ := f.val _ _ e
    exact ⟨v, e1, q v H (Kp.refl _ _) f.twn (r.one fun _ z => z.elim .inl fun z => .inr (.inl z))⟩
   | own x =>
    obtain ⟨a, _, e1, r⟩ := f.own _ _ e
    exact ⟨_, e1, q _ H (Kp.refl _ _) f.twn r⟩
theorem zA {i : Nat} (h : PE X e (tVar i)) : DE K Er X e (mVal i) := h.imp fun σ H Q ⟨g, ow, ρ, n, f, q⟩ => by
 unfold mVal at q
 cases e : ρ[i]? with
 | none => rw [e] at q; exact q.elim
 | some o =>
  cases o with
  | none => rw [e] at q; exact q.elim
  | some sl =>
   rw [e] at q
   cases sl with
   | val d =>
    obtain ⟨v, e1, r⟩ := f.val _ _ e
    exact ⟨v, e1, q v H (Kp.refl _ _) f.twn r⟩
   | own x => exact q.elim
noncomputable def mC (x : PyData) : Env' → Mx D := fun _ => pure (.p x)
theorem de_c {v : V} {x : PyData} (h : PE X e (tC v)) (hx : ∀ S H, DatS S H x v) : DE K Er X e (mC x) := h.imp fun σ H Q ⟨g, ow, ρ, n, f, q⟩ => q v H (Kp.refl _ _) f.twn (hx _ _)
theorem z9 {i j pos} : DE K Er X (.Constant (.int i) j pos) (mC (.int i)) := de_c z1v fun _ _ => by simp only [DatS]
theorem z1l {i j pos} : DE K Er X (.Constant (.bool i) j pos) (mC (.bool i)) := de_c z8z fun _ _ => by simp only [DatS]
theorem x3 {j pos} : DE K Er X (.Constant .none j pos) (mC .none) := de_c z7Z fun _ _ => by simp only [DatS]
theorem ux {i : Int} (h : PE X e (tC (.int i))) : DE K Er X e (mC (.int i)) := de_c h fun _ _ => by simp only [DatS]
noncomputable def onP {α : Type} (f : PyData → Option α) : D → Option α
 | .p x => f x
 | _ => none
noncomputable def onP2 {α : Type} (f : PyData → PyData → Option α) : D → D → Option α
 | .p x, .p y => f x y
 | _, _ => none
noncomputable def onB : D → Option Bool
 | .p (.bool b) => some b
 | _ => none
theorem zl {α : Type} {f : PyData → Option α} {d : D} {r : α} (h : onP f d = some r) : ∃ x, d = .p x ∧ f x = some r := by
 cases d with
 | p x => exact ⟨x, rfl, h⟩
 | _ => cases h
theorem yC {α : Type} {f : PyData → PyData → Option α} {d e : D} {r : α} (h : onP2 f d e = some r) : ∃ x y, d = .p x ∧ e = .p y ∧ f x y = some r := by
 cases d with
 | p x =>
  cases e with
  | p y => exact ⟨x, y, rfl, rfl, h⟩
  | _ => cases h
 | _ => cases h
theorem z27 {d : D} {b : Bool} (h : onB d = some b) : d = .p (.bool b) := by
 cases d with
 | p x => cases x <;> simp only [onB] at h <;> cases h; rfl
 | _ => cases h
noncomputable def mBin (f : PyData → PyData → Option PyData) (a b : Env' → Mx D) : Env' → Mx D := fun ρ => a ρ >>= fun x => b ρ >>= fun y => Mx.opt ((onP2 f x y).map D.p)
theorem yr {α β γ : Type} {R : Hp → Hp → β → γ → Prop} {g : Gh} {H : Hp} {o : Option α} {k : α → Mx β} {n : Nat} {Q : γ → Hp → Prop} (h : AftG R g Er H ((Mx.opt o >>= k) n) Q) : ∃ a, o = some a ∧ AftG R g Er H (k a n) Q := by
 cases o with
 | none => exact h.elim
 | some a => exact ⟨a, rfl, h⟩
theorem z1a {α γ : Type} {R : Hp → Hp → α → γ → Prop} {g : Gh} {H : Hp} {o : Option α} {n : Nat} {Q : γ → Hp → Prop} (h : AftG R g Er H (Mx.opt o n) Q) : ∃ a, o = some a ∧ ∀ v H', Kp g.T H H' → Twn g H' n → R H H' a v → Q v H' := by
 cases o with
 | none => exact h.elim
 | some a => exact ⟨a, rfl, h⟩
noncomputable def rD2 (f : PyData → PyData → Option PyData) : R2 := fun x y H Q => ∃ S d e r, (∀ a, S a → H a ≠ none) ∧ Dat1 (fun _ => False) S H d x ∧ Dat1 (fun _ => False) S H e y ∧ f d e = some r ∧ ∀ v H', Same H H' → DatS S H' r v → Q v H'
theorem Same.kp {g : Gh} {H H' : Hp} (s : Same H H') : Kp g.T H H' := fun b o h _ => s b o h
theorem Same.twn {g : Gh} {H H' : Hp} {n : Nat} (s : Same H H') (t : Twn g H n) : Twn g H' n := fun a e => s _ _ (t a e)
theorem Rep1.kp {g : Gh} {S : Addr → Prop} {H H' : Hp} {d : D} {v : V} (k : Kp g.T H H') (hT : ∀ a, g.U a → S a) (h : Rep1 g S H d v) : Rep1 g S H' d v := by
 cases d with
 | p x => exact Dat1.kp k (fun a z => .inr z) hT h
 | scr => exact h
 | town => exact h
 | fn => exact h
 | exc a C => exact ⟨h.1, h.2.1, k _ _ h.2.2 (.inl fun z => h.2.1 (hT a (.inr z)))⟩
theorem Gh.ts {g : Gh} {ow : Nat → Option Addr} : ∀ a, g.T a → g.S ow a := fun _ z => .inr (.inl z)
theorem Gh.us {g : Gh} {ow : Nat → Option Addr} : ∀ a, g.U a → g.S ow a := fun _ z => z.elim .inl fun z => .inr (.inl z)
theorem xS {g : Gh} {H H1 : Hp} {n : Nat} (k : Kp g.T H H1) (t : Twn g H1 n) {b : Addr} (h : H1 b = none) : H b = none := by
 cases z : H b with
 | none => rfl
 | some o =>
  by_cases hT : g.aT = some b
  ·rw [t b hT] at h; cases h
  ·rw [k b o z (.inl hT)] at h; cases h
theorem z00 : ∀ (g : Gh) (S : Addr → Prop) (H H1 H2 : Hp) (a : PyData) (v : V) (n : Nat), Kp g.T H H1 → Twn g H1 n → RF g S H1 H2 a v → RF g S H H2 a v := fun g S H H1 H2 a v n k t ⟨b, e, hb, d⟩ => ⟨b, e, xS k t hb, d⟩
theorem rd2 {α β : Type} {R' : RG α β} {f : D → D → Mx α} {σ : St} {H : Hp} {Q : β → Hp → Prop} {Z : V → V → Hp → Prop}
  (h : rdG R' K Er (fun ρ => ma ρ >>= fun x => mb ρ >>= fun y => f x y) σ H Q)
  (hR' : ∀ g S H H1 H2 a v n, Kp g.T H H1 → Twn g H1 n → R' g S H1 H2 a v → R' g S H H2 a v)
  (k : ∀ g ow ρ n x y v u H2, Frm K g ow ρ n σ H2 → Rep1 g (g.S ow) H2 x v → Rep1 g (g.S ow) H2 y u → AftG (R' g (g.S ow)) g Er H2 (f x y n) Q → Z v u H2) :
  rdG RW K Er ma σ H fun v H1 => rdG RW K Er mb σ H1 fun u H2 => Z v u H2 := by
 obtain ⟨g, ow, ρ, n, fr, q⟩ := h
 refine ⟨g, ow, ρ, n, fr, ?_⟩
 refine AftG.bind q fun x n1 v H1 k1 t1 r1 c1 => ?_
 have fr1 := fr.kp k1 t1
 refine ⟨g, ow, ρ, n1, fr1, ?_⟩
 refine AftG.bind (c1 (R3 := R' g (g.S ow)) fun H2 b u r => hR' _ _ _ _ _ _ _ _ k1 t1 r) fun y n2 u H2 k2 t2 r2 c2 => ?_
 exact k g ow ρ n2 x y v u H2 (fr1.kp k2 t2) (Rep1.kp k2 Gh.us r1) r2 (c2 (R3 := R' g (g.S ow)) fun H3 b u r => hR' _ _ _ _ _ _ _ _ k2 t2 r)
theorem rd1 {α β γ δ : Type} {R : RG γ δ} {R' : RG α β} {m : Env' → Mx γ} {f : Env' → γ → Mx α} {σ : St} {H : Hp} {Q : β → Hp → Prop} {Z : δ → Hp → Prop}
  (h : rdG R' K Er (fun ρ => m ρ >>= f ρ) σ H Q)
  (hR' : ∀ g S H H1 H2 a v n, Kp g.T H H1 → Twn g H1 n → R' g S H1 H2 a v → R' g S H H2 a v)
  (k : ∀ g ow ρ n x v H0 H2, Frm K g ow ρ n σ H2 → Kp g.T H0 H2 → R g (g.S ow) H0 H2 x v → AftG (R' g (g.S ow)) g Er H2 (f ρ x n) Q → Z v H2) :
  rdG R K Er m σ H Z := by
 obtain ⟨g, ow, ρ, n, fr, q⟩ := h
 refine ⟨g, ow, ρ, n, fr, ?_⟩
 refine AftG.bind q fun x n1 v H1 k1 t1 r1 c1 => ?_
 exact k g ow ρ n1 x v H H1 (fr.kp k1 t1) k1 r1 (c1 (R3 := R' g (g.S ow)) fun H2 b u r => hR' _ _ _ _ _ _ _ _ k1 t1 r)
theorem xG {g : Gh} {S : Addr → Prop} {H : Hp} {o : Option PyData} {n : Nat} {Q : VK} (t : Twn g H n) (h : AftG (RE g S) g Er H (Mx.opt (o.map D.p) n) Q) : ∃ r, o = some r ∧ ∀ v H', Same H H' → DatS S H' r v → Q v H' := by
 cases o with
 | none => exact h.elim
 | some r => exact ⟨r, rfl, fun v H' s d => h v H' s.kp (s.twn t) d⟩
theorem za {op : Operator} {f : PyData → PyData → Option PyData} (ho : OpR X (binaryOp op) (rD2 f)) (ha : DW K Er X a ma) (hb : DW K Er X b mb) : DE K Er X (.BinOp a op b pos) (mBin f ma mb) :=
 (z5J ho ha hb).imp fun σ H Q h => rd2 (Z := fun v u H2 => rD2 f v u H2 Q) h (fun _ _ _ _ _ _ _ _ _ _ r => r) fun g ow ρ n x y v u H2 fr r1 r2 q => by
  obtain ⟨r, e, q2⟩ := xG fr.twn q
  obtain ⟨x, y, rfl, rfl, e⟩ := yC e
  exact ⟨g.S ow, x, y, r, fr.dom, Dat1.weak r1, Dat1.weak r2, e, q2⟩
theorem xp {op : CmpOp} {f : PyData → PyData → Option PyData} (ho : OpR X (compareOp op) (rD2 f)) (ha : DW K Er X a ma) (hb : DW K Er X b mb) (hm : behindInMarks op b = false) : DE K Er X (.Compare a [op] [b] pos) (mBin f ma mb) :=
 (z6r ho ha hb hm).imp fun σ H Q h => rd2 (Z := fun v u H2 => rD2 f v u H2 Q) h (fun _ _ _ _ _ _ _ _ _ _ r => r) fun g ow ρ n x y v u H2 fr r1 r2 q => by
  obtain ⟨r, e, q2⟩ := xG fr.twn q
  obtain ⟨x, y, rfl, rfl, e⟩ := yC e
  exact ⟨g.S ow, x, y, r, fr.dom, Dat1.weak r1, Dat1.weak r2, e, q2⟩
end
end L2
namespace L2
open PySem PySem.Spec PyProof.Rows
theorem Same.new {H : Hp} {p : Addr} {o : HO} (h : H p = none) : Same H (upd H p o) := fun b x e => by rw [zF (zS e h)]; exact e
theorem DatsS.same {S : Addr → Prop} {H H' : Hp} (s : Same H H') {ds : List PyData} {xs : List V} (h : DatsS S H ds xs) : DatsS S H' ds xs := DatsS.kp (Kp.of s) (fun _ z => .inl z) h
theorem wT {S : Addr → Prop} {H : Hp} {p : Addr} {ds : List PyData} {xs : List V} (h : H p = some (.tup xs)) (k : DatsS S H ds xs) : DatS S H (.tuple ds) (.ref p) := by
 simp only [DatS]; exact ⟨p, xs, rfl, h, k⟩
theorem z78 {S : Addr → Prop} {H : Hp} {p : Addr} {ds : List PyData} {xs : List V} (hp : ¬ S p) (h : H p = some (.lst xs)) (k : DatsS S H ds xs) : DatS S H (.list ds) (.ref p) := by
 simp only [DatS]; exact ⟨p, xs, rfl, hp, h, k⟩
theorem z2J {S : Addr → Prop} {H : Hp} {p : Addr} {ds : List PyData} {xs : List V} (h : H p = none) (k : DatsS S H ds xs) : DatS S (upd H p (.tup xs)) (.tuple ds) (.ref p) := wT zC (k.same (Same.new h))
theorem xz {S : Addr → Prop} {H : Hp} {p : Addr} {ds : List PyData} {xs : List V} (hS : ∀ a, S a → H a ≠ none) (h : H p = none) (k : DatsS S H ds xs) : DatS S (upd H p (.lst xs)) (.list ds) (.ref p) :=
 z78 (fun z => hS p z h) zC (k.same (Same.new h))
noncomputable abbrev N0 : Addr → Prop := fun _ => False
theorem zn {T S : Addr → Prop} {H : Hp} {i : Int} {x : V} (h : Dat1 T S H (.int i) x) : x = .int i := by simpa only [Dat1, DatS] using h
theorem z0V {T S : Addr → Prop} {H : Hp} {i : Str} {x : V} (h : Dat1 T S H (.str i) x) : x = .str i := by simpa only [Dat1, DatS] using h
theorem z55 {T S : Addr → Prop} {H : Hp} {i : Bool} {x : V} (h : Dat1 T S H (.bool i) x) : x = .bl i := by simpa only [Dat1, DatS] using h
theorem z2s {T S : Addr → Prop} {H : Hp} {x : V} (h : Dat1 T S H .none x) : x = .non := by simpa only [Dat1, DatS] using h
theorem zy {T S : Addr → Prop} {H : Hp} {ds : List PyData} {x : V} (h : Dat1 T S H (.tuple ds) x) : ∃ a xs, x = .ref a ∧ H a = some (.tup xs) ∧ DatsS S H ds xs := by simpa only [Dat1, DatS] using h
theorem yO {T S : Addr → Prop} {H : Hp} {ds : List PyData} {x : V} (h : Dat1 T S H (.list ds) x) : ∃ a xs, x = .ref a ∧ H a = some (.lst xs) ∧ DatsS S H ds xs := by
 simp only [Dat1] at h
 obtain ⟨a, xs, e, _, h1, h2⟩ := h
 exact ⟨a, xs, e, h1, h2⟩
theorem u4 {T S : Addr → Prop} {H : Hp} {ds : List (PyData × PyData)} {x : V} (h : Dat1 T S H (.dict ds) x) : ∃ a ks, x = .ref a ∧ DctAt H a ks ∧ DctS S H ds ks := by
 simp only [Dat1] at h
 obtain ⟨a, xs, e, _, h1, h2⟩ := h
 exact ⟨a, xs, e, h1, h2⟩
theorem di {S : Addr → Prop} {H : Hp} {i : Int} : DatS S H (.int i) (.int i) := by simp only [DatS]
theorem db {S : Addr → Prop} {H : Hp} {i : Bool} : DatS S H (.bool i) (.bl i) := by simp only [DatS]
theorem rb {g : Gh} {S : Addr → Prop} {H : Hp} {i : Bool} : Rep g S H (.p (.bool i)) (.bl i) := (db : DatS S H (.bool i) (.bl i))
theorem dn {S : Addr → Prop} {H : Hp} : DatS S H .none .non := by simp only [DatS]
theorem dstr {S : Addr → Prop} {H : Hp} {i : Str} : DatS S H (.str i) (.str i) := by simp only [DatS]
noncomputable def lim : Nat := 1000000
noncomputable def fAdd : PyData → PyData → Option PyData
 | .int i, .int j => some (.int (i + j))
 | .tuple xs, .tuple ys => if xs.length + ys.length ≤ lim then some (.tuple (xs ++ ys)) else none
 | .list xs, .list ys => if xs.length + ys.length ≤ lim then some (.list (xs ++ ys)) else none
 | .str x, .str y => if x.length + y.length ≤ lim then some (.str (x ++ y)) else none
 | _, _ => none
noncomputable def fSub : PyData → PyData → Option PyData
 | .int i, .int j => some (.int (i - j))
 | _, _ => none
noncomputable def fMod : PyData → PyData → Option PyData
 | .int i, .int j => if 0 < j then some (.int (i % j)) else none
 | _, _ => none
noncomputable def fPow : PyData → PyData → Option PyData
 | .int i, .int j => if 0 ≤ j ∧ j ≤ 1000 ∧ i.natAbs < 2 ^ 64 then some (.int (i ^ j.toNat)) else none
 | _, _ => none
noncomputable def fMul : PyData → PyData → Option PyData
 | .int i, .int j => if (-(2 ^ 64) < i ∧ i < 2 ^ 64) ∨ (-(2 ^ 64) < j ∧ j < 2 ^ 64) then some (.int (i * j)) else none
 | .tuple xs, .int k => if 0 < k ∧ k < 1000000 ∧ xs.length * k.toNat ≤ lim then some (.tuple (List.replicate k.toNat xs).flatten) else none
 | .list xs, .int k => if 0 ≤ k ∧ k < 1000000 ∧ xs.length * k.toNat ≤ lim then some (.list (List.replicate k.toNat xs).flatten) else none
 | _, _ => none
theorem DatsS.rep {S : Addr → Prop} {H : Hp} {ds : List PyData} {xs : List V} (h : DatsS S H ds xs) : ∀ k, DatsS S H (List.replicate k ds).flatten (List.replicate k xs).flatten
 | 0 => .nil
 | k + 1 => by
  rw [List.replicate_succ, List.replicate_succ, List.flatten_cons, List.flatten_cons]
  exact h.append (DatsS.rep h k)
section
variable {X : Cx}
theorem zp : OpR X (binaryOp .Add) (rD2 fAdd) := (op_add.or (op_catTT.or (op_cat.or z2W))).imp fun x y H Q ⟨S, d, e, r, hS, h1, h2, hf, q⟩ => by
 cases d <;> cases e <;> simp only [fAdd] at hf <;> try (cases hf; done)
 ·cases hf; exact .inl ⟨_, _, zn h1, zn h2, q _ _ (Same.refl _) di⟩
 ·split at hf
  next hl =>
   cases hf
   exact .inr (.inr (.inr ⟨_, _, z0V h1, z0V h2, yR hl, q _ _ (Same.refl _) dstr⟩))
  next => cases hf
 ·split at hf
  next hl =>
   cases hf
   obtain ⟨a, xs, e1, g1, k1⟩ := yO h1
   obtain ⟨b, ys, e2, g2, k2⟩ := yO h2
   exact .inr (.inr (.inl ⟨a, b, xs, ys, e1, e2, g1, g2, yR (by rw [← k1.length, ← k2.length]; exact hl), fun p hp => q _ _ (Same.new hp) (xz hS hp (k1.append k2))⟩))
  next => cases hf
 ·split at hf
  next hl =>
   cases hf
   obtain ⟨a, xs, e1, g1, k1⟩ := zy h1
   obtain ⟨b, ys, e2, g2, k2⟩ := zy h2
   exact .inr (.inl ⟨a, b, xs, ys, e1, e2, g1, g2, yR (by rw [← k1.length, ← k2.length]; exact hl), fun p H' s hp => q _ _ s (wT hp ((k1.append k2).same s))⟩)
  next => cases hf
theorem wx : OpR X (binaryOp .Sub) (rD2 fSub) := op_sub.imp fun x y H Q ⟨S, d, e, r, hS, h1, h2, hf, q⟩ => by
 cases d <;> cases e <;> simp only [fSub] at hf <;> try (cases hf; done)
 cases hf; exact ⟨_, _, zn h1, zn h2, q _ _ (Same.refl _) di⟩
theorem xg : OpR X (binaryOp .Mod) (rD2 fMod) := op_mod.imp fun x y H Q ⟨S, d, e, r, hS, h1, h2, hf, q⟩ => by
 cases d <;> cases e <;> simp only [fMod] at hf <;> try (cases hf; done)
 split at hf
 next hl => cases hf; exact ⟨_, _, zn h1, zn h2, hl, q _ _ (Same.refl _) di⟩
 next => cases hf
theorem z6v : OpR X (binaryOp .Pow) (rD2 fPow) := op_pow.imp fun x y H Q ⟨S, d, e, r, hS, h1, h2, hf, q⟩ => by
 cases d <;> cases e <;> simp only [fPow] at hf <;> try (cases hf; done)
 split at hf
 next hl => cases hf; exact ⟨_, _, zn h1, zn h2, ⟨hl.1, by omega, hl.2.2⟩, q _ _ (Same.refl _) di⟩
 next => cases hf
theorem z3k : OpR X (binaryOp .Mult) (rD2 fMul) := (op_mul.or (op_repTT.or z8P)).imp fun x y H Q ⟨S, d, e, r, hS, h1, h2, hf, q⟩ => by
 cases d <;> cases e <;> simp only [fMul] at hf <;> try (cases hf; done)
 ·split at hf
  next hl => cases hf; exact .inl ⟨_, _, zn h1, zn h2, hl, q _ _ (Same.refl _) di⟩
  next => cases hf
 ·split at hf
  next hl =>
   cases hf
   obtain ⟨a, xs, e1, g1, k1⟩ := yO h1
   exact .inr (.inr ⟨a, _, xs, e1, zn h2, g1, by omega, by omega, yR (by rw [← k1.length]; exact hl.2.2), fun p hp => q _ _ (Same.new hp) (xz hS hp (k1.rep _))⟩)
  next => cases hf
 ·split at hf
  next hl =>
   cases hf
   obtain ⟨a, xs, e1, g1, k1⟩ := zy h1
   exact .inr (.inl ⟨a, _, xs, e1, zn h2, g1, hl.1, hl.2.1, yR (by rw [← k1.length]; exact hl.2.2), fun p H' s hp => q _ _ s (wT hp ((k1.rep _).same s))⟩)
  next => cases hf
noncomputable def yB : List PyData → Option (List Int)
 | [] => some []
 | .int i :: r => (yB r).map (i :: ·)
 | _ => none
theorem y9 : ∀ {ds : List PyData} {ns : List Int}, yB ds = some ns → ds = ns.map PyData.int
 | [], ns, h => by simp only [yB] at h; cases h; rfl
 | d :: r, ns, h => by
  cases d <;> simp only [yB] at h <;> try (cases h; done)
  cases e : yB r with
  | none => rw [e] at h; cases h
  | some ms => rw [e] at h; cases h; rw [List.map_cons, y9 e]
theorem DatsS.ints {S : Addr → Prop} {H : Hp} : ∀ {ns : List Int} {xs : List V}, DatsS S H (ns.map PyData.int) xs → xs = ns.map V.int
 | [], xs, h => by simpa only [List.map_nil, DatsS] using h
 | n :: ns, xs, h => by
  simp only [List.map_cons, DatsS] at h
  obtain ⟨x, r, rfl, h1, h2⟩ := h
  simp only [DatS] at h1
  subst h1
  rw [List.map_cons, DatsS.ints h2]
theorem z13 {S : Addr → Prop} {H : Hp} : ∀ (ns : List Int), DatsS S H (ns.map PyData.int) (ns.map V.int)
 | [] => .nil
 | _ :: ns => .cons di (z13 ns)
noncomputable def fLt : PyData → PyData → Option PyData
 | .int i, .int j => some (.bool (decide (i < j)))
 | .tuple xs, .tuple ys => match yB xs, yB ys with
  | some ns, some ms => some (.bool (HT.lexLt ns ms))
  | _, _ => none
 | _, _ => none
noncomputable def fCmp (p : Int → Int → Bool) : PyData → PyData → Option PyData
 | .int i, .int j => some (.bool (p i j))
 | _, _ => none
theorem z7H (hu : X.A.units < cLine) : OpR X (compareOp .Lt) (rD2 fLt) := (op_lt.or (z7n hu)).imp fun x y H Q ⟨S, d, e, r, hS, h1, h2, hf, q⟩ => by
 cases d <;> cases e <;> simp only [fLt] at hf <;> try (cases hf; done)
 ·cases hf; exact .inl ⟨_, _, zn h1, zn h2, q _ _ (Same.refl _) db⟩
 ·split at hf
  next ns ms e1 e2 =>
   cases hf
   obtain ⟨a, xs, f1, g1, k1⟩ := zy h1
   obtain ⟨b, ys, f2, g2, k2⟩ := zy h2
   rw [y9 e1] at k1
   rw [y9 e2] at k2
   rw [k1.ints] at g1
   rw [k2.ints] at g2
   exact .inr ⟨a, b, ns, ms, f1, f2, SqT.of g1, SqT.of g2, q _ _ (Same.refl _) db⟩
  next => cases hf
theorem xb {f : Value → Value → Sem Value} {p : Int → Int → Bool} (h : OpR X f (rI0 fun i j => .bl (p i j))) : OpR X f (rD2 (fCmp p)) := h.imp fun x y H Q ⟨S, d, e, r, hS, h1, h2, hf, q⟩ => by
 cases d <;> cases e <;> simp only [fCmp] at hf <;> try (cases hf; done)
 cases hf; exact ⟨_, _, zn h1, zn h2, q _ _ (Same.refl _) db⟩
mutual
theorem DatS.datV {S : Addr → Prop} {H : Hp} : ∀ {d : PyData} {v : V}, d.canLay0 = true → DatS S H d v → DatV H d v
 | .none, _, _, h => by simp only [DatS, DatV] at h ⊢; exact h
 | .bool _, _, _, h => by simp only [DatS, DatV] at h ⊢; exact h
 | .int _, _, _, h => by simp only [DatS, DatV] at h ⊢; exact h
 | .str _, _, _, h => by simp only [DatS, DatV] at h ⊢; exact h
 | .list ds, _, c, h => by
  simp only [DatS, DatV] at h ⊢
  obtain ⟨a, xs, e, _, h1, h2⟩ := h
  exact ⟨a, xs, e, h1, DatsS.datV (by simpa only [PyData.canLay0] using c) h2⟩
 | .tuple ds, _, c, h => by
  simp only [DatS, DatV] at h ⊢
  obtain ⟨a, xs, e, h1, h2⟩ := h
  exact ⟨a, xs, e, h1, DatsS.datV (by simpa only [PyData.canLay0] using c) h2⟩
 | .dict _, _, c, _ => by simp [PyData.canLay0] at c
theorem DatsS.datV {S : Addr → Prop} {H : Hp} : ∀ {ds : List PyData} {xs : List V}, PyData.canLayAll0 ds = true → DatsS S H ds xs → DatAll H ds xs
 | [], _, _, h => by simp only [DatsS, DatAll] at h ⊢; exact h
 | _ :: _, _, c, h => by
  simp only [DatsS, DatAll] at h ⊢
  obtain ⟨x, r, e, h1, h2⟩ := h
  simp only [PyData.canLayAll0, Bool.and_eq_true] at c
  exact ⟨x, r, e, DatS.datV c.1 h1, DatsS.datV c.2 h2⟩
end
theorem Dat1.datV {T S : Addr → Prop} {H : Hp} {d : PyData} {v : V} (c : d.canLay0 = true) (h : Dat1 T S H d v) : DatV H d v := by
 cases d <;> simp only [Dat1] at h
 case list ds =>
  obtain ⟨a, xs, e, _, h1, h2⟩ := h
  simp only [DatV]
  exact ⟨a, xs, e, h1, DatsS.datV (by simpa only [PyData.canLay0] using c) h2⟩
 case dict => simp [PyData.canLay0] at c
 all_goals exact DatS.datV c h
noncomputable def fEq (neg : Bool) (d e : PyData) : Option PyData := if d.canLay0 = true ∧ e.canLay0 = true ∧ min d.depth e.depth ≤ 60 then some (.bool (if neg then !PyData.eqv d e else PyData.eqv d e)) else none
theorem yP (hu : X.A.units + 64 < cLine) : OpR X (compareOp .Eq) (rD2 (fEq false)) := (z7u hu).imp fun x y H Q ⟨S, d, e, r, hS, h1, h2, hf, q⟩ => by
 unfold fEq at hf
 split at hf
 next c => cases hf; exact ⟨d, e, h1.datV c.1, h2.datV c.2.1, c.1, c.2.1, c.2.2, q _ _ (Same.refl _) db⟩
 next => cases hf
theorem z2E (hu : X.A.units + 64 < cLine) : OpR X (compareOp .NotEq) (rD2 (fEq true)) := (z7S hu).imp fun x y H Q ⟨S, d, e, r, hS, h1, h2, hf, q⟩ => by
 unfold fEq at hf
 split at hf
 next c => cases hf; exact ⟨d, e, h1.datV c.1, h2.datV c.2.1, c.1, c.2.1, c.2.2, q _ _ (Same.refl _) db⟩
 next => cases hf
end
end L2
namespace L2
open PySem PySem.Spec PyProof.Rows
noncomputable def keyD : PyData → Option Key
 | .int i => some (.inl i)
 | .str s => some (.inr s)
 | _ => none
noncomputable def wO : List PyData → Option (List Key)
 | [] => some []
 | d :: r => match keyD d, wO r with
  | some k, some l => some (k :: l)
  | _, _ => none
theorem z79 {d : PyData} {k : Key} (h : keyD d = some k) : d = kD k := by
 cases d <;> simp only [keyD] at h <;> cases h <;> rfl
theorem xQ : ∀ {ds : List PyData} {ks : List Key}, wO ds = some ks → ds = ks.map kD
 | [], ks, h => by simp only [wO] at h; cases h; rfl
 | d :: r, ks, h => by
  simp only [wO] at h
  split at h
  next k l e1 e2 => cases h; rw [List.map_cons, z79 e1, xQ e2]
  next => cases h
theorem uk {S : Addr → Prop} {H : Hp} {k : Key} {v : V} (h : DatS S H (kD k) v) : v = kV k := by
 cases k <;> (simp only [kD, DatS] at h; exact h)
theorem wM {S : Addr → Prop} {H : Hp} : ∀ {ks : List Key} {xs : List V}, DatsS S H (ks.map kD) xs → xs = ks.map kV
 | [], xs, h => by simpa only [List.map_nil, DatsS] using h
 | n :: ns, xs, h => by
  simp only [List.map_cons, DatsS] at h
  obtain ⟨x, r, rfl, h1, h2⟩ := h
  rw [List.map_cons, uk h1, wM h2]
theorem z4G (a b : Key) : PyData.eqv (kD a) (kD b) = decide (a = b) := by
 cases a <;> cases b <;> simp [kD, PyData.eqv]
 all_goals (rw [Bool.eq_iff_iff]; simp)
theorem z3G : ∀ (a b : List Key), PyData.eqvAll (a.map kD) (b.map kD) = decide (a = b)
 | [], [] => by simp [PyData.eqvAll]
 | [], _ :: _ => by simp [PyData.eqvAll]
 | _ :: _, [] => by simp [PyData.eqvAll]
 | a :: r, b :: s => by
  simp only [List.map_cons, PyData.eqvAll, z4G, z3G r s]
  rw [Bool.eq_iff_iff]; simp
theorem z65 (a b : List Key) : PyData.eqv (kT a) (kT b) = decide (a = b) := by
 simp only [kT, PyData.eqv]; exact z3G a b
noncomputable def yz : PyData → Bool
 | .tuple _ => true
 | _ => false
noncomputable def yj (kvs : List (PyData × PyData)) : PyData → Bool
 | .tuple ds => (wO ds).isSome && kvs.all (fun kv => yz kv.1) && !kvs.isEmpty
 | x => (keyD x).isSome && kvs.all (fun kv => !yz kv.1) && !kvs.isEmpty
noncomputable def yf (kvs : List (PyData × PyData)) (x : PyData) : Option PyData := (kvs.find? fun kv => PyData.eqv kv.1 x).map (·.2)
theorem DctS.find {S : Addr → Prop} {H : Hp} {x : PyData} {κ : Type} [DecidableEq κ] {j : κ → PyData} (hj : ∀ a b, PyData.eqv (j a) (j b) = decide (a = b)) {k : κ} (hx : x = j k) :
  ∀ {kvs : List (PyData × PyData)} {l : List (κ × V)}, DctS S H kvs (l.map fun kv => (j kv.1, kv.2)) → (∃ d v, yf kvs x = some d ∧ valV l k = some v ∧ DatS S H d v) ∨ (yf kvs x = none ∧ valV l k = none)
 | [], [], _ => .inr ⟨rfl, rfl⟩
 | [], _ :: _, h => by simp [DctS] at h
 | (c, d) :: r, [], h => by simp [DctS] at h
 | (c, d) :: r, (q, v) :: s, h => by
  simp only [DctS, List.map_cons] at h
  obtain ⟨y, t, e, h1, h2⟩ := h
  cases e
  by_cases e : q = k
  ·refine .inl ⟨d, v, ?_, w9 e, h1⟩
   unfold yf
   rw [List.find?_cons, show PyData.eqv (j q) x = true by rw [hx, hj]; exact decide_eq_true e]
   rfl
  ·have ih := DctS.find hj hx h2
   have e1 : yf ((j q, d) :: r) x = yf r x := by
    unfold yf
    rw [List.find?_cons, show PyData.eqv (j q) x = false by rw [hx, hj]; exact decide_eq_false e]
   rw [e1, w5 (p := (q, v)) e]
   exact ih
theorem DGet.kR {H : Hp} {a : Addr} {kvs : List (Key × V)} {k : Key} (e : Rd H a (.dK kvs)) : DGet H a (kV k) (valV kvs k) := .inl ⟨kvs, k, e, rfl, rfl⟩
theorem DGet.tR {H : Hp} {a b : Addr} {kvs : List (List Key × V)} {k : List Key} (e : Rd H a (.dT kvs)) (eb : H b = some (.tup (k.map kV))) : DGet H a (.ref b) (valV kvs k) := .inr ⟨kvs, k, b, e, rfl, eb, rfl⟩
theorem z3Q {S : Addr → Prop} {H : Hp} {a : Addr} {ks : List (PyData × V)} {kvs : List (PyData × PyData)} {x : PyData} {y : V} (h1 : DctAt H a ks) (h2 : DctS S H kvs ks) (hx : DatS S H x y) (ok : yj kvs x = true) :
  (∃ d v, yf kvs x = some d ∧ DGet H a y (some v) ∧ DatS S H d v) ∨ (yf kvs x = none ∧ DGet H a y none) := by
 have tk : ∀ {P : PyData → Bool} (hP : kvs.all (fun kv => P kv.1) = true) (hn : kvs.isEmpty = false) {κ : Type} {j : κ → PyData} {l : List (κ × V)}, ks = l.map (fun kv => (j kv.1, kv.2)) → ∃ c, P (j c) = true := fun {P} hP hn {κ j l} e => by
  subst e
  cases kvs with
  | nil => cases hn
  | cons p r =>
   cases l with
   | nil => obtain ⟨_, _⟩ := p; simp [DctS] at h2
   | cons q s =>
    obtain ⟨p1, p2⟩ := p
    simp only [DctS, List.map_cons] at h2
    obtain ⟨_, _, e, _⟩ := h2
    cases e
    rw [List.all_cons, Bool.and_eq_true] at hP
    exact ⟨q.1, hP.1⟩
 have plain : ∀ k : Key, x = kD k → kvs.all (fun kv => !yz kv.1) = true → kvs.isEmpty = false → (∃ d v, yf kvs x = some d ∧ DGet H a y (some v) ∧ DatS S H d v) ∨ (yf kvs x = none ∧ DGet H a y none) := fun k e hA hn => by
  have ey : y = kV k := by rw [e] at hx; exact uk hx
  rcases h1 with ⟨l, g, rfl⟩ | ⟨l, g, e2⟩
  ·rcases DctS.find (κ := Key) (j := kD) z4G e h2 with ⟨d, v, f1, f2, f3⟩ | ⟨f1, f2⟩
   ·exact .inl ⟨d, v, f1, by rw [ey, ← f2]; exact DGet.kR g, f3⟩
   ·exact .inr ⟨f1, by rw [ey, ← f2]; exact DGet.kR g⟩
  ·obtain ⟨c, hc⟩ := tk (P := fun d => !yz d) hA hn e2
   simp [kT, yz] at hc
 cases x with
 | tuple ds =>
  simp only [yj, Bool.and_eq_true, Bool.not_eq_true'] at ok
  obtain ⟨⟨o1, o2⟩, o3⟩ := ok
  obtain ⟨k, ek⟩ := Option.isSome_iff_exists.mp o1
  have ed := xQ ek
  simp only [DatS] at hx
  obtain ⟨b, xs, rfl, hb, hxs⟩ := hx
  rw [ed] at hxs
  rw [wM hxs] at hb
  rcases h1 with ⟨l, g, e2⟩ | ⟨l, g, rfl⟩
  ·obtain ⟨c, hc⟩ := tk (P := yz) o2 o3 e2
   cases c <;> simp [kD, yz] at hc
  ·rcases DctS.find (κ := List Key) (j := kT) z65 (k := k) (x := .tuple ds) (by rw [ed]; rfl) h2 with ⟨d, v, f1, f2, f3⟩ | ⟨f1, f2⟩
   ·exact .inl ⟨d, v, f1, by rw [← f2]; exact DGet.tR g hb, f3⟩
   ·exact .inr ⟨f1, by rw [← f2]; exact DGet.tR g hb⟩
 | int i =>
  simp only [yj, Bool.and_eq_true, Bool.not_eq_true'] at ok
  exact plain (.inl i) rfl ok.1.2 ok.2
 | str i =>
  simp only [yj, Bool.and_eq_true, Bool.not_eq_true'] at ok
  exact plain (.inr i) rfl ok.1.2 ok.2
 | none => simp [yj, keyD] at ok
 | bool _ => simp [yj, keyD] at ok
 | list _ => simp [yj, keyD] at ok
 | dict _ => simp [yj, keyD] at ok
theorem Dat1.key {T S : Addr → Prop} {H : Hp} {kvs : List (PyData × PyData)} {x : PyData} {y : V} (h : Dat1 T S H x y) (ok : yj kvs x = true) : DatS S H x y := by
 cases x <;> simp only [Dat1] at h <;> first | exact h | simp [yj, keyD] at ok
noncomputable def fIn (neg : Bool) : PyData → PyData → Option PyData
 | x, .list ds => if x.canLay0 = true ∧ PyData.canLayAll0 ds = true ∧ x.depth ≤ 60 then some (.bool (if neg then !(ds.any fun y => PyData.eqv y x) else ds.any fun y => PyData.eqv y x)) else none
 | x, .tuple ds => if x.canLay0 = true ∧ PyData.canLayAll0 ds = true ∧ x.depth ≤ 60 then some (.bool (if neg then !(ds.any fun y => PyData.eqv y x) else ds.any fun y => PyData.eqv y x)) else none
 | x, .dict kvs => if yj kvs x = true then some (.bool (if neg then !(yf kvs x).isSome else (yf kvs x).isSome)) else none
 | _, _ => none
section
variable {X : Cx}
theorem z3X (hu : X.A.units + 1 < cLine) : OpR X (compareOp .In) (fun y x H Q => ∃ a o, x = .ref a ∧ DGet H a y o ∧ Q (.bl o.isSome) H) := by
 intro pins s σ H y x v u Q I ry rx h
 obtain ⟨a, o, rfl, g, q⟩ := h
 obtain rfl : u = Value.ref a := rx
 exact d_in hu I g ry fun s3 I3 => ⟨.bl o.isSome, H, I3, rfl, q⟩
theorem z0U (hu : X.A.units + 1 < cLine) : OpR X (compareOp .NotIn) (fun y x H Q => ∃ a o, x = .ref a ∧ DGet H a y o ∧ Q (.bl (!o.isSome)) H) := by
 intro pins s σ H y x v u Q I ry rx h
 obtain ⟨a, o, rfl, g, q⟩ := h
 obtain rfl : u = Value.ref a := rx
 exact z3q hu I g ry fun s3 I3 => ⟨.bl (!o.isSome), H, I3, rfl, q⟩
theorem z2v {neg : Bool} {x y : V} {H : Hp} {Q : VK} (h : rD2 (fIn neg) x y H Q) : rInD neg x y H Q ∨ ∃ a o, y = .ref a ∧ DGet H a x o ∧ Q (.bl (if neg then !o.isSome else o.isSome)) H := by
 obtain ⟨S, d, e, r, hS, h1, h2, hf, q⟩ := h
 cases e <;> simp only [fIn] at hf <;> try (cases hf; done)
 ·split at hf
  next c =>
   cases hf
   obtain ⟨a, xs, e1, g1, k1⟩ := yO h2
   exact .inl ⟨d, _, h1.datV c.1, .inl (by simp only [DatV]; exact ⟨a, xs, e1, g1, k1.datV c.2.1⟩), c.1, c.2.1, c.2.2, q _ _ (Same.refl _) db⟩
  next => cases hf
 ·split at hf
  next c =>
   cases hf
   obtain ⟨a, xs, e1, g1, k1⟩ := zy h2
   exact .inl ⟨d, _, h1.datV c.1, .inr (by simp only [DatV]; exact ⟨a, xs, e1, g1, k1.datV c.2.1⟩), c.1, c.2.1, c.2.2, q _ _ (Same.refl _) db⟩
  next => cases hf
 ·split at hf
  next c =>
   cases hf
   obtain ⟨a, ks, e1, g1, k1⟩ := u4 h2
   rcases z3Q g1 k1 (h1.key c) c with ⟨d', v, f1, f2, f3⟩ | ⟨f1, f2⟩
   ·rw [f1] at q
    exact .inr ⟨a, _, e1, f2, q _ _ (Same.refl _) db⟩
   ·rw [f1] at q
    exact .inr ⟨a, _, e1, f2, q _ _ (Same.refl _) db⟩
  next => cases hf
theorem z5v (hu : X.A.units + 64 < cLine) : OpR X (compareOp .In) (rD2 (fIn false)) := ((z8I hu).or (z3X (by omega))).imp fun x y H Q h => z2v h
theorem wn (hu : X.A.units + 64 < cLine) : OpR X (compareOp .NotIn) (rD2 (fIn true)) := ((z32 hu).or (z0U (by omega))).imp fun x y H Q h => z2v h
noncomputable def fIs (neg : Bool) : PyData → PyData → Option PyData
 | .none, .none => some (.bool (!neg))
 | _, .none => some (.bool neg)
 | _, _ => none
theorem z7U {T S : Addr → Prop} {H : Hp} {d : PyData} {x : V} (h : Dat1 T S H d x) : (d = .none ∧ x = .non) ∨ (d ≠ .none ∧ x ≠ .non) := by
 cases d <;> simp only [Dat1, DatS] at h
 case none => exact .inl ⟨rfl, h⟩
 all_goals refine .inr ⟨(by intro z; cases z), ?_⟩
 all_goals first
  | (subst h; intro z; cases z)
  | (obtain ⟨_, _, e, _⟩ := h; subst e; intro z; cases z)
theorem z4E {neg : Bool} {x y : V} {H : Hp} {Q : VK} (h : rD2 (fIs neg) x y H Q) : y = .non ∧ Q (.bl (if neg then !decide (x = .non) else decide (x = .non))) H := by
 obtain ⟨S, d, e, r, hS, h1, h2, hf, q⟩ := h
 cases e
 case none =>
  refine ⟨z2s h2, ?_⟩
  rcases z7U h1 with ⟨rfl, rfl⟩ | ⟨n1, n2⟩
  ·simp only [fIs] at hf
   cases hf
   have := q _ _ (Same.refl _) db
   cases neg <;> simpa using this
  ·have hf' : some (PyData.bool neg) = some r := by
    cases d <;> first | exact hf | exact absurd rfl n1
   cases hf'
   have := q _ _ (Same.refl _) db
   cases neg <;> simpa [n2] using this
 all_goals (cases d <;> simp only [fIs] at hf <;> cases hf)
theorem z5x : OpR X (compareOp .Is) (rD2 (fIs false)) := op_isN.imp fun x y H Q h => z4E (neg := false) h
theorem z1C : OpR X (compareOp .IsNot) (rD2 (fIs true)) := op_notN.imp fun x y H Q h => z4E (neg := true) h
noncomputable def fIx : PyData → PyData → Option PyData
 | .list ds, .int i => atI ds i
 | .tuple ds, .int i => atI ds i
 | .dict kvs, x => if yj kvs x = true then yf kvs x else none
 | _, _ => none
theorem DatsS.at {S : Addr → Prop} {H : Hp} {ds : List PyData} {xs : List V} {i : Int} {d : PyData} (h : DatsS S H ds xs) (e : atI ds i = some d) : ∃ v, atI xs i = some v ∧ DatS S H d v := by
 unfold atI at e ⊢
 rw [h.length] at e
 cases q : ixN xs.length i with
 | none => rw [q] at e; cases e
 | some j =>
  rw [q] at e
  obtain ⟨v, e1, e2⟩ := h.get (show ds[j]? = some d from e)
  exact ⟨v, e1, e2⟩
theorem z6L (hu : X.A.units + 1 < cLine) : IxR X (fun x y H Q => ∃ a v, x = .ref a ∧ DGet H a y (some v) ∧ Q v H) := by
 intro value slice pins s σ H x y o i Q I rx ry h hs
 obtain ⟨a, v, rfl, g, q⟩ := h
 obtain rfl : o = Value.ref a := rx
 have hT := z1g I g
 have h₂ := z3p (E := X.xe) (Q := EP X pins σ Q) hu I g ry fun w' s3 I3 rw' => ⟨v, H, I3, rw', q⟩
 unfold subscriptTail
 refine wpAny_bind ?_
 rw [getitemInPython_of_ne hT.not_modules]
 refine wpAny_bind (wpAny_specialOf hT PySem.F.slot_dict_getitem.lookup ?_)
 have fin : wpAny (model X.prog X.w) X.A (subscripted slice false (.ref a) i) (fun r s₃ => wpAny (model X.prog X.w) X.A (letTemporaryGo value (.ref a) r >>= fun _ => pure r) (EP X pins σ Q) X.xe s₃) X.xe s := by
  rw [hs]
  exact wpAny_operating (wpAny_mono h₂ (fun r s₃ h₃ => wpAny_bind (wpAny_letTemporaryGo (wpAny_pure h₃))) fun _ _ x => x)
 first
  | exact wpAny_pure (wpAny_bind fin)
  | exact wpAny_bind (wpAny_pure (wpAny_bind fin))
  | exact wpAny_bind fin
theorem ix_D (hu : X.A.units + 1 < cLine) : IxR X (rD2 fIx) := (ix_list.or (ix_tup.or (z6L hu))).imp fun x y H Q ⟨S, d, e, r, hS, h1, h2, hf, q⟩ => by
 cases d <;> try (simp only [fIx] at hf; cases hf; done)
 case list ds =>
  cases e <;> simp only [fIx] at hf <;> try (cases hf; done)
  obtain ⟨a, xs, e1, g1, k1⟩ := yO h1
  obtain ⟨v, e2, r2⟩ := k1.at hf
  exact .inl ⟨a, xs, _, v, e1, zn h2, SqL.of g1, e2, q _ _ (Same.refl _) r2⟩
 case tuple ds =>
  cases e <;> simp only [fIx] at hf <;> try (cases hf; done)
  obtain ⟨a, xs, e1, g1, k1⟩ := zy h1
  obtain ⟨v, e2, r2⟩ := k1.at hf
  exact .inr (.inl ⟨a, xs, _, v, e1, zn h2, SqT.of g1, e2, q _ _ (Same.refl _) r2⟩)
 case dict kvs =>
  have hf' : (if yj kvs e = true then yf kvs e else none) = some r := by cases e <;> exact hf
  split at hf'
  next c =>
   obtain ⟨a, ks, e1, g1, k1⟩ := u4 h1
   rcases z3Q g1 k1 (h2.key c) c with ⟨d', v, f1, f2, f3⟩ | ⟨f1, f2⟩
   ·rw [f1] at hf'; cases hf'
    exact .inr (.inr ⟨a, v, e1, f2, q _ _ (Same.refl _) f3⟩)
   ·rw [f1] at hf'; cases hf'
  next => cases hf'
end
end L2
namespace L2
open PySem PySem.Spec PyProof.Rows
section
variable {K : W.Frag} {Er : Str → Hp → Prop} {X : Cx} {e a b c : Expr} {es rest : List Expr} {m ma mb : Env' → Mx D} {mc mt : Env' → Mx Bool} {ms : Env' → Mx (List D)} {pos p2 : Pos}
noncomputable def mUn (f : PyData → Option PyData) (m : Env' → Mx D) : Env' → Mx D := fun ρ => m ρ >>= fun x => Mx.opt ((onP f x).map D.p)
noncomputable def mIf {α : Type} (c : Env' → Mx Bool) (a b : Env' → Mx α) : Env' → Mx α := fun ρ => c ρ >>= fun t => if t = true then a ρ else b ρ
theorem z67 {R : RG D V} {σ : St} {H : Hp} {Q : VK} (hR : ∀ g S H H1 H2 a v n, Kp g.T H H1 → Twn g H1 n → R g S H1 H2 a v → R g S H H2 a v) (h : rdG R K Er (mIf mc ma mb) σ H Q) : tIf (rdG RT K Er mc) (rdG R K Er ma) (rdG R K Er mb) σ H Q :=
 rd1 h hR fun g ow ρ n d v H0 H2 fr _ r q => by
  cases r
  cases d with
  | true => exact ite_tt ⟨g, ow, ρ, n, fr, q⟩
  | false => exact ite_ff ⟨g, ow, ρ, n, fr, q⟩
theorem z7y (hc : DT K Er X c mc) (ha : DE K Er X a ma) (hb : DE K Er X b mb) : DE K Er X (.IfExp c a b pos) (mIf mc ma mb) := (z1s hc ha hb).imp fun σ H Q h => z67 (fun _ _ _ _ _ _ _ _ _ _ r => r) h
theorem z4k (hc : DT K Er X c mc) (ha : DW K Er X a ma) (hb : DW K Er X b mb) : DW K Er X (.IfExp c a b pos) (mIf mc ma mb) := (z1s hc ha hb).imp fun σ H Q h => z67 (fun _ _ _ _ _ _ _ _ _ _ r => r) h
noncomputable def xu (a b : Env' → Mx D) : Env' → Mx D := fun ρ => a ρ >>= fun x => Mx.opt (onB x) >>= fun t => if t = true then b ρ else pure (.p (.bool false))
theorem xC (ha : DW K Er X a ma) (hb : DE K Er X (.BoolOp .And (b :: rest) pos) mb) : DE K Er X (.BoolOp .And (a :: b :: rest) pos) (xu ma mb) := (z7a ha hb).imp fun σ H Q h => rd1 h (fun _ _ _ _ _ _ _ _ _ _ r => r) fun g ow ρ n d v H0 H2 fr _ r q => by
 obtain ⟨t, e, q2⟩ := yr q
 have e1 := z27 e
 subst e1
 cases t with
 | true => exact ⟨true, z55 (Rep1.d1 r), ite_tt ⟨g, ow, ρ, n, fr, q2⟩⟩
 | false => exact ⟨false, z55 (Rep1.d1 r), ite_ff (q2 _ _ (Kp.refl _ _) fr.twn rb)⟩
theorem xT {op} (h : DE K Er X a m) : DE K Er X (.BoolOp op [a] pos) m := z7O h
noncomputable def truD : PyData → Option Bool
 | .none => some false
 | .bool b => some b
 | .int i => some (i != 0)
 | .str y => if y.length ≤ lim then some ((y.length : Int) != 0) else none
 | .list ds => some (!ds.isEmpty)
 | .tuple ds => some (!ds.isEmpty)
 | .dict _ => none
noncomputable def mTru (m : Env' → Mx D) : Env' → Mx Bool := fun ρ => m ρ >>= fun x => Mx.opt (onP truD x)
theorem DatsS.emp {S : Addr → Prop} {H : Hp} {ds : List PyData} {xs : List V} (h : DatsS S H ds xs) : ds.isEmpty = xs.isEmpty := by
 have := h.length
 cases ds <;> cases xs <;> simp_all
theorem zt (ha : DW K Er X a ma) (he : ∀ whole, isTrue a X.env whole = (do let v ← whole; standAt a.pos; holding [v] (truthy v))) : DT K Er X a (mTru ma) := (z5e ha he).imp fun σ H Q h => rd1 h (fun _ _ _ _ _ _ _ _ _ _ r => r) fun g ow ρ n d v H0 H2 fr _ r q => by
 obtain ⟨k, e, q2⟩ := z1a q
 obtain ⟨x, rfl, e1⟩ := zl e
 have q3 := q2 _ _ (Kp.refl _ _) fr.twn rfl
 cases x with
 | none => cases e1; cases z2s (Rep1.d1 r); exact ⟨false, rfl, q3⟩
 | bool b => cases e1; cases z55 (Rep1.d1 r); exact ⟨_, rfl, q3⟩
 | int i => cases e1; cases zn (Rep1.d1 r); exact ⟨_, rfl, q3⟩
 | str y =>
  cases z0V (Rep1.d1 r)
  simp only [truD] at e1
  split at e1
  next hl => cases e1; exact ⟨_, ⟨yR hl, rfl⟩, q3⟩
  next => cases e1
 | list ds =>
  cases e1
  obtain ⟨a, xs, rfl, g1, k1⟩ := yO (Rep1.d1 r)
  exact ⟨_, .inl ⟨xs, SqL.of g1, by rw [k1.emp]⟩, q3⟩
 | tuple ds =>
  cases e1
  obtain ⟨a, xs, rfl, g1, k1⟩ := zy (Rep1.d1 r)
  exact ⟨_, .inr (.inl ⟨xs, SqT.of g1, by rw [k1.emp]⟩), q3⟩
 | dict _ => cases e1
noncomputable def zx (m : Env' → Mx D) : Env' → Mx Bool := fun ρ => m ρ >>= fun x => Mx.opt (onB x)
theorem yJ {α β γ : Type} (m : Mx α) (f : α → Mx β) (k : β → Mx γ) : ((m >>= f) >>= k) = m >>= fun x => f x >>= k := by
 funext n
 rw [Mx.bind_def, Mx.bind_def, Mx.bind_def]
 cases m n <;> rfl
theorem zg {op : CmpOp} {f : PyData → PyData → Option PyData} (ho : OpR X (compareOp op) (rD2 f)) (ha : DW K Er X a ma) (hb : DW K Er X b mb) (hm : behindInMarks op b = false) : DT K Er X (.Compare a [op] [b] pos) (zx (mBin f ma mb)) :=
 (z1X ho ha hb hm).imp fun σ H Q h => by
  have e : zx (mBin f ma mb) = fun ρ => ma ρ >>= fun x => mb ρ >>= fun y => (Mx.opt ((onP2 f x y).map D.p) >>= fun z => Mx.opt (onB z)) := by
   funext ρ; unfold zx mBin; rw [yJ]; congr 1; funext x; rw [yJ]
  rw [e] at h
  refine rd2 (Z := fun v u H2 => rD2 f v u H2 fun x H' => ∃ k, x = .bl k ∧ Q k H') h (fun _ _ _ _ _ _ _ _ _ _ r => r) fun g ow ρ n x y v u H2 fr r1 r2 q => ?_
  obtain ⟨z, e, q1⟩ := yr q
  obtain ⟨k, e2, q2⟩ := z1a q1
  obtain ⟨r, e3, e4⟩ := Option.map_eq_some_iff.mp e
  obtain ⟨x, y, rfl, rfl, e5⟩ := yC e3
  have e6 := z27 e2
  rw [← e4] at e6
  cases e6
  exact ⟨g.S ow, x, y, _, fr.dom, Dat1.weak r1, Dat1.weak r2, e5, fun v H' s d => ⟨k, by simpa only [DatS] using d, q2 _ _ s.kp (s.twn fr.twn) rfl⟩⟩
noncomputable def z0r (m : Env' → Mx Bool) : Env' → Mx Bool := fun ρ => m ρ >>= fun b => pure (!b)
noncomputable def z6m (a b : Env' → Mx Bool) : Env' → Mx Bool := fun ρ => a ρ >>= fun t => if t = true then b ρ else pure false
noncomputable def mOrT (a b : Env' → Mx Bool) : Env' → Mx Bool := fun ρ => a ρ >>= fun t => if t = true then pure true else b ρ
theorem ub (h : DT K Er X a mc) : DT K Er X (.UnaryOp .Not a pos) (z0r mc) := (z7F h).imp fun σ H Q h => rd1 h (fun _ _ _ _ _ _ _ _ _ _ r => r) fun g ow ρ n d v H0 H2 fr _ r q => by
 cases r
 exact q _ _ (Kp.refl _ _) fr.twn rfl
noncomputable abbrev DPW (K : W.Frag) (Er : Str → Hp → Prop) (X : Cx) (e : Expr) (m : Env' → Mx Bool) : Prop := PW X e (rdG RT K Er m)
theorem PW.imp {t t' : TT} (h : PW X e t) (k : ∀ σ H Q, t' σ H Q → t σ H Q) : PW X e t' := fun wh pins s σ H Q I q => h wh pins s σ H Q I (k σ H Q q)
theorem z53 (h : DT K Er X a mc) : DPW K Er X (.BoolOp .And [a] pos) mc := z6j h
theorem wZ (h : DT K Er X a mc) : DPW K Er X (.BoolOp .Or [a] pos) mc := z7z h
theorem z6z (h : DT K Er X a mc) (h2 : DPW K Er X (.BoolOp .And (b :: rest) pos) mt) : DPW K Er X (.BoolOp .And (a :: b :: rest) pos) (z6m mc mt) := PW.imp (z8Z h h2) fun σ H Q h => rd1 h (fun _ _ _ _ _ _ _ _ _ _ r => r) fun g ow ρ n d v H0 H2 fr _ r q => by
 cases r
 cases d with
 | true => exact ite_tt ⟨g, ow, ρ, n, fr, q⟩
 | false => exact ite_ff (q _ _ (Kp.refl _ _) fr.twn rfl)
theorem z1B (h : DT K Er X a mc) (h2 : DPW K Er X (.BoolOp .Or (b :: rest) pos) mt) : DPW K Er X (.BoolOp .Or (a :: b :: rest) pos) (mOrT mc mt) := PW.imp (z9C h h2) fun σ H Q h => rd1 h (fun _ _ _ _ _ _ _ _ _ _ r => r) fun g ow ρ n d v H0 H2 fr _ r q => by
 cases r
 cases d with
 | true => exact ite_tt (q _ _ (Kp.refl _ _) fr.twn rfl)
 | false => exact ite_ff ⟨g, ow, ρ, n, fr, q⟩
theorem DPW.dt (h : DPW K Er X a mc) : DT K Er X a mc := h.pt
noncomputable def mNil : Env' → Mx (List D) := fun _ => pure []
noncomputable def z5 (m : Env' → Mx D) (ms : Env' → Mx (List D)) : Env' → Mx (List D) := fun ρ => m ρ >>= fun x => ms ρ >>= fun xs => pure (x :: xs)
theorem zE : DA K Er X [] mNil := pa_nil.imp fun σ H Q ⟨g, ow, ρ, n, f, q⟩ => q [] H (Kp.refl _ _) f.twn .nil
theorem zJ : DAW K Er X [] mNil := pa_nil.imp fun σ H Q ⟨g, ow, ρ, n, f, q⟩ => q [] H (Kp.refl _ _) f.twn .nil
theorem z4 (ha : DE K Er X e m) (hr : DA K Er X es ms) (hs : starEach (e :: es) X.env = (false, eval e X.env) :: starEach es X.env := by rfl) : DA K Er X (e :: es) (z5 m ms) := (zW ha hr hs).imp fun σ H Q h =>
 rd1 h (fun _ _ _ _ _ _ _ _ _ _ r => r) fun g ow ρ n d v H0 H1 fr _ r q => by
  refine ⟨g, ow, ρ, n, fr, ?_⟩
  refine AftG.bind q fun xs n2 vs H2 k2 t2 r2 c2 => ?_
  exact c2 (R3 := RA g (g.S ow)) (fun _ _ _ z => z) (v :: vs) H2 (Kp.refl _ _) t2 (.cons (r.kp (k2.mono Gh.ts) fun a z => .inl z) r2)
theorem zD (ha : DW K Er X e m) (hr : DAW K Er X es ms) (hs : starEach (e :: es) X.env = (false, eval e X.env) :: starEach es X.env := by rfl) : DAW K Er X (e :: es) (z5 m ms) := (zW ha hr hs).imp fun σ H Q h =>
 rd1 h (fun _ _ _ _ _ _ _ _ _ _ r => r) fun g ow ρ n d v H0 H1 fr _ r q => by
  refine ⟨g, ow, ρ, n, fr, ?_⟩
  refine AftG.bind q fun xs n2 vs H2 k2 t2 r2 c2 => ?_
  exact c2 (R3 := RAW g (g.S ow)) (fun _ _ _ z => z) (v :: vs) H2 (Kp.refl _ _) t2 (.cons (Rep1.kp k2 Gh.us r) r2)
noncomputable def toP : List D → Option (List PyData)
 | [] => some []
 | .p x :: r => (toP r).map (x :: ·)
 | _ => none
theorem z5l {g : Gh} {S : Addr → Prop} {H : Hp} : ∀ {ds : List D} {xs : List PyData} {vs : List V}, toP ds = some xs → All2 (Rep g S H) ds vs → DatsS S H xs vs
 | [], xs, _, h, r => by simp only [toP] at h; cases h; cases r; exact .nil
 | .p x :: ds, xs, _, h, r => by
  simp only [toP] at h
  cases e : toP ds with
  | none => rw [e] at h; cases h
  | some ys =>
   rw [e] at h; cases h
   cases r with
   | cons r1 r2 => exact .cons r1 (z5l e r2)
 | .scr _ :: _, _, _, h, _ => by simp only [toP] at h; cases h
 | .town :: _, _, _, h, _ => by simp only [toP] at h; cases h
 | .fn _ :: _, _, _, h, _ => by simp only [toP] at h; cases h
 | .exc _ _ :: _, _, _, h, _ => by simp only [toP] at h; cases h
noncomputable def mSeq (j : List PyData → PyData) (ms : Env' → Mx (List D)) : Env' → Mx PyData := fun ρ => ms ρ >>= fun ds => Mx.opt ((toP ds).bind fun xs => if xs.length ≤ lim then some (j xs) else none)
theorem z3l {α : Type} {j : List PyData → PyData} {g : Gh} {S : Addr → Prop} {R : Hp → Hp → PyData → α → Prop} {H : Hp} {ds : List D} {vs : List V} {n : Nat} {Q : α → Hp → Prop} (t : Twn g H n) (r : All2 (Rep g S H) ds vs) (h : AftG R g Er H (Mx.opt ((toP ds).bind fun xs => if xs.length ≤ lim then some (j xs) else none) n) Q) :
  ∃ xs, DatsS S H xs vs ∧ vs.length ≤ sizeLine ∧ ∀ v H', Same H H' → R H H' (j xs) v → Q v H' := by
 cases e : toP ds with
 | none => rw [e] at h; exact h.elim
 | some xs =>
  rw [e] at h
  have h : AftG R g Er H (Mx.opt (if xs.length ≤ lim then some (j xs) else none) n) Q := h
  have k := z5l e r
  split at h
  next hl => exact ⟨xs, k, yR (by rw [← k.length]; exact hl), fun v H' s r => h v H' s.kp (s.twn t) r⟩
  next => exact h.elim
theorem yS {x1} (h : DA K Er X es ms) : DE K Er X (.Tuple es x1 pos) (mP (mSeq PyData.tuple ms)) := (z7B h).imp fun σ H Q h => by
 have e : mP (mSeq PyData.tuple ms) = fun ρ => ms ρ >>= fun ds => (Mx.opt ((toP ds).bind fun xs => if xs.length ≤ lim then some (PyData.tuple xs) else none) >>= fun x => pure (D.p x)) := by
  funext ρ; unfold mP mSeq; rw [yJ]
 rw [e] at h
 refine rd1 h (fun _ _ _ _ _ _ _ _ _ _ r => r) fun g ow ρ n ds vs H0 H2 fr _ r q => ?_
 have q' : AftG (fun H H' (x : PyData) v => RE g (g.S ow) H H' (.p x) v) g Er H2 (Mx.opt ((toP ds).bind fun xs => if xs.length ≤ lim then some (PyData.tuple xs) else none) n) Q := by
  rw [Mx.bind_def] at q
  cases z : Mx.opt ((toP ds).bind fun xs => if xs.length ≤ lim then some (PyData.tuple xs) else none) n with
  | ok x k => rw [z] at q; exact q
  | err c k => rw [z] at q; exact q
  | bad => rw [z] at q; exact q
 obtain ⟨xs, k, hl, q⟩ := z3l fr.twn r q'
 exact ⟨hl, fun p hp => q _ _ (Same.new hp) (z2J hp k)⟩
theorem wu (h : DA K Er X es ms) : DF K Er X (.List es pos) (mSeq PyData.list ms) := (z3E h).imp fun σ H Q h => rd1 h z00 fun g ow ρ n ds vs H0 H2 fr _ r q => by
 obtain ⟨xs, k, hl, q⟩ := z3l fr.twn r q
 refine ⟨hl, fun p hp => q _ _ (Same.new hp) ⟨p, rfl, hp, Pl.upd, ?_⟩⟩
 simp only [Dat1]
 exact ⟨p, vs, rfl, id, zC, DatsS.kp (Kp.of (Same.new hp)) (fun b z => z.elim .inl fun e => .inr (e ▸ hp)) k⟩
end
end L2
namespace L2
open PySem PySem.Spec PyProof.Rows
section
variable {K : W.Frag} {Er : Str → Hp → Prop} {X : Cx} {e a b c : Expr} {es rest : List Expr} {m ma mb : Env' → Mx D} {mc mt : Env' → Mx Bool} {ms : Env' → Mx (List D)} {pos p2 : Pos}
theorem zV (hu : X.A.units + 1 < cLine) (ha : DW K Er X a ma) (hb : DW K Er X b mb) (hs : z3i b) : DE K Er X (.Subscript a b pos) (mBin fIx ma mb) :=
 (z6g (ix_D hu) ha hb hs).imp fun σ H Q h => rd2 (Z := fun v u H2 => rD2 fIx v u H2 Q) h (fun _ _ _ _ _ _ _ _ _ _ r => r) fun g ow ρ n x y v u H2 fr r1 r2 q => by
  obtain ⟨r, e, q2⟩ := xG fr.twn q
  obtain ⟨x, y, rfl, rfl, e⟩ := yC e
  exact ⟨g.S ow, x, y, r, fr.dom, Dat1.weak r1, Dat1.weak r2, e, q2⟩
noncomputable def onPs {α : Type} (f : List PyData → Option α) (ds : List D) : Option α := (toP ds).bind f
noncomputable def rDn (f : List PyData → Option PyData) : List V → Hp → VK → Prop := fun vs H Q => ∃ S ds r, (∀ a, S a → H a ≠ none) ∧ All2 (Dat1 N0 S H) ds vs ∧ f ds = some r ∧ ∀ v H', Same H H' → DatS S H' r v → Q v H'
noncomputable def zO (f : List PyData → Option PyData) (ms : Env' → Mx (List D)) : Env' → Mx D := fun ρ => ms ρ >>= fun ds => Mx.opt ((onPs f ds).map D.p)
theorem z4b {g : Gh} {S : Addr → Prop} {H : Hp} : ∀ {ds : List D} {xs : List PyData} {vs : List V}, toP ds = some xs → All2 (Rep1 g S H) ds vs → All2 (Dat1 N0 S H) xs vs
 | [], xs, _, h, r => by simp only [toP] at h; cases h; cases r; exact .nil
 | .p x :: ds, xs, _, h, r => by
  simp only [toP] at h
  cases e : toP ds with
  | none => rw [e] at h; cases h
  | some ys =>
   rw [e] at h; cases h
   cases r with
   | cons r1 r2 => exact .cons (Dat1.weak r1) (z4b e r2)
 | .scr _ :: _, _, _, h, _ => by simp only [toP] at h; cases h
 | .town :: _, _, _, h, _ => by simp only [toP] at h; cases h
 | .fn _ :: _, _, _, h, _ => by simp only [toP] at h; cases h
 | .exc _ _ :: _, _, _, h, _ => by simp only [toP] at h; cases h
theorem z6u {f : List PyData → Option PyData} {t : TE} (h : ∀ σ H Q, rdG RAW K Er ms σ H (fun vs H1 => rDn f vs H1 Q) → t σ H Q) (hp : PE X e t) : DE K Er X e (zO f ms) := hp.imp fun σ H Q hq => h σ H Q (rd1 hq (fun _ _ _ _ _ _ _ _ _ _ r => r) fun g ow ρ n ds vs H0 H2 fr _ r q => by
 obtain ⟨z, e, q2⟩ := xG fr.twn q
 obtain ⟨xs, e1, e2⟩ := Option.bind_eq_some_iff.mp e
 exact ⟨g.S ow, xs, z, fr.dom, z4b e1 r, e2, q2⟩)
theorem zM {x : Str} {id : String} {p : Pos} {f : List PyData → Option PyData} (hc : CallR X (.builtin id) (rDn f)) (hg : Gl X x) (hm : X.mg x = none) (hv : bootBuiltins x = some (.builtin id)) (ha : DAW K Er X (e :: es) ms) (hn : x ≠ "__name__" := by decide) (hdb : (x == ("__debug__" : Str)) = false := by decide)
  (he : starEach (e :: es) X.env = (false, eval e X.env) :: starEach es X.env := by rfl) (hpl : (backTo pos (starEach es X.env)).any (·.1) = false := by rfl) : DE K Er X (.Call (.Name x p) (e :: es) [] pos) (zO f ms) :=
 z6u (fun σ H Q h => h) (zz hc hg hm hv ha hn hdb he hpl)
theorem yA {x : Str} {T : String} {p : Pos} {f : List PyData → Option PyData} (hc : CallR X (.type T) (rDn f)) (hg : Gl X x) (hm : X.mg x = none) (hv : bootBuiltins x = some (.type T)) (ha : DAW K Er X (e :: es) ms) (hn : x ≠ "__name__" := by decide) (hdb : (x == ("__debug__" : Str)) = false := by decide)
  (he : starEach (e :: es) X.env = (false, eval e X.env) :: starEach es X.env := by rfl) (hpl : (backTo pos (starEach es X.env)).any (·.1) = false := by rfl) : DE K Er X (.Call (.Name x p) (e :: es) [] pos) (zO f ms) :=
 z6u (fun σ H Q h => h) (xX hc hg hm hv ha hn hdb he hpl)
theorem all1 {α β : Type} {R : α → β → Prop} {d : α} {vs : List β} (h : All2 R [d] vs) : ∃ v, vs = [v] ∧ R d v := by
 cases h with
 | cons r t => cases t; exact ⟨_, rfl, r⟩
theorem all2 {α β : Type} {R : α → β → Prop} {d e : α} {vs : List β} (h : All2 R [d, e] vs) : ∃ v u, vs = [v, u] ∧ R d v ∧ R e u := by
 cases h with
 | cons r t =>
  obtain ⟨u, rfl, r2⟩ := all1 t
  exact ⟨_, u, rfl, r, r2⟩
noncomputable def fLen : List PyData → Option PyData
 | [.list ds] => some (.int ds.length)
 | [.tuple ds] => some (.int ds.length)
 | [.str x] => if x.length ≤ lim then some (.int x.length) else none
 | _ => none
theorem y8 : CallR X (.builtin "len") (rDn fLen) := (call_len_seq.or z0i).imp fun vs H Q ⟨S, ds, r, hS, h1, hf, q⟩ => by
 match ds, hf, h1 with
 | [.list xs], hf, h1 =>
  cases hf
  obtain ⟨v, rfl, r⟩ := all1 h1
  obtain ⟨a, ys, rfl, g1, k1⟩ := yO r
  exact .inl ⟨a, ys, rfl, .inl (SqL.of g1), by rw [← k1.length]; exact q _ _ (Same.refl _) di⟩
 | [.tuple xs], hf, h1 =>
  cases hf
  obtain ⟨v, rfl, r⟩ := all1 h1
  obtain ⟨a, ys, rfl, g1, k1⟩ := zy r
  exact .inl ⟨a, ys, rfl, .inr (SqT.of g1), by rw [← k1.length]; exact q _ _ (Same.refl _) di⟩
 | [.str x], hf, h1 =>
  obtain ⟨v, rfl, r⟩ := all1 h1
  simp only [fLen] at hf
  split at hf
  next hl => cases hf; exact .inr ⟨x, by rw [z0V r], yR hl, q _ _ (Same.refl _) di⟩
  next => cases hf
noncomputable def x0 : List PyData → Option PyData
 | [.list ds] => some (.tuple ds)
 | [.tuple ds] => some (.tuple ds)
 | _ => none
theorem yQ : CallR X (.type "tuple") (rDn x0) := call_tuple_of.imp fun vs H Q ⟨S, ds, r, hS, h1, hf, q⟩ => by
 match ds, hf, h1 with
 | [.list xs], hf, h1 =>
  cases hf
  obtain ⟨v, rfl, r⟩ := all1 h1
  obtain ⟨a, ys, rfl, g1, k1⟩ := yO r
  exact ⟨a, ys, rfl, .inl ⟨SqL.of g1, fun l hl => q _ _ (Same.new hl) (z2J hl k1)⟩⟩
 | [.tuple xs], hf, h1 =>
  cases hf
  obtain ⟨v, rfl, r⟩ := all1 h1
  obtain ⟨a, ys, rfl, g1, k1⟩ := zy r
  exact ⟨a, ys, rfl, .inr ⟨SqT.of g1, q _ _ (Same.refl _) (wT g1 k1)⟩⟩
noncomputable def yo : List PyData → Option (List Bool)
 | [] => some []
 | .bool i :: r => (yo r).map (i :: ·)
 | _ => none
theorem uh : ∀ {ds : List PyData} {ns : List Bool}, yo ds = some ns → ds = ns.map PyData.bool
 | [], ns, h => by simp only [yo] at h; cases h; rfl
 | d :: r, ns, h => by
  cases d <;> simp only [yo] at h <;> try (cases h; done)
  cases e : yo r with
  | none => rw [e] at h; cases h
  | some ms => rw [e] at h; cases h; rw [List.map_cons, uh e]
theorem DatsS.bools {S : Addr → Prop} {H : Hp} : ∀ {ns : List Bool} {xs : List V}, DatsS S H (ns.map PyData.bool) xs → xs = ns.map V.bl
 | [], xs, h => by simpa only [List.map_nil, DatsS] using h
 | n :: ns, xs, h => by
  simp only [List.map_cons, DatsS] at h
  obtain ⟨x, r, rfl, h1, h2⟩ := h
  simp only [DatS] at h1
  subst h1
  rw [List.map_cons, DatsS.bools h2]
noncomputable def xR (f : List Bool → Bool) : List PyData → Option PyData
 | [.list ds] => (yo ds).map fun bs => .bool (f bs)
 | _ => none
theorem z4O {f : List Bool → Bool} {vs : List V} {H : Hp} {Q : VK} (h : rDn (xR f) vs H Q) : ∃ (p : Addr) (bs : List Bool), vs = [.ref p] ∧ SqL X.K H p (bs.map V.bl) ∧ Q (.bl (f bs)) H := by
 obtain ⟨S, ds, r, hS, h1, hf, q⟩ := h
 match ds, hf, h1 with
 | [.list xs], hf, h1 =>
  simp only [xR] at hf
  obtain ⟨bs, e, e2⟩ := Option.map_eq_some_iff.mp hf
  subst e2
  obtain ⟨v, rfl, r⟩ := all1 h1
  obtain ⟨a, ys, rfl, g1, k1⟩ := yO r
  rw [uh e] at k1
  rw [k1.bools] at g1
  exact ⟨a, bs, rfl, SqL.of g1, q _ _ (Same.refl _) db⟩
theorem z3O (hc : X.calm = true) : CallR X (.builtin "all") (rDn (xR fun bs => bs.all id)) := (z3d hc).imp fun vs H Q h => z4O h
end
end L2
namespace L2
open PySem PySem.Spec PyProof.Rows
structure Walks (S : Addr → Prop) (H : Hp) (J : It) (xs : List V) : Prop where
 go : ∀ i H', Kp S H H' → i < xs.length → J.go i H'
 yld : ∀ i H' x H'', Kp S H H' → J.yld i H' x H'' → H'' = H' ∧ (i < xs.length → xs[i]? = some x)
 stop : ∀ H', Kp S H H' → J.stop xs.length H'
theorem uY {K : W.Frag} {S : Addr → Prop} {H : Hp} {a : Addr} {xs : List V} (h : H a = some (.lst xs)) (hs : ¬ S a) : Walks S H (Itl K a) xs :=
 ⟨fun i H' k hi => ⟨xs, xs[i], SqL.of (k _ _ h (.inl hs)), by simp [hi]⟩, fun i H' x H'' k y => ⟨y.1, fun _ => y.2 xs (SqL.of (k _ _ h (.inl hs)))⟩, fun H' k => ⟨xs, SqL.of (k _ _ h (.inl hs)), Nat.le_refl _⟩⟩
theorem z11 {K : W.Frag} {S : Addr → Prop} {H : Hp} {a : Addr} {xs : List V} (h : H a = some (.tup xs)) : Walks S H (Itt K a) xs :=
 ⟨fun i H' k hi => ⟨xs, xs[i], SqT.of (k _ _ h (.inr ⟨_, rfl⟩)), by simp [hi]⟩, fun i H' x H'' k y => ⟨y.1, fun _ => y.2 xs (SqT.of (k _ _ h (.inr ⟨_, rfl⟩)))⟩, fun H' k => ⟨xs, SqT.of (k _ _ h (.inr ⟨_, rfl⟩)), Nat.le_refl _⟩⟩
theorem z3Z {S : Addr → Prop} {H : Hp} {lo : Int} {n : Nat} : Walks S H (Itr lo n) ((List.range n).map fun (i : Nat) => V.int (lo + (i : Int))) := by
 refine ⟨fun i H' _ hi => ?_, fun i H' x H'' _ y => ⟨y.1, fun hi => ?_⟩, fun H' _ => ?_⟩
 ·show i < n; simpa using hi
 ·obtain ⟨_, rfl⟩ := y
  have hi : i < n := by simpa using hi
  simp [hi]
 ·show n ≤ _; simp
noncomputable def RI (w : Bool) : RG (List PyData) It := fun g S _ H' ds J => ds.length ≤ lim ∧ ∃ xs, DatsS S H' ds xs ∧ Walks (if w = true then g.T else S) H' J xs
noncomputable abbrev DI (w : Bool) (K : W.Frag) (Er : Str → Hp → Prop) (X : Cx) (tg it : Expr) (m : Env' → Mx (List PyData)) : Prop := PI X tg it (rdG (RI w) K Er m)
theorem PI.imp {X : Cx} {tg it : Expr} {t t' : TI} (h : PI X tg it t) (k : ∀ σ H Q, t' σ H Q → t σ H Q) : PI X tg it t' := fun pins s σ H Q I q => h pins s σ H Q I (k σ H Q q)
section
variable {K : W.Frag} {Er : Str → Hp → Prop} {X : Cx} {e a b c tg it elt : Expr} {es rest : List Expr} {m ma mb : Env' → Mx D} {mc mt : Env' → Mx Bool} {ms : Env' → Mx (List D)} {mi : Env' → Mx (List PyData)} {pos p2 : Pos}
theorem z5i {l : Expr} {tl : TE} (hl : PE X l tl) : PI X tg l (fun σ H R => tl σ H fun x H1 => ∃ a, x = .ref a ∧ (((∃ xs, SqL X.K H1 a xs) ∧ R (Itl X.K a) H1) ∨ ((∃ xs, SqT X.K H1 a xs) ∧ R (Itt X.K a) H1))) := by
 intro pins s σ H R I h
 refine thn (hl pins s σ H _ I h) fun v s1 ⟨x, H1, I1, r1, q1⟩ => ?_
 obtain ⟨a, e, q1⟩ := q1
 subst e
 cases r1
 have fp : ∀ b ∈ [s1.heap.objs.size], FpOk X pins H1 b := fun b hb => by
  have e : b = s1.heap.objs.size := by simpa using hb
  subst e
  exact I1.fpOk (Nat.le_refl _) (I1.hok.fresh (Nat.le_refl _))
 rcases q1 with ⟨⟨xs, hq⟩, q⟩ | ⟨⟨xs, hq⟩, q⟩
 ·obtain ⟨its, rv, p, hz⟩ := I1.list hq
  refine wpAny_pyIter_list p.isList ?_
  exact ⟨s1.heap.objs.size, [s1.heap.objs.size], _, _, H1, rfl, I1.kept (t' := s1.toks) fun b o e => Heap.get?_push_of_some _ e, z3P a _, ⟨_, Heap.get?_push_size _ rfl, rfl, rfl⟩, fp, q⟩
 ·obtain ⟨its, rv, p, hz⟩ := I1.tuple hq
  refine wpAny_pyIter_tuple (show s1.heap.IsTuple a its.toArray from p) ?_
  exact ⟨s1.heap.objs.size, [s1.heap.objs.size], _, _, H1, rfl, I1.kept (t' := s1.toks) fun b o e => Heap.get?_push_of_some _ e, z2c a _, ⟨_, Heap.get?_push_size _ rfl, rfl, rfl⟩, fp, q⟩
noncomputable def itD : PyData → Option (List PyData)
 | .list ds => if ds.length ≤ lim then some ds else none
 | .tuple ds => if ds.length ≤ lim then some ds else none
 | _ => none
noncomputable def mIt (m : Env' → Mx D) : Env' → Mx (List PyData) := fun ρ => m ρ >>= fun x => Mx.opt (onP itD x)
theorem z0x {x : PyData} {ds : List PyData} (h : itD x = some ds) : ds.length ≤ lim ∧ (x = .list ds ∨ x = .tuple ds) := by
 cases x <;> simp only [itD] at h <;> try (cases h; done)
 all_goals (split at h <;> cases h)
 ·exact ⟨by assumption, .inl rfl⟩
 ·exact ⟨by assumption, .inr rfl⟩
theorem z60 (h : DE K Er X it m) : DI false K Er X tg it (mIt m) := (z5i h).imp fun σ H Q h => rd1 h (fun _ _ _ _ _ _ _ _ _ _ r => r) fun g ow ρ n d v H0 H2 fr _ r q => by
 obtain ⟨ds, e, q2⟩ := z1a q
 obtain ⟨x, rfl, e1⟩ := zl e
 obtain ⟨hl, rfl | rfl⟩ := z0x e1
 ·obtain ⟨a, xs, rfl, hn, h1, h2⟩ := (show ∃ a xs, v = .ref a ∧ ¬ (g.S ow) a ∧ H2 a = some (.lst xs) ∧ DatsS (g.S ow) H2 ds xs by simpa only [Rep, DatS] using r)
  exact ⟨a, rfl, .inl ⟨⟨xs, SqL.of h1⟩, q2 _ _ (Kp.refl _ _) fr.twn ⟨hl, xs, h2, uY h1 (by rw [if_neg Bool.false_ne_true]; exact hn)⟩⟩⟩
 ·obtain ⟨a, xs, rfl, h1, h2⟩ := zy (T := N0) (DatS.one (fun _ z => z.elim) (show DatS (g.S ow) H2 (.tuple ds) v from r))
  exact ⟨a, rfl, .inr ⟨⟨xs, SqT.of h1⟩, q2 _ _ (Kp.refl _ _) fr.twn ⟨hl, xs, h2, z11 h1⟩⟩⟩
theorem u6 (h : DW K Er X it m) : DI true K Er X tg it (mIt m) := (z5i h).imp fun σ H Q h => rd1 h (fun _ _ _ _ _ _ _ _ _ _ r => r) fun g ow ρ n d v H0 H2 fr _ r q => by
 obtain ⟨ds, e, q2⟩ := z1a q
 obtain ⟨x, rfl, e1⟩ := zl e
 obtain ⟨hl, rfl | rfl⟩ := z0x e1
 ·obtain ⟨a, xs, rfl, hn, h1, h2⟩ := (show ∃ a xs, v = .ref a ∧ ¬ g.U a ∧ H2 a = some (.lst xs) ∧ DatsS (g.S ow) H2 ds xs by simpa only [Rep1, Dat1] using r)
  exact ⟨a, rfl, .inl ⟨⟨xs, SqL.of h1⟩, q2 _ _ (Kp.refl _ _) fr.twn ⟨hl, xs, h2, uY h1 (by intro z; rw [if_pos rfl] at z; exact hn (.inr z))⟩⟩⟩
 ·obtain ⟨a, xs, rfl, h1, h2⟩ := zy (Rep1.d1 r)
  exact ⟨a, rfl, .inr ⟨⟨xs, SqT.of h1⟩, q2 _ _ (Kp.refl _ _) fr.twn ⟨hl, xs, h2, z11 h1⟩⟩⟩
noncomputable def rngD (lo hi : Int) : List PyData := (List.range (hi - lo).toNat).map fun (i : Nat) => .int (lo + (i : Int))
noncomputable def yy : List PyData → Option (List PyData)
 | [.int j] => if -1000000 ≤ j ∧ j ≤ 1000000 then some (rngD 0 j) else none
 | _ => none
noncomputable def mRng (f : List PyData → Option (List PyData)) (ms : Env' → Mx (List D)) : Env' → Mx (List PyData) := fun ρ => ms ρ >>= fun ds => Mx.opt (onPs f ds)
theorem z0H {S : Addr → Prop} {H : Hp} (f : Nat → Int) : ∀ l : List Nat, DatsS S H (l.map fun i => PyData.int (f i)) (l.map fun i => V.int (f i))
 | [] => .nil
 | _ :: l => .cons di (z0H f l)
theorem yY {w : Bool} {p pos : Pos} (hg : Gl X "range") (hm : X.mg "range" = none) (ha : DAW K Er X [a] ms) (hs : starEach [a] X.env = [(false, eval a X.env)] := by rfl) : DI w K Er X tg (.Call (.Name "range" p) [a] [] pos) (mRng yy ms) :=
 (z4I hg hm ha hs).imp fun σ H Q h => rd1 h (fun _ _ _ _ _ _ _ _ _ _ r => r) fun g ow ρ n d v H0 H2 fr _ r q => by
  obtain ⟨ds, e, q2⟩ := z1a q
  obtain ⟨xs, e1, e2⟩ := Option.bind_eq_some_iff.mp e
  have r2 := z4b e1 r
  match xs, e2, r2 with
  | [.int j], e2, r2 =>
   simp only [yy] at e2
   split at e2
   next hl =>
    cases e2
    obtain ⟨u, rfl, r3⟩ := all1 r2
    refine ⟨j, by rw [zn r3], by omega, by omega, q2 _ _ (Kp.refl _ _) fr.twn ⟨?_, _, ?_, z3Z⟩⟩
    ·unfold rngD lim; simp; omega
    ·rw [show j.toNat = (j - 0).toNat by omega]
     exact z0H (fun i => 0 + (i : Int)) _
   next => cases e2
noncomputable def zP (c : Env' → Mx Bool) (e : Env' → Mx D) (ρ : Env') : List PyData → List PyData → Mx (List PyData)
 | [], acc => pure acc
 | d :: r, acc => c (ρ ++ [some (Sl.val (.p d))]) >>= fun t => if t = true then (e (ρ ++ [some (Sl.val (.p d))]) >>= fun y => Mx.opt (onP some y) >>= fun z => zP c e ρ r (acc ++ [z])) else zP c e ρ r acc
noncomputable def yV (mi : Env' → Mx (List PyData)) (mc : Env' → Mx Bool) (me : Env' → Mx D) : Env' → Mx PyData := fun ρ => mi ρ >>= fun ds => zP mc me ρ ds [] >>= fun l => pure (.list l)
noncomputable def mYes : Env' → Mx Bool := fun _ => pure true
theorem Frm.ext1 {g : Gh} {ow : Nat → Option Addr} {ρ : Env'} {n : Nat} {σ : St} {H : Hp} {d : D} {v : V} (f : Frm K g ow ρ n σ H) (r : Rep g (g.S ow) H d v) : Frm K g ow (ρ ++ [some (Sl.val d)]) n (σ ++ [some v]) H := by
 have hl := f.len
 refine ⟨f.scr, f.twn, f.sub, f.ext, fun i d' e => ?_, fun i x e => ?_, fun i a e => ?_, f.inj, by simp [hl]⟩
 ·by_cases hi : i < ρ.length
  ·rw [List.getElem?_append_left hi] at e
   obtain ⟨v', e1, r1⟩ := f.val i d' e
   exact ⟨v', by rw [List.getElem?_append_left (by omega)]; exact e1, r1⟩
  ·have hi' : i = ρ.length := by
    have := (List.getElem?_eq_some_iff.mp e).1
    simp at this; omega
   subst hi'
   rw [List.getElem?_append_right (Nat.le_refl _), Nat.sub_self] at e
   cases e
   exact ⟨v, by rw [hl, List.getElem?_append_right (Nat.le_refl _), Nat.sub_self]; rfl, r⟩
 ·by_cases hi : i < ρ.length
  ·rw [List.getElem?_append_left hi] at e
   obtain ⟨a, e0, e1, r1⟩ := f.own i x e
   exact ⟨a, e0, by rw [List.getElem?_append_left (by omega)]; exact e1, r1⟩
  ·have hi' : i = ρ.length := by
    have := (List.getElem?_eq_some_iff.mp e).1
    simp at this; omega
   subst hi'
   rw [List.getElem?_append_right (Nat.le_refl _), Nat.sub_self] at e
   cases e
 ·obtain ⟨h1, h2, h3, h4⟩ := f.owi i a e
  exact ⟨h1, h2, h3, by simp; omega⟩
theorem z1p {w : Bool} {tc : TT} {σ : St} {H : Hp} {Q : VK} (hw : w = true) (htc : ∀ σ H Q, rdG RT K Er mc σ H Q → tc σ H Q) (h : rdG RF K Er (yV mi mc m) σ H Q) : z4z (rdG (RI w) K Er mi) tc (rdG RE K Er m) σ H Q := by
 subst hw
 refine rd1 h z00 fun g ow ρ n ds J H0 H1 fr k01 ⟨hl, xs, hd, wk⟩ q => ?_
 have hlen := hd.length
 simp only [if_true] at wk
 refine ⟨xs.length, fun i ys H' => ∃ acc n', Kp g.T H1 H' ∧ Twn g H' n' ∧ DatsS (g.S ow) H' acc ys ∧ AftG (fun _ H2 x v => RF g (g.S ow) H1 H2 x v) g Er H' ((zP mc m ρ (ds.drop i) acc >>= fun l => pure (PyData.list l)) n') Q,
  ⟨[], n, Kp.refl _ _, fr.twn, .nil, by rw [List.drop_zero]; exact q.imp (fun _ _ _ z => z) fun _ _ z => z⟩, ⟨yR (by rw [← hlen]; exact hl), fun ys H' ⟨_, _, k, _⟩ => wk.stop H' k, fun i ys H' hi ⟨_, _, k, _⟩ => wk.go i H' k hi, fun i ys H' v H'' hi ⟨acc, n', k, t, dd, q⟩ y => ?_⟩, fun ys H' ⟨acc, n', k, t, dd, q⟩ D hD => ?_⟩
 ·obtain ⟨rfl, hv⟩ := wk.yld i H' v _ k y
  have hv := hv hi
  have hid : i < ds.length := by omega
  obtain ⟨v', ev, rv⟩ := hd.get (List.getElem?_eq_getElem hid)
  rw [hv] at ev; cases ev
  have rv' : Rep g (g.S ow) H'' (.p ds[i]) v := DatS.kp (k.mono Gh.ts) (fun _ z => .inl z) rv
  have f1 : Frm K g ow (ρ ++ [some (Sl.val (.p ds[i]))]) n' (σ ++ [some v]) H'' := (fr.kp k t).ext1 rv'
  rw [List.drop_eq_getElem_cons hid] at q
  simp only [zP, yJ] at q
  refine htc _ _ _ ⟨g, ow, _, n', f1, AftG.bind q fun tb n2 tb' H3 k3 t3 r3 c3 => ?_⟩
  cases r3
  have q3 := c3 (R3 := fun _ H2 x v => RF g (g.S ow) H1 H2 x v) fun _ _ _ z => z
  cases tb with
  | false =>
   refine ite_ff ⟨acc, n2, k.trans k3, t3, DatsS.kp (k3.mono Gh.ts) (fun _ z => .inl z) dd, ?_⟩
   simpa using q3
  | true =>
   simp only [if_true, yJ] at q3
   refine ite_tt ⟨g, ow, _, n2, f1.kp k3 t3, AftG.bind q3 fun yv n4 yv' H4 k4 t4 r4 c4 => ?_⟩
   have q4 := c4 (R3 := fun _ H2 x v => RF g (g.S ow) H1 H2 x v) fun _ _ _ z => z
   obtain ⟨z, ez, q5⟩ := yr q4
   obtain ⟨z', rfl, ez2⟩ := zl ez
   cases ez2
   exact ⟨acc ++ [z], n4, (k.trans k3).trans k4, t4, (DatsS.kp ((k3.trans k4).mono Gh.ts) (fun _ z => .inl z) dd).append (.cons r4 .nil), q5⟩
 ·rw [List.drop_of_length_le (by omega)] at q
  have q : AftG (fun _ H2 x v => RF g (g.S ow) H1 H2 x v) g Er H' (.ok (.list acc) n') Q := q
  refine q (.ref D) _ (Same.new hD).kp ((Same.new hD).twn t) ⟨D, rfl, xS k t hD, Pl.upd, ?_⟩
  simp only [Dat1]
  exact ⟨D, ys, rfl, id, zC, DatsS.kp (Kp.of (Same.new hD)) (fun b z => z.elim .inl fun e => .inr (e ▸ hD)) dd⟩
theorem yL : ∀ (σ : St) (H : Hp) (Q : Bool → Hp → Prop), rdG RT K Er mYes σ H Q → tYes σ H Q := fun σ H Q ⟨g, ow, ρ, n, f, q⟩ => q true H (Kp.refl _ _) f.twn rfl
theorem yW {N N' : List Str} {sc scope : Scope} {x : Str} {ifs : List Expr} {px : Pos} {tc : TT} (hc : X.calm = true) (hN : X.N = N) (hsc : X.env.scope = sc) (h : wF N sc scope x N' = true) (htc : ∀ σ H Q, rdG RT K Er mc σ H Q → tc σ H Q)
  (hi : DI true K Er X (.Name x px) it mi) (hf : ∀ C s H fp, PF (zZ X scope N' C s H fp) ifs tc) (he : ∀ C s H fp, DE K Er (zZ X scope N' C s H fp) elt m)
  (hs : ∀ x, foldedSetIterable it X.env x = pure x := by intro _; rfl) : DF K Er X (.ListComp elt [⟨.Name x px, it, ifs, 0⟩] scope pos) (yV mi mc m) := (z6R hc hN hsc h hi hf he hs).imp fun σ H Q h => z1p rfl htc h
end
end L2
namespace L2
open PySem PySem.Spec PyProof.Rows
noncomputable def spD (K : W.Frag) (EW : Str → XK → Hp → Prop) (F : List D → Mx D) : Sp := fun vs H Q E => ∃ g n ds, g.H0 = H ∧ Scp K g H ∧ Twn g H n ∧ (∀ a, g.S0 a → H a ≠ none) ∧ All2 (Rep g g.U H) ds vs ∧
 AftG (fun _ H' d v => Rep g g.U H' d v) g (fun c H' => EW c E H') H (F ds n) Q
noncomputable abbrev EW0 : Str → XK → Hp → Prop := fun _ _ _ => False
theorem Rep.shift {g g' : Gh} {S S' : Addr → Prop} {H : Hp} {d : D} {v : V} (h1 : g'.aS = g.aS) (h2 : g'.aT = g.aT) (hS : ∀ a, S' a → S a) (h : Rep g S H d v) (h3 : g'.ns = g.ns := by rfl) : Rep g' S' H d v := by
 cases d with
 | p x => exact DatS.kp (Kp.refl _ _) (fun a z => .inl (hS a z)) h
 | scr ns => show ns = g'.ns ∧ v = .ref g'.aS; rw [h1, h3]; exact h
 | town => show ∃ a, g'.aT = some a ∧ v = .ref a; rw [h2]; exact h
 | fn => exact h
 | exc a C => exact ⟨h.1, fun z => h.2.1 (hS a z), h.2.2⟩
noncomputable def imm : PyData → Bool
 | .list _ => false
 | .dict _ => false
 | .tuple ds => immAll ds
 | _ => true
where immAll : List PyData → Bool
 | [] => true
 | d :: r => imm d && immAll r
mutual
theorem DatS.imm {S S' : Addr → Prop} {H : Hp} : ∀ {d : PyData} {v : V}, imm d = true → DatS S H d v → DatS S' H d v
 | .none, _, _, h => by simp only [DatS] at h ⊢; exact h
 | .bool _, _, _, h => by simp only [DatS] at h ⊢; exact h
 | .int _, _, _, h => by simp only [DatS] at h ⊢; exact h
 | .str _, _, _, h => by simp only [DatS] at h ⊢; exact h
 | .list _, _, c, _ => by simp [L2.imm] at c
 | .dict _, _, c, _ => by simp [L2.imm] at c
 | .tuple ds, _, c, h => by
  simp only [DatS] at h ⊢
  obtain ⟨a, xs, e, h1, h2⟩ := h
  exact ⟨a, xs, e, h1, DatsS.imm (by simpa only [L2.imm] using c) h2⟩
theorem DatsS.imm {S S' : Addr → Prop} {H : Hp} : ∀ {ds : List PyData} {xs : List V}, imm.immAll ds = true → DatsS S H ds xs → DatsS S' H ds xs
 | [], _, _, h => by simp only [DatsS] at h ⊢; exact h
 | _ :: _, _, c, h => by
  simp only [DatsS] at h ⊢
  obtain ⟨x, r, e, h1, h2⟩ := h
  simp only [L2.imm.immAll, Bool.and_eq_true] at c
  exact ⟨x, r, e, DatS.imm c.1 h1, DatsS.imm c.2 h2⟩
end
section
variable {K : W.Frag} {Er : Str → Hp → Prop} {X : Cx} {e a b c tg it elt : Expr} {es rest : List Expr} {m ma mb : Env' → Mx D} {mc mt : Env' → Mx Bool} {ms : Env' → Mx (List D)} {mi : Env' → Mx (List PyData)} {pos p2 : Pos}
noncomputable def zR (F : List D → Mx D) (ms : Env' → Mx (List D)) : Env' → Mx D := fun ρ => ms ρ >>= F
theorem z0k {F : List D → Mx D} {EW : Str → XK → Hp → Prop} {E : XK} (hE : ∀ c H', Er c H' → EW c E H') {σ : St} {H : Hp} {Q : VK} (h : rdG RE K Er (zR F ms) σ H Q) : rdG RA K Er ms σ H fun vs H1 => spD K EW F (vs ++ []) H1 Q E :=
 rd1 h (fun _ _ _ _ _ _ _ _ _ _ r => r) fun g ow ρ n ds vs H0 H1 fr _ r q => by
  rw [List.append_nil]
  refine ⟨⟨g.aS, g.ns, g.aT, g.S ow, H1⟩, n, ds, rfl, fr.scp, fr.twn, fr.dom, r.imp fun d v z => z.shift rfl rfl fun a z => z.elim id fun z => .inr (.inl z), ?_⟩
  generalize F ds n = o at q
  cases o with
  | ok d n' => exact fun v H' k t r => q v H' k t (r.shift rfl rfl fun a z => .inl z)
  | err c n' => exact fun H' k t => hE _ _ (q H' (fr.ext.trans k) t)
  | bad => exact q
theorem zH {F : List D → Mx D} {EW : Str → XK → Hp → Prop} {E : XK} {CX : CXT} {k : Nat} {f : Addr} {fd : FuncData} {ps : List Str} {x : Str} {p : Pos} (Fn : FnOk X.prog X.w X.K X.mg X.base CX k f fd ps (spD K EW F)) (hE : ∀ c H', Er c H' → EW c E H') (hr : Room k X.A) (hg : Gl X x) (hm : X.mg x = some (.ref f)) (hk : W.keepIn X.K (.ref f) = true) (hb : Binds X.K fd ps []) (hx : ua CX X E)
  (ha : DA K Er X (e :: es) ms) (hdb : (x == ("__debug__" : Str)) = false := by decide) (he : starEach (e :: es) X.env = (false, eval e X.env) :: starEach es X.env := by rfl) (hpl : (backTo pos (starEach es X.env)).any (·.1) = false := by rfl) :
  DE K Er X (.Call (.Name x p) (e :: es) [] pos) (zR F ms) := (z6U Fn hr hg hm hk hb .nil hx ha hdb he hpl).imp fun σ H Q h => z0k hE h
structure Stp (g : Gh) (ow : Nat → Option Addr) (H : Hp) (ow' : Nat → Option Addr) (H' : Hp) : Prop where
 kp : Kp (g.S ow) H H'
 ow : ∀ i a, ow' i = some a → (∃ j, ow j = some a) ∨ H a = none
theorem Stp.refl {g : Gh} {ow : Nat → Option Addr} {H : Hp} : Stp g ow H ow H := ⟨Kp.refl _ _, fun i a h => .inl ⟨i, h⟩⟩
theorem Stp.of {g : Gh} {ow : Nat → Option Addr} {H H' : Hp} (k : Kp g.T H H') : Stp g ow H ow H' := ⟨k.mono fun a z => .inr (.inl z), fun i a h => .inl ⟨i, h⟩⟩
theorem Stp.trans {g : Gh} {ow ow1 ow2 : Nat → Option Addr} {H H1 H2 : Hp} (dom : ∀ a, g.S ow1 a → H1 a ≠ none) (a : Stp g ow H ow1 H1) (b : Stp g ow1 H1 ow2 H2) : Stp g ow H ow2 H2 := by
 refine ⟨fun c o h k => ?_, fun i x h => ?_⟩
 ·rcases k with k | k
  ·refine b.kp c o (a.kp c o h (.inl k)) (.inl fun z => ?_)
   rcases z with z | z | ⟨j, z⟩
   ·exact k (.inl z)
   ·exact k (.inr (.inl z))
   ·rcases a.ow j c z with ⟨l, q⟩ | q
    ·exact k (.inr (.inr ⟨l, q⟩))
    ·rw [q] at h; cases h
  ·exact b.kp c o (a.kp c o h (.inr k)) (.inr k)
 ·rcases b.ow i x h with ⟨j, q⟩ | q
  ·exact a.ow j x q
  ·cases z : H x with
   | none => exact .inr rfl
   | some o =>
    by_cases k : g.S ow x
    ·rcases k with k | k | k
     ·exact absurd q (dom x (.inl k))
     ·exact absurd q (dom x (.inr (.inl k)))
     ·exact .inl k
    ·rw [a.kp x o z (.inl k)] at q; cases q
noncomputable def AftS (K : W.Frag) (g : Gh) (ow : Nat → Option Addr) (H : Hp) (Er : Str → Hp → Prop) (r : Res Out) (E : Ends) : Prop := match r with
 | .ok (.nx ρ') n' => ∀ ow' σ' H', Frm K g ow' ρ' n' σ' H' → Stp g ow H ow' H' → E.nx σ' H'
 | .ok (.bk ρ') n' => ∀ ow' σ' H', Frm K g ow' ρ' n' σ' H' → Stp g ow H ow' H' → E.bk σ' H'
 | .ok (.ct ρ') n' => ∀ ow' σ' H', Frm K g ow' ρ' n' σ' H' → Stp g ow H ow' H' → E.ct σ' H'
 | .ok (.rt d) n' => ∀ v H', Kp g.T g.H0 H' → Twn g H' n' → Rep g g.U H' d v → E.rt v H'
 | .err c n' => ∀ H', Kp g.T g.H0 H' → Twn g H' n' → Er c H'
 | .bad => False
theorem AftS.later {K : W.Frag} {g : Gh} {ow ow1 : Nat → Option Addr} {H H1 : Hp} {Er : Str → Hp → Prop} {r : Res Out} {E : Ends} (h : AftS K g ow H Er r E) (dom : ∀ a, g.S ow1 a → H1 a ≠ none) (s : Stp g ow H ow1 H1) : AftS K g ow1 H1 Er r E := by
 cases r with
 | ok o n =>
  cases o with
  | nx ρ => exact fun ow' σ' H' f z => h ow' σ' H' f (s.trans dom z)
  | bk ρ => exact fun ow' σ' H' f z => h ow' σ' H' f (s.trans dom z)
  | ct ρ => exact fun ow' σ' H' f z => h ow' σ' H' f (s.trans dom z)
  | rt d => exact h
 | err c n => exact h
 | bad => exact h
noncomputable def rdS (K : W.Frag) (Er : Str → Hp → Prop) (m : Env' → Mx Out) : TS := fun E σ H => ∃ g ow ρ n, Frm K g ow ρ n σ H ∧ AftS K g ow H Er (m ρ n) E
noncomputable abbrev DS (K : W.Frag) (Er : Str → Hp → Prop) (X : Cx) (s : Stmt) (m : Env' → Mx Out) : Prop := PS X s (rdS K Er m)
noncomputable abbrev DSs (K : W.Frag) (Er : Str → Hp → Prop) (X : Cx) (s : List Stmt) (m : Env' → Mx Out) : Prop := PSs X s (rdS K Er m)
theorem rs1 {γ δ : Type} {R : RG γ δ} {m : Env' → Mx γ} {f : Env' → γ → Mx Out} {σ : St} {H : Hp} {E : Ends} {Z : δ → Hp → Prop} (h : rdS K Er (fun ρ => m ρ >>= f ρ) E σ H)
  (k : ∀ g ow ρ n n1 x v H1, Frm K g ow ρ n σ H → Kp g.T H H1 → Frm K g ow ρ n1 σ H1 → R g (g.S ow) H H1 x v → AftS K g ow H1 Er (f ρ x n1) E → Z v H1) : rdG R K Er m σ H Z := by
 obtain ⟨g, ow, ρ, n, fr, q⟩ := h
 refine ⟨g, ow, ρ, n, fr, ?_⟩
 dsimp only at q
 rw [Mx.bind_def] at q
 cases o : m ρ n with
 | ok x n1 => rw [o] at q; exact fun v H1 k1 t1 r1 => k g ow ρ n n1 x v H1 fr k1 (fr.kp k1 t1) r1 (AftS.later q (fr.kp k1 t1).dom (Stp.of k1))
 | err c n1 => rw [o] at q; exact q
 | bad => rw [o] at q; exact q
theorem rs0 {γ δ : Type} {R : RG γ δ} {m : Env' → Mx γ} {f : Env' → γ → Mx Out} {σ : St} {H : Hp} {E : Ends} {Z : δ → Hp → Prop} (h : rdS K Er (fun ρ => m ρ >>= f ρ) E σ H)
  (k : ∀ g ow ρ n n1 x v H1, Frm K g ow ρ n σ H → Kp g.T H H1 → Frm K g ow ρ n1 σ H1 → R g (g.S ow) H H1 x v → AftS K g ow H Er (f ρ x n1) E → Z v H1) : rdG R K Er m σ H Z := by
 obtain ⟨g, ow, ρ, n, fr, q⟩ := h
 refine ⟨g, ow, ρ, n, fr, ?_⟩
 dsimp only at q
 rw [Mx.bind_def] at q
 cases o : m ρ n with
 | ok x n1 => rw [o] at q; exact fun v H1 k1 t1 r1 => k g ow ρ n n1 x v H1 fr k1 (fr.kp k1 t1) r1 q
 | err c n1 => rw [o] at q; exact q
 | bad => rw [o] at q; exact q
noncomputable def sNil : Env' → Mx Out := fun ρ => pure (.nx ρ)
noncomputable def sSeq (a b : Env' → Mx Out) : Env' → Mx Out := fun ρ => a ρ >>= fun o => match o with
 | .nx ρ' => b ρ'
 | o => pure o
variable {st : Stmt} {sts tts : List Stmt} {sa sb : Env' → Mx Out}
theorem yH : DSs K Er X [] sNil := pss_nil.imp fun σ H E ⟨g, ow, ρ, n, f, q⟩ => q ow σ H f Stp.refl
theorem z4M {E : Ends} {σ : St} {H : Hp} (h : rdS K Er (sSeq sa sb) E σ H) : tSeq (rdS K Er sa) (rdS K Er sb) E σ H := by
 obtain ⟨g, ow, ρ, n, f, q⟩ := h
 refine ⟨g, ow, ρ, n, f, ?_⟩
 unfold sSeq at q
 rw [Mx.bind_def] at q
 cases o : sa ρ n with
 | ok x n1 =>
  rw [o] at q
  cases x with
  | nx ρ' => exact fun ow' σ' H' f' z => ⟨g, ow', ρ', n1, f', AftS.later q f'.dom z⟩
  | bk ρ' => exact q
  | ct ρ' => exact q
  | rt d => exact q
 | err c n1 => rw [o] at q; exact q
 | bad => rw [o] at q; exact q
theorem zB (h1 : DS K Er X st sa) (h2 : DSs K Er X sts sb) : DSs K Er X (st :: sts) (sSeq sa sb) := (wB h1 h2).imp fun σ H E h => z4M h
theorem zK (h1 : DS K Er X st sa) : DSs K Er X [st] sa := z06 h1
noncomputable def sRet (m : Env' → Mx D) : Env' → Mx Out := fun ρ => m ρ >>= fun d => pure (.rt d)
theorem Rep1.rep {g : Gh} {ow : Nat → Option Addr} {H : Hp} {d : D} {v : V} (z : Rep1 g (g.S ow) H d v) : Rep g g.U H d v := by
 cases d with
 | p x =>
  show DatS g.U H x v
  have z : Dat1 g.U (g.S ow) H x v := z
  have hUS : ∀ a, g.U a → g.S ow a := Gh.us
  cases x <;> simp only [Dat1] at z
  case list => obtain ⟨a, xs, e, h0, h1, h2⟩ := z; simp only [DatS]; exact ⟨a, xs, e, h0, h1, DatsS.kp (Kp.refl _ _) (fun a z => .inl (hUS a z)) h2⟩
  case dict => obtain ⟨a, xs, e, h0, h1, h2⟩ := z; simp only [DatS]; exact ⟨a, xs, e, h0, h1, DctS.kp (Kp.refl _ _) (fun a z => .inl (hUS a z)) h2⟩
  all_goals exact DatS.kp (Kp.refl _ _) (fun a z => .inl (hUS a z)) z
 | scr => exact z
 | town => exact z
 | fn => exact z
 | exc a C => exact ⟨z.1, fun y => z.2.1 (Gh.us a y), z.2.2⟩
theorem zQ (h : DW K Er X e m) : DS K Er X (.Return (some e) pos) (sRet m) := (z2K h).imp fun σ H E h => rs1 h fun g ow ρ n n1 x v H1 f k f1 r q => q v H1 f1.ext f1.twn (Rep1.rep r)
noncomputable def sIf (c : Env' → Mx Bool) (a b : Env' → Mx Out) : Env' → Mx Out := fun ρ => c ρ >>= fun t => if t = true then a ρ else b ρ
theorem yx (hc : DT K Er X c mc) (ha : DSs K Er X sts sa) (hb : DSs K Er X tts sb) : DS K Er X (.If c sts tts pos) (sIf mc sa sb) := (z6C hc ha hb).imp fun σ H E h => rs1 h fun g ow ρ n n1 x v H1 f k f1 r q => by
 cases r
 cases x with
 | true => exact ite_tt ⟨g, ow, ρ, n1, f1, q⟩
 | false => exact ite_ff ⟨g, ow, ρ, n1, f1, q⟩
noncomputable def uv (m : Env' → Mx D) : Env' → Mx Out := fun ρ => m ρ >>= fun _ => pure (.nx ρ)
theorem xD (h : DE K Er X e m) (hs : swapsWith e none pos.line X.env = pure false := by rfl) : DS K Er X (.Expr e pos) (uv m) := (wL h hs).imp fun σ H E h => rs1 h fun g ow ρ n n1 x v H1 f k f1 r q => q ow σ H1 f1 Stp.refl
noncomputable def z1A : Env' → Mx Out := fun _ => Mx.bad
theorem w8 : DS K Er X st z1A := ps_never.imp fun σ H E ⟨g, ow, ρ, n, f, q⟩ => q
noncomputable def putO (ow : Nat → Option Addr) (i : Nat) (o : Option Addr) : Nat → Option Addr := fun j => if j = i then o else ow j
theorem yE {α : Type} {l : List α} {i j : Nat} {x : α} : (l.set i x)[j]? = if j = i ∧ i < l.length then some x else l[j]? := by
 rw [List.getElem?_set]
 by_cases h : i = j
 ·subst h
  by_cases hi : i < l.length
  ·simp [hi]
  ·simp [hi]
 ·rw [if_neg h, if_neg (fun z => h z.1.symm)]
theorem Frm.setVal {g : Gh} {ow : Nat → Option Addr} {ρ : Env'} {n : Nat} {σ : St} {H : Hp} {d : D} {v : V} {i : Nat} (f : Frm K g ow ρ n σ H) (r : Rep g (g.S ow) H d v) : Frm K g (putO ow i none) (ρ.set i (some (Sl.val d))) n (σ.set i (some v)) H := by
 have hS : ∀ a, g.S (putO ow i none) a → g.S ow a := fun a z => by
  rcases z with z | z | ⟨j, z⟩
  ·exact .inl z
  ·exact .inr (.inl z)
  ·unfold putO at z
   split at z
   ·cases z
   ·exact .inr (.inr ⟨j, z⟩)
 have mv : ∀ {d v}, Rep g (g.S ow) H d v → Rep g (g.S (putO ow i none)) H d v := fun z => z.shift rfl rfl hS
 refine ⟨f.scr, f.twn, f.sub, f.ext, fun j d' e => ?_, fun j x e => ?_, fun j a e => ?_, fun j k a h1 h2 => ?_, by simp [f.len]⟩
 ·rw [yE] at e
  split at e
  next c => cases e; exact ⟨v, by rw [yE, if_pos ⟨c.1, by rw [← f.len]; exact c.2⟩], mv r⟩
  next c =>
   obtain ⟨v', e1, r1⟩ := f.val j d' e
   exact ⟨v', by rw [yE, if_neg (fun z => c ⟨z.1, by rw [f.len]; exact z.2⟩)]; exact e1, mv r1⟩
 ·rw [yE] at e
  split at e
  next c => cases e
  next c =>
   obtain ⟨a, e0, e1, r1⟩ := f.own j x e
   have hj : j ≠ i := fun z => c ⟨z, by
    have := (List.getElem?_eq_some_iff.mp e).1
    rw [← z]; exact this⟩
   refine ⟨a, by unfold putO; rw [if_neg hj]; exact e0, by rw [yE, if_neg (fun z => hj z.1)]; exact e1, ?_⟩
   exact r1.move (Kp.refl _ _) (fun a z => .inl (hS a z)) fun b _ _ hb => ⟨fun o z => z, hb⟩
 ·unfold putO at e
  split at e
  ·cases e
  ·obtain ⟨h1, h2, h3, h4⟩ := f.owi j a e
   exact ⟨h1, h2, h3, by rw [List.length_set]; exact h4⟩
 ·unfold putO at h1 h2
  split at h1
  ·cases h1
  ·split at h2
   ·cases h2
   ·exact f.inj j k a h1 h2
theorem Stp.put {g : Gh} {ow : Nat → Option Addr} {i : Nat} {H : Hp} : Stp g ow H (putO ow i none) H := ⟨Kp.refl _ _, fun j a h => by
 unfold putO at h
 split at h
 ·cases h
 ·exact .inl ⟨j, h⟩⟩
noncomputable def sSet (i : Nat) (m : Env' → Mx D) : Env' → Mx Out := fun ρ => m ρ >>= fun d => pure (.nx (ρ.set i (some (Sl.val d))))
theorem zi {i : Nat} {x : Str} {pos' : Pos} (hN : X.N.Nodup) (hi : X.N[i]? = some x) (hx : Loc X.env.scope x) (he : DE K Er X e m) (hs : swapsWith e (some (.Name x pos')) pos.line X.env = pure false := by rfl) (hf : X.fn x = true ∨ X.env.scope.names.lookup x = some .local := by first | exact .inl rfl | exact .inr rfl | assumption) :
  DS K Er X (.Assign [.Name x pos'] e pos) (sSet i m) := (z1o hN hi hx he hs hf).imp fun σ H E h => rs1 h fun g ow ρ n n1 d v H1 f k f1 r q => q _ _ H1 (f1.setVal r) (Stp.put)
end
end L2
namespace L2
open PySem PySem.Spec PyProof.Rows
section
variable {K : W.Frag} {Er : Str → Hp → Prop} {X : Cx} {e a b c tg it elt : Expr} {es rest : List Expr} {m ma mb : Env' → Mx D} {mc mt : Env' → Mx Bool} {ms : Env' → Mx (List D)} {mi : Env' → Mx (List PyData)} {mf : Env' → Mx PyData} {pos p2 : Pos} {st : Stmt} {sts tts : List Stmt} {sa sb : Env' → Mx Out}
variable {g : Gh} {ow : Nat → Option Addr} {ρ : Env'} {n n' : Nat} {σ : St} {H H' H1 : Hp}
theorem Frm.h0 (f : Frm K g ow ρ n σ H) {p : Addr} (h : H p = none) : g.H0 p = none := xS f.ext f.twn h
theorem Frm.setOwn {x : PyData} {p : Addr} {i : Nat} (f : Frm K g ow ρ n σ H) (hp : H p = none) (k : Kp g.T H H1) (t : Twn g H1 n') (d : Dat1 N0 (fun b => g.S ow b ∨ b = p) H1 x (.ref p)) (hi : i < ρ.length) (hx : Pl H1 p) : Frm K g (putO ow i (some p)) (ρ.set i (some (Sl.own x))) n' (σ.set i (some (.ref p))) H1 := by
 have hS : ∀ a, g.S (putO ow i (some p)) a → g.S ow a ∨ H a = none := fun a z => by
  rcases z with z | z | ⟨j, z⟩
  ·exact .inl (.inl z)
  ·exact .inl (.inr (.inl z))
  ·unfold putO at z
   split at z
   ·cases z; exact .inr hp
   ·exact .inl (.inr (.inr ⟨j, z⟩))
 have kS : Kp (g.S ow) H H1 := k.mono Gh.ts
 have h0 := f.h0 hp
 have hT : g.aT ≠ some p := fun z => by rw [f.twn p z] at hp; cases hp
 have hU : ¬ g.U p := fun z => z.elim (fun z => f.sub p z h0) hT
 have hS2 : ∀ a, g.S (putO ow i (some p)) a → (g.S ow a ∨ a = p) ∨ H1 a = none := fun a z => by
  rcases z with z | z | ⟨j, z⟩
  ·exact .inl (.inl (.inl z))
  ·exact .inl (.inl (.inr (.inl z)))
  ·unfold putO at z
   split at z
   ·cases z; exact .inl (.inr rfl)
   ·exact .inl (.inl (.inr (.inr ⟨j, z⟩)))
 refine ⟨f.scr, t, f.sub, f.ext.trans k, fun j d' e => ?_, fun j y e => ?_, fun j a e => ?_, fun j l a h1 h2 => ?_, by simp [f.len]⟩
 ·rw [yE] at e
  split at e
  next c => cases e
  next c =>
   obtain ⟨v', e1, r1⟩ := f.val j d' e
   refine ⟨v', by rw [yE, if_neg (fun z => c ⟨z.1, by rw [f.len]; exact z.2⟩)]; exact e1, r1.kp kS hS⟩
 ·rw [yE] at e
  split at e
  next c =>
   cases e
   refine ⟨p, by unfold putO; rw [if_pos c.1], by rw [yE, if_pos ⟨c.1, by rw [← f.len]; exact c.2⟩], ?_⟩
   exact d.move (Kp.refl _ _) hS2 fun b e _ _ => ⟨fun o z => z, by cases e; exact hU⟩
  next c =>
   obtain ⟨a, e0, e1, r1⟩ := f.own j y e
   have hj : j ≠ i := fun z => c ⟨z, hi⟩
   refine ⟨a, by unfold putO; rw [if_neg hj]; exact e0, by rw [yE, if_neg (fun z => hj z.1)]; exact e1, ?_⟩
   exact r1.move kS hS fun b e _ hb => ⟨fun o z => k _ _ z (.inl fun z => hb (.inr z)), hb⟩
 ·unfold putO at e
  split at e
  next c => cases e; exact ⟨h0, hx, hT, by rw [List.length_set, c]; exact hi⟩
  next =>
   obtain ⟨h1, h2, h3, h4⟩ := f.owi j a e
   exact ⟨h1, h2.kp k h3, h3, by rw [List.length_set]; exact h4⟩
 ·unfold putO at h1 h2
  split at h1
  next c1 =>
   cases h1
   split at h2
   next c2 => rw [c1, c2]
   next => exact absurd hp (f.owi l _ h2).2.1.some
  next =>
   split at h2
   next c2 => cases h2; exact absurd hp (f.owi j _ h1).2.1.some
   next => exact f.inj j l a h1 h2
theorem Stp.own {i : Nat} {p : Addr} (hp : H p = none) (k : Kp g.T H H1) : Stp g ow H (putO ow i (some p)) H1 := ⟨k.mono fun a z => .inr (.inl z), fun j a h => by
 unfold putO at h
 split at h
 ·cases h; exact .inr hp
 ·exact .inl ⟨j, h⟩⟩
noncomputable def sOwn (i : Nat) (m : Env' → Mx PyData) : Env' → Mx Out := fun ρ => m ρ >>= fun x => if i < ρ.length then pure (.nx (ρ.set i (some (Sl.own x)))) else Mx.bad
theorem z4X {i : Nat} {E : Ends} (h : rdS K Er (sOwn i mf) E σ H) : rdG RF K Er mf σ H fun v H1 => E.nx (σ.set i (some v)) H1 := by
 refine rs0 h fun g ow ρ n n1 x v H1 f k f1 r q => ?_
 obtain ⟨p, rfl, hp, hpl, d⟩ := r
 split at q
 next hi => exact q _ _ _ (f.setOwn hp k f1.twn d hi hpl) (Stp.own hp k)
 next => exact q.elim
theorem uf {i : Nat} {x : Str} {pos' : Pos} (hN : X.N.Nodup) (hi : X.N[i]? = some x) (hx : Loc X.env.scope x) (he : DF K Er X e mf) (hs : swapsWith e (some (.Name x pos')) pos.line X.env = pure false := by rfl) (hf : X.fn x = true ∨ X.env.scope.names.lookup x = some .local := by first | exact .inl rfl | exact .inr rfl | assumption) :
  DS K Er X (.Assign [.Name x pos'] e pos) (sOwn i mf) := (z1o hN hi hx he hs hf).imp fun σ H E h => z4X h
theorem z1S {i : Nat} {N N' : List Str} {sc scope : Scope} {x y : Str} {ifs : List Expr} {px py spos : Pos} {tc : TT} (hc : X.calm = true) (hN : X.N = N) (hsc : X.env.scope = sc) (h : wF N sc scope x N' = true) (hnd : X.N.Nodup) (hy : X.N[i]? = some y) (hl : X.env.scope.names.lookup y = some .local)
  (htc : ∀ σ H Q, rdG RT K Er mc σ H Q → tc σ H Q) (hi : DI true K Er X (.Name x px) it mi) (hf : ∀ C s H fp, PF (zZ X scope N' C s H fp) ifs tc) (he : ∀ C s H fp, DE K Er (zZ X scope N' C s H fp) elt m)
  (hsw : swapsWith (.ListComp elt [⟨.Name x px, it, ifs, 0⟩] scope pos) (some (.Name y py)) spos.line X.env = pure true := by rfl)
  (hs : ∀ x, foldedSetIterable it X.env x = pure x := by intro _; rfl) : DS K Er X (.Assign [.Name y py] (.ListComp elt [⟨.Name x px, it, ifs, 0⟩] scope pos) spos) (sSet i (mP (yV mi mc m))) :=
 (z4B hc hN hsc h hnd hy hl hi hf he hsw hs).imp fun σ H E h => z1p rfl htc (by
  have e : sSet i (mP (yV mi mc m)) = fun ρ => yV mi mc m ρ >>= fun z => pure (.nx (ρ.set i (some (Sl.val (.p z))))) := by
   funext ρ; unfold sSet mP; rw [yJ]; rfl
  rw [e] at h
  refine rs1 h fun g ow ρ n n1 z v H1 f k f1 r q => ?_
  obtain ⟨p, rfl, hp, _, d⟩ := r
  have hn : ¬ g.S ow p := fun z => f.dom p z hp
  refine q _ _ H1 (f1.setVal ?_) Stp.put
  show DatS _ _ z _
  cases z <;> simp only [Dat1, DatS] at d ⊢
  case list => obtain ⟨b, xs, e, _, h1, h2⟩ := d; cases e; exact ⟨p, xs, rfl, hn, h1, DatsS.kp (Kp.refl _ _) (fun _ z => .inl (.inl z)) h2⟩
  case dict => obtain ⟨b, xs, e, _, h1, h2⟩ := d; cases e; exact ⟨p, xs, rfl, hn, h1, DctS.kp (Kp.refl _ _) (fun _ z => .inl (.inl z)) h2⟩
  case tuple => obtain ⟨b, xs, e, h1, h2⟩ := d; exact ⟨b, xs, e, h1, DatsS.kp (Kp.refl _ _) (fun _ z => .inl (.inl z)) h2⟩
  all_goals cases d)
noncomputable def ownL (ρ : Env') (i : Nat) : Option (List PyData) := match ρ[i]? with
 | some (some (Sl.own (.list l))) => some l
 | _ => none
noncomputable def ownD (ρ : Env') (i : Nat) : Option (List (PyData × PyData)) := match ρ[i]? with
 | some (some (Sl.own (.dict l))) => some l
 | _ => none
theorem wl {i : Nat} {l : List PyData} (h : ownL ρ i = some l) : ρ[i]? = some (some (Sl.own (.list l))) := by
 unfold ownL at h
 split at h
 next l' e => cases h; exact e
 next => cases h
theorem z1h {i : Nat} {l : List (PyData × PyData)} (h : ownD ρ i = some l) : ρ[i]? = some (some (Sl.own (.dict l))) := by
 unfold ownD at h
 split at h
 next l' e => cases h; exact e
 next => cases h
theorem Frm.ownLst {i : Nat} {l : List PyData} (f : Frm K g ow ρ n σ H) (h : ownL ρ i = some l) : ∃ a xs, ow i = some a ∧ σ[i]? = some (some (.ref a)) ∧ H a = some (.lst xs) ∧ DatsS (g.S ow) H l xs := by
 obtain ⟨a, e1, e2, d⟩ := f.own i _ (wl h)
 simp only [Dat1] at d
 obtain ⟨b, xs, e, _, h1, h2⟩ := d
 cases e
 exact ⟨a, xs, e1, e2, h1, h2⟩
theorem Frm.kpOwn {i : Nat} {a : Addr} {o : HO} (f : Frm K g ow ρ n σ H) (hi : ow i = some a) (hm : ∀ xs, H a ≠ some (.tup xs)) : Kp (g.S ow) H (upd H a o) := fun b u h k => by
 by_cases e : b = a
 ·subst e
  rcases k with k | ⟨xs, rfl⟩
  ·exact absurd (.inr (.inr ⟨i, hi⟩)) k
  ·exact absurd h (hm xs)
 ·rw [zF e]; exact h
theorem Frm.updOwn {i : Nat} {a : Addr} {x x' : PyData} {o : HO} (f : Frm K g ow ρ n σ H) (he : ρ[i]? = some (some (Sl.own x))) (hi : ow i = some a) (hm : ∀ xs, H a ≠ some (.tup xs)) (d : Dat1 N0 (g.S ow) (upd H a o) x' (.ref a)) (hpl : ∀ ob u, o ≠ .frz ob u := by intro _ _ z; cases z) : Frm K g ow (ρ.set i (some (Sl.own x'))) n σ (upd H a o) := by
 have kS := f.kpOwn (o := o) hi hm
 obtain ⟨h0, h1, h2, h3⟩ := f.owi i a hi
 have hU : ¬ g.U a := fun z => z.elim (fun z => f.sub a z h0) h2
 obtain ⟨a', ea, es, _⟩ := f.own i x he
 rw [hi] at ea; cases ea
 refine ⟨f.scr, fun b e => ?_, f.sub, fun b u h k => ?_, fun j d' e => ?_, fun j y e => ?_, fun j b e => ?_, f.inj, by simp [f.len]⟩
 ·rw [zF (show b ≠ a from fun z => h2 (by rw [← z]; exact e))]; exact f.twn b e
 ·rw [zF (zS h h0)]; exact f.ext b u h k
 ·rw [yE] at e
  split at e
  next c => cases e
  next c =>
   obtain ⟨v', e1, r1⟩ := f.val j d' e
   exact ⟨v', e1, r1.kp kS fun _ z => .inl z⟩
 ·rw [yE] at e
  split at e
  next c =>
   cases e
   rw [c.1]
   exact ⟨a, hi, es, d.move (Kp.refl _ _) (fun _ z => .inl z) fun b e _ _ => ⟨fun o z => z, by cases e; exact hU⟩⟩
  next c =>
   obtain ⟨b, e0, e1, r1⟩ := f.own j y e
   have hj : j ≠ i := fun z => c ⟨z, h3⟩
   have hb : b ≠ a := fun z => hj (f.inj j i a (z ▸ e0) hi)
   refine ⟨b, e0, e1, r1.move kS (fun _ z => .inl z) fun q e _ hq => ⟨fun o z => by cases e; rw [zF hb]; exact z, hq⟩⟩
 ·obtain ⟨q0, q1, q2, q3⟩ := f.owi j b e
  refine ⟨q0, ?_, q2, by rw [List.length_set]; exact q3⟩
  by_cases z : b = a
  ·subst z; exact Pl.upd hpl
  ·obtain ⟨o, e, n⟩ := q1; exact ⟨o, by rw [zF z]; exact e, n⟩
theorem Stp.upd {i : Nat} {a : Addr} {o : HO} (f : Frm K g ow ρ n σ H) (hi : ow i = some a) (hm : ∀ xs, H a ≠ some (.tup xs)) : Stp g ow H ow (upd H a o) := ⟨f.kpOwn hi hm, fun j b h => .inl ⟨j, h⟩⟩
noncomputable def sApp (i : Nat) (m : Env' → Mx D) : Env' → Mx Out := fun ρ => Mx.opt (ownL ρ i) >>= fun l => m ρ >>= fun d => Mx.opt ((onP some d).bind fun y => if l.length < lim then some (Out.nx (ρ.set i (some (Sl.own (.list (l ++ [y])))))) else none)
theorem uc {α : Type} {o : Option α} {f : α → Mx Out} {E : Ends} (h : AftS K g ow H Er ((Mx.opt o >>= f) n) E) : ∃ a, o = some a ∧ AftS K g ow H Er (f a n) E := by
 cases o with
 | none => exact h.elim
 | some a => exact ⟨a, rfl, h⟩
theorem rs_o {o : Option Out} {E : Ends} (h : AftS K g ow H Er (Mx.opt o n) E) : ∃ a, o = some a ∧ AftS K g ow H Er (.ok a n) E := by
 cases o with
 | none => exact h.elim
 | some a => exact ⟨a, rfl, h⟩
theorem xk {γ δ : Type} {R : RG γ δ} {m : Mx γ} {f : γ → Mx Out} {E : Ends} {Z : δ → Hp → Prop} (fr : Frm K g ow ρ n σ H) (q : AftS K g ow H Er ((m >>= f) n) E)
  (k : ∀ n1 x v H1, Kp g.T H H1 → Frm K g ow ρ n1 σ H1 → R g (g.S ow) H H1 x v → AftS K g ow H1 Er (f x n1) E → Z v H1) : AftG (R g (g.S ow)) g Er H (m n) Z := by
 rw [Mx.bind_def] at q
 cases o : m n with
 | ok x n1 => rw [o] at q; exact fun v H1 k1 t1 r1 => k n1 x v H1 k1 (fr.kp k1 t1) r1 (AftS.later q (fr.kp k1 t1).dom (Stp.of k1))
 | err c n1 => rw [o] at q; exact q
 | bad => rw [o] at q; exact q
theorem not_tup {xs : List V} {a : Addr} (h : H a = some (.lst xs)) : ∀ ys, H a ≠ some (.tup ys) := fun ys z => by rw [h] at z; cases z
theorem z5u {i : Nat} (h : PE X e (tBM X.K "list" z1G (tVar i) (uQ (rdG RE K Er m) tNil))) (hs : swapsWith e none pos.line X.env = pure false := by rfl) : DS K Er X (.Expr e pos) (sApp i m) := (wL h hs).imp fun σ H E h => by
 obtain ⟨g, ow, ρ, n, f, q⟩ := h
 obtain ⟨l, el, q⟩ := uc q
 obtain ⟨a, xs, e1, e2, e3, e4⟩ := f.ownLst el
 refine ⟨.ref a, e2, .inl ⟨rfl, xs, SqL.of e3⟩, g, ow, ρ, n, f, xk f q fun n1 d v H1 k f1 r q => ?_⟩
 obtain ⟨out, eo, q⟩ := rs_o q
 obtain ⟨y, ey, eo⟩ := Option.bind_eq_some_iff.mp eo
 obtain ⟨y', rfl, ey⟩ := zl ey
 cases ey
 split at eo
 next hl =>
  cases eo
  obtain ⟨a', xs', g1, g2, g3, g4⟩ := f1.ownLst el
  rw [e1] at g1; cases g1
  refine ⟨a, xs', v, rfl, rfl, g3, Nat.lt_of_lt_of_le (by rw [← g4.length]; exact hl) (yR (Nat.le_refl _)), ?_⟩
  have kS := f1.kpOwn (o := .lst (xs' ++ [v])) e1 (not_tup g3)
  refine q _ _ _ (f1.updOwn (wl el) e1 (not_tup g3) ?_) (Stp.upd f1 e1 (not_tup g3))
  simp only [Dat1]
  exact ⟨a, _, rfl, id, zC, (DatsS.kp kS (fun _ z => .inl z) g4).append (.cons (DatS.kp kS (fun _ z => .inl z) r) .nil)⟩
 next => cases eo
end
end L2
namespace L2
open PySem PySem.Spec PyProof.Rows
section
variable {K : W.Frag} {Er : Str → Hp → Prop} {X : Cx} {e a b c tg it elt : Expr} {es rest : List Expr} {m ma mb : Env' → Mx D} {mc mt : Env' → Mx Bool} {ms : Env' → Mx (List D)} {mi : Env' → Mx (List PyData)} {mf : Env' → Mx PyData} {pos p2 : Pos} {st : Stmt} {sts tts : List Stmt} {sa sb : Env' → Mx Out}
variable {g : Gh} {ow : Nat → Option Addr} {ρ : Env'} {n n' : Nat} {σ : St} {H H' H1 : Hp}
noncomputable def sExt (i : Nat) (m : Env' → Mx D) : Env' → Mx Out := fun ρ => Mx.opt (ownL ρ i) >>= fun l => m ρ >>= fun d => Mx.opt ((onP (fun x => match x with | .list z => some z | _ => none) d).bind fun z => if l.length + z.length ≤ lim then some (Out.nx (ρ.set i (some (Sl.own (.list (l ++ z)))))) else none)
theorem z8b {i : Nat} (h : PE X e (tBM X.K "list" z47 (tVar i) (uQ (rdG RE K Er m) tNil))) (hs : swapsWith e none pos.line X.env = pure false := by rfl) : DS K Er X (.Expr e pos) (sExt i m) := (wL h hs).imp fun σ H E h => by
 obtain ⟨g, ow, ρ, n, f, q⟩ := h
 obtain ⟨l, el, q⟩ := uc q
 obtain ⟨a, xs, e1, e2, e3, e4⟩ := f.ownLst el
 refine ⟨.ref a, e2, .inl ⟨rfl, xs, SqL.of e3⟩, g, ow, ρ, n, f, xk f q fun n1 d v H1 k f1 r q => ?_⟩
 obtain ⟨out, eo, q⟩ := rs_o q
 obtain ⟨y, ey, eo2⟩ := Option.bind_eq_some_iff.mp eo
 obtain ⟨y', rfl, ey2⟩ := zl ey
 cases y' <;> simp only at ey2 <;> cases ey2
 split at eo2
 next hl =>
  cases eo2
  obtain ⟨a', xs', g1, g2, g3, g4⟩ := f1.ownLst el
  rw [e1] at g1; cases g1
  obtain ⟨b, zs, rfl, hb, b1, b2⟩ := (show ∃ b zs, v = .ref b ∧ ¬ g.S ow b ∧ H1 b = some (.lst zs) ∧ DatsS (g.S ow) H1 y zs by simpa only [Rep, DatS] using r)
  refine ⟨a, b, xs', zs, rfl, rfl, g3, b1, yR (by rw [← g4.length, ← b2.length]; exact hl), ?_⟩
  have kS := f1.kpOwn (o := .lst (xs' ++ zs)) e1 (not_tup g3)
  refine q _ _ _ (f1.updOwn (wl el) e1 (not_tup g3) ?_) (Stp.upd f1 e1 (not_tup g3))
  simp only [Dat1]
  exact ⟨a, _, rfl, id, zC, (DatsS.kp kS (fun _ z => .inl z) g4).append (DatsS.kp kS (fun _ z => .inl z) b2)⟩
 next => cases eo2
theorem DatsS.erase {S : Addr → Prop} : ∀ {ds : List PyData} {xs : List V} (k : Nat), DatsS S H ds xs → DatsS S H (ds.eraseIdx k) (xs.eraseIdx k)
 | [], _, _, h => by simp only [DatsS] at h; subst h; exact .nil
 | _ :: _, _, 0, h => by
  simp only [DatsS] at h
  obtain ⟨x, r, rfl, h1, h2⟩ := h
  exact h2
 | _ :: _, _, k + 1, h => by
  simp only [DatsS] at h
  obtain ⟨x, r, rfl, h1, h2⟩ := h
  exact .cons h1 (DatsS.erase k h2)
noncomputable def z1r (i j : Nat) (m : Env' → Mx D) : Env' → Mx Out := fun ρ => Mx.opt (ownL ρ j) >>= fun l => m ρ >>= fun d => Mx.opt ((onP (fun x => match x with | .int k => some k | _ => none) d).bind fun k => if -1000000 ≤ k ∧ k ≤ 1000000 ∧ i ≠ j then (seqIndex? k l.length).bind fun p => l[p]?.map fun y => Out.nx ((ρ.set j (some (Sl.own (.list (l.eraseIdx p))))).set i (some (Sl.val (.p y)))) else none)
theorem z4R {i j : Nat} {x : Str} {pos' : Pos} (hN : X.N.Nodup) (hi : X.N[i]? = some x) (hx : Loc X.env.scope x) (h : PE X e (tBM X.K "list" z5r (tVar j) (uQ (rdG RE K Er m) tNil))) (hs : swapsWith e (some (.Name x pos')) pos.line X.env = pure false := by rfl) (hf : X.fn x = true ∨ X.env.scope.names.lookup x = some .local := by first | exact .inl rfl | exact .inr rfl | assumption) :
  DS K Er X (.Assign [.Name x pos'] e pos) (z1r i j m) := (z1o hN hi hx h hs hf).imp fun σ H E h => by
 obtain ⟨g, ow, ρ, n, f, q⟩ := h
 obtain ⟨l, el, q⟩ := uc q
 obtain ⟨a, xs, e1, e2, e3, e4⟩ := f.ownLst el
 refine ⟨.ref a, e2, .inl ⟨rfl, xs, SqL.of e3⟩, g, ow, ρ, n, f, xk f q fun n1 d v H1 k f1 r q => ?_⟩
 obtain ⟨out, eo, q⟩ := rs_o q
 obtain ⟨y, ey, eo2⟩ := Option.bind_eq_some_iff.mp eo
 obtain ⟨y', rfl, ey2⟩ := zl ey
 cases y' <;> simp only at ey2 <;> cases ey2
 split at eo2
 next hl =>
  obtain ⟨p, ep, eo3⟩ := Option.bind_eq_some_iff.mp eo2
  obtain ⟨z, ez, eo4⟩ := Option.map_eq_some_iff.mp eo3
  subst eo4
  obtain ⟨a', xs', g1, g2, g3, g4⟩ := f1.ownLst el
  rw [e1] at g1; cases g1
  obtain ⟨u, eu, ru⟩ := g4.get ez
  refine ⟨a, xs', _, p, u, rfl, by rw [show v = .int _ by simpa only [Rep, DatS] using r], g3, by omega, by omega, by rw [← g4.length]; exact ep, eu, ?_⟩
  have kS := f1.kpOwn (o := .lst (xs'.eraseIdx p)) e1 (not_tup g3)
  have f2 := f1.updOwn (o := .lst (xs'.eraseIdx p)) (x' := .list (l.eraseIdx p)) (wl el) e1 (not_tup g3) (by
   simp only [Dat1]
   exact ⟨a, _, rfl, id, zC, DatsS.kp kS (fun _ z => .inl z) (g4.erase p)⟩)
  exact q _ _ _ (f2.setVal (i := i) (d := .p z) (DatS.kp kS (fun _ z => .inl z) ru)) ((Stp.upd f1 e1 (not_tup g3)).trans f2.dom Stp.put)
 next => cases eo2
noncomputable def rdTg (K : W.Frag) (τ : Env' → PyData → Option Env') : TG := fun v σ H Q => ∃ g ow ρ n d ρ', Frm K g ow ρ n σ H ∧ DatS (g.S ow) H d v ∧ τ ρ d = some ρ' ∧ ∀ ow' σ', Frm K g ow' ρ' n σ' H → Stp g ow H ow' H → Q σ' H
noncomputable abbrev DTg (K : W.Frag) (X : Cx) (tg : Expr) (τ : Env' → PyData → Option Env') : Prop := PG X tg (rdTg K τ)
theorem PG.imp {t t' : TG} (h : PG X tg t) (k : ∀ v σ H Q, t' v σ H Q → t v σ H Q) : PG X tg t' := fun pins s σ H v u Q I r q => h pins s σ H v u Q I r (k v σ H Q q)
noncomputable def τ1 (i : Nat) : Env' → PyData → Option Env' := fun ρ d => some (ρ.set i (some (Sl.val (.p d))))
theorem u3 {i : Nat} (h : PG X tg (z2h i)) : DTg K X tg (τ1 i) := h.imp fun v σ H Q ⟨g, ow, ρ, n, d, ρ', f, r, e, q⟩ => by
 cases e
 exact q _ _ (f.setVal (d := .p d) r) Stp.put
noncomputable def xm (k : Env' → Mx Out) : Out → Mx Out
 | .nx ρ => k ρ
 | .ct ρ => k ρ
 | .bk ρ => pure (.nx ρ)
 | .rt d => pure (.rt d)
noncomputable def yh (τ : Env' → PyData → Option Env') (body : Env' → Mx Out) : List PyData → Env' → Mx Out
 | [], ρ => pure (.nx ρ)
 | d :: r, ρ => Mx.opt (τ ρ d) >>= fun ρ1 => body ρ1 >>= xm (yh τ body r)
noncomputable def sFor (mi : Env' → Mx (List PyData)) (τ : Env' → PyData → Option Env') (body : Env' → Mx Out) : Env' → Mx Out := fun ρ => mi ρ >>= fun ds => yh τ body ds ρ
theorem z17 {E : Ends} {k : Env' → Mx Out} {mm : Mx Out} {N : St → Hp → Prop} (q : AftS K g ow H Er ((mm >>= xm k) n) E)
  (hN : ∀ ow' ρ' n' σ' H', Frm K g ow' ρ' n' σ' H' → Stp g ow H ow' H' → AftS K g ow' H' Er (k ρ' n') E → N σ' H') : AftS K g ow H Er (mm n) { E with nx := N, ct := N, bk := E.nx } := by
 rw [Mx.bind_def] at q
 cases r : mm n with
 | ok o n' =>
  rw [r] at q
  cases o with
  | nx ρ2 => exact fun ow' σ' H' f s => hN ow' ρ2 n' σ' H' f s (AftS.later q f.dom s)
  | ct ρ2 => exact fun ow' σ' H' f s => hN ow' ρ2 n' σ' H' f s (AftS.later q f.dom s)
  | bk ρ2 => exact q
  | rt d => exact q
 | err c n' => rw [r] at q; exact q
 | bad => rw [r] at q; exact q
theorem z5D {τ : Env' → PyData → Option Env'} {E : Ends} (h : rdS K Er (sFor mi τ sa) E σ H) : tFor (rdG (RI false) K Er mi) (rdTg K τ) (rdS K Er sa) E σ H := by
 refine rs1 h fun g ow ρ n n1 ds J H1 f _ f1 ⟨hl, xs, hd, wk⟩ q => ?_
 rw [if_neg Bool.false_ne_true] at wk
 have hlen := hd.length
 refine ⟨fun i mm σ' H' => mm = xs.length - i ∧ i ≤ xs.length ∧ ∃ ow' ρ' n', Frm K g ow' ρ' n' σ' H' ∧ Stp g ow H1 ow' H' ∧ AftS K g ow' H' Er (yh τ sa (ds.drop i) ρ' n') E, ⟨xs.length, by simp, Nat.zero_le _, ow, ρ, n1, f1, Stp.refl, q⟩, ?_⟩
 rintro i mm σ' H' ⟨rfl, hi, ow', ρ', n', f', s', q'⟩
 by_cases hlt : i < xs.length
 ·refine .inr ⟨wk.go i H' s'.kp hlt, fun σ2 H2 => ∃ ow2 ρ2 n2, Frm K g ow2 ρ2 n2 σ2 H2 ∧ Stp g ow H1 ow2 H2 ∧ AftS K g ow2 H2 Er (yh τ sa (ds.drop (i + 1)) ρ2 n2) E, fun σ2 H2 p => ⟨xs.length - (i + 1), by omega, rfl, hlt, p⟩, fun x H2 y => ?_⟩
  obtain ⟨rfl, hx⟩ := wk.yld i H' x H2 s'.kp y
  have hx := hx hlt
  have hid : i < ds.length := by omega
  obtain ⟨v', ev, rv⟩ := hd.get (List.getElem?_eq_getElem hid)
  rw [hx] at ev; cases ev
  rw [List.drop_eq_getElem_cons hid] at q'
  simp only [yh] at q'
  obtain ⟨ρ1, e1, q1⟩ := uc q'
  have rv' : DatS (g.S ow') H2 ds[i] x := DatS.kp s'.kp (fun a z => by
   rcases z with z | z | ⟨l, z⟩
   ·exact .inl (.inl z)
   ·exact .inl (.inr (.inl z))
   ·rcases s'.ow l a z with q | q
    ·exact .inl (.inr (.inr q))
    ·exact .inr q) rv
  refine ⟨g, ow', ρ', n', ds[i], ρ1, f', rv', e1, fun ow3 σ3 f3 s3 => ⟨g, ow3, ρ1, n', f3, ?_⟩⟩
  refine z17 (k := yh τ sa (ds.drop (i + 1))) (AftS.later q1 f3.dom s3) fun ow4 ρ4 n4 σ4 H4 f4 s4 q4 => ⟨ow4, ρ4, n4, f4, s'.trans f'.dom (s3.trans f3.dom s4), q4⟩
 ·have e : i = xs.length := by omega
  subst e
  rw [List.drop_of_length_le (by omega)] at q'
  exact .inl ⟨wk.stop H' s'.kp, q' ow' σ' H' f' Stp.refl⟩
theorem z0t {τ : Env' → PyData → Option Env'} (hp : PassesOwn (model X.prog X.w) X.A X.env X.xe) (hc : X.calm = true) (hi : DI false K Er X tg it mi) (hg : DTg K X tg τ) (hb : DSs K Er X sts sa) (hs : ∀ x, foldedSetIterable it X.env x = pure x := by intro _; rfl) : DS K Er X (.For tg it sts [] pos) (sFor mi τ sa) :=
 (z8g hp hc hi hg hb hs).imp fun σ H E h => z5D h
noncomputable def uO (c : Env' → Mx Bool) (body : Env' → Mx Out) : Nat → Env' → Mx Out
 | 0, _ => Mx.bad
 | k + 1, ρ => c ρ >>= fun t => if t = true then (body ρ >>= xm (uO c body k)) else pure (.nx ρ)
noncomputable def xn (k : Nat) (c : Env' → Mx Bool) (body : Env' → Mx Out) : Env' → Mx Out := fun ρ => uO c body k ρ
theorem z2d {k : Nat} {E : Ends} (h : rdS K Er (xn k mc sa) E σ H) : z5p (rdG RT K Er mc) (rdS K Er sa) E σ H := by
 obtain ⟨g, ow, ρ, n, f, q⟩ := h
 refine ⟨fun mm σ' H' => ∃ ow' ρ' n', Frm K g ow' ρ' n' σ' H' ∧ AftS K g ow' H' Er (uO mc sa mm ρ' n') E, ⟨k, ow, ρ, n, f, q⟩, ?_⟩
 rintro mm σ' H' ⟨ow', ρ', n', f', q'⟩
 cases mm with
 | zero => exact q'.elim
 | succ mm =>
  simp only [uO] at q'
  refine ⟨g, ow', ρ', n', f', xk f' q' fun n1 t t' H1 k1 f1 r1 q1 => ?_⟩
  cases r1
  cases t with
  | false => exact ite_ff (q1 ow' σ' H1 f1 Stp.refl)
  | true =>
   refine ite_tt ⟨fun σ2 H2 => ∃ ow2 ρ2 n2, Frm K g ow2 ρ2 n2 σ2 H2 ∧ AftS K g ow2 H2 Er (uO mc sa mm ρ2 n2) E, fun σ2 H2 p => ⟨mm, Nat.lt_succ_self _, p⟩, g, ow', ρ', n1, f1, ?_⟩
   have q1 : AftS K g ow' H1 Er ((sa ρ' >>= xm (uO mc sa mm)) n1) E := q1
   exact z17 (k := uO mc sa mm) q1 fun ow4 ρ4 n4 σ4 H4 f4 s4 q4 => ⟨ow4, ρ4, n4, f4, q4⟩
theorem z04 {k : Nat} (hp : PassesOwn (model X.prog X.w) X.A X.env X.xe) (hc : DT K Er X c mc) (hb : DSs K Er X sts sa) : DS K Er X (.While c sts [] pos) (xn k mc sa) := (z5X hp hc hb).imp fun σ H E h => z2d h
end
noncomputable def outD : Out → Mx D
 | .rt d => pure d
 | .nx _ => pure (.p .none)
 | _ => Mx.bad
noncomputable def mFn (nn ar : Nat) (m : Env' → Mx Out) (ds : List D) : Mx D := if ds.length = ar then (m (ds.map (fun d => some (Sl.val d)) ++ List.replicate (nn - ar) none) >>= outD) else Mx.bad
theorem z3o {K : W.Frag} {g : Gh} {n nn : Nat} {ds : List D} {vs : List V} {H : Hp} (h0 : g.H0 = H) (hs : Scp K g H) (ht : Twn g H n) (hd : ∀ a, g.S0 a → H a ≠ none) (r : All2 (Rep g g.U H) ds vs) :
  Frm K g (fun _ => none) (ds.map (fun d => some (Sl.val d)) ++ List.replicate (nn - ds.length) none) n (vs.map some ++ List.replicate (nn - vs.length) none) H := by
 have hl := r.length
 have hS : ∀ a, g.S (fun _ => none) a → g.U a := fun a z => z.elim .inl fun z => z.elim .inr fun ⟨_, z⟩ => nomatch z
 have get : ∀ {ds : List D} {vs : List V}, All2 (Rep g g.U H) ds vs → ∀ (i : Nat) (d : D), ds[i]? = some d → ∃ v, vs[i]? = some v ∧ Rep g g.U H d v := by
  intro ds vs r
  induction r with
  | nil => intro i d e; simp at e
  | cons r1 _ ih =>
   intro i d e
   cases i with
   | zero => simp at e; subst e; exact ⟨_, rfl, r1⟩
   | succ i => simpa using ih i d (by simpa using e)
 have part : ∀ (i : Nat) (s : Sl), (ds.map (fun d => some (Sl.val d)) ++ List.replicate (nn - ds.length) none)[i]? = some (some s) → ∃ d, ds[i]? = some d ∧ s = Sl.val d := fun i s e => by
  by_cases hi : i < ds.length
  ·rw [List.getElem?_append_left (by simpa using hi), List.getElem?_map, List.getElem?_eq_getElem hi] at e
   cases e
   exact ⟨_, List.getElem?_eq_getElem hi, rfl⟩
  ·rw [List.getElem?_append_right (by simpa using hi), List.getElem?_replicate] at e
   split at e <;> cases e
 refine ⟨by rw [h0]; exact hs, ht, by rw [h0]; exact hd, by rw [h0]; exact Kp.refl _ _, fun i d e => ?_, fun i x e => ?_, fun i a e => (nomatch e), fun i j a e => (nomatch e), by simp [hl]⟩
 ·obtain ⟨d', e1, e2⟩ := part i _ e
  cases e2
  obtain ⟨v, e3, r3⟩ := get r i d e1
  have hi : i < vs.length := (List.getElem?_eq_some_iff.mp e3).1
  exact ⟨v, by rw [List.getElem?_append_left (by simpa using hi), List.getElem?_map, e3]; rfl, r3.shift rfl rfl hS⟩
 ·obtain ⟨d', e1, e2⟩ := part i _ e
  cases e2
section
variable {P : Program} {w : World} {K : W.Frag} {mg : Str → Option Value} {base : Heap}
theorem z9G {x qual : Str} {st : Stmt} {f : Addr} {fd : FuncData} {N ps : List Str} {k : Nat} {m : Env' → Mx Out} (F : Fun K x qual st f fd) (S : FnScope N ps (z3 st))
  (h : ∀ (cdv : Value) (A : Around) (outer : List Env) (s : Shared) (H : Hp) (E : XK), Room k (A.deeper (envOfC qual (z3 st) s.heap.objs.size f cdv)) → DSs K (fun _ _ => False) (cxOf CX0 P w K mg base N qual (z3 st) f cdv A outer s H E).nox (z6 st) m) :
  FnOk P w K mg base CX0 (k + 1) f fd ps (spD K EW0 (mFn N.length ps.length m)) := by
 have alen : ∀ {vs : List V} {H : Hp} {Q : VK} {E : XK}, spD K EW0 (mFn N.length ps.length m) vs H Q E → vs.length = ps.length := fun {vs H Q E} ⟨g, n, ds, _, _, _, _, r, q⟩ => by
  by_cases e : ds.length = ps.length
  ·rw [← r.length]; exact e
  ·unfold mFn at q; rw [if_neg e] at q; exact q.elim
 refine F.ok S (fun vs H Q E h => alen h) fun cdv A outer s H vs Q E hr hsp => ⟨_, h cdv A outer s H E hr, ?_⟩
 have hl := alen hsp
 obtain ⟨g, n, ds, h0, hs, ht, hd, r, q⟩ := hsp
 have e : ds.length = ps.length := by rw [r.length]; exact hl
 unfold mFn at q
 rw [if_pos e, ← e] at q
 refine ⟨g, fun _ => none, ds.map (fun d => some (Sl.val d)) ++ List.replicate (N.length - ds.length) none, n, ?_, ?_⟩
 ·exact z3o (nn := N.length) h0 hs ht hd r
 ·rw [Mx.bind_def] at q
  subst h0
  cases o : m (ds.map (fun d => some (Sl.val d)) ++ List.replicate (N.length - ds.length) none) n with
  | ok out n' =>
   rw [o] at q
   cases out with
   | nx ρ => exact fun ow' σ' H' f' _ => q .non H' f'.ext f'.twn (dn : DatS g.U H' .none .non)
   | rt d => exact fun v H' k t r => q v H' k t r
   | bk ρ => exact q.elim
   | ct ρ => exact q.elim
  | err c n' => rw [o] at q; exact fun H' k t => (q H' k t).elim
  | bad => rw [o] at q; exact q
theorem zX {x qual : Str} {st : Stmt} {f : Addr} {fd : FuncData} {N ps : List Str} {k nn ar : Nat} {m : Env' → Mx Out} {F' : List D → Mx D} (F : Fun K x qual st f fd) (S : FnScope N ps (z3 st)) (hn : N.length = nn) (ha : ps.length = ar) (hF : F' = mFn nn ar m)
  (h : ∀ (cdv : Value) (A : Around) (outer : List Env) (s : Shared) (H : Hp) (E : XK), Room k (A.deeper (envOfC qual (z3 st) s.heap.objs.size f cdv)) → DSs K (fun _ _ => False) (cxOf CX0 P w K mg base N qual (z3 st) f cdv A outer s H E).nox (z6 st) m) :
  FnOk P w K mg base CX0 (k + 1) f fd ps (spD K EW0 F') := by
 subst hn ha hF
 exact z9G F S h
end
end L2
namespace L2
open PySem PySem.Spec PyProof.Rows
section
variable {K : W.Frag} {Er : Str → Hp → Prop} {X : Cx} {e a b c tg it elt : Expr} {es rest : List Expr} {m ma mb mz : Env' → Mx D} {mc mt : Env' → Mx Bool} {ms : Env' → Mx (List D)} {mi : Env' → Mx (List PyData)} {mf : Env' → Mx PyData} {pos p2 : Pos} {st : Stmt} {sts tts : List Stmt} {sa sb : Env' → Mx Out}
variable {g : Gh} {ow : Nat → Option Addr} {ρ : Env'} {n n' : Nat} {σ : St} {H H' H1 : Hp}
noncomputable def bool? : PyData → Option Bool
 | .bool b => some b
 | _ => none
theorem bool?_eq {x : PyData} {k : Bool} (h : bool? x = some k) : x = .bool k := by
 cases x <;> simp only [bool?] at h <;> cases h; rfl
noncomputable def z0a (f f' : PyData → PyData → Option PyData) (a b c : Env' → Mx D) : Env' → Mx D := fun ρ => a ρ >>= fun x => b ρ >>= fun y => Mx.opt ((onP2 f x y).bind bool?) >>= fun k => if k = true then (c ρ >>= fun z => Mx.opt ((onP2 f' y z).map D.p)) else pure (.p (.bool false))
theorem z2n {f f' : PyData → PyData → Option PyData} {Q : VK} (h : rdG RE K Er (z0a f f' ma mb mz) σ H Q) : z5g (rD2 f) (rD2 f') (rdG RW K Er ma) (rdG RW K Er mb) (rdG RW K Er mz) σ H Q := by
 refine rd1 h (fun _ _ _ _ _ _ _ _ _ _ r => r) fun g ow ρ n x v H0 H1 fr _ r q => ?_
 refine ⟨g, ow, ρ, n, fr, AftG.bind q fun y n2 u H2 k2 t2 r2 c2 => ?_⟩
 have fr2 := fr.kp k2 t2
 obtain ⟨k, e, q2⟩ := yr (c2 (R3 := RE g (g.S ow)) fun _ _ _ z => z)
 obtain ⟨z, e1, e2⟩ := Option.bind_eq_some_iff.mp e
 obtain ⟨x', y', rfl, rfl, e3⟩ := yC e1
 cases bool?_eq e2
 have rx := Rep1.kp k2 Gh.us r
 refine ⟨g.S ow, x', y', _, fr2.dom, Dat1.weak (Rep1.d1 rx), Dat1.weak (Rep1.d1 r2), e3, fun v3 H3 s3 d3 => ⟨k, by simpa only [DatS] using d3, ?_⟩⟩
 have fr3 := fr2.kp (s3.kp) (s3.twn t2)
 cases k with
 | false => exact ite_ff (q2 _ _ s3.kp (s3.twn t2) rb)
 | true =>
  have q3 : AftG (RE g (g.S ow)) g Er H2 ((mz ρ >>= fun z => Mx.opt ((onP2 f' (.p y') z).map D.p)) n2) Q := q2
  have q3 : AftG (RE g (g.S ow)) g Er H3 ((mz ρ >>= fun z => Mx.opt ((onP2 f' (.p y') z).map D.p)) n2) Q := by
   generalize ((mz ρ >>= fun z => Mx.opt ((onP2 f' (.p y') z).map D.p)) n2) = o at q3
   cases o with
   | ok d n4 => exact fun v4 H4 k4 t4 r4 => q3 v4 H4 (s3.kp.trans k4) t4 r4
   | err c n4 => exact q3
   | bad => exact q3
  refine ite_tt ⟨g, ow, ρ, n2, fr3, AftG.bind q3 fun z n4 w H4 k4 t4 r4 c4 => ?_⟩
  obtain ⟨r', e5, q5⟩ := xG t4 (c4 (R3 := RE g (g.S ow)) fun _ _ _ z => z)
  obtain ⟨y2, z', ey, rfl, e6⟩ := yC e5
  cases ey
  exact ⟨g.S ow, y', z', r', (fr3.kp k4 t4).dom, Dat1.weak (Rep1.d1 (Rep1.kp k4 Gh.us (Rep1.kp s3.kp Gh.us r2))), Dat1.weak (Rep1.d1 r4), e6, q5⟩
theorem z26 {op op' : CmpOp} {f f' : PyData → PyData → Option PyData} (ho : OpR X (compareOp op) (rD2 f)) (ho' : OpR X (compareOp op') (rD2 f')) (ha : DW K Er X a ma) (hb : DW K Er X b mb) (hc : DW K Er X c mz)
  (hm : lastMarks [op, op'] [b, c] = false := by with_unfolding_all rfl) : DE K Er X (.Compare a [op, op'] [b, c] pos) (z0a f f' ma mb mz) := (z4x ho ho' ha hb hc hm).imp fun σ H Q h => z2n h
noncomputable def fIsi : String → PyData → Option PyData
 | _, .dict _ => none
 | "bool", .bool _ => some (.bool true)
 | "bool", _ => some (.bool false)
 | "int", .bool _ => some (.bool true)
 | "int", .int _ => some (.bool true)
 | "int", _ => some (.bool false)
 | "tuple", .tuple _ => some (.bool true)
 | "tuple", _ => some (.bool false)
 | "list", .list _ => some (.bool true)
 | "list", _ => some (.bool false)
 | "str", .str _ => some (.bool true)
 | "str", _ => some (.bool false)
 | "dict", _ => some (.bool false)
 | _, _ => none
noncomputable def tyN : PyData → String
 | .none => "NoneType"
 | .bool _ => "bool"
 | .int _ => "int"
 | .str _ => "str"
 | .list _ => "list"
 | .tuple _ => "tuple"
 | .dict _ => "dict"
noncomputable def z6W : PyData → Bool
 | .dict _ => false
 | _ => true
theorem z9K {T S : Addr → Prop} {d : PyData} {v : V} (hd : z6W d = true) (h : Dat1 T S H d v) : TyOf K H v (.type (tyN d)) := by
 cases d with
 | none => cases z2s h; exact .non
 | bool b => cases z55 h; exact .bl _
 | int i => cases zn h; exact .int _
 | str x => cases z0V h; exact .str _
 | list ds => obtain ⟨a, xs, rfl, h1, _⟩ := yO h; exact .lst h1
 | tuple ds => obtain ⟨a, xs, rfl, h1, _⟩ := zy h; exact .tup h1
 | dict ds =>
  obtain ⟨a, xs, rfl, h1, _⟩ := u4 h
  exact (nomatch hd)
noncomputable def IsiT (K : W.Frag) (T : String) : Prop := ∀ d : PyData, (z6W d = false ∧ fIsi T d = none) ∨ ∃ b, z6W d = true ∧ fIsi T d = some (.bool b) ∧ W.kitOne K (.type (tyN d)) (.type T) = some b
theorem z4U : IsiT K "bool" := fun d => by cases d <;> first | exact .inl ⟨rfl, rfl⟩ | exact .inr ⟨_, rfl, rfl, rfl⟩
theorem z6s : IsiT K "int" := fun d => by cases d <;> first | exact .inl ⟨rfl, rfl⟩ | exact .inr ⟨_, rfl, rfl, rfl⟩
theorem wm : IsiT K "tuple" := fun d => by cases d <;> first | exact .inl ⟨rfl, rfl⟩ | exact .inr ⟨_, rfl, rfl, rfl⟩
theorem z0w {T : String} (hT : IsiT X.K T) (h : PE X e (tCB (fun xs H Q => ∃ (x : V) (t : Value) (T : String) (b : Bool), xs = [x, .ty T] ∧ TyOf X.K H x t ∧ W.kitOne X.K t (.type T) = some b ∧ Q (.bl b) H) (uQ (rdG RW K Er m) (uQ (tC (.ty T)) tNil)))) : DE K Er X e (mUn (fIsi T) m) := h.imp fun σ H Q h => rd1 h (fun _ _ _ _ _ _ _ _ _ _ r => r) fun g ow ρ n d v H0 H2 fr _ r q => by
 obtain ⟨z, e, q2⟩ := xG fr.twn q
 obtain ⟨x, rfl, e1⟩ := zl e
 rcases hT x with ⟨_, e2⟩ | ⟨b, hd, e2, e3⟩
 ·rw [e2] at e1; cases e1
 rw [e2] at e1; cases e1
 exact ⟨v, _, T, b, rfl, z9K hd (Rep1.d1 r), e3, q2 _ _ (Same.refl _) db⟩
noncomputable def z3K : List Nat → TGs
 | [] => gNil
 | i :: r => z8S (z2h i) (z3K r)
noncomputable def τN : List Nat → Env' → List PyData → Option Env'
 | [], ρ, [] => some ρ
 | i :: is, ρ, d :: ds => τN is (ρ.set i (some (Sl.val (.p d)))) ds
 | _, _, _ => none
theorem z9P {i : Nat} {a : Addr} (z : g.S (putO ow i none) a) : g.S ow a := by
 rcases z with z | z | ⟨l, z⟩
 ·exact .inl z
 ·exact .inr (.inl z)
 ·unfold putO at z
  split at z
  ·cases z
  ·exact .inr (.inr ⟨l, z⟩)
theorem um : ∀ {is : List Nat} {ow : Nat → Option Addr} {ρ ρ' : Env'} {σ : St} {ds : List PyData} {vs : List V} {Q : St → Hp → Prop}, Frm K g ow ρ n σ H → DatsS (g.S ow) H ds vs → τN is ρ ds = some ρ' → (∀ ow' σ', Frm K g ow' ρ' n σ' H → Stp g ow H ow' H → Q σ' H) → z3K is vs σ H Q
 | [], ow, ρ, ρ', σ, ds, vs, Q, f, d, e, q => by
  cases ds with
  | nil => simp only [τN] at e; cases e; simp only [DatsS] at d; exact ⟨d, q ow σ f Stp.refl⟩
  | cons _ _ => simp only [τN] at e; cases e
 | i :: is, ow, ρ, ρ', σ, ds, vs, Q, f, d, e, q => by
  cases ds with
  | nil => simp only [τN] at e; cases e
  | cons x ds =>
   simp only [τN] at e
   simp only [DatsS] at d
   obtain ⟨v, r, rfl, d1, d2⟩ := d
   refine ⟨v, r, rfl, ?_⟩
   have f1 := f.setVal (i := i) (d := .p x) d1
   exact um f1 (DatsS.kp (Kp.refl _ _) (fun a z => .inl (z9P z)) d2) e fun ow' σ' f' s' => q ow' σ' f' (Stp.put.trans f1.dom s')
noncomputable def τT (is : List Nat) : Env' → PyData → Option Env' := fun ρ d => match d with
 | .tuple ds => if ds.length = is.length then τN is ρ ds else none
 | _ => none
theorem z6b {is : List Nat} {K' : W.Frag} {k : Nat} (h : PG X tg (gTup K' k (z3K is))) (hk : k = is.length := by rfl) : DTg K X tg (τT is) := h.imp fun v σ H Q ⟨g, ow, ρ, n, d, ρ', f, r, e, q⟩ => by
 unfold τT at e
 split at e
 next ds =>
  split at e
  next hl =>
   obtain ⟨a, xs, rfl, h1, h2⟩ := zy (T := N0) (DatS.one (fun _ z => z.elim) r)
   exact ⟨a, xs, rfl, SqT.of h1, by rw [← h2.length, hl, hk], um f h2 e q⟩
  next => cases e
 next => cases e
noncomputable def sAsg (m : Env' → Mx D) (τ : Env' → PyData → Option Env') : Env' → Mx Out := fun ρ => m ρ >>= fun d => Mx.opt ((onP (τ ρ) d).map Out.nx)
theorem z8K {τ : Env' → PyData → Option Env'} (he : DE K Er X e m) (hg : DTg K X tg τ) (hs : swapsWithSole [tg] e pos.line X.env = pure false := by rfl) (hw : swappedStores [tg] e X.env = pure none := by rfl)
  (h1 : (assignEach [tg] X.env).map (·.2) = [assign tg X.env] := by rfl) : DS K Er X (.Assign [tg] e pos) (sAsg m τ) := (z7E he hg hs hw h1).imp fun σ H E h => rs1 h fun g ow ρ n n1 d v H1 f k f1 r q => by
 obtain ⟨o, eo, q2⟩ := rs_o q
 obtain ⟨ρ', e1, e2⟩ := Option.map_eq_some_iff.mp eo
 subst e2
 obtain ⟨x, rfl, e3⟩ := zl e1
 exact ⟨g, ow, ρ, n1, x, ρ', f1, r, e3, fun ow' σ' f' s' => q2 ow' σ' H1 f' s'⟩
end
end L2
namespace L2
open PySem PySem.Spec PyProof.Rows
section
variable {K : W.Frag} {Er : Str → Hp → Prop} {X : Cx} {e : Expr} {m : Env' → Mx D} {pos : Pos}
variable {g : Gh} {ow : Nat → Option Addr} {ρ : Env'} {n n' : Nat} {σ : St} {H H' H1 : Hp}
noncomputable def wo : Option (Option Sl) → Bool
 | some (some (Sl.val .town)) => true
 | _ => false
theorem z3w {o : Option (Option Sl)} (h : wo o = true) : o = some (some (Sl.val .town)) := by
 unfold wo at h
 split at h
 ·rfl
 ·cases h
theorem Frm.town {i : Nat} (f : Frm K g ow ρ n σ H) (h : wo ρ[i]? = true) : ∃ a, g.aT = some a ∧ σ[i]? = some (some (.ref a)) ∧ H a = some (.lst (List.replicate n (.int 0))) := by
 obtain ⟨v, e1, a, e2, e3⟩ := f.val i .town (z3w h)
 subst e3
 exact ⟨a, e2, e1, f.twn a e2⟩
noncomputable def z2y (i : Nat) : Env' → Mx Out := fun ρ n => if wo ρ[i]? = true ∧ n < lim then .ok (.nx ρ) (n + 1) else .bad
theorem z6E {i : Nat} (h : PE X e (tBM X.K "list" z1G (tVar i) (uQ (tC (.int 0)) tNil))) (hs : swapsWith e none pos.line X.env = pure false := by rfl) : DS K Er X (.Expr e pos) (z2y i) := (wL h hs).imp fun σ H E h => by
 obtain ⟨g, ow, ρ, n, f, q⟩ := h
 unfold z2y at q
 split at q
 next c =>
  obtain ⟨a, e1, e2, e3⟩ := f.town c.1
  refine ⟨.ref a, e2, .inl ⟨rfl, _, SqL.of e3⟩, a, _, .int 0, rfl, rfl, e3, Nat.lt_of_lt_of_le (by rw [List.length_replicate]; exact c.2) (yR (Nat.le_refl _)), ?_⟩
  have k : Kp g.T H (upd H a (.lst (List.replicate n (.int 0) ++ [.int 0]))) := fun b o hb z => by
   by_cases eb : b = a
   ·subst eb
    rcases z with z | ⟨xs, rfl⟩
    ·exact absurd e1 z
    ·rw [e3] at hb; cases hb
   ·rw [zF eb]; exact hb
  have t : Twn g (upd H a (.lst (List.replicate n (.int 0) ++ [.int 0]))) (n + 1) := fun b eb => by
   rw [e1] at eb; cases eb
   rw [zC, List.replicate_succ']
  exact q ow σ _ (f.kp k t) (Stp.of k)
 next => exact q.elim
noncomputable def z4F (i : Nat) : Env' → Mx D := fun ρ n => if wo ρ[i]? = true then .ok (.p (.int n)) n else .bad
theorem z71 {i : Nat} (h : PE X e (tCB (fun xs H Q => ∃ p ys, xs = [.ref p] ∧ (SqL X.K H p ys ∨ SqT X.K H p ys) ∧ Q (.int ys.length) H) (uQ (tVar i) tNil))) : DE K Er X e (z4F i) := h.imp fun σ H Q ⟨g, ow, ρ, n, f, q⟩ => by
 unfold z4F at q
 split at q
 next c =>
  obtain ⟨a, e1, e2, e3⟩ := f.town c
  exact ⟨.ref a, e2, a, _, rfl, .inl (SqL.of e3), q _ _ (Kp.refl _ _) f.twn (by rw [List.length_replicate]; exact (di : DatS (g.S ow) H (.int n) (.int n)))⟩
 next => exact q.elim
end
end L2
namespace L2
open PySem PySem.Spec PyProof.Rows
theorem z4t {prog : Program} {w : World} {A : Around} {E : Value → Shared → Prop} {s : Shared} {env : Env} {k v : Expr} {pos : Pos} {Q : Value → Shared → Prop}
  (h : wpAny (model prog w) A (evalPairs (pairTrees [some k] [v] env pos)) (fun vs s₁ => ∃ ku vu, vs = [(ku, vu)] ∧ wpAny (model prog w) A (dictSet s.heap.objs.size ku vu) (fun _ s₂ => Q (.ref s.heap.objs.size) s₂) E s₁) E
   { s with heap := s.heap.push { cls := .type "dict", data := .dict #[] } }) : wpAny (model prog w) A (eval (.Dict [some k] [v] pos) env) Q E s := by
 rw [arm_eval_Dict, zip_pairTrees [some k] [v] env pos rfl rfl, dictDisplay_pairs _ (by simp [pairTrees]) (by simp [pairTrees])]
 refine wpAny_bind (wpAny_standAt (wpAny_bind ?_))
 unfold subDict
 refine wpAny_bind (wpAny_alloc ?_)
 refine wpAny_bind (wpAny_holding ?_)
 rw [if_pos (by simp [pairTrees])]
 refine wpAny_bind (wpAny_mono h (fun vs s₁ h₁ => ?_) fun _ _ e => e)
 obtain ⟨ku, vu, rfl, h₁⟩ := h₁
 refine wpAny_holding ?_
 rw [List.forIn_cons]
 refine wpAny_bind (wpAny_bind (wpAny_bind (wpAny_mono h₁ (fun _ s₂ h₂ => wpAny_pure ?_) fun _ _ e => e)))
 dsimp only
 rw [List.forIn_nil]
 exact wpAny_pure (wpAny_pure (wpAny_pure (wpAny_pure h₂)))
section
variable {X : Cx} {pins : List (Addr × Obj)} {σ : St} {H : Hp} {s : Shared} {a : Addr} {y v : V} {u r : Value} {A : Around} {E : Value → Shared → Prop}
theorem Inv.relT (I : Inv X pins σ H s) (h : H a = some (.dK [])) : Inv X pins σ (upd H a (.dT [])) s := by
 obtain ⟨z, hd, vs, rel, dd⟩ := z76 I.hok h
 cases rel
 obtain ⟨o, es, ep, h1, h2, h3, h4, h5, h6⟩ := dd
 have e : es.toList = [] := by
  cases q : es.toList with
  | nil => rfl
  | cons x r => rw [q] at h5; exact nomatch h5
 exact I.write (x := a) (e := a) (t' := s.toks) (h' := s.heap) (by rw [h]; exact True.intro) (.inl rfl) (fun b u _ q => q) ⟨o, h1⟩ ⟨Nat.zero_le _, hd, [], .nil, o, es, ep, h1, h2, h3, e, List.nodup_nil⟩
noncomputable def tD1 (tk tv : TE) : TE := fun σ H Q => ∀ p, H p = none → tk σ (upd H p (.dK [])) fun x H1 => tv σ H1 fun y H2 => H2 p = some (.dK []) ∧
 ((∃ k, x = kV k ∧ Q (.ref p) (upd H2 p (.dK [(k, y)]))) ∨ ∃ k b, x = .ref b ∧ H2 b = some (.tup (k.map kV)) ∧ Q (.ref p) (upd H2 p (.dT [(k, y)])))
theorem z9I {k v : Expr} {tk tv : TE} {pos : Pos} (hu : X.A.units + 1 < cLine) (hk : PE X k tk) (hv : PE X v tv) : PE X (.Dict [some k] [v] pos) (tD1 tk tv) := by
 intro pins s σ H Q I q
 have hn := I.hok.fresh (Nat.le_refl s.heap.objs.size)
 have I1 := I.laid (a := s.heap.objs.size) (o := .dK []) (h' := s.heap.push { cls := .type "dict", data := .dict #[] }) (t' := s.toks) (fun _ _ q => Heap.get?_push_of_some _ q) (Nat.le_refl _) (z2H s.heap I.big)
 refine z4t (pairTrees_cons_walk (thn (hk pins _ σ _ _ I1 (q _ hn)) fun ku s1 ⟨x, H1, I2, rx, q1⟩ => thn (hv pins s1 σ H1 _ I2 q1) fun vu s2 ⟨y, H2, I3, ry, e, q2⟩ => pairTrees_nil_walk ⟨ku, vu, rfl, ?_⟩))
 rcases q2 with ⟨k, rfl, q2⟩ | ⟨k, b, rfl, hb, q2⟩
 ·obtain ⟨z, hd, vs, rel, dd⟩ := z76 I3.hok e
  cases rel
  refine wpAny_dictSet_pairs (hsz := Nat.zero_le _) (z1c rx) dd fun h' dd' hs => ⟨.ref s.heap.objs.size, _, ?_, rfl, q2⟩
  have he : ∃ q, h'.get? s.heap.objs.size = some q := let ⟨q, _, _, hq, _⟩ := dd'; ⟨q, hq⟩
  exact uq I3 (by rw [e]; exact True.intro) hs he (z5k (by show 1 ≤ sizeLine; rw [sizeLine_eq]; decide) hd (KV.put (kvs := []) .nil k ry) dd')
 ·cases (show ku = Value.ref b from rx)
  have I4 := I3.relT e
  have hbp : b ≠ s.heap.objs.size := z6w hb e (fun z => nomatch z)
  obtain ⟨z, hd, xs, rel, dd⟩ := z7o I4.hok (a := s.heap.objs.size) (kvs := []) zC
  cases rel
  refine wpAny_dictSet_heap (hsz := Nat.zero_le _) (show X.A.units < cLine by omega) (wQ I4.hok (by rw [zF hbp]; exact hb)) dd fun h' dd' hs => ⟨.ref s.heap.objs.size, _, ?_, rfl, q2⟩
  obtain ⟨q, es, ep, hq, h2, h3, h4, _, h5⟩ := dd'
  have := uq (ob := .dT [(k, y)]) (t' := s2.toks + (tupleKind (ze X.prog X.w)).draws k) I4 (by rw [zC]; exact True.intro) hs ⟨q, hq⟩ ⟨by show 1 ≤ sizeLine; rw [sizeLine_eq]; decide, hd, _, .cons ⟨rfl, by rw [zF hbp, zF hbp]; exact hb, ry⟩ .nil, q, es, ep, hq, h2, h3, h4, h5⟩
  rw [z1M] at this
  exact this
end
end L2
namespace L2
open PySem PySem.Spec PyProof.Rows
section
variable {X : Cx} {pins : List (Addr × Obj)} {σ : St} {H : Hp} {s : Shared} {a : Addr} {y v : V} {u r : Value} {A : Around} {E : Value → Shared → Prop}
theorem Inv.relK (I : Inv X pins σ H s) (h : H a = some (.dT [])) : Inv X pins σ (upd H a (.dK [])) s := by
 obtain ⟨z, hd, xs, rel, o, es, ep, h1, h2, h3, h4, h5⟩ := (show ObjOk X.prog X.w H s.heap a (.dT []) from I.hok a _ h)
 cases rel
 have e : es = #[] := by
  have : es.toList = [] := h4
  cases es; simp at this; subst this; rfl
 subst e
 exact I.write (x := a) (e := a) (t' := s.toks) (h' := s.heap) (by rw [h]; exact True.intro) (.inl rfl) (fun b u _ q => q) ⟨o, h1⟩ ⟨Nat.zero_le _, hd, [], .nil, o, #[], ep, h1, h2, h3, fun x hx => by simp at hx, .nil, List.nodup_nil⟩
noncomputable def z4Q (H : Hp) (a : Addr) (y v : V) (H' : Hp) : Prop := DPut H a y v H' ∨ (∃ k b, H a = some (.dK []) ∧ y = .ref b ∧ H b = some (.tup (k.map kV)) ∧ H' = upd H a (.dT [(k, v)])) ∨ ∃ k, H a = some (.dT []) ∧ y = kV k ∧ H' = upd H a (.dK [(k, v)])
theorem z2l {H' : Hp} {Q : Unit → Shared → Prop} (hu : A.units + 1 < cLine) (I : Inv X pins σ H s) (g : z4Q H a y v H') (ry : RelV y u) (rv : RelV v r) (h : ∀ s', Inv X pins σ H' s' → Q () s') : wpAny (model X.prog X.w) A (setItem (.ref a) u r) Q E s := by
 rcases g with g | ⟨k, b, e, rfl, hb, rfl⟩ | ⟨k, e, rfl, rfl⟩
 ·exact wg hu I g ry rv h
 ·have hba : b ≠ a := z6w hb e (fun z => nomatch z)
  refine wg hu (I.relT e) (DPut.t (kvs := []) zC (by rw [zF hba]; exact hb) (by show 0 < sizeLine; rw [sizeLine_eq]; decide)) ry rv fun s' I' => h s' ?_
  rw [z1M] at I'
  exact I'
 ·refine wg hu (I.relK e) (DPut.k (kvs := []) zC (by show 0 < sizeLine; rw [sizeLine_eq]; decide)) ry rv fun s' I' => h s' ?_
  rw [z1M] at I'
  exact I'
noncomputable def z85 (td ty tv : TE) : TS := fun D σ H => tv σ H fun v H1 => td σ H1 fun x H2 => ty σ H2 fun y H3 => ∃ a H4, x = .ref a ∧ z4Q H3 a y v H4 ∧ D.nx σ H4
theorem z54 {o i value : Expr} {pos pos' : Pos} {td ty tv : TE} (hu : X.A.units + 1 < cLine) (ho : PE X o td) (hi : PE X i ty) (hv : PE X value tv) (hs : swapsWith value (some (.Subscript o i pos')) pos.line X.env = pure false) :
  PS X (.Assign [.Subscript o i pos'] value pos) (z85 td ty tv) := by
 intro pins s σ H D I h
 refine wpAny_Assign_Subscript (thn (hv pins s σ H _ I h) fun r s1 ⟨v, H1, I1, rv, q1⟩ => thn (ho pins s1 σ H1 _ I1 q1) fun u s2 ⟨x, H2, I2, rx, q2⟩ => thn (hi pins s2 σ H2 _ I2 q2) fun iv s3 ⟨y, H3, I3, ry, a, H4, ex, g, q3⟩ => ?_) hs
 subst ex
 obtain rfl : u = Value.ref a := rx
 exact z2l hu I3 g ry rv fun s4 I4 => ⟨σ, H4, I4, q3⟩
end
noncomputable def zj (kvs : List (PyData × PyData)) : PyData → Bool
 | .tuple ds => (wO ds).isSome && kvs.all (fun kv => yz kv.1)
 | x => (keyD x).isSome && kvs.all (fun kv => !yz kv.1)
noncomputable def dPut (kvs : List (PyData × PyData)) (k v : PyData) : List (PyData × PyData) :=
 if (kvs.any fun kv => PyData.eqv kv.1 k) = true then kvs.map (fun kv => if PyData.eqv kv.1 k = true then (kv.1, v) else kv) else kvs ++ [(k, v)]
theorem DctS.append {S : Addr → Prop} {H : Hp} : ∀ {ds es : List (PyData × PyData)} {xs ys : List (PyData × V)}, DctS S H ds xs → DctS S H es ys → DctS S H (ds ++ es) (xs ++ ys)
 | [], _, _, _, h, k => by simp only [DctS] at h; subst h; exact k
 | (_, _) :: _, _, _, _, h, k => by
  simp only [DctS] at h
  obtain ⟨x, r, rfl, h1, h2⟩ := h
  show DctS S H ((_, _) :: (_ ++ _)) _
  simp only [DctS]
  exact ⟨x, _, rfl, h1, DctS.append h2 k⟩
theorem DctS.one {S : Addr → Prop} {H : Hp} {k d : PyData} {v : V} (h : DatS S H d v) : DctS S H [(k, d)] [(k, v)] := by
 simp only [DctS]; exact ⟨v, [], rfl, h, rfl⟩
theorem DctS.put {S : Addr → Prop} {H : Hp} {κ : Type} [DecidableEq κ] {j : κ → PyData} (hj : ∀ a b, PyData.eqv (j a) (j b) = decide (a = b)) {k : κ} {d : PyData} {v : V} (hd : DatS S H d v) {kvs : List (PyData × PyData)} {l : List (κ × V)}
  (h : DctS S H kvs (l.map fun kv => (j kv.1, kv.2))) : DctS S H (dPut kvs (j k) d) ((putK l k v).map fun kv => (j kv.1, kv.2)) := by
 have any : ∀ {kvs : List (PyData × PyData)} {l : List (κ × V)}, DctS S H kvs (l.map fun kv => (j kv.1, kv.2)) → (kvs.any fun kv => PyData.eqv kv.1 (j k)) = (l.any fun kv => decide (kv.1 = k)) := by
  intro kvs
  induction kvs with
  | nil => intro l h; cases l with
   | nil => rfl
   | cons _ _ => simp [DctS] at h
  | cons p r ih =>
   intro l h
   obtain ⟨c, x⟩ := p
   cases l with
   | nil => simp [DctS] at h
   | cons q s =>
    simp only [DctS, List.map_cons] at h
    obtain ⟨y, t, e, h1, h2⟩ := h
    cases e
    rw [List.any_cons, List.any_cons, ih h2, hj]
 have mp : ∀ {kvs : List (PyData × PyData)} {l : List (κ × V)}, DctS S H kvs (l.map fun kv => (j kv.1, kv.2)) → DctS S H (kvs.map fun kv => if PyData.eqv kv.1 (j k) = true then (kv.1, d) else kv) ((l.map fun kv => if kv.1 = k then (kv.1, v) else kv).map fun kv => (j kv.1, kv.2)) := by
  intro kvs
  induction kvs with
  | nil => intro l h; cases l with
   | nil => exact h
   | cons _ _ => simp [DctS] at h
  | cons p r ih =>
   intro l h
   obtain ⟨c, x⟩ := p
   cases l with
   | nil => simp [DctS] at h
   | cons q s =>
    obtain ⟨q1, q2⟩ := q
    simp only [DctS, List.map_cons] at h
    obtain ⟨y, t, e, h1, h2⟩ := h
    cases e
    rw [List.map_cons, List.map_cons, List.map_cons]
    have e2 := hj q1 k
    by_cases hk : q1 = k
    ·rw [if_pos hk, if_pos (by rw [e2]; exact decide_eq_true hk)]
     simp only [DctS]
     exact ⟨v, _, rfl, hd, ih h2⟩
    ·rw [if_neg hk, if_neg (by rw [e2, decide_eq_false hk]; exact Bool.false_ne_true)]
     simp only [DctS]
     exact ⟨q2, _, rfl, h1, ih h2⟩
 unfold dPut putK
 rw [any h]
 split
 ·exact mp h
 ·rw [List.map_append]
  exact h.append (DctS.one hd)
theorem z6P {S : Addr → Prop} {H : Hp} {a : Addr} {ks : List (PyData × V)} {kvs : List (PyData × PyData)} {x d : PyData} {y v : V} (hSa : S a) (hpl : Pl H a) (h1 : DctAt H a ks) (h2 : DctS S H kvs ks) (hx : DatS S H x y) (hd : DatS S H d v) (ok : zj kvs x = true) (hl : kvs.length < lim) :
  ∃ o ks', z4Q H a y v (upd H a o) ∧ DctAt (upd H a o) a ks' ∧ DctS S H (dPut kvs x d) ks' ∧ ∀ ob u, o ≠ .frz ob u := by
 have hlen : ∀ {kvs : List (PyData × PyData)} {ks : List (PyData × V)}, DctS S H kvs ks → kvs.length = ks.length := by
  intro kvs
  induction kvs with
  | nil => intro ks h; simp only [DctS] at h; subst h; rfl
  | cons p r ih =>
   intro ks h
   obtain ⟨c, x⟩ := p
   simp only [DctS] at h
   obtain ⟨y, t, rfl, h1, h2⟩ := h
   simp [ih h2]
 have small : ∀ {n : Nat}, n = kvs.length → n < sizeLine := fun e => Nat.lt_of_lt_of_le (by rw [e]; exact hl) (yR (Nat.le_refl _))
 have hk := hlen h2
 have tk : ∀ {P : PyData → Bool} (hP : kvs.all (fun kv => P kv.1) = true) {κ : Type} {j : κ → PyData} {l : List (κ × V)}, ks = l.map (fun kv => (j kv.1, kv.2)) → l = [] ∨ ∃ c, P (j c) = true := fun {P} hP {κ j l} e => by
  subst e
  cases l with
  | nil => exact .inl rfl
  | cons q s =>
   cases kvs with
   | nil => simp [DctS] at h2
   | cons p r =>
    obtain ⟨p1, p2⟩ := p
    simp only [DctS, List.map_cons] at h2
    obtain ⟨_, _, e, _⟩ := h2
    cases e
    rw [List.all_cons, Bool.and_eq_true] at hP
    exact .inr ⟨q.1, hP.1⟩
 have plain : ∀ k : Key, x = kD k → kvs.all (fun kv => !yz kv.1) = true → ∃ o ks', z4Q H a y v (upd H a o) ∧ DctAt (upd H a o) a ks' ∧ DctS S H (dPut kvs x d) ks' ∧ ∀ ob u, o ≠ .frz ob u := fun k e hA => by
  have ey : y = kV k := by rw [e] at hx; exact uk hx
  rcases h1 with ⟨l, g, rfl⟩ | ⟨l, g, e2⟩
  ·refine ⟨.dK (putK l k v), _, .inl (by rw [ey]; exact DPut.k (hpl.rd g) (small (by rw [hk, List.length_map]))), .inl ⟨_, .inl zC, rfl⟩, ?_, fun _ _ z => by cases z⟩
   rw [e]; exact DctS.put z4G hd h2
  ·rcases tk (P := fun d => !yz d) hA e2 with rfl | ⟨c, hc⟩
   ·rw [e2] at h2
    have ekv : kvs = [] := by
     cases kvs with
     | nil => rfl
     | cons p r => obtain ⟨_, _⟩ := p; simp [DctS] at h2
    subst ekv
    exact ⟨.dK [(k, v)], _, .inr (.inr ⟨k, hpl.rd g, ey, rfl⟩), .inl ⟨_, .inl zC, rfl⟩, by rw [e]; exact DctS.one hd, fun _ _ z => by cases z⟩
   ·simp [kT, yz] at hc
 cases x with
 | tuple ds =>
  simp only [zj, Bool.and_eq_true] at ok
  obtain ⟨o1, o2⟩ := ok
  obtain ⟨k, ek⟩ := Option.isSome_iff_exists.mp o1
  have ed := xQ ek
  simp only [DatS] at hx
  obtain ⟨b, xs, rfl, hb, hxs⟩ := hx
  rw [ed] at hxs
  rw [wM hxs] at hb
  rcases h1 with ⟨l, g, e2⟩ | ⟨l, g, rfl⟩
  ·rcases tk (P := yz) o2 e2 with rfl | ⟨c, hc⟩
   ·rw [e2] at h2
    have ekv : kvs = [] := by
     cases kvs with
     | nil => rfl
     | cons p r => obtain ⟨_, _⟩ := p; simp [DctS] at h2
    subst ekv
    exact ⟨.dT [(k, v)], _, .inr (.inl ⟨k, b, hpl.rd g, rfl, hb, rfl⟩), .inr ⟨_, .inl zC, rfl⟩, by rw [ed]; exact DctS.one hd, fun _ _ z => by cases z⟩
   ·cases c <;> simp [kD, yz] at hc
  ·refine ⟨.dT (putK l k v), _, .inl (DPut.t (hpl.rd g) hb (small (by rw [hk, List.length_map]))), .inr ⟨_, .inl zC, rfl⟩, ?_, fun _ _ z => by cases z⟩
   rw [ed]; exact DctS.put z65 hd h2
 | int i =>
  simp only [zj, Bool.and_eq_true] at ok
  exact plain (.inl i) rfl ok.2
 | str i =>
  simp only [zj, Bool.and_eq_true] at ok
  exact plain (.inr i) rfl ok.2
 | none => simp [zj, keyD] at ok
 | bool _ => simp [zj, keyD] at ok
 | list _ => simp [zj, keyD] at ok
 | dict _ => simp [zj, keyD] at ok
noncomputable def putD (kvs : List (PyData × PyData)) (k v : PyData) : Option (List (PyData × PyData)) := if zj kvs k = true ∧ kvs.length < lim then some (dPut kvs k v) else none
section
variable {K : W.Frag} {Er : Str → Hp → Prop} {X : Cx} {e k v o : Expr} {mk mv : Env' → Mx D} {pos : Pos}
variable {g : Gh} {ow : Nat → Option Addr} {ρ : Env'} {n n' : Nat} {σ : St} {H H' H1 : Hp}
noncomputable def xt (i : Nat) (mk mv : Env' → Mx D) : Env' → Mx Out := fun ρ => mv ρ >>= fun v => Mx.opt (ownD ρ i) >>= fun kvs => mk ρ >>= fun k => Mx.opt ((onP2 (putD kvs) k v).map fun z => Out.nx (ρ.set i (some (Sl.own (.dict z)))))
theorem z1I {i : Nat} {pos' : Pos} (hu : X.A.units + 1 < cLine) (ho : PE X o (tVar i)) (hk : DE K Er X k mk) (hv : DE K Er X v mv) (hs : swapsWith v (some (.Subscript o k pos')) pos.line X.env = pure false) :
  DS K Er X (.Assign [.Subscript o k pos'] v pos) (xt i mk mv) := (z54 hu ho hk hv hs).imp fun σ H E h => rs1 h fun g ow ρ n n1 d v H1 f k f1 r q => by
 obtain ⟨kvs, ek, q⟩ := uc q
 obtain ⟨a, e1, e2, dd⟩ := f1.own i _ (z1h ek)
 refine ⟨.ref a, e2, g, ow, ρ, n1, f1, xk f1 q fun n2 x y H2 k2 f2 r2 q2 => ?_⟩
 obtain ⟨out, eo, q3⟩ := rs_o q2
 obtain ⟨z, ez, eo2⟩ := Option.map_eq_some_iff.mp eo
 subst eo2
 obtain ⟨x', d', rfl, rfl, e3⟩ := yC ez
 unfold putD at e3
 split at e3
 next c =>
  cases e3
  obtain ⟨a', g1, g2, g3⟩ := f2.own i _ (z1h ek)
  rw [e1] at g1; cases g1
  obtain ⟨b, ks, eb, h1, h2⟩ := u4 g3
  cases eb
  have rd : DatS (g.S ow) H2 d' v := Rep.kp (g := g) (d := .p d') (k2.mono Gh.ts) (fun _ z => .inl z) r
  obtain ⟨ob, ks', p1, p2, p3, p4⟩ := z6P (S := g.S ow) (.inr (.inr ⟨i, e1⟩)) (f2.owi i a e1).2.1 h1 h2 r2 rd c.1 c.2
  have nt := h1.not_tup
  have kS := f2.kpOwn (o := ob) e1 nt
  refine ⟨a, _, rfl, p1, q3 _ _ _ (f2.updOwn (z1h ek) e1 nt ?_ p4) (Stp.upd f2 e1 nt)⟩
  simp only [Dat1]
  exact ⟨a, ks', rfl, id, p2, DctS.kp kS (fun _ z => .inl z) p3⟩
 next => cases e3
noncomputable def mD0 : Env' → Mx PyData := fun _ => pure (.dict [])
theorem z8r : DF K Er X (.Dict [] [] pos) mD0 := pe_dnewK.imp fun σ H Q ⟨g, ow, ρ, n, f, q⟩ p hp => by
 refine q (.ref p) _ (Same.new hp).kp ((Same.new hp).twn f.twn) ⟨p, rfl, hp, Pl.upd, ?_⟩
 simp only [Dat1]
 exact ⟨p, [], rfl, id, .inl ⟨[], .inl zC, rfl⟩, by simp only [DctS]⟩
noncomputable def Gh.add (g : Gh) (p : Addr) (o : HO) : Gh := ⟨g.aS, g.ns, g.aT, fun b => g.S0 b ∨ b = p, upd g.H0 p o⟩
theorem Frm.protect {p : Addr} {o : HO} (f : Frm K g ow ρ n σ H) (hp : H p = none) : Frm K (g.add p o) ow ρ n σ (upd H p o) := by
 have h0 := f.h0 hp
 have s := Same.new (o := o) hp
 have hS : ∀ a, (g.add p o).S ow a → g.S ow a ∨ H a = none := fun a z => by
  rcases z with (z | z) | z | z
  ·exact .inl (.inl z)
  ·exact .inr (by rw [z]; exact hp)
  ·exact .inl (.inr (.inl z))
  ·exact .inl (.inr (.inr z))
 have s0 : Same g.H0 (upd g.H0 p o) := Same.new h0
 refine ⟨?_, fun a e => s _ _ (f.twn a e), fun a z => ?_, fun b u h k => ?_, fun i d e => ?_, fun i x e => ?_, fun i a e => ?_, f.inj, f.len⟩
 ·rcases f.scr with h | ⟨h1, h2⟩
  ·exact .inl h
  ·exact .inr ⟨h1, s0.seq h2⟩
 ·show upd g.H0 p o a ≠ none
  rcases z with z | z
  ·cases q : g.H0 a with
   | none => exact absurd q (f.sub a z)
   | some u => rw [s0 _ _ q]; intro z; cases z
  ·rw [z, zC]; intro z; cases z
 ·have h : upd g.H0 p o b = some u := h
  by_cases e : b = p
  ·subst e; rw [zC] at h ⊢; exact h
  ·rw [zF e] at h ⊢; exact f.ext b u h k
 ·obtain ⟨v, e1, r⟩ := f.val i d e
  exact ⟨v, e1, (r.kp (Kp.of s) hS).shift rfl rfl fun _ z => z⟩
 ·obtain ⟨a, e0, e1, r⟩ := f.own i x e
  refine ⟨a, e0, e1, r.move (Kp.of s) hS fun b eb hb hU => ⟨fun o z => s _ _ z, fun z => ?_⟩⟩
  rcases z with (z | z) | z
  ·exact hU (.inl z)
  ·exact hb (by rw [z]; exact hp)
  ·exact hU (.inr z)
 ·obtain ⟨h1, h2, h3, h4⟩ := f.owi i a e
  have hap : a ≠ p := fun z => h2.some (by rw [z]; exact hp)
  exact ⟨by show upd g.H0 p o a = none; rw [zF hap]; exact h1, (by obtain ⟨o', e', n'⟩ := h2; exact ⟨o', by rw [zF hap]; exact e', n'⟩), h3, h4⟩
noncomputable def mD1 (mk mv : Env' → Mx D) : Env' → Mx PyData := fun ρ => mk ρ >>= fun k => mv ρ >>= fun v => Mx.opt (onP2 (fun k v => if zj [] k = true then some (.dict [(k, v)]) else none) k v)
theorem z7C (hu : X.A.units + 64 < cLine) (hk : DE K Er X k mk) (hv : DE K Er X v mv) : DF K Er X (.Dict [some k] [v] pos) (mD1 mk mv) := (z9I (by omega) hk hv).imp fun σ H Q ⟨g, ow, ρ, n, f, q⟩ p hp => by
 have f1 := f.protect (o := .dK []) hp
 have er : ∀ {c n'}, (∀ H', Kp g.T g.H0 H' → Twn g H' n' → Er c H') → ∀ H', Kp (g.add p (.dK [])).T (g.add p (.dK [])).H0 H' → Twn (g.add p (.dK [])) H' n' → Er c H' := fun h H' k t => h H' ((Same.new (f.h0 hp)).kp.trans k) t
 have hT : g.aT ≠ some p := fun z => by rw [f.twn p z] at hp; cases hp
 unfold mD1 at q
 rw [Mx.bind_def] at q
 refine ⟨g.add p (.dK []), ow, ρ, n, f1, ?_⟩
 cases e1 : mk ρ n with
 | err c n1 => rw [e1] at q; exact er q
 | bad => rw [e1] at q; exact q
 | ok kd n1 =>
  rw [e1] at q
  intro kv H1 k1 t1 r1
  have f2 := f1.kp k1 t1
  have q : AftG (RF g (g.S ow)) g Er H ((mv ρ >>= fun v => Mx.opt (onP2 (fun k v => if zj [] k = true then some (.dict [(k, v)]) else none) kd v)) n1) Q := q
  rw [Mx.bind_def] at q
  refine ⟨g.add p (.dK []), ow, ρ, n1, f2, ?_⟩
  cases e2 : mv ρ n1 with
  | err c n2 => rw [e2] at q; exact er q
  | bad => rw [e2] at q; exact q
  | ok vd n2 =>
   rw [e2] at q
   intro vv H2 k2 t2 r2
   obtain ⟨z, ez, q2⟩ := z1a (show AftG (RF g (g.S ow)) g Er H (Mx.opt (onP2 (fun k v => if zj [] k = true then some (.dict [(k, v)]) else none) kd vd) n2) Q from q)
   obtain ⟨kx, vx, rfl, rfl, e3⟩ := yC ez
   have hp2 : H2 p = some (.dK []) := k2 _ _ (k1 _ _ zC (.inl hT)) (.inl hT)
   split at e3
   next c =>
    cases e3
    refine ⟨hp2, ?_⟩
    have rk : DatS ((g.add p (.dK [])).S ow) H2 kx kv := Rep.kp (g := g.add p (.dK [])) (d := .p kx) (k2.mono Gh.ts) (fun _ z => .inl z) r1
    have hSp : (g.add p (.dK [])).S ow p := .inl (.inr rfl)
    have fin : ∀ o ks', (∀ ob u, o ≠ .frz ob u) → DctAt (upd H2 p o) p ks' → DctS ((g.add p (.dK [])).S ow) H2 [(kx, vx)] ks' → Q (.ref p) (upd H2 p o) := fun o ks' a0 a1 a2 => by
     have kS : Kp ((g.add p (.dK [])).S ow) H2 (upd H2 p o) := fun b u h z => by
      by_cases e : b = p
      ·subst e
       rcases z with z | ⟨xs, rfl⟩
       ·exact absurd hSp z
       ·rw [hp2] at h; cases h
      ·rw [zF e]; exact h
     refine q2 (.ref p) _ (fun b u h z => ?_) (fun b e => ?_) ⟨p, rfl, hp, Pl.upd a0, ?_⟩
     ·have hb := zS h hp
      rw [zF hb]
      exact k2 _ _ (k1 _ _ (by rw [zF hb]; exact h) z) z
     ·have hbp : b ≠ p := fun z => hT (by rw [← z]; exact e)
      rw [zF hbp]; exact t2 b e
     ·simp only [Dat1]
      refine ⟨p, ks', rfl, id, a1, DctS.kp kS (fun b z => ?_) a2⟩
      rcases z with (z | z | z) | z
      ·exact .inl (.inl (.inl z))
      ·exact .inl (.inr (.inl z))
      ·exact .inl (.inr (.inr z))
      ·exact .inl (.inl (.inr z))
    cases kx with
    | tuple ds =>
     simp only [zj, Bool.and_eq_true] at c
     obtain ⟨kk, ek⟩ := Option.isSome_iff_exists.mp c.1
     have ed := xQ ek
     obtain ⟨b, xs, rfl, hb, hxs⟩ := zy (T := N0) (DatS.one (fun _ z => z.elim) rk)
     rw [ed] at hxs
     rw [wM hxs] at hb
     exact .inr ⟨kk, b, rfl, hb, fin _ _ (fun _ _ z => by cases z) (.inr ⟨_, .inl zC, rfl⟩) (by rw [ed]; exact DctS.one r2)⟩
    | int i => exact .inl ⟨.inl i, uk (k := .inl i) rk, fin _ _ (fun _ _ z => by cases z) (.inl ⟨_, .inl zC, rfl⟩) (DctS.one r2)⟩
    | str i => exact .inl ⟨.inr i, uk (k := .inr i) rk, fin _ _ (fun _ _ z => by cases z) (.inl ⟨_, .inl zC, rfl⟩) (DctS.one r2)⟩
    | none => simp [zj, keyD] at c
    | bool _ => simp [zj, keyD] at c
    | list _ => simp [zj, keyD] at c
    | dict _ => simp [zj, keyD] at c
   next => cases e3
end
end L2
namespace PySem
open AutoSeq1 (wpAny_loadPart')
section
variable {prog : Program} {w : World} {A : Around} {E : Value → Shared → Prop} {s : Shared}
theorem z1j {Q : List Value → Shared → Prop} {r : Addr} {a b : Int} {t u v : Tok} {n : Nat} (hh : A.handled = none) (hr : IsRange s.heap r a b 1 t u v) (hsmall : Builtin.Range.small a b 1 = true) (hn : Builtin.Range.rangeSize a b 1 = n) (hlen : n ≤ 2 ^ 24)
  (hQ : ∀ h' tk acc, (∀ b o', s.heap.get? b = some o' → h'.get? b = some o') → ItemsOf (fun i v => ∃ t, v = .int (a + i * 1) t) acc n → Q acc.toList { s with heap := h', toks := tk }) : wpAny (model prog w) A (collect (.ref r)) Q E s := by
 unfold collect
 refine wpAny_bind (wpAny_runValue (codeAny_builtin F.entry_proto_collect ?_))
 rw [Around.under_plainId F.plain_proto_collect _]
 show wpAny _ A.in1 (newList [] >>= fun l => again (.builtin "list.__iadd__" ⟨[l, .ref r], []⟩)) _ _ s
 refine wpAny_bind (wpAny_newObj_type ?_)
 refine wpAny_pure ⟨plainId_quiet F.plain_list_iadd _, codeAny_builtin F.entry_list_iadd ?_⟩
 rw [Around.under_plainId F.plain_list_iadd _]
 show wpAny _ A.in1 (Builtin.List.listExtendWith (.ref s.heap.objs.size) (.ref r) (.ref s.heap.objs.size)) _ _ _
 have hS : (s.heap.push { cls := .type "list", data := .seq ([] : List Value).toArray }).get? s.heap.objs.size = some { cls := .type "list", data := .seq #[] 0 } := Heap.get?_push_size _ rfl
 have fin' : ∀ h' tk acc' c', (∀ b o, b ≠ s.heap.objs.size → (s.heap.push { cls := .type "list", data := .seq ([] : List Value).toArray }).get? b = some o → h'.get? b = some o) → h'.get? s.heap.objs.size = some { cls := .type "list", dict := none, data := .seq acc' c', slots := #[] } →
   ItemsOf (fun i v => ∃ t, v = .int (a + i * 1) t) acc' n → wpAny (model prog w) A (match Value.ref s.heap.objs.size with
   | Value.ref a => do
    match (← load a).data with
     | Data.seq xs _ => pure xs.toList
     | _ => unsupported "internal:collect"
   | _ => unsupported "internal:collect") Q E { s with heap := h', toks := tk } := fun h' tk acc' c' hk hs hacc => by
  show wpAny _ A (load s.heap.objs.size >>= _) _ _ _
  refine wpAny_bind (wpAny_load hs ?_)
  exact wpAny_pure (hQ h' tk acc' (fun b o e => hk b o (Nat.ne_of_lt (Heap.lt_size e)) (Heap.get?_push_of_some _ e)) hacc)
 refine wpAny_mono (wpAny_extend_range (A := A) (R := fun r s' => r = .ok (.ret (.ref s.heap.objs.size)) ∧ wpAny (model prog w) A (match Value.ref s.heap.objs.size with
   | Value.ref a => do
    match (← load a).data with
     | Data.seq xs _ => pure xs.toList
     | _ => unsupported "internal:collect"
   | _ => unsupported "internal:collect") Q E s')
  (s := { s with heap := s.heap.push { cls := .type "list", data := .seq ([] : List Value).toArray } }) hh (Heap.get?_push_of_some _ hr) hsmall hn hlen _ _ 0 hS fun h' tk acc' c' hk hs hacc => ⟨rfl, fin' h' tk acc' c' hk hs hacc⟩) (fun fin s' h => ?_) (fun e s' h => ?_)
 ·cases fin with
  | done f =>
   obtain ⟨e, h⟩ := h
   cases e
   exact h
  | again c' => exact ⟨h.1, codeAny_mono h.2 fun r s'' hr => by obtain ⟨rfl, hr⟩ := hr; exact hr⟩
 ·exact absurd h.1 (by simp)
theorem yl (r : Addr) (o : Obj) (a b : Int) (t u v : Tok) (n : Nat) (ho : o = { cls := .type "range", data := .fields #[.int a t, .int b u, .int 1 v] }) (hsmall : Builtin.Range.small a b 1 = true) (hn : Builtin.Range.rangeSize a b 1 = n) (hlen : n ≤ 2 ^ 24) :
  Meets (Builtin.«tuple.__new__» ⟨[.type "tuple", .ref r], []⟩)
   (fun A R s => A.handled = none ∧ s.heap.get? r = some o ∧ ∀ (h' : Heap) (tk : Nat) (acc : Array Value), (∀ b o', s.heap.get? b = some o' → h'.get? b = some o') → ItemsOf (fun i v => ∃ t, v = .int (a + i * 1) t) acc n → R (.ok (.ret (.ref h'.objs.size))) { s with heap := h'.push { cls := .type "tuple", data := .seq acc }, toks := tk }) :=
 .of_wp fun prog w A R s h => by
  obtain ⟨hp, g, d, tk, os⟩ := s; obtain ⟨hh, ht, h⟩ := h
  have hsub := sub_tuple_self
  have hinit := init_tuple_lookup
  have hmh := madeHere_tuple
  have hT : Shared.TypeIs ⟨hp, g, d, tk, os⟩ (.ref r) "range" := ⟨o, ht, by rw [ho]⟩
  wp_walk using wpAny_loadPart' ht, wpAny_typeOf hT, z1j (A := A.in1) hh (by rw [ho] at ht; exact ht) hsmall hn hlen
  intro h' tk' acc hk hacc
  show wpAny _ _ (Builtin.Tuple.tupleExact acc.toList.toArray >>= fun v => ret v) _ _ _
  unfold Builtin.Tuple.tupleExact
  refine wpAny_bind (wpAny_newObj_type ?_ (by show acc.toList.toArray.size ≤ sizeLine; rw [sizeLine_eq]; simp; rw [hacc.1]; omega))
  refine wpAny_pure ⟨_, rfl, ?_⟩
  have e : acc.toList.toArray = acc := by simp
  rw [e]
  exact h h' tk' acc hk hacc
theorem uM {r : Addr} {a b : Int} {t u v : Tok} {n : Nat} {Q : Value → Shared → Prop} (hh : A.handled = none) (hr : IsRange s.heap r a b 1 t u v) (hsmall : Builtin.Range.small a b 1 = true) (hn : Builtin.Range.rangeSize a b 1 = n) (hlen : n ≤ 2 ^ 24)
  (h : ∀ (h' : Heap) (tk : Nat) (acc : Array Value), (∀ b o', s.heap.get? b = some o' → h'.get? b = some o') → ItemsOf (fun i v => ∃ t, v = .int (a + i * 1) t) acc n → Q (.ref h'.objs.size) { s with heap := h'.push { cls := .type "tuple", data := .seq acc }, toks := tk }) :
  wpAny (model prog w) A (call (.type "tuple") [.ref r]) Q E s :=
 callType_new F.called_tuple (by decide) (F.typeCall_tuple_1 _) (F.newCall_tuple_1 _) (fun obj => F.args_object_init_2 obj _) F.entry_tuple_new
  (yl r _ a b t u v n rfl hsmall hn hlen) ⟨hh, hr, fun h' tk acc hk hacc => ⟨⟨_, Heap.get?_push_size _ rfl, rfl⟩, h h' tk acc hk hacc⟩⟩
end
end PySem
namespace L2
open PySem PySem.Spec PyProof.Rows
noncomputable def rngV (lo : Int) (n : Nat) : List V := (List.range n).map fun (i : Nat) => V.int (lo + (i : Int))
theorem z4J {acc : Array Value} {lo : Int} {n : Nat} (h : ItemsOf (fun i v => ∃ t, v = .int (lo + i * 1) t) acc n) : Vals (rngV lo n) acc.toList := by
 have gen : ∀ (l : List Value) (k : Nat), (∀ (j : Nat) (v : Value), l[j]? = some v → ∃ t, v = Value.int (lo + ((k + j : Nat) : Int)) t) → Vals ((List.range' k l.length).map fun (i : Nat) => V.int (lo + (i : Int))) l := by
  intro l
  induction l with
  | nil => intro k _; exact .nil
  | cons x r ih =>
   intro k hk
   rw [List.length_cons, List.range'_succ, List.map_cons]
   refine .cons ?_ (ih (k + 1) fun j v e => ?_)
   ·obtain ⟨t, e⟩ := hk 0 x rfl
    exact ⟨t, by simpa using e⟩
   ·obtain ⟨t, e2⟩ := hk (j + 1) v (by simpa using e)
    exact ⟨t, by rw [e2, show k + (j + 1) = k + 1 + j by omega]⟩
 have := gen acc.toList 0 fun j v e => by
  obtain ⟨t, e2⟩ := h.2 j v (by simpa using e)
  exact ⟨t, by rw [e2]; simp⟩
 unfold rngV
 rw [List.range_eq_range', ← h.1]
 simpa using this
section
variable {X : Cx} {a b : Expr} {ta : TA} {p pos : Pos}
noncomputable def z8J (ta : TA) : TE := fun σ H Q => ta σ H fun vs H1 => ∃ j : Int, vs = [.int j] ∧ ∀ q, H1 q = none → Q (.ref q) (upd H1 q (.rng 0 j))
theorem z6I (hg : Gl X "range") (hm : X.mg "range" = none) (ha : PA X [a] ta) (hs : starEach [a] X.env = [(false, eval a X.env)] := by rfl) : PE X (.Call (.Name "range" p) [a] [] pos) (z8J ta) := by
 intro pins s σ H Q I h
 refine Call_ (z0j I hg hm boot_range (PyProof.Rows.callWith_type1 (thn (ha pos pins s σ H _ I h) fun us s1 ⟨vs, H1, I1, r1, q1⟩ => ?_) hs rfl))
 obtain ⟨j, e, q⟩ := q1
 subst e
 cases r1 with
 | cons r rr =>
  cases rr
  obtain ⟨t, rfl⟩ := r
  refine call_range_1 ⟨.ref s1.heap.objs.size, _, I1.laid (t' := s1.toks + 1 + 1) (o := .rng 0 j) (fun b o e => Heap.get?_push_of_some _ e) (Nat.le_refl _) ?_, rfl, q _ (I1.hok.fresh (Nat.le_refl _))⟩
  exact ⟨_, _, _, Heap.get?_push_size _ rfl⟩
theorem z1k (hc : X.calm = true) : CallR X (.type "tuple") (fun xs H Q => ∃ q lo hi, xs = [.ref q] ∧ H q = some (.rng lo hi) ∧ (-1000000 ≤ lo ∧ lo ≤ 1000000) ∧ (-1000000 ≤ hi ∧ hi ≤ 1000000) ∧ ∀ l H', Same H H' → H' l = some (.tup (rngV lo (hi - lo).toNat)) → Q (.ref l) H') := by
 intro pins s σ H xs us Q I r h
 obtain ⟨q, lo, hi, rfl, hq, h1, h2, k⟩ := h
 obtain ⟨u, rfl, rx⟩ := xY r
 cases rx
 obtain ⟨t, u, v, e⟩ := (show ObjOk X.prog X.w H s.heap q (.rng lo hi) from I.hok q _ hq)
 have hn : Builtin.Range.rangeSize lo hi 1 = ((hi - lo).toNat : Nat) := by rw [rangeSize_one]; split <;> omega
 refine uM (I.ok.hd hc) e (small_one (by omega) (by omega) (by omega) (by omega)) hn (by omega) fun h' tk acc hk hacc => ?_
 have I1 : Inv X pins σ H { s with heap := h', toks := tk } := I.kept hk
 have rv := z4J hacc
 have I2 : Inv X pins σ (upd H h'.objs.size (.tup (rngV lo (hi - lo).toNat))) { s with heap := h'.push { cls := .type "tuple", data := .seq acc }, toks := tk } :=
  I1.laid (fun b o e => Heap.get?_push_of_some _ e) (Nat.le_refl _) (show ObjOk X.prog X.w _ _ _ (.tup (rngV lo (hi - lo).toNat)) from ⟨by rw [rv.length, Array.length_toList, hacc.1, sizeLine_eq]; omega, acc.toList, rv, ⟨_, Heap.get?_push_size _ rfl, rfl, _, rfl⟩⟩)
 exact ⟨.ref h'.objs.size, _, I2, rfl, k _ _ (Same.new (I1.hok.fresh (Nat.le_refl _))) zC⟩
end
section
variable {K : W.Frag} {Er : Str → Hp → Prop} {X : Cx} {e a b : Expr} {es : List Expr} {ms : Env' → Mx (List D)} {pos : Pos}
variable {g : Gh} {ow : Nat → Option Addr} {ρ : Env'} {n n' : Nat} {σ : St} {H H' H1 : Hp}
noncomputable def fRg1 (j : List PyData → PyData) : List PyData → Option PyData := fun ds => (yy ds).map j
theorem z3b {S : Addr → Prop} {lo hi : Int} : DatsS S H (rngD lo hi) (rngV lo (hi - lo).toNat) := z0H (fun i => lo + (i : Int)) _
theorem z5F {ds : List PyData} {r : List PyData} (h : yy ds = some r) : ∃ j, ds = [.int j] ∧ (-1000000 ≤ j ∧ j ≤ 1000000) ∧ r = rngD 0 j := by
 unfold yy at h
 split at h
 next j =>
  split at h
  next hl => cases h; exact ⟨j, rfl, hl, rfl⟩
  next => cases h
 next => cases h
noncomputable abbrev z8u : List V → Hp → VK → Prop := fun xs H Q => ∃ q lo hi, xs = [.ref q] ∧ H q = some (.rng lo hi) ∧ (-1000000 ≤ lo ∧ lo ≤ 1000000) ∧ (-1000000 ≤ hi ∧ hi ≤ 1000000) ∧ ∀ l H', Same H H' → H' l = some (.tup (rngV lo (hi - lo).toNat)) → Q (.ref l) H'
theorem z0h (h : PE X e (tCB z8u (uQ (z8J (rdG RAW K Er ms)) tNil))) : DE K Er X e (zO (fRg1 PyData.tuple) ms) := z6u (fun σ H Q hq => by
 obtain ⟨g, ow, ρ, n, f, q⟩ := hq
 refine ⟨g, ow, ρ, n, f, q.imp (fun _ _ _ z => z) fun vs H1 ⟨S, ds, r, hS, h1, hf, q⟩ => ?_⟩
 obtain ⟨z, ez, ez2⟩ := Option.map_eq_some_iff.mp hf
 obtain ⟨j, rfl, hj, rfl⟩ := z5F ez
 subst ez2
 obtain ⟨v, rfl, rv⟩ := all1 h1
 refine ⟨j, by rw [zn rv], fun p hp => ⟨p, 0, j, rfl, zC, ⟨by decide, by decide⟩, hj, fun l H' s hl => q _ _ ((Same.new hp).trans s) (wT hl z3b)⟩⟩) h
noncomputable def z4P (f : List PyData → Option (List PyData)) (ms : Env' → Mx (List D)) : Env' → Mx PyData := fun ρ => ms ρ >>= fun ds => Mx.opt ((onPs f ds).map PyData.list)
theorem z84 {f : List PyData → Option (List PyData)} {t : TE} (hp : PE X e t)
  (h : ∀ σ H Q, rdG RAW K Er ms σ H (fun vs H1 => ∃ S ds zs, (∀ a, S a → H1 a ≠ none) ∧ All2 (Dat1 N0 S H1) ds vs ∧ f ds = some zs ∧ ∀ p H2 ys, Same H1 H2 → H2 p = none → DatsS S H2 zs ys → Q (.ref p) (upd H2 p (.lst ys))) → t σ H Q) : DF K Er X e (z4P f ms) := hp.imp fun σ H Q hq => h σ H Q (rd1 hq z00 fun g ow ρ n ds vs H0 H2 fr _ r q => by
 obtain ⟨z, e, q2⟩ := z1a q
 obtain ⟨zs, ez, ez2⟩ := Option.map_eq_some_iff.mp e
 subst ez2
 obtain ⟨xs, e1, e2⟩ := Option.bind_eq_some_iff.mp ez
 refine ⟨g.S ow, xs, zs, fr.dom, z4b e1 r, e2, fun p H3 ys s hn dd => ?_⟩
 have s2 := Same.new (o := .lst ys) hn
 refine q2 (.ref p) _ (s.trans s2).kp ((s.trans s2).twn fr.twn) ⟨p, rfl, s.free hn, Pl.upd, ?_⟩
 simp only [Dat1]
 exact ⟨p, ys, rfl, id, zC, DatsS.kp (Kp.of s2) (fun b z => z.elim .inl fun e => .inr (e ▸ hn)) dd⟩)
noncomputable def fSum : List PyData → Option PyData
 | [.list ds] => (yB ds).bind fun ns => if ns.length ≤ 1000 ∧ ns.all (fun n => decide (0 ≤ n ∧ n ≤ 1000000)) = true then some (.int ns.sum) else none
 | _ => none
theorem z8f (hc : X.calm = true) : CallR X (.builtin "sum") (rDn fSum) := (z3c hc).imp fun vs H Q ⟨S, ds, r, hS, h1, hf, q⟩ => by
 match ds, hf, h1 with
 | [.list xs], hf, h1 =>
  obtain ⟨ns, e, e2⟩ := Option.bind_eq_some_iff.mp hf
  split at e2
  next c =>
   cases e2
   obtain ⟨v, rfl, r⟩ := all1 h1
   obtain ⟨a, ys, rfl, g1, k1⟩ := yO r
   rw [y9 e] at k1
   rw [k1.ints] at g1
   exact ⟨a, ns, rfl, SqL.of g1, c.1, fun n hn => of_decide_eq_true (List.all_eq_true.mp c.2 n hn), q _ _ (Same.refl _) di⟩
  next => cases e2
end
end L2
namespace L2
open PySem PySem.Spec PyProof.Rows
noncomputable def z3U (K : W.Frag) : Sp := fun vs H Q _ => ∃ (a : Addr) (ns : List Int), vs = [.ref a] ∧ SqL K H a (ns.map V.int) ∧ ns.length ≤ 63 ∧ ∀ H', Q (.bl true) H'
noncomputable def xq (nn : Nat) (ns : List Int) : Env' := some (Sl.val (.scr ns)) :: some (Sl.val .town) :: List.replicate (nn - 2) none
noncomputable def z6O (nn : Nat) (m : Env' → Mx Out) : Prop := ∀ ns : List Int, ns.length ≤ 63 → ∃ n', m (xq nn ns) 0 = .ok (.rt (.p (.bool true))) n'
theorem z4C {K : W.Frag} {Er : Str → Hp → Prop} {m : Env' → Mx Out} {nn : Nat} {ns : List Int} {a tw : Addr} {H : Hp} {σ : St} {E : Ends} (hσ : σ = some (.ref a) :: some (.ref tw) :: List.replicate (nn - 2) none) (hS : SqL K H a (ns.map V.int)) (htw : H tw = none)
  (hm : ∃ n', m (xq nn ns) 0 = .ok (.rt (.p (.bool true))) n') (hE : ∀ H', E.rt (.bl true) H') : rdS K Er m E σ (upd H tw (.lst [])) := by
 obtain ⟨n', hm⟩ := hm
 subst hσ
 refine ⟨⟨a, ns, some tw, fun _ => False, upd H tw (.lst [])⟩, fun _ => none, xq nn ns, 0, ⟨?_, ?_, fun _ z => z.elim, Kp.refl _ _, fun i d e => ?_, fun i x e => ?_, fun i a e => (nomatch e), fun i j a e => (nomatch e), ?_⟩, ?_⟩
 ·rcases hS with hS | hS
  ·refine .inr ⟨fun z => ?_, (Same.new htw).seq (.inl hS)⟩
   have z : tw = a := Option.some.inj z
   rcases hS with z2 | ⟨o, z2⟩
   ·rw [← z, htw] at z2; cases z2
   ·rw [← z, htw] at z2; cases z2
  ·exact .inl fun _ => .inr hS
 ·intro b e
  have e : tw = b := Option.some.inj e
  rw [← e, zC]; rfl
 ·unfold xq at e
  match i, e with
  | 0, e => cases e; exact ⟨.ref a, rfl, rfl, rfl⟩
  | 1, e => cases e; exact ⟨.ref tw, rfl, tw, rfl, rfl⟩
  | i + 2, e =>
   have e : (List.replicate (nn - 2) (none : Option Sl))[i]? = some (some (Sl.val d)) := e
   rw [List.getElem?_replicate] at e
   split at e <;> cases e
 ·unfold xq at e
  match i, e with
  | 0, e => cases e
  | 1, e => cases e
  | i + 2, e =>
   have e : (List.replicate (nn - 2) (none : Option Sl))[i]? = some (some (Sl.own x)) := e
   rw [List.getElem?_replicate] at e
   split at e <;> cases e
 ·simp [xq]
 ·rw [hm]
  intro v H' _ _ r
  have : v = .bl true := by simpa only [Rep, DatS] using r
  rw [this]; exact hE H'
theorem z8D {P : Program} {w : World} {K : W.Frag} {mg : Str → Option Value} {base : Heap} {x qual : Str} {st : Stmt} {f : Addr} {fd : FuncData} {N : List Str} {k nn : Nat} {m : Env' → Mx Out} {s0 : Stmt} {rest : List Stmt} (F : Fun K x qual st f fd) (S : FnScope N ["_law_script"] (z3 st)) (hn : N.length = nn) (h2 : 2 ≤ nn) (hb : z6 st = s0 :: rest)
  (h0 : ∀ (cdv : Value) (A : Around) (outer : List Env) (s : Shared) (H : Hp) (E : XK), PS (cxOf CX0 P w K mg base N qual (z3 st) f cdv A outer s H E).nox s0 (tAsg (tLst tNil) (z2h 1)))
  (h : ∀ (cdv : Value) (A : Around) (outer : List Env) (s : Shared) (H : Hp) (E : XK), Room k (A.deeper (envOfC qual (z3 st) s.heap.objs.size f cdv)) → DSs K (fun _ _ => False) (cxOf CX0 P w K mg base N qual (z3 st) f cdv A outer s H E).nox rest m) (tells : z6O nn m) :
  FnOk P w K mg base CX0 (k + 1) f fd ["_law_script"] (z3U K) := by
 subst hn
 refine F.ok S (fun vs H Q E h => ?_) fun cdv A outer s H vs Q E hr hsp => ?_
 ·obtain ⟨a, ns, rfl, _⟩ := h; rfl
 ·obtain ⟨a, ns, rfl, hS, hl, hq⟩ := hsp
  rw [hb]
  refine ⟨_, wB (h0 cdv A outer s H E) (h cdv A outer s H E hr), Nat.zero_le _, fun tw htw => ?_⟩
  refine z4C (nn := N.length) ?_ hS htw (tells ns hl) fun H' => hq H'
  unfold start
  obtain ⟨j, hj⟩ : ∃ j, N.length = j + 2 := ⟨N.length - 2, by omega⟩
  rw [hj]
  rfl
end L2
namespace L2
open PySem
theorem z33 (b : List Int) : HT.lexLt b [] = false := by cases b <;> rfl
theorem yX : ∀ a : List Int, HT.lexLt a a = false
 | [] => rfl
 | x :: r => by rw [HT.lexLt_cons, if_pos rfl]; exact yX r
theorem u2 : ∀ {a b : List Int}, HT.lexLt a b = false → HT.lexLt b a = false → a = b
 | [], [], _, _ => rfl
 | [], _ :: _, h, _ => by cases h
 | _ :: _, [], _, h => by cases h
 | x :: r, y :: s, h, k => by
  rw [HT.lexLt_cons] at h k
  by_cases e : x = y
  ·subst e
   rw [if_pos rfl] at h k
   rw [u2 h k]
  ·rw [if_neg e] at h
   rw [if_neg (Ne.symm e)] at k
   have h1 := of_decide_eq_false h
   have h2 := of_decide_eq_false k
   omega
theorem y7 : ∀ {a b c : List Int}, HT.lexLt a b = true → HT.lexLt b c = true → HT.lexLt a c = true
 | a, b, [], _, k => by rw [z33] at k; cases k
 | a, [], _ :: _, h, _ => by rw [z33] at h; cases h
 | [], _ :: _, _ :: _, _, _ => rfl
 | x :: r, y :: s, z :: t, h, k => by
  rw [HT.lexLt_cons] at h k ⊢
  by_cases e1 : x = y
  ·subst e1
   rw [if_pos rfl] at h
   by_cases e2 : x = z
   ·subst e2
    rw [if_pos rfl] at k ⊢
    exact y7 h k
   ·rw [if_neg e2] at k ⊢; exact k
  ·rw [if_neg e1] at h
   have h1 := of_decide_eq_true h
   by_cases e2 : y = z
   ·subst e2
    rw [if_neg e1]; exact h
   ·rw [if_neg e2] at k
    have h2 := of_decide_eq_true k
    rw [if_neg (by omega)]
    exact decide_eq_true (by omega)
noncomputable def rank (k : Nat → List Int) (n i : Nat) : Int := (((List.range n).filter fun j => HT.lexLt (k j) (k i)).length : Nat)
theorem u1 {α : Type} {p q : α → Bool} : ∀ {l : List α}, (∀ x ∈ l, p x = true → q x = true) → (l.filter p).length ≤ (l.filter q).length
 | [], _ => Nat.le_refl _
 | x :: r, h => by
  have ih := u1 (l := r) fun y hy => h y (List.mem_cons_of_mem _ hy)
  rw [List.filter_cons, List.filter_cons]
  by_cases hp : p x = true
  ·rw [if_pos hp, if_pos (h x List.mem_cons_self hp)]
   simp only [List.length_cons]; omega
  ·rw [if_neg hp]
   split
   ·simp only [List.length_cons]; omega
   ·exact ih
theorem z10 {α : Type} {p q : α → Bool} {z : α} (hz : p z = false) (hq : q z = true) : ∀ {l : List α}, z ∈ l → (∀ x ∈ l, p x = true → q x = true) → (l.filter p).length < (l.filter q).length
 | [], m, _ => nomatch m
 | x :: r, m, h => by
  have h' : ∀ y ∈ r, p y = true → q y = true := fun y hy => h y (List.mem_cons_of_mem _ hy)
  rw [List.filter_cons, List.filter_cons]
  rcases List.mem_cons.mp m with e | m
  ·subst e
   rw [if_neg (by rw [hz]; exact Bool.false_ne_true), if_pos hq, List.length_cons]
   have := u1 h'
   omega
  ·have ih := z10 hz hq m h'
   by_cases hp : p x = true
   ·rw [if_pos hp, if_pos (h x List.mem_cons_self hp), List.length_cons, List.length_cons]; omega
   ·rw [if_neg hp]
    split
    ·rw [List.length_cons]; omega
    ·exact ih
theorem z1V {k : Nat → List Int} {n i j : Nat} (hi : i < n) : decide (rank k n i < rank k n j) = HT.lexLt (k i) (k j) := by
 unfold rank
 cases h : HT.lexLt (k i) (k j) with
 | true =>
  refine decide_eq_true ?_
  have := z10 (p := fun x => HT.lexLt (k x) (k i)) (q := fun x => HT.lexLt (k x) (k j)) (z := i) (yX _) h (List.mem_range.mpr hi) fun x _ hx => y7 hx h
  omega
 | false =>
  refine decide_eq_false ?_
  have := u1 (l := List.range n) (p := fun x => HT.lexLt (k x) (k j)) (q := fun x => HT.lexLt (k x) (k i)) fun x _ hx => by
   cases h2 : HT.lexLt (k j) (k i) with
   | true => exact y7 hx h2
   | false => rw [u2 h h2]; exact hx
  omega
theorem xB {α : Type} {key : α → List Int} : ∀ {l1 l2 : List α}, l1.Perm l2 → l1.Pairwise (fun a b => HT.lexLt (key b) (key a) = false) → l2.Pairwise (fun a b => HT.lexLt (key b) (key a) = false) → (∀ a ∈ l1, ∀ b ∈ l1, key a = key b → a = b) → l1 = l2
 | [], l2, p, _, _, _ => (List.nil_perm.mp p).symm
 | a :: r, [], p, _, _, _ => by have := p.length_eq; simp at this
 | a :: r, b :: s, p, h1, h2, hk => by
  obtain ⟨a1, a2⟩ := List.pairwise_cons.mp h1
  obtain ⟨b1, b2⟩ := List.pairwise_cons.mp h2
  have mb : b ∈ a :: r := p.mem_iff.mpr List.mem_cons_self
  have ma : a ∈ b :: s := p.mem_iff.mp List.mem_cons_self
  have e1 : HT.lexLt (key b) (key a) = false := by
   rcases List.mem_cons.mp mb with e | m
   ·rw [e]; exact yX _
   ·exact a1 b m
  have e2 : HT.lexLt (key a) (key b) = false := by
   rcases List.mem_cons.mp ma with e | m
   ·rw [e]; exact yX _
   ·exact b1 a m
  have e : a = b := hk a List.mem_cons_self b mb (u2 e2 e1)
  subst e
  rw [xB ((List.perm_cons a).mp p) a2 b2 fun x hx y hy => hk x (List.mem_cons_of_mem _ hx) y (List.mem_cons_of_mem _ hy)]
noncomputable def insB {α : Type} (key : α → List Int) (x : α) : List α → List α
 | [] => [x]
 | y :: r => if HT.lexLt (key x) (key y) = true then x :: y :: r else y :: insB key x r
noncomputable def xc {α : Type} (key : α → List Int) : List α → List α
 | [] => []
 | x :: r => insB key x (xc key r)
theorem insB_perm {α : Type} {key : α → List Int} {x : α} : ∀ {l : List α}, (insB key x l).Perm (x :: l)
 | [] => List.Perm.refl _
 | y :: r => by
  unfold insB
  split
  ·exact List.Perm.refl _
  ·exact ((insB_perm (l := r)).cons y).trans (List.Perm.swap x y r)
theorem xf {α : Type} {key : α → List Int} : ∀ (l : List α), (xc key l).Perm l
 | [] => List.Perm.refl _
 | x :: r => insB_perm.trans ((xf r).cons x)
theorem wa {α : Type} {key : α → List Int} {x : α} : ∀ {l : List α}, l.Pairwise (fun a b => HT.lexLt (key b) (key a) = false) → (insB key x l).Pairwise (fun a b => HT.lexLt (key b) (key a) = false)
 | [], _ => List.pairwise_singleton _ _
 | y :: r, h => by
  obtain ⟨h1, h2⟩ := List.pairwise_cons.mp h
  unfold insB
  split
  next c =>
   refine List.pairwise_cons.mpr ⟨fun z hz => ?_, h⟩
   rcases List.mem_cons.mp hz with e | m
   ·subst e
    cases q : HT.lexLt (key z) (key x) with
    | false => rfl
    | true => rw [← yX (key x), y7 c q]
   ·cases q : HT.lexLt (key z) (key x) with
    | false => rfl
    | true => rw [← h1 z m, y7 q c]
  next c =>
   refine List.pairwise_cons.mpr ⟨fun z hz => ?_, wa h2⟩
   rcases List.mem_cons.mp (insB_perm.mem_iff.mp hz) with e | m
   ·subst e; simpa using c
   ·exact h1 z m
theorem yn {α : Type} {key : α → List Int} : ∀ (l : List α), (xc key l).Pairwise (fun a b => HT.lexLt (key b) (key a) = false)
 | [] => List.Pairwise.nil
 | x :: r => wa (yn r)
end L2
namespace L2
open PySem PySem.Spec PyProof.Rows
open PySem.W (KasT kas_sort kas_ask kat_run kat_snds kat_kind kat_lt KatTups KatLex kat_nil kat_cons kat_go kat_yes kat_no kat_one kat_lt_int)
section
variable {prog : Program} {w : World} {A : Around} {E : Value → Shared → Prop} {s : Shared}
theorem z1Q {x : Value} {vs : List Value} {Q : Value → Shared → Prop} {f : Nat → Int} {κ : SortKind} (h64 : vs.length < 64)
  (hcol : ∀ (Q' : List Value → Shared → Prop), (∀ h' tk, (∀ b o, s.heap.get? b = some o → h'.get? b = some o) → Q' vs { s with heap := h', toks := tk }) → wpAny (model prog w) A.in1 (collect x) Q' E s)
  (kind : ∀ (s' : Shared) (Q : SortKind → Shared → Prop) (E : Value → Shared → Prop), 2 ≤ vs.length → (∀ b o, s.heap.get? b = some o → s'.heap.get? b = some o) → Q κ s' → wpAny (model prog w) A.in1.in1 (keyKind' vs.toArray) Q E s')
  (cmp : ∀ (i j : Nat) (s' : Shared) (Q : Bool → Shared → Prop) (E : Value → Shared → Prop), i < vs.length → j < vs.length → (∀ b o, s.heap.get? b = some o → s'.heap.get? b = some o) → Q (decide (f i < f j)) s' → wpAny (model prog w) A.in1.in1 (keyLt' κ (vs.getD i Value.none) (vs.getD j Value.none)) Q E s')
  (h : ∀ (p : Array Nat) (h' hf : Heap) (e tk : Nat), p.Perm (List.toArray (List.range vs.length)) → My.Up f p vs.length → (∀ b o, s.heap.get? b = some o → h'.get? b = some o) → (∀ b o, h'.get? b = some o → hf.get? b = some o) → hf.get? h'.objs.size = some (seqObj "list" (z1H vs p) e) → Q (.ref h'.objs.size) { s with heap := hf, toks := tk }) :
  wpAny (model prog w) A (call (.builtin "sorted") [x]) Q E s := by
 refine Calls.call_function_entry kind_sorted plain_sorted entry_sorted (args_sorted1 _) ?_; unfold Builtin.«sorted»
 refine wpAny_bind (m := checkCount "sorted" 1 1 _) (wpAny_pure ?_); refine wpAny_bind (hcol _ fun h' tk kp0 => ?_); refine wpAny_bind (wpAny_newList ?_ (by rw [sizeLine_eq]; omega))
 have hoL : (h'.push (seqObj "list" vs.toArray 0)).get? h'.objs.size = some (seqObj "list" vs.toArray 0) := Heap.get?_push_size _ rfl
 have kp : ∀ b o, s.heap.get? b = some o → (h'.push (seqObj "list" vs.toArray 0)).get? b = some o := fun b o e => Heap.get?_push_of_some _ (kp0 b o e)
 have ne : ∀ b o, s.heap.get? b = some o → b ≠ h'.objs.size := fun b o e => Nat.ne_of_lt (Heap.lt_size (kp0 b o e))
 show wpAny _ _ _ _ _ { s with heap := h'.push (seqObj "list" vs.toArray 0), toks := tk }
 refine wpAny_bind (wpAny_holding (wpAny_call_entry slot_list_sort ⟨_, hoL, rfl⟩ entry_list_sort (z9J (f := f) (κ := κ) hoL h64 (fun s' Q' E' h2 k' hq => kind s' Q' E' h2 (fun b o e => k' b o (ne b o e) (kp b o e)) hq)
  (fun i j s' Q' E' hi hj k' hq => cmp i j s' Q' E' hi hj (fun b o e => k' b o (ne b o e) (kp b o e)) hq) fun p hp hup => ⟨_, rfl, ?_⟩) (args_list_sort _)))
 obtain ⟨e, he⟩ := sortedHeap_at (h := h'.push (seqObj "list" vs.toArray 0)) (out := z1H vs p) hoL
 refine wpAny_pure ⟨_, rfl, h p h' _ e tk hp hup kp0 (fun b o eb => ?_) he⟩
 rw [sortedHeap_old (Nat.ne_of_lt (Heap.lt_size eb)) (by rw [size_push']; exact Nat.lt_succ_of_lt (Heap.lt_size eb))]
 exact Heap.get?_push_of_some _ eb
theorem wz {fin : Bool} {Q : Bool → Shared → Prop} : ∀ {ns ms : List Int} {us ws : List Value} {i : Nat}, Vals (ns.map V.int) us → Vals (ms.map V.int) ws → (fin = decide (i + ns.length < i + ms.length)) → Q (HT.lexLt ns ms) s → KatLex prog w A true fin Q (us.zip ws) i s
 | [], [], _, _, i, .nil, .nil, hf, q => kat_nil (by rw [hf, show decide (i + ([] : List Int).length < i + ([] : List Int).length) = false from decide_eq_false (by simp)]; exact q)
 | [], _ :: _, _, _, i, .nil, .cons _ _, hf, q => kat_nil (by rw [hf, decide_eq_true (by simp)]; exact q)
 | _ :: _, [], _, _, i, .cons _ _, .nil, hf, q => kat_nil (by rw [hf, show decide (i + (_ :: _ : List Int).length < i + ([] : List Int).length) = false from decide_eq_false (by simp)]; exact q)
 | n :: ns, m :: ms, _, _, i, .cons ⟨t, e1⟩ r1, .cons ⟨t2, e2⟩ r2, hf, q => by
  subst e1 e2
  refine kat_cons (wpAny_eqBool_int (kat_go (fun he => kat_yes ?_) fun he => kat_no ?_))
  ·have he' : n = m := by simpa using he
   subst he'
   refine wz (i := i + 1) r1 r2 (by rw [hf]; exact decide_eq_decide.mpr (by simp only [List.length_cons]; omega)) ?_
   rwa [HT.lexLt_cons, if_pos rfl] at q
  ·have he' : n ≠ m := by simpa using he
   rw [HT.lexLt_cons, if_neg he'] at q
   cases hi : (true && i == 0) with
   | true =>
    have z := kat_lt_int (prog := prog) (w := w) (A := A) (E := fun _ _ => False) (s := s) (x := n) (y := m) (t := t) (u := t2) (Q := Q) q
    rw [keyLt'_oneType] at z
    exact z
   | false => exact kat_one _ _ (PyProof.Rows.lt_int q)
end
noncomputable def keyI : PyData → List Int
 | .int i => [i]
 | .tuple ds => (yB ds).getD []
 | _ => []
noncomputable def isInt : PyData → Bool
 | .int _ => true
 | _ => false
noncomputable def z20 : PyData → Bool
 | .tuple ds => (yB ds).isSome && !ds.isEmpty
 | _ => false
noncomputable def zu (ds : List PyData) : Bool := (ds.all isInt || ds.all z20) && decide (ds.length < 64)
noncomputable def xi : List PyData → Option PyData
 | [.list ds] => if zu ds = true then some (.list (xc keyI ds)) else none
 | [.tuple ds] => if zu ds = true then some (.list (xc keyI ds)) else none
 | _ => none
theorem z4d {ds : List PyData} (h : zu ds = true) : ∀ a ∈ ds, ∀ b ∈ ds, keyI a = keyI b → a = b := by
 unfold zu at h
 rw [Bool.and_eq_true, Bool.or_eq_true, List.all_eq_true, List.all_eq_true] at h
 intro a ha b hb e
 rcases h.1 with h1 | h1
 ·have a1 := h1 a ha
  have b1 := h1 b hb
  cases a <;> simp only [isInt] at a1 <;> try cases a1
  cases b <;> simp only [isInt] at b1 <;> try cases b1
  simp only [keyI] at e
  cases e; rfl
 ·have a1 := h1 a ha
  have b1 := h1 b hb
  cases a <;> simp only [z20] at a1 <;> try cases a1
  cases b <;> simp only [z20] at b1 <;> try cases b1
  rename_i xs ys
  rw [Bool.and_eq_true] at a1 b1
  obtain ⟨ns, e1⟩ := Option.isSome_iff_exists.mp a1.1
  obtain ⟨ms, e2⟩ := Option.isSome_iff_exists.mp b1.1
  simp only [keyI, e1, e2, Option.getD_some] at e
  rw [y9 e1, y9 e2, e]
theorem wX {f : Nat → Int} {p : Array Nat} {n : Nat} (hs : p.size = n) (h : My.Up f p n) : p.toList.Pairwise fun i j => f i ≤ f j := by
 rw [List.pairwise_iff_getElem]
 intro i j hi hj hij
 have := h.le (Nat.le_of_lt hij) (by rw [← hs]; simpa using hj)
 have hi' : i < p.size := by simpa using hi
 have hj' : j < p.size := by simpa using hj
 simpa [My.at_, hi', hj'] using this
theorem z2t {S : Addr → Prop} {H : Hp} {ds : List PyData} {xs : List V} {its : List Value} (hd : DatsS S H ds xs) (rv : Vals xs its) (hs : zu ds = true) {p : Array Nat} (hp : p.Perm (List.toArray (List.range its.length))) (hup : My.Up (rank (fun i => keyI (ds.getD i .none)) ds.length) p its.length) :
  ∃ ys, Vals ys (p.toList.map fun i => its.getD i Value.none) ∧ DatsS S H (xc keyI ds) ys ∧ ys.length = ds.length := by
 have l1 := hd.length
 have l2 := rv.length
 have hpl : p.toList.Perm (List.range ds.length) := by
  have := hp.toList
  rw [← l2, ← l1] at this
  simpa using this
 have hmem : ∀ i ∈ p.toList, i < ds.length := fun i hi => List.mem_range.mp (hpl.mem_iff.mp hi)
 have hn : p.toList.length = ds.length := by rw [hpl.length_eq, List.length_range]
 have gen : ∀ l : List Nat, (∀ i ∈ l, i < ds.length) → Vals (l.map fun i => xs.getD i .non) (l.map fun i => its.getD i Value.none) ∧ DatsS S H (l.map fun i => ds.getD i .none) (l.map fun i => xs.getD i .non) := fun l => by
  induction l with
  | nil => intro _; exact ⟨.nil, .nil⟩
  | cons i l ih =>
   intro hl
   obtain ⟨g1, g2⟩ := ih fun j hj => hl j (List.mem_cons_of_mem _ hj)
   have hi := hl i List.mem_cons_self
   obtain ⟨v, e1, r1⟩ := hd.get (List.getElem?_eq_getElem hi)
   obtain ⟨u, e2, r2⟩ := rv.get e1
   have a1 : ds.getD i .none = ds[i] := by rw [List.getD_eq_getElem?_getD, List.getElem?_eq_getElem hi]; rfl
   have a2 : xs.getD i .non = v := by rw [List.getD_eq_getElem?_getD, e1]; rfl
   have a3 : its.getD i Value.none = u := by rw [List.getD_eq_getElem?_getD, e2]; rfl
   refine ⟨.cons (by show RelV (xs.getD i .non) (its.getD i Value.none); rw [a2, a3]; exact r2) g1, .cons (by show DatS S H (ds.getD i .none) (xs.getD i .non); rw [a1, a2]; exact r1) g2⟩
 obtain ⟨g1, g2⟩ := gen p.toList hmem
 have e2 : (List.range ds.length).map (fun i => ds.getD i .none) = ds := by
  refine List.ext_getElem (by simp) fun i a b => ?_
  simp [List.getD_eq_getElem?_getD, b]
 have perm : (p.toList.map fun i => ds.getD i .none).Perm ds := by
  have := hpl.map fun i => ds.getD i .none
  rwa [e2] at this
 have pw : (p.toList.map fun i => ds.getD i .none).Pairwise fun a b => HT.lexLt (keyI b) (keyI a) = false := by
  rw [List.pairwise_map]
  refine (wX (n := its.length) (by simpa [← l2, ← l1] using hn) hup).imp_of_mem fun {i j} hi hj hle => ?_
  rw [← z1V (n := ds.length) (k := fun i => keyI (ds.getD i .none)) (hmem j hj)]
  exact decide_eq_false (by omega)
 have e3 := xB (perm.trans (xf ds).symm) pw (yn ds) fun a ha b hb => z4d hs a (perm.mem_iff.mp ha) b (perm.mem_iff.mp hb)
 refine ⟨_, g1, by rw [← e3]; exact g2, by rw [List.length_map, hn]⟩
end L2
namespace L2
open PySem PySem.Spec PyProof.Rows
open PySem.W (KasT kas_sort kas_ask kat_run kat_snds kat_kind kat_lt KatTups KatLex kat_nil kat_cons kat_go kat_yes kat_no kat_one kat_lt_int)
variable {X : Cx}
theorem wD {S : Addr → Prop} {H : Hp} : ∀ {ds : List PyData} {ns : List Int} {ys : List V}, yB ds = some ns → DatsS S H ds ys → ys = ns.map V.int := fun {ds ns ys} e h => by
 rw [y9 e] at h
 clear e
 induction ns generalizing ys with
 | nil => simpa only [List.map_nil, DatsS] using h
 | cons n ns ih =>
  simp only [List.map_cons, DatsS] at h
  obtain ⟨x, r, rfl, h1, h2⟩ := h
  simp only [DatS] at h1
  rw [h1, ih h2]; rfl
theorem xF {pins : List (Addr × Obj)} {s : Shared} {σ : L2.St} {H : Hp} {Q : VK} {S : Addr → Prop} {x : Value} {ds : List PyData} {xs : List V} {its : List Value} (I : L2.Inv X pins σ H s) (hS : ∀ a, S a → H a ≠ none) (hd : DatsS S H ds xs) (rv : Vals xs its) (hs : zu ds = true)
  (hcol : ∀ (Q' : List Value → Shared → Prop), (∀ h' tk, (∀ b o, s.heap.get? b = some o → h'.get? b = some o) → Q' its { s with heap := h', toks := tk }) → wpAny (model X.prog X.w) X.A.in1 (collect x) Q' X.xe s)
  (q : ∀ v H', Same H H' → DatS S H' (.list (xc keyI ds)) v → Q v H') : wpAny (model X.prog X.w) X.A (call (.builtin "sorted") [x]) (EP X pins σ Q) X.xe s := by
 have l1 := hd.length
 have l2 := rv.length
 have hs' := hs
 unfold zu at hs'
 rw [Bool.and_eq_true, Bool.or_eq_true, List.all_eq_true, List.all_eq_true] at hs'
 have h64 : its.length < 64 := by
  have := of_decide_eq_true hs'.2
  omega
 have fin : ∀ (p : Array Nat) (h' hf : Heap) (e tk : Nat), p.Perm (List.toArray (List.range its.length)) → My.Up (rank (fun i => keyI (ds.getD i .none)) ds.length) p its.length → (∀ b o, s.heap.get? b = some o → h'.get? b = some o) → (∀ b o, h'.get? b = some o → hf.get? b = some o) → hf.get? h'.objs.size = some (seqObj "list" (z1H its p) e) → EP X pins σ Q (.ref h'.objs.size) { s with heap := hf, toks := tk } := fun p h' hf e tk hp hup k1 k2 ho => by
  obtain ⟨ys, rv', dv, hl⟩ := z2t hd rv hs hp hup
  have I1 := I.kept (t' := tk) k1
  refine ⟨.ref h'.objs.size, _, I1.laid (t' := tk) (a := h'.objs.size) (o := .lst ys) (h' := hf) k2 (Nat.le_refl _) ⟨by rw [hl, sizeLine_eq]; omega, _, e, rv', ho⟩, rfl, q _ _ (Same.new (I1.hok.fresh (Nat.le_refl _))) (xz hS (I1.hok.fresh (Nat.le_refl _)) dv)⟩
 have at1 : ∀ i, i < its.length → ∃ d v u, ds[i]? = some d ∧ ds.getD i .none = d ∧ d ∈ ds ∧ DatS S H d v ∧ RelV v u ∧ its.getD i Value.none = u := fun i hi => by
  have hi' : i < ds.length := by omega
  obtain ⟨v, e1, r1⟩ := hd.get (List.getElem?_eq_getElem hi')
  obtain ⟨u, e2, r2⟩ := rv.get e1
  exact ⟨ds[i], v, u, List.getElem?_eq_getElem hi', by rw [List.getD_eq_getElem?_getD, List.getElem?_eq_getElem hi']; rfl, List.getElem_mem hi', r1, r2, by rw [List.getD_eq_getElem?_getD, e2]; rfl⟩
 rcases hs'.1 with h1 | h1
 ·have getv : ∀ i, i < its.length → ∃ n t, its.getD i Value.none = .int n t ∧ keyI (ds.getD i .none) = [n] := fun i hi => by
   obtain ⟨d, v, u, e0, e1, hm, r1, r2, e2⟩ := at1 i hi
   have a1 := h1 d hm
   cases d <;> simp only [isInt] at a1 <;> try cases a1
   simp only [DatS] at r1
   subst r1
   obtain ⟨t, rfl⟩ := r2
   exact ⟨_, t, e2, by rw [e1]; rfl⟩
  refine z1Q (κ := oneType') (f := rank (fun i => keyI (ds.getD i .none)) ds.length) h64 hcol (fun s' Q' E' h2 kp hq' => ?_) (fun i j s' Q' E' hi hj kp hq' => ?_) fin
  ·refine W.kas_kind (T := .type "int") h2 (fun v hv => ?_) rfl rfl hq'
   obtain ⟨i, hi, rfl⟩ := List.mem_iff_getElem.mp hv
   obtain ⟨n, t, e, _⟩ := getv i hi
   rw [List.getD_eq_getElem?_getD, List.getElem?_eq_getElem hi] at e
   have e' : its[i] = .int n t := e
   rw [e']
   exact W.Looks.of_pure rfl
  ·obtain ⟨n, t, e1, k1⟩ := getv i hi
   obtain ⟨m, t2, e2, k2⟩ := getv j hj
   rw [e1, e2]
   refine kat_lt_int ?_
   rw [z1V (by omega)] at hq'
   have : HT.lexLt (keyI (ds.getD i .none)) (keyI (ds.getD j .none)) = decide (n < m) := by
    rw [k1, k2, HT.lexLt_cons]
    split
    next he => subst he; simp [HT.lexLt]
    next => rfl
   rwa [this] at hq'
 ·have item : ∀ i, i < its.length → ∃ a ns us, its.getD i Value.none = .ref a ∧ keyI (ds.getD i .none) = ns ∧ ns ≠ [] ∧ Vals (ns.map V.int) us ∧ IsTup s.heap a us.toArray := fun i hi => by
   obtain ⟨d, v, u, e0, e1, hm, r1, r2, e2⟩ := at1 i hi
   have a1 := h1 d hm
   cases d <;> simp only [z20] at a1 <;> try cases a1
   rename_i ts
   rw [Bool.and_eq_true] at a1
   obtain ⟨ns, en⟩ := Option.isSome_iff_exists.mp a1.1
   simp only [DatS] at r1
   obtain ⟨a, ys, rfl, hA, dy⟩ := r1
   cases r2
   have ey := wD en dy
   subst ey
   obtain ⟨us, rus, tp, _⟩ := I.tuple (SqT.of hA)
   refine ⟨a, ns, us, e2, by rw [e1]; simp only [keyI, en, Option.getD_some], fun z => ?_, rus, tp⟩
   have := y9 en
   rw [z] at this
   rw [this] at a1
   simp at a1
  have up : ∀ {s' : Shared} {c : Addr} {xs : Array Value}, (∀ b o, s.heap.get? b = some o → s'.heap.get? b = some o) → IsTup s.heap c xs → IsTup s'.heap c xs := fun {s' c xs} kp t => by
   obtain ⟨o, e, r⟩ := t
   exact ⟨o, kp _ _ e, r⟩
  refine z1Q (κ := tuples' true) (f := rank (fun i => keyI (ds.getD i .none)) ds.length) h64 hcol (fun s' Q' E' h2 kp hq' => ?_) (fun i j s' Q' E' hi hj kp hq' => ?_) fin
  ·have tups : ∀ (l : List Nat), (∀ i ∈ l, i < its.length) → ∃ fs : List Value, KatTups s'.heap (l.map fun i => its.getD i Value.none) fs ∧ fs.length = l.length ∧ ∀ v ∈ fs, ∃ n t, v = .int n t := fun l => by
    induction l with
    | nil => intro _; exact ⟨[], trivial, rfl, fun v hv => nomatch hv⟩
    | cons i l ih =>
     intro hl'
     obtain ⟨fs, k1, k2, k3⟩ := ih fun j hj => hl' j (List.mem_cons_of_mem _ hj)
     have hi := hl' i List.mem_cons_self
     obtain ⟨a, ns, us, e1, ek, nn, rus, tp⟩ := item i hi
     obtain ⟨o, b1, b2, n, b3⟩ := up kp tp
     cases ns with
     | nil => exact absurd rfl nn
     | cons m ms =>
      cases rus with
      | cons ru1 ru2 =>
       obtain ⟨t, rfl⟩ := ru1
       refine ⟨.int m t :: fs, ?_, by simp [k2], fun v hv => ?_⟩
       ·rw [List.map_cons, e1]
        exact KatTups.cons b1 b2 b3 rfl k1
       ·rcases List.mem_cons.mp hv with rfl | hv
        ·exact ⟨_, _, rfl⟩
        ·exact k3 v hv
   obtain ⟨fs, k1, k2, k3⟩ := tups (List.range its.length) fun i hi => List.mem_range.mp hi
   have e : (List.range its.length).map (fun i => its.getD i Value.none) = its := by
    refine List.ext_getElem (by simp) fun i a b => ?_
    simp [List.getD_eq_getElem?_getD, b]
   rw [e] at k1
   rw [List.length_range] at k2
   refine kat_kind (T := .type "int") k1 (by omega) (fun v hv => ?_) rfl hq'
   obtain ⟨n, t, rfl⟩ := k3 v hv
   exact W.Looks.of_pure rfl
  ·obtain ⟨a, ns, us, e1, ek1, nn1, rus1, tp1⟩ := item i hi
   obtain ⟨b, ms, ws, e2, ek2, nn2, rus2, tp2⟩ := item j hj
   obtain ⟨o, a1, a2, n, a3⟩ := up kp tp1
   obtain ⟨o', b1, b2, n', b3⟩ := up kp tp2
   rw [e1, e2]
   refine kat_lt a1 a3 b1 b3 ?_
   rw [z1V (by omega), ek1, ek2] at hq'
   have g1 := rus1.length
   have g2 := rus2.length
   rw [List.length_map] at g1 g2
   exact wz (i := 0) rus1 rus2 (decide_eq_decide.mpr (by simp [g1, g2])) hq'
theorem z41 (hu : X.A.units + 64 < cLine) : CallR X (.builtin "sorted") (rDn xi) := by
 intro pins s σ H xs us Q I r h
 obtain ⟨S, ds, rr, hS, h1, hf, q⟩ := h
 match ds, hf, h1 with
 | [.list xs], hf, h1 =>
  simp only [xi] at hf
  split at hf
  next hs =>
   cases hf
   obtain ⟨v, rfl, r1⟩ := all1 h1
   obtain ⟨a, ys, rfl, g1, k1⟩ := yO r1
   obtain ⟨u, rfl, ru⟩ := xY r
   cases ru
   obtain ⟨its, rv, pl, hz⟩ := I.list (SqL.of g1)
   refine xF I hS k1 rv hs (fun Q' hq' => ?_) q
   obtain ⟨o, e1, e2, n, e3⟩ := pl.isList
   exact wpAny_collect_seq a (.inl rfl) e1 e2 e3 (fun h' k => hq' h' s.toks k) (by simpa [← rv.length] using hz)
  next => cases hf
 | [.tuple xs], hf, h1 =>
  simp only [xi] at hf
  split at hf
  next hs =>
   cases hf
   obtain ⟨v, rfl, r1⟩ := all1 h1
   obtain ⟨a, ys, rfl, g1, k1⟩ := zy r1
   obtain ⟨u, rfl, ru⟩ := xY r
   cases ru
   obtain ⟨its, rv, pl, hz⟩ := I.tuple (SqT.of g1)
   refine xF I hS k1 rv hs (fun Q' hq' => ?_) q
   obtain ⟨o, e1, e2, n, e3⟩ := pl
   exact wpAny_collect_seq a (.inr rfl) e1 e2 e3 (fun h' k => hq' h' s.toks k) (by simpa [← rv.length] using hz)
  next => cases hf
end L2
namespace L2
open PySem PySem.Spec PyProof.Rows
variable {X : Cx}
end L2
namespace L2
open PySem PySem.Spec PyProof.Rows
section
variable {prog : Program} {w : World} {A : Around} {E : Value → Shared → Prop} {s : Shared}
noncomputable def DictIs (h : Heap) (d : Addr) (es : Array DictEntry) (ep : Nat) : Prop := ∃ o, h.get? d = some o ∧ o.ExactDict ∧ o.data = .dict es ep
theorem DictIs.at {h h' : Heap} {d : Addr} {es : Array DictEntry} {ep : Nat} (x : DictIs h d es ep) (e : ∀ o, h.get? d = some o → h'.get? d = some o) : DictIs h' d es ep := by
 obtain ⟨o, ho, r⟩ := x
 exact ⟨o, e _ ho, r⟩
theorem DictIs.typeIs {d : Addr} {es : Array DictEntry} {ep : Nat} (x : DictIs s.heap d es ep) : s.TypeIs (.ref d) "dict" := by
 obtain ⟨o, ho, hc, _⟩ := x
 exact ⟨o, ho, hc.1⟩
theorem z3t {it d : Addr} {i ep : Nat} {es : Array DictEntry} {Q : Option Value → Shared → Prop} (hit : s.heap.IsKeyIter it d i es.size ep) (hm : DictIs s.heap d es ep) (hlt : i < es.size)
  (hQ : ∀ h', h'.IsKeyIter it d (i + 1) es.size ep → Heap.SameBut it s.heap h' → Q (some es[i].key) { s with heap := h' }) : wpAny (model prog w) A (pyNext (.ref it)) Q E s := by
 obtain ⟨o, ho, hc, hd⟩ := id hit
 obtain ⟨od, hod, hcd, hdd⟩ := id hm
 unfold pyNext
 refine wpAny_bind (wpAny_attempt (wpAny_callSpecial?_slot (name := Str.ofString "__next__") hit.typeIs F.slot_dict_keyiterator_next (wpAny_call_entry F.slot_dict_keyiterator_next hit.typeIs F.entry_dict_keyiterator_next ?_ (F.args_dict_keyiterator_next_1 _))))
 refine wpAny_bind (wpAny_pure (wpAny_bind (wpAny_bind ?_)))
 refine wpAny_bind (wpAny_typeNameOfWhole_keyiter hit.typeIs (wpAny_pure ?_))
 refine wpAny_bind (wpAny_fieldsOf ho hd ?_)
 have hown : Builtin.Dict_items.ownsTuple "dict_keyiterator" = false := by decide
 simp only [hown, Bool.false_eq_true, if_false]
 show wpAny _ _ (if (Value.ref d == Value.none) = true then _ else _) _ _ s
 rw [if_neg (show ¬ ((Value.ref d == Value.none) = true) from Bool.false_ne_true)]
 refine wpAny_bind (wpAny_pure (wpAny_bind (wpAny_dictEntries hod hdd ?_)))
 rw [if_neg (by simp)]
 refine wpAny_bind (wpAny_pure (wpAny_bind (wpAny_dictEpoch hod hdd ?_)))
 rw [if_neg (by simp)]
 refine wpAny_pure ?_
 simp only [show ¬ ((i : Int) < 0) from by omega, if_false, Int.toNat_natCast, Array.getElem?_eq_getElem hlt]
 refine wpAny_bind (wpAny_bind (wpAny_typeNameOfWhole_keyiter hit.typeIs (wpAny_pure ?_)))
 refine wpAny_bind (wpAny_isOneOf_keyiter hit.typeIs ?_)
 show wpAny _ _ (setField (.ref it) 1 (rawInt ((i : Int) + 1)) >>= _) _ _ s
 refine wpAny_bind (wpAny_setField ho hd (by simp) ?_)
 have hit' : (s.heap.update it (Obj.mapFields (·.setIfInBounds 1 (rawInt ((i : Int) + 1))))).IsKeyIter it d (i + 1) es.size ep :=
  ⟨_, Heap.get?_update_self _ ho (Obj.isFreed_of_fields (Obj.data_mapFields hd _)), (Obj.cls_mapFields ..).trans hc, by rw [Obj.data_mapFields hd]; simp [rawInt]⟩
 refine wpAny_bind (wpAny_holding ?_)
 refine wpAny_bind (wpAny_isOneOf_keyiter (s := { s with heap := s.heap.update it (Obj.mapFields (·.setIfInBounds 1 (rawInt ((i : Int) + 1)))) }) hit'.typeIs ?_)
 show wpAny _ _ (pure es[i].key) _ _ _
 exact wpAny_pure (wpAny_pure ⟨_, rfl, wpAny_pure (hQ _ hit' (Heap.SameBut.update ..))⟩)
theorem z5z {it d : Addr} {ep : Nat} {es : Array DictEntry} {Q : Option Value → Shared → Prop} (hh : A.handled = none) (hit : s.heap.IsKeyIter it d es.size es.size ep) (hm : DictIs s.heap d es ep)
  (hQ : ∀ h', Heap.ExtBut it s.heap h' → Q none { s with heap := h' }) : wpAny (model prog w) A (pyNext (.ref it)) Q E s := by
 obtain ⟨o, ho, hc, hd⟩ := id hit
 obtain ⟨od, hod, hcd, hdd⟩ := id hm
 unfold pyNext
 refine wpAny_bind (wpAny_attempt (wpAny_callSpecial?_slot (name := Str.ofString "__next__") hit.typeIs F.slot_dict_keyiterator_next (wpAny_call_entry F.slot_dict_keyiterator_next hit.typeIs F.entry_dict_keyiterator_next ?_ (F.args_dict_keyiterator_next_1 _))))
 refine wpAny_bind (wpAny_pure (wpAny_bind (wpAny_bind ?_)))
 refine wpAny_bind (wpAny_typeNameOfWhole_keyiter hit.typeIs (wpAny_pure ?_))
 refine wpAny_bind (wpAny_fieldsOf ho hd ?_)
 have hown : Builtin.Dict_items.ownsTuple "dict_keyiterator" = false := by decide
 simp only [hown, Bool.false_eq_true, if_false]
 show wpAny _ _ (if (Value.ref d == Value.none) = true then _ else _) _ _ s
 rw [if_neg (show ¬ ((Value.ref d == Value.none) = true) from Bool.false_ne_true)]
 refine wpAny_bind (wpAny_pure (wpAny_bind (wpAny_dictEntries hod hdd ?_)))
 rw [if_neg (by simp)]
 refine wpAny_bind (wpAny_pure (wpAny_bind (wpAny_dictEpoch hod hdd ?_)))
 rw [if_neg (by simp)]
 refine wpAny_pure ?_
 simp only [show ¬ ((es.size : Int) < 0) from by omega, if_false, Int.toNat_natCast, Array.getElem?_eq_none (Nat.le_refl es.size)]
 refine wpAny_bind (wpAny_bind (wpAny_typeNameOfWhole_keyiter hit.typeIs (wpAny_pure ?_)))
 show wpAny _ _ (setField (.ref it) 0 .none >>= _) _ _ s
 refine wpAny_bind (wpAny_setField ho hd (by simp) ?_)
 show wpAny _ _ (newExc (.type "StopIteration") [] >>= _) _ _ _
 refine wpAny_bind ?_
 simp only [newExc, newTuple]
 refine wpAny_bind (wpAny_newObj_type ?_ (by size_fits))
 refine wpAny_bind (m := firstArgMember _ _) (wpAny_of_eq (a := Value.none) (by first | rfl | (simp only [firstArgMember]; rfl)) ?_)
 refine wpAny_newObj_type ?_ (by size_fits)
 simp only [raiseNew]
 refine wpAny_bind (wpAny_handled ?_)
 rw [show A.in1.handled = none from hh]
 refine wpAny_bind (wpAny_pure (wpAny_throw ?_))
 refine wpAny_bind (wpAny_isInstance (T := "StopIteration") (b := true) ⟨_, Heap.get?_push_size _ rfl, rfl⟩ isSubtype_stop ?_)
 exact wpAny_pure (hQ _ (((Heap.SameBut.update ..).extBut.push _).push _))
theorem z69 (hh : A.handled = none) (I d : Addr) (hne : d ≠ I) {ep : Nat} {es : Array DictEntry} :
  PySem.Walks prog w A I [I, d] [I] es.size (fun i v => (es[i]?.map (·.key)) = some v) (fun i h => h.IsKeyIter I d i es.size ep ∧ DictIs h d es ep) where
 sub := fun b hb => by simp at hb; simp [hb]
 frame := fun _ _ _ st hk => ⟨st.1.at fun o e => hk I (by simp) o e, st.2.at fun o e => hk d (by simp) o e⟩
 item := fun i s Q E hi st hQ => by
  refine z3t st.1 st.2 hi fun h' hit' hs' => ?_
  exact hQ _ h' s.toks (by rw [Array.getElem?_eq_getElem hi]; rfl) ⟨hit', st.2.at fun o e => hs'.extBut d o hne e⟩ fun b o hb e => hs'.extBut b o (fun h => hb (by simp [h])) e
 done := fun s Q E st hQ => z5z hh st.1 st.2 fun h' he' => hQ h' s.toks fun b o hb e => he' b o (fun h => hb (by simp [h])) e
 self := fun _ _ _ _ st hQ => wpAny_pyIter_keyiter st.1 hQ
theorem z6h {d : Addr} {es : Array DictEntry} {ep : Nat} {Q : Value → Shared → Prop} (hd : (d == sysModules) = false) (hm : DictIs s.heap d es ep)
  (hQ : Q (.ref s.heap.objs.size) { s with heap := s.heap.push { cls := .type "dict_keyiterator", data := .fields #[.ref d, .int 0 0, .int (es.size : Int) 0, .int (ep : Int) 0] } }) : wpAny (model prog w) A (pyIter (.ref d)) Q E s := by
 obtain ⟨o, ho, hc, hdat⟩ := id hm
 have hT := hm.typeIs
 refine wpAny_pyIter_slot hT F.slot_dict_iter (wpAny_call_entry F.slot_dict_iter hT F.entry_dict_iter ?_ (F.args_dict_iter_1 _))
 unfold Builtin.«dict.__iter__»
 refine wpAny_bind ?_
 unfold Builtin.Dict.dictSlotNone
 refine wpAny_bind (wpAny_notOrdered_dict hT ?_)
 show wpAny _ _ (pure (Value.ref d)) _ _ s
 refine wpAny_pure ?_
 show wpAny _ _ (Builtin.Dict.showsAll d >>= _) _ _ s
 unfold Builtin.Dict.showsAll
 rw [if_neg (by rw [hd]; exact Bool.false_ne_true)]
 refine wpAny_bind (wpAny_pure (wpAny_bind (wpAny_dictEntries ho hdat (wpAny_bind (wpAny_dictEpoch ho hdat ?_)))))
 exact wpAny_bind (wpAny_newObj_type (wpAny_pure ⟨_, rfl, "dict_keyiterator", _, ⟨_, Heap.get?_push_size _ rfl, rfl⟩, F.slot_dict_keyiterator_next.lookup, hQ⟩))
end
end L2
namespace L2
open PySem PySem.Spec PyProof.Rows
theorem z5y : typeLookup (.type "dict") "__len__" = pure (some (.builtin "dict.__len__")) := by rw [typeLookup_type, builtinLookup_eq_fast]; kernel_rfl
section
variable {prog : Program} {w : World} {A : Around} {E : Value → Shared → Prop} {s : Shared}
theorem z5b {S : Addr} {ep : Nat} {es : Array DictEntry} {Q : List Value → Shared → Prop} (hh : A.handled = none) (hsys : (S == sysModules) = false) (hz : es.size ≤ sizeLine) (hS : DictIs s.heap S es ep)
  (hQ : ∀ h' tk, (∀ b o, s.heap.get? b = some o → h'.get? b = some o) → Q (es.toList.map (·.key)) { s with heap := h', toks := tk }) :
  wpAny (model prog w) A (collect (.ref S)) Q E s := by
 obtain ⟨o, ho, hex, hd⟩ := id hS
 have hSlt := Heap.lt_size ho
 unfold collect
 refine wpAny_bind (wpAny_runValue (codeAny_builtin F.entry_proto_collect ?_))
 rw [Around.under_plainId F.plain_proto_collect _]
 show wpAny _ A.in1 (newList [] >>= fun l => again (.builtin "list.__iadd__" ⟨[l, .ref S], []⟩)) _ _ s
 refine wpAny_bind (wpAny_newObj_type ?_)
 refine wpAny_pure ⟨plainId_quiet F.plain_list_iadd _, codeAny_builtin F.entry_list_iadd ?_⟩
 rw [Around.under_plainId F.plain_list_iadd _]
 show wpAny _ A.in1 (Builtin.List.listExtendWith (.ref s.heap.objs.size) (.ref S) (.ref s.heap.objs.size)) _ _ _
 unfold Builtin.List.listExtendWith
 generalize hH : s.heap.push { cls := .type "list", data := .seq ([] : List Value).toArray } = H
 have hHs : H.objs.size = s.heap.objs.size + 1 := by rw [← hH, Heap.size_push]
 have keep : ∀ b ob, s.heap.get? b = some ob → H.get? b = some ob := fun b ob e => hH ▸ Heap.get?_push_of_some _ e
 have hS1 : DictIs H S es ep := hS.at fun ob e => keep S ob e
 have hT : Shared.TypeIs { s with heap := H } (.ref S) "dict" := ⟨o, keep _ _ ho, hex.1⟩
 refine wpAny_bind (wpAny_typeOf (T := "dict") (v := .ref S) hT ?_)
 have hSI : s.heap.objs.size ≠ S := Nat.ne_of_gt hSlt
 have h1 : Builtin.List.listSameRef (.ref s.heap.objs.size) (.ref S) = false := by simp [Builtin.List.listSameRef, hSI]
 have h2 : (Value.type "dict" == Value.type "list") = false := by decide
 have h3 : (Value.type "dict" == Value.type "tuple") = false := by decide
 simp only [h1, h2, h3, Bool.or_false, Bool.false_eq_true, if_false]
 refine wpAny_bind (z6h (s := { s with heap := H }) hsys hS1 ?_)
 have hT2 : Shared.TypeIs { s with heap := H.push { cls := .type "dict_keyiterator", data := .fields #[.ref S, .int 0 0, .int (es.size : Int) 0, .int (ep : Int) 0] } } (.ref S) "dict" := ⟨o, Heap.get?_push_of_some _ (keep _ _ ho), hex.1⟩
 refine wpAny_bind (wpAny_holding ?_)
 unfold Builtin.List.listLengthHint
 refine wpAny_bind (wpAny_specialOf (T := "dict") (v := .ref S) hT2 z5y ?_)
 wp_delta
 refine wpAny_bind (wpAny_isInstance (T := "dict") (v := .ref S) (b := true) hT2 (by rw [isSubtype_type]; kernel_rfl) ?_)
 show wpAny _ A.in1 (typeOf (Value.ref S) >>= _) _ _ _
 refine wpAny_bind (wpAny_typeOf (T := "dict") (v := .ref S) hT2 ?_)
 refine wpAny_pure ?_
 rw [if_pos (by decide)]
 have hSf : s.heap.objs.size ∉ [H.objs.size, S] := by
  rw [hHs]; simp only [List.mem_cons, List.mem_singleton, List.not_mem_nil, or_false, not_or]
  exact ⟨Nat.ne_of_lt (Nat.lt_succ_self _), hSI⟩
 have hL : (H.push { cls := .type "dict_keyiterator", data := .fields #[.ref S, .int 0 0, .int (es.size : Int) 0, .int (ep : Int) 0] }).get? s.heap.objs.size = some { cls := .type "list", data := .seq ([] : List Value).toArray } := Heap.get?_push_of_some _ (hH ▸ Heap.get?_push_size _ rfl)
 have hneI : S ≠ H.objs.size := by rw [hHs]; exact Nat.ne_of_lt (Nat.lt_succ_of_lt hSlt)
 refine wpAny_bind (wpAny_rule ?_)
 unfold Builtin.List.listTouch
 refine wpAny_bind (wpAny_bind (listUpdate_at hL rfl ?_ (by decide) (by decide)))
 have g1 := Heap.get?_update_self (Obj.mapSeq (·.push .none)) hL rfl
 refine listUpdate_at g1 rfl ?_ (by decide) (by decide)
 have g2 := Heap.get?_update_self (Obj.mapSeq (·.pop)) g1 rfl
 have sb := (Heap.SameBut.update (H.push { cls := .type "dict_keyiterator", data := .fields #[.ref S, .int 0 0, .int (es.size : Int) 0, .int (ep : Int) 0] }) s.heap.objs.size (Obj.mapSeq (·.push .none))).trans (Heap.SameBut.update _ s.heap.objs.size (Obj.mapSeq (·.pop)))
 generalize hH2 : ((H.push { cls := .type "dict_keyiterator", data := .fields #[.ref S, .int 0 0, .int (es.size : Int) 0, .int (ep : Int) 0] }).update s.heap.objs.size (Obj.mapSeq (·.push .none))).update s.heap.objs.size (Obj.mapSeq (·.pop)) = H2 at g2 sb ⊢
 have hIT : H2.get? H.objs.size = some { cls := .type "dict_keyiterator", data := .fields #[.ref S, .int 0 0, .int (es.size : Int) 0, .int (ep : Int) 0] } := sb.extBut _ _ (by rw [hHs]; exact Nat.ne_of_gt (Nat.lt_succ_self _)) (Heap.get?_push_size _ rfl)
 have hI0 : H2.IsKeyIter H.objs.size S 0 es.size ep := ⟨_, hIT, rfl, rfl⟩
 have hS2 : DictIs H2 S es ep := hS1.at fun ob e => sb.extBut _ _ (Ne.symm hSI) (Heap.get?_push_of_some _ e)
 refine wpAny_pure ⟨plainId_quiet F.plain_extend_loop _, codeAny_extend_loopS (z69 (A := A.in1) (ep := ep) (es := es) hh H.objs.size S hneI).toS hz _ hSf _ es.size 0 _ _ _ rfl (Nat.zero_le _) ⟨hI0, hS2⟩ g2 (ItemsOf.nil _) fun s' acc' c' hmv hS' hacc => ?_⟩
 show wpAny _ A (load s.heap.objs.size >>= _) _ _ s'
 refine wpAny_bind (wpAny_load hS' ?_)
 obtain ⟨h', g', d', tk', os'⟩ := s'
 have eg : g' = s.gens := hmv.gens
 have ed : d' = s.drawn := hmv.drawn
 have eo : os' = s.os := hmv.os
 subst eg; subst ed; subst eo
 have eacc : acc'.toList = es.toList.map (·.key) := by
  refine List.ext_getElem? fun i => ?_
  rw [List.getElem?_map, Array.getElem?_toList, Array.getElem?_toList]
  cases e : acc'[i]? with
  | some v => exact (hacc.2 i v e).symm
  | none =>
   have h1 := Array.getElem?_eq_none_iff.mp e
   rw [hacc.1] at h1
   rw [Array.getElem?_eq_none (by omega)]; rfl
 refine wpAny_pure ?_
 rw [eacc]
 refine hQ h' tk' fun b ob e => hmv.heap b ob (fun hb => ?_) (sb.extBut _ _ (Nat.ne_of_lt (Heap.lt_size e)) (Heap.get?_push_of_some _ (keep _ _ e)))
 have hlt := Heap.lt_size e
 rcases List.mem_cons.mp hb with h | h
 ·exact absurd hlt (h ▸ Nat.lt_irrefl _)
 ·rw [List.mem_singleton.mp h, hHs] at hlt; exact absurd hlt (Nat.not_lt.mpr (Nat.le_succ _))
end
end L2
namespace L2
open PySem PySem.Spec PyProof.Rows
variable {X : Cx}
theorem z1i {S : Addr → Prop} {H : Hp} : ∀ (k : List Key), DatsS S H (k.map kD) (k.map kV)
 | [] => .nil
 | .inl i :: k => .cons di (z1i k)
 | .inr x :: k => .cons (by show DatS S H (.str x) (.str x); simp only [DatS]) (z1i k)
theorem z0u {S : Addr → Prop} {H : Hp} : ∀ {kvs : List (PyData × PyData)} {ks : List (PyData × V)}, DctS S H kvs ks → kvs.map (·.1) = ks.map (·.1)
 | [], ks, h => by simp only [DctS] at h; rw [h]; rfl
 | (k, d) :: r, ks, h => by
  simp only [DctS] at h
  obtain ⟨x, q, rfl, _, h2⟩ := h
  rw [List.map_cons, List.map_cons, z0u h2]
theorem z1L {pins : List (Addr × Obj)} {s : Shared} {σ : L2.St} {H : Hp} {S : Addr → Prop} {a : Addr} {kvs : List (PyData × PyData)} {ks : List (PyData × V)} (I : L2.Inv X pins σ H s) (h : DctAt H a ks) (hd : DctS S H kvs ks) :
  ∃ (es : Array DictEntry) (ep : Nat) (xs : List V), DictIs s.heap a es ep ∧ (a == sysModules) = false ∧ es.size ≤ sizeLine ∧ Vals xs (es.toList.map (·.key)) ∧ DatsS S H (kvs.map (·.1)) xs := by
 rw [z0u hd]
 rcases h with ⟨l, h, rfl⟩ | ⟨l, h, rfl⟩
 ·obtain ⟨z, y, vs, kv, o, es, ep, h1, h2, h3, h4, h5, _⟩ := z1b I.hok h
  have gen : ∀ {l : List (Key × V)} {vs : List (Key × Value)} {es : List DictEntry}, KV l vs → Pairs (ze X.prog X.w) es vs → ∃ xs, Vals xs (es.map (·.key)) ∧ DatsS S H ((l.map fun kv => (kD kv.1, kv.2)).map (·.1)) xs ∧ es.length = l.length := by
   intro l vs es k1 k2
   induction k1 generalizing es with
   | nil => cases k2; exact ⟨[], .nil, .nil, rfl⟩
   | @cons p q ps qs hq t ih =>
    cases k2 with
    | cons e1 e2 e3 =>
     obtain ⟨xs, v1, v2, v3⟩ := ih e3
     rw [← hq.1] at e1
     obtain ⟨k, v⟩ := p
     refine ⟨kV k :: xs, .cons ?_ v1, .cons ?_ v2, by simp [v3]⟩
     ·cases k with
      | inl i => exact Value.isInt_shape e1
      | inr x => exact Value.isStrOf_shape e1
     ·cases k with
      | inl i => exact di
      | inr x => show DatS S H (.str x) (.str x); simp only [DatS]
  obtain ⟨xs, v1, v2, v3⟩ := gen kv h5
  exact ⟨es, ep, xs, ⟨o, h1, h2, h3⟩, y, by rw [← Array.length_toList, v3]; exact z, v1, v2⟩
 ·obtain ⟨z, y, vs, kt, o, es, ep, h1, h2, h3, h4, _⟩ := z1P I.hok h
  have gen : ∀ {l : List (List Key × V)} {vs : List (List Key × Addr × Value)}, KT H l vs → ∃ xs, Vals xs ((vs.map (entryOfKey (tupleKind (ze X.prog X.w)))).map (·.key)) ∧ DatsS S H ((l.map fun kv => (kT kv.1, kv.2)).map (·.1)) xs ∧ vs.length = l.length := by
   intro l vs k1
   induction k1 with
   | nil => exact ⟨[], .nil, .nil, rfl⟩
   | @cons p q ps qs hq t ih =>
    obtain ⟨xs, v1, v2, v3⟩ := ih
    refine ⟨.ref q.2.1 :: xs, .cons rfl v1, .cons ?_ v2, by simp [v3]⟩
    show DatS S H (kT p.1) (.ref q.2.1)
    unfold kT
    simp only [DatS]
    exact ⟨_, _, rfl, hq.2.1, z1i p.1⟩
  obtain ⟨xs, v1, v2, v3⟩ := gen kt
  refine ⟨es, ep, xs, ⟨o, h1, h2, h3⟩, y, ?_, by rw [h4]; exact v1, v2⟩
  rw [← Array.length_toList, h4, List.length_map, v3]; exact z
theorem z2U {pins : List (Addr × Obj)} {s : Shared} {σ : L2.St} {H : Hp} {Q : VK} {S : Addr → Prop} {a : Addr} {kvs : List (PyData × PyData)} {ks : List (PyData × V)} (hc : X.calm = true) (I : L2.Inv X pins σ H s) (hS : ∀ a, S a → H a ≠ none) (h : DctAt H a ks) (hd : DctS S H kvs ks) (hs : zu (kvs.map (·.1)) = true)
  (q : ∀ v H', Same H H' → DatS S H' (.list (xc keyI (kvs.map (·.1)))) v → Q v H') : wpAny (model X.prog X.w) X.A (call (.builtin "sorted") [.ref a]) (EP X pins σ Q) X.xe s := by
 obtain ⟨es, ep, xs, h1, h2, h3, rv, dv⟩ := z1L (S := S) I h hd
 exact xF I hS dv rv hs (fun Q' hq' => z5b (A := X.A.in1) (I.ok.hd hc) h2 h3 h1 hq') q
noncomputable def yZ : List PyData → Option PyData
 | [.dict kvs] => if zu (kvs.map (·.1)) = true then some (.list (xc keyI (kvs.map (·.1)))) else none
 | ds => xi ds
theorem z2g (hc : X.calm = true) (hu : X.A.units + 64 < cLine) : CallR X (.builtin "sorted") (rDn yZ) := by
 intro pins s σ H xs us Q I r h
 obtain ⟨S, ds, rr, hS, h1, hf, q⟩ := h
 by_cases hk : ∃ kvs, ds = [.dict kvs]
 ·obtain ⟨kvs, rfl⟩ := hk
  simp only [yZ] at hf
  split at hf
  next hs =>
   cases hf
   obtain ⟨v, rfl, r1⟩ := all1 h1
   obtain ⟨a, ks, rfl, g1, k1⟩ := u4 r1
   obtain ⟨u, rfl, ru⟩ := xY r
   cases ru
   exact z2U hc I hS g1 k1 hs q
  next => cases hf
 ·have e : yZ ds = xi ds := by
   unfold yZ
   split
   next kvs => exact absurd ⟨kvs, rfl⟩ hk
   next => rfl
  rw [e] at hf
  exact z41 hu pins s σ H xs us Q I r ⟨S, ds, rr, hS, h1, hf, q⟩
end L2
namespace L2
open PySem PySem.Spec PyProof.Rows
section
variable {X : Cx}
theorem Inv.freeze {pins : List (Addr × Obj)} {σ : L2.St} {H : Hp} {s : Shared} {a : Addr} {u : HO} (I : L2.Inv X pins σ H s) (e : H a = some u) (hk : z0F u) : ∃ o, s.heap.get? a = some o ∧ L2.Inv X pins σ (upd H a (.frz o u)) s := by
 have ok := I.hok a u e
 have mu : Mut (some u) := by cases u <;> first | exact True.intro | exact hk
 obtain ⟨o, ho⟩ : ∃ o, s.heap.get? a = some o := by
  cases u with
  | dK l => obtain ⟨_, _, _, _, o, _, _, q, _⟩ := ok; exact ⟨_, q⟩
  | dT l => obtain ⟨_, _, _, _, o, _, _, q, _⟩ := ok; exact ⟨_, q⟩
  | _ => exact hk.elim
 refine ⟨o, ho, ?_⟩
 have nown : ∀ c y, H c = some (.own y) → c ≠ a := fun c y r z => by subst z; rw [e] at r; cases r; exact mu
 have ntup : ∀ c xs, H c = some (.tup xs) → c ≠ a := fun c xs r z => by subst z; rw [e] at r; cases r; exact mu
 have new : ObjOk X.prog X.w (upd H a (.frz o u)) s.heap a (.frz o u) := ⟨ho, ok.stay (fun c v _ q => q) (fun c r => by rw [zF (nown c a r)]; exact r) fun c xs r => by rw [zF (ntup c xs r)]; exact r⟩
 have := I.write (t' := s.toks) (h' := s.heap) (x := a) (e := a) (o := .frz o u) (by rw [e]; exact mu) (.inl rfl) (fun b v _ q => q) ⟨o, ho⟩ new
 exact this
theorem Inv.thaw {pins : List (Addr × Obj)} {σ : L2.St} {H : Hp} {s : Shared} {a : Addr} {o : Obj} {u : HO} (I : L2.Inv X pins σ H s) (e : H a = some (.frz o u)) (h0 : ∀ o u, X.H₀ a ≠ some (.frz o u)) : L2.Inv X pins σ (upd H a u) s := by
 have ne : ∀ {b : Addr} {x : Option HO}, H b = x → x ≠ some (.frz o u) → b ≠ a := fun {b x} r z q => by subst q; rw [e] at r; exact z r.symm
 have ok := I.hok a _ e
 have stay : ∀ {b : Addr} {w : HO}, ObjOk X.prog X.w H s.heap b w → ObjOk X.prog X.w (upd H a u) s.heap b w := fun {b w} q =>
  q.stay (fun c v _ q => q) (fun c r => by rw [zF (ne r (fun z => nomatch z))]; exact r) fun c xs r => by rw [zF (ne r (fun z => nomatch z))]; exact r
 refine ⟨I.ok, I.os, I.bare, ⟨I.base.keep, I.base.slot, fun b w q n hx => ?_, I.base.there, fun b xs q => ?_, fun b w v q => ?_, fun b ps q => ?_⟩, I.loc, I.cell, ?_, fun x c q => ?_, fun p hp => ?_, fun b w q => ?_, I.len⟩
 ·have r := I.base.free b w q n hx
  rw [zF (ne r (fun z => nomatch z))]; exact r
 ·have r := I.base.tups b xs q
  rw [zF (ne r (fun z => nomatch z))]; exact r
 ·have r := I.base.frzs b w v q
  have hb : b ≠ a := fun z => by subst z; exact h0 w v q
  rw [zF hb]; exact r
 ·obtain ⟨more, r⟩ := I.base.tbls b ps q
  exact ⟨more, by rw [zF (ne r (fun z => nomatch z))]; exact r⟩
 ·rw [zF (ne I.free (fun z => nomatch z))]; exact I.free
 ·rw [zF (ne (I.freeC x c q) (fun z => nomatch z))]; exact I.freeC x c q
 ·obtain ⟨p1, p2, p3⟩ := I.pin p hp
  exact ⟨p1, by rw [zF (ne p2 (fun z => nomatch z))]; exact p2, p3⟩
 ·by_cases hb : b = a
  ·subst hb
   rw [zC] at q; cases q
   exact stay ok.2
  ·rw [zF hb] at q
   exact stay (I.hok b w q)
noncomputable def Thw (H : Hp) (Z : Hp → Prop) (H1 : Hp) : Prop := Z H1 ∨ ∃ a o u, (∀ o u, H a ≠ some (.frz o u)) ∧ H1 a = some (.frz o u) ∧ Z (upd H1 a u)
theorem Inv.thw {pins pins0 : List (Addr × Obj)} {σ σ0 : L2.St} {H H1 : Hp} {s s0 : Shared} {Z : Hp → Prop} (I0 : L2.Inv X pins0 σ0 H s0) (I : L2.Inv X pins σ H1 s) (h : Thw H Z H1) : ∃ H2, L2.Inv X pins σ H2 s ∧ Z H2 := by
 rcases h with h | ⟨a, o, u, hn, e, h⟩
 ·exact ⟨H1, I, h⟩
 ·exact ⟨_, I.thaw e fun o u z => hn o u (I0.base.frzs a o u z), h⟩
theorem z75 {st : Stmt} {t : TS} (h : PS X st t) : PS X st (fun D σ H => t { D with nx := fun σ1 H1 => Thw H (D.nx σ1) H1 } σ H) := fun pins s σ H D I q =>
 thn (h pins s σ H _ I q) fun f s1 q1 => by
  cases f with
  | next =>
   obtain ⟨σ1, H1, I1, q1⟩ := q1
   obtain ⟨H2, I2, q2⟩ := Inv.thw I I1 q1
   exact ⟨σ1, H2, I2, q2⟩
  | brk => exact q1
  | cont => exact q1
  | ret u => exact q1
end
noncomputable def Mv (H H' : Hp) : Prop := (∀ b xs, H b = some (.tup xs) → H' b = some (.tup xs)) ∧ (∀ b xs, H b = some (.lst xs) → H' b = some (.lst xs)) ∧ ∀ b u, z0F u → Rd H b u → Rd H' b u
theorem z7J {H : Hp} {a : Addr} {u : HO} {o : Obj} (e : H a = some u) (hd : z0F u) : Mv H (upd H a (.frz o u)) := by
 refine ⟨fun b xs q => ?_, fun b xs q => ?_, fun b w hw q => ?_⟩
 ·rw [zF (fun z => by subst z; rw [e] at q; cases q; exact hd)]; exact q
 ·rw [zF (fun z => by subst z; rw [e] at q; cases q; exact hd)]; exact q
 ·by_cases hb : b = a
  ·subst hb
   rcases q with q | ⟨o', q⟩
   ·rw [e] at q; cases q; exact .inr ⟨o, zC⟩
   ·rw [e] at q; cases q; exact hd.elim
  ·rcases q with q | ⟨o', q⟩
   ·exact .inl (by rw [zF hb]; exact q)
   ·exact .inr ⟨o', by rw [zF hb]; exact q⟩
theorem z8E {H : Hp} {a : Addr} {u : HO} {o : Obj} (e : H a = some (.frz o u)) : Mv H (upd H a u) := by
 refine ⟨fun b xs q => ?_, fun b xs q => ?_, fun b w hw q => ?_⟩
 ·rw [zF (fun z => by subst z; rw [e] at q; cases q)]; exact q
 ·rw [zF (fun z => by subst z; rw [e] at q; cases q)]; exact q
 ·by_cases hb : b = a
  ·subst hb
   rcases q with q | ⟨o', q⟩
   ·rw [e] at q; cases q; exact hw.elim
   ·rw [e] at q; cases q; exact .inl zC
  ·rcases q with q | ⟨o', q⟩
   ·exact .inl (by rw [zF hb]; exact q)
   ·exact .inr ⟨o', by rw [zF hb]; exact q⟩
theorem DctAt.mv {H H' : Hp} {a : Addr} {ks : List (PyData × V)} (m : Mv H H') (h : DctAt H a ks) : DctAt H' a ks := by
 rcases h with ⟨l, h, e⟩ | ⟨l, h, e⟩
 ·exact .inl ⟨l, m.2.2 _ _ True.intro h, e⟩
 ·exact .inr ⟨l, m.2.2 _ _ True.intro h, e⟩
mutual
theorem DatS.mv {S : Addr → Prop} {H H' : Hp} (s : Mv H H') : ∀ {d : PyData} {v : V}, DatS S H d v → DatS S H' d v
 | .none, _, h => by simp only [DatS] at h ⊢; exact h
 | .bool _, _, h => by simp only [DatS] at h ⊢; exact h
 | .int _, _, h => by simp only [DatS] at h ⊢; exact h
 | .str _, _, h => by simp only [DatS] at h ⊢; exact h
 | .list _, _, h => by
  simp only [DatS] at h ⊢
  obtain ⟨a, xs, e, h0, h1, h2⟩ := h
  exact ⟨a, xs, e, h0, s.2.1 _ _ h1, DatsS.mv s h2⟩
 | .tuple _, _, h => by
  simp only [DatS] at h ⊢
  obtain ⟨a, xs, e, h1, h2⟩ := h
  exact ⟨a, xs, e, s.1 _ _ h1, DatsS.mv s h2⟩
 | .dict _, _, h => by
  simp only [DatS] at h ⊢
  obtain ⟨a, xs, e, h0, h1, h2⟩ := h
  exact ⟨a, xs, e, h0, DctAt.mv s h1, DctS.mv s h2⟩
theorem DatsS.mv {S : Addr → Prop} {H H' : Hp} (s : Mv H H') : ∀ {ds : List PyData} {xs : List V}, DatsS S H ds xs → DatsS S H' ds xs
 | [], _, h => by simp only [DatsS] at h ⊢; exact h
 | _ :: _, _, h => by
  simp only [DatsS] at h ⊢
  obtain ⟨x, r, e, h1, h2⟩ := h
  exact ⟨x, r, e, DatS.mv s h1, DatsS.mv s h2⟩
theorem DctS.mv {S : Addr → Prop} {H H' : Hp} (s : Mv H H') : ∀ {ds : List (PyData × PyData)} {xs : List (PyData × V)}, DctS S H ds xs → DctS S H' ds xs
 | [], _, h => by simp only [DctS] at h ⊢; exact h
 | (_, _) :: _, _, h => by
  simp only [DctS] at h ⊢
  obtain ⟨x, r, e, h1, h2⟩ := h
  exact ⟨x, r, e, DatS.mv s h1, DctS.mv s h2⟩
end
theorem Dat1.mv {T S : Addr → Prop} {H H' : Hp} (s : Mv H H') {d : PyData} {v : V} (h : Dat1 T S H d v) : Dat1 T S H' d v := by
 cases d <;> simp only [Dat1] at h ⊢
 case list => obtain ⟨b, xs, e, h0, h1, h2⟩ := h; exact ⟨b, xs, e, h0, s.2.1 _ _ h1, DatsS.mv s h2⟩
 case dict => obtain ⟨b, xs, e, h0, h1, h2⟩ := h; exact ⟨b, xs, e, h0, h1.mv s, DctS.mv s h2⟩
 all_goals exact DatS.mv s h
noncomputable def Gh.fz (g : Gh) (a : Addr) (o : Obj) (u : HO) : Gh := ⟨g.aS, g.ns, g.aT, g.S0, fun b => if b = a then (match g.H0 a with | none => none | some _ => some (.frz o u)) else g.H0 b⟩
theorem Gh.fz_ne {g : Gh} {a b : Addr} {o : Obj} {u : HO} (h : b ≠ a) : (g.fz a o u).H0 b = g.H0 b := by unfold Gh.fz; exact if_neg h
theorem Gh.fz_none {g : Gh} {a : Addr} {o : Obj} {u : HO} (h : g.H0 a = none) : (g.fz a o u).H0 a = none := by
 unfold Gh.fz; show (if a = a then _ else _) = _; rw [if_pos rfl, h]
theorem Gh.fz_some {g : Gh} {a : Addr} {o : Obj} {u w : HO} (h : g.H0 a = some w) : (g.fz a o u).H0 a = some (.frz o u) := by
 unfold Gh.fz; show (if a = a then _ else _) = _; rw [if_pos rfl, h]
section
variable {K : W.Frag} {g : Gh} {ow : Nat → Option Addr} {ρ : Env'} {n n' : Nat} {σ : St} {H H' : Hp} {a : Addr} {o : Obj} {u : HO}
theorem Frm.fz (f : Frm K g ow ρ n σ H) (e : H a = some u) (hd : z0F u) (hS : ¬ g.S ow a) : Frm K (g.fz a o u) ow ρ n σ (upd H a (.frz o u)) := by
 have m : Mv H (upd H a (.frz o u)) := z7J e hd
 have hT : g.aT ≠ some a := fun z => hS (.inr (.inl z))
 have h0 : ∀ w, g.H0 a = some w → w = u := fun w q => by
  have := f.ext a w q (.inl hT)
  rw [e] at this; cases this; rfl
 refine ⟨?_, fun b q => m.2.1 _ _ (f.twn b q), fun b q => ?_, fun b w q k => ?_, fun i d q => ?_, fun i x q => ?_, fun i b q => ?_, f.inj, f.len⟩
 ·rcases f.scr with h | ⟨h1, h2⟩
  ·exact .inl h
  ·refine .inr ⟨h1, ?_⟩
   show SqL K (g.fz a o u).H0 g.aS _
   rcases h2 with h | h
   ·have hb : g.aS ≠ a := fun z => by
     rcases h with h | ⟨ob, h⟩
     ·rw [z] at h; have := h0 _ h; rw [← this] at hd; exact hd
     ·rw [z] at h; have := h0 _ h; rw [← this] at hd; exact hd
    rcases h with h | ⟨ob, h⟩
    ·exact .inl (.inl (by rw [Gh.fz_ne hb]; exact h))
    ·exact .inl (.inr ⟨ob, by rw [Gh.fz_ne hb]; exact h⟩)
   ·exact .inr h
 ·by_cases hb : b = a
  ·subst hb
   cases z : g.H0 b with
   | none => exact absurd z (f.sub b q)
   | some w => rw [Gh.fz_some z]; intro z; cases z
  ·rw [Gh.fz_ne hb]; exact f.sub b q
 ·by_cases hb : b = a
  ·subst hb
   cases z : g.H0 b with
   | none => rw [Gh.fz_none z] at q; cases q
   | some w' => rw [Gh.fz_some z] at q; cases q; exact zC
  ·rw [Gh.fz_ne hb] at q
   rw [zF hb]; exact f.ext b w q k
 ·obtain ⟨v, e1, r⟩ := f.val i d q
  refine ⟨v, e1, ?_⟩
  cases d with
  | p x => exact DatS.mv m r
  | scr => exact r
  | town => exact r
  | fn => exact r
  | exc b C => exact ⟨r.1, r.2.1, by rw [zF (fun z => by have k := r.2.2; subst z; rw [e] at k; cases k; exact hd)]; exact r.2.2⟩
 ·obtain ⟨b, e1, e2, r⟩ := f.own i x q
  exact ⟨b, e1, e2, Dat1.mv m r⟩
 ·obtain ⟨q1, ⟨w, q2, q3⟩, q4, q5⟩ := f.owi i b q
  have hb : b ≠ a := fun z => hS (.inr (.inr ⟨i, z ▸ q⟩))
  exact ⟨by rw [Gh.fz_ne hb]; exact q1, ⟨w, by rw [zF hb]; exact q2, q3⟩, q4, q5⟩
theorem z9M {T : Addr → Prop} (e : H a = some u) (hd : z0F u) (hT : ¬ T a) (k : Kp T (upd H a (.frz o u)) H') : H' a = some (.frz o u) ∧ Kp T H (upd H' a u) := by
 have h1 : H' a = some (.frz o u) := k _ _ zC (.inl hT)
 refine ⟨h1, fun b w q z => ?_⟩
 by_cases hb : b = a
 ·subst hb; rw [e] at q; cases q; exact zC
 ·rw [zF hb]; exact k _ _ (by rw [zF hb]; exact q) z
end
end L2
namespace L2
open PySem PySem.Spec PyProof.Rows
noncomputable def Itk (a : Addr) (o : Obj) (u : HO) (xs : List V) : It :=
 ⟨fun i H => H a = some (.frz o u) ∧ i < xs.length, fun i H x H' => H' = H ∧ (i < xs.length → xs[i]? = some x), fun i H => H a = some (.frz o u) ∧ xs.length ≤ i⟩
theorem z5L {P : Program} {w : World} {K : W.Frag} {tg : Expr} {a it : Addr} {o : Obj} {u : HO} {xs : List V} {es : Array DictEntry} {ep : Nat} (hx : o.ExactDict) (hd : o.data = .dict es ep) (rv : Vals xs (es.toList.map (·.key))) :
  Turn P w K tg (Itk a o u xs) [it] it (fun i h => h.IsKeyIter it a i es.size ep ∧ i ≤ es.size) where
 mem := by simp
 obj := fun i h st b hb => by
  have e : b = it := by simpa using hb
  subst e
  obtain ⟨⟨o, e, c, d⟩, _⟩ := st
  exact ⟨o, e, fun v z => by rw [d] at z; cases z⟩
 keep := fun i h h' st k => ⟨st.1.at fun o e => k it (by simp) o e, st.2⟩
 item := by
  intro X hP hw hK hc i pins s σ H E I hf st hg
  subst hP hw hK
  obtain ⟨hfz, hlt⟩ := hg
  have hl : xs.length = es.size := by
   have := rv.length
   simpa using this
  have hi : i < es.size := hl ▸ hlt
  have ho : s.heap.get? a = some o := (show ObjOk X.prog X.w H s.heap a (.frz o u) from I.hok a _ hfz).1
  obtain ⟨f0, f1, f2, f3, f4, f5⟩ := hf it (by simp)
  obtain ⟨v, hv, ru⟩ := rv.get (i := i) (x := xs[i]) (List.getElem?_eq_getElem hlt)
  have ev : v = es[i].key := by
   rw [List.getElem?_map, Array.getElem?_toList, Array.getElem?_eq_getElem hi] at hv
   cases hv; rfl
  subst ev
  refine z3t st.1 ⟨o, ho, hx, hd⟩ hi fun h' st' sb => ?_
  have I1 : Inv X pins σ H { s with heap := h' } := I.turned (t' := s.toks) (fun b o hb e => (sb.2 b hb).trans e) f0 f1 f3 f4 f5
  obtain ⟨o', e, c, d⟩ := id st'
  exact ⟨_, rfl, z5c (s := { s with heap := h' }) e c d (by decide) ⟨xs[i], H, I1, ru, ⟨rfl, fun _ => List.getElem?_eq_getElem hlt⟩, ⟨st', hi⟩, fun b hb => (hf b hb).1⟩⟩
 done := by
  intro X hP hw hK hc i pins s σ H E I hf st hg
  subst hP hw hK
  obtain ⟨hfz, hge⟩ := hg
  have hl : xs.length = es.size := by
   have := rv.length
   simpa using this
  obtain ⟨st, hle⟩ := st
  obtain rfl : i = es.size := Nat.le_antisymm hle (hl ▸ hge)
  have ho : s.heap.get? a = some o := (show ObjOk X.prog X.w H s.heap a (.frz o u) from I.hok a _ hfz).1
  obtain ⟨f0, f1, f2, f3, f4, f5⟩ := hf it (by simp)
  exact z5z (I.ok.hd hc) st ⟨o, ho, hx, hd⟩ fun h' eb => ⟨rfl, I.turned (t' := s.toks) (fun b o hb e => eb b o hb e) f0 f1 f3 f4 f5⟩
 self := fun _ _ _ _ _ st h => wpAny_pyIter_keyiter st.1 h
section
variable {X : Cx} {tg : Expr}
theorem z6M {l : Expr} {tl : TE} (hl : PE X l tl) : PI X tg l (fun σ H R => tl σ H fun x H1 => ∃ (a : Addr) (u : HO) (S : Addr → Prop) (kvs : List (PyData × PyData)) (ks : List (PyData × V)), x = .ref a ∧ Rd H1 a u ∧ z0F u ∧ DctAt H1 a ks ∧ DctS S H1 kvs ks ∧
  ∀ o xs, DatsS S H1 (kvs.map (·.1)) xs → (H1 a = some u → R (Itk a o u xs) (upd H1 a (.frz o u))) ∧ (H1 a = some (.frz o u) → R (Itk a o u xs) H1)) := by
 intro pins s σ H R I h
 refine thn (hl pins s σ H _ I h) fun v s1 ⟨x, H1, I1, r1, q1⟩ => ?_
 obtain ⟨a, u, S, kvs, ks, e, hu, hdu, hk, hd, q⟩ := q1
 subst e
 cases r1
 obtain ⟨es, ep, xs, ⟨o, ho, hx, hdat⟩, hsys, hz, rv, dv⟩ := z1L (S := S) I1 hk hd
 have go : ∀ H2, Inv X pins σ H2 s1 → R (Itk a o u xs) H2 → wpAny (model X.prog X.w) X.A (pyIter (.ref a)) (PIE X pins σ tg R) X.xe s1 := fun H2 I2 q2 => by
  have fp : ∀ b ∈ [s1.heap.objs.size], FpOk X pins H2 b := fun b hb => by
   have e : b = s1.heap.objs.size := by simpa using hb
   subst e
   exact I2.fpOk (Nat.le_refl _) (I2.hok.fresh (Nat.le_refl _))
  refine z6h hsys ⟨o, ho, hx, hdat⟩ ?_
  exact ⟨s1.heap.objs.size, [s1.heap.objs.size], _, _, _, rfl, I2.kept (t' := s1.toks) fun b o e => Heap.get?_push_of_some _ e, z5L hx hdat rv, ⟨⟨_, Heap.get?_push_size _ rfl, rfl, rfl⟩, Nat.zero_le _⟩, fp, q2⟩
 rcases hu with hu | ⟨o2, hu⟩
 ·obtain ⟨o2, ho2, I2⟩ := Inv.freeze I1 hu hdu
  rw [ho] at ho2; cases ho2
  exact go _ I2 ((q o xs dv).1 hu)
 ·have ho2 : s1.heap.get? a = some o2 := (show ObjOk X.prog X.w H1 s1.heap a (.frz o2 u) from I1.hok a _ hu).1
  rw [ho] at ho2; cases ho2
  exact go _ I1 ((q o xs dv).2 hu)
end
section
variable {K : W.Frag} {Er : Str → Hp → Prop} {X : Cx} {e a b c tg it elt : Expr} {m ma mb : Env' → Mx D} {mc mt : Env' → Mx Bool} {pos p2 : Pos}
theorem z1t {tc : TT} {σ : St} {Q : VK} {g : Gh} {ow : Nat → Option Addr} {ρ : Env'} {n : Nat} {H1 : Hp} {ds : List PyData} {xs : List V} {J : It} (htc : ∀ σ H Q, rdG RT K Er mc σ H Q → tc σ H Q) (fr : Frm K g ow ρ n σ H1) (hl : ds.length ≤ lim) (hd : DatsS (g.S ow) H1 ds xs) (wk : Walks g.T H1 J xs)
  (q : AftG (fun _ H2 x v => RF g (g.S ow) H1 H2 x v) g Er H1 ((zP mc m ρ ds [] >>= fun l => pure (PyData.list l)) n) Q) : ∃ (n : Nat) (W : Nat → List V → Hp → Prop), W 0 [] H1 ∧ CompW J σ tc (rdG RE K Er m) n W ∧ ∀ ys H', W n ys H' → ∀ D, H' D = none → Q (.ref D) (upd H' D (.lst ys)) := by
 have hlen := hd.length
 refine ⟨xs.length, fun i ys H' => ∃ acc n', Kp g.T H1 H' ∧ Twn g H' n' ∧ DatsS (g.S ow) H' acc ys ∧ AftG (fun _ H2 x v => RF g (g.S ow) H1 H2 x v) g Er H' ((zP mc m ρ (ds.drop i) acc >>= fun l => pure (PyData.list l)) n') Q,
  ⟨[], n, Kp.refl _ _, fr.twn, .nil, by rw [List.drop_zero]; exact q.imp (fun _ _ _ z => z) fun _ _ z => z⟩, ⟨yR (by rw [← hlen]; exact hl), fun ys H' ⟨_, _, k, _⟩ => wk.stop H' k, fun i ys H' hi ⟨_, _, k, _⟩ => wk.go i H' k hi, fun i ys H' v H'' hi ⟨acc, n', k, t, dd, q⟩ y => ?_⟩, fun ys H' ⟨acc, n', k, t, dd, q⟩ D hD => ?_⟩
 ·obtain ⟨rfl, hv⟩ := wk.yld i H' v _ k y
  have hv := hv hi
  have hid : i < ds.length := by omega
  obtain ⟨v', ev, rv⟩ := hd.get (List.getElem?_eq_getElem hid)
  rw [hv] at ev; cases ev
  have rv' : Rep g (g.S ow) H'' (.p ds[i]) v := DatS.kp (k.mono Gh.ts) (fun _ z => .inl z) rv
  have f1 : Frm K g ow (ρ ++ [some (Sl.val (.p ds[i]))]) n' (σ ++ [some v]) H'' := (fr.kp k t).ext1 rv'
  rw [List.drop_eq_getElem_cons hid] at q
  simp only [zP, yJ] at q
  refine htc _ _ _ ⟨g, ow, _, n', f1, AftG.bind q fun tb n2 tb' H3 k3 t3 r3 c3 => ?_⟩
  cases r3
  have q3 := c3 (R3 := fun _ H2 x v => RF g (g.S ow) H1 H2 x v) fun _ _ _ z => z
  cases tb with
  | false =>
   refine ite_ff ⟨acc, n2, k.trans k3, t3, DatsS.kp (k3.mono Gh.ts) (fun _ z => .inl z) dd, ?_⟩
   simpa using q3
  | true =>
   simp only [if_true, yJ] at q3
   refine ite_tt ⟨g, ow, _, n2, f1.kp k3 t3, AftG.bind q3 fun yv n4 yv' H4 k4 t4 r4 c4 => ?_⟩
   have q4 := c4 (R3 := fun _ H2 x v => RF g (g.S ow) H1 H2 x v) fun _ _ _ z => z
   obtain ⟨z, ez, q5⟩ := yr q4
   obtain ⟨z', rfl, ez2⟩ := zl ez
   cases ez2
   exact ⟨acc ++ [z], n4, (k.trans k3).trans k4, t4, (DatsS.kp ((k3.trans k4).mono Gh.ts) (fun _ z => .inl z) dd).append (.cons r4 .nil), q5⟩
 ·rw [List.drop_of_length_le (by omega)] at q
  have q : AftG (fun _ H2 x v => RF g (g.S ow) H1 H2 x v) g Er H' (.ok (.list acc) n') Q := q
  refine q (.ref D) _ (Same.new hD).kp ((Same.new hD).twn t) ⟨D, rfl, xS k t hD, Pl.upd, ?_⟩
  simp only [Dat1]
  exact ⟨D, ys, rfl, id, zC, DatsS.kp (Kp.of (Same.new hD)) (fun b z => z.elim .inl fun e => .inr (e ▸ hD)) dd⟩
noncomputable def z6D : PyData → Option (List PyData)
 | .dict kvs => if kvs.length ≤ lim then some (kvs.map (·.1)) else none
 | _ => none
noncomputable def Mx.sure {α : Type} (m : Mx α) : Mx α := fun n => match m n with
 | .ok a n' => .ok a n'
 | _ => .bad
noncomputable def xo (mk : Env' → Mx D) (mc : Env' → Mx Bool) (me : Env' → Mx D) : Env' → Mx PyData := fun ρ => mk ρ >>= fun d => Mx.opt (onP z6D d) >>= fun ds => (zP mc me ρ ds []).sure >>= fun l => pure (.list l)
theorem z0n {S : Addr → Prop} {H : Hp} {a : Addr} {o : Obj} {u : HO} {xs : List V} (h : H a = some (.frz o u)) (hS : ¬ S a) : Walks S H (Itk a o u xs) xs :=
 ⟨fun i H' k hi => ⟨k _ _ h (.inl hS), hi⟩, fun i H' x H'' k y => y, fun H' k => ⟨k _ _ h (.inl hS), Nat.le_refl _⟩⟩
noncomputable abbrev piK (K : W.Frag) (Er : Str → Hp → Prop) (mk : Env' → Mx D) : TI := fun σ H R => rdG RE K Er mk σ H fun x H1 => ∃ (a : Addr) (u : HO) (S : Addr → Prop) (kvs : List (PyData × PyData)) (ks : List (PyData × V)), x = .ref a ∧ Rd H1 a u ∧ z0F u ∧ DctAt H1 a ks ∧ DctS S H1 kvs ks ∧
  ∀ o xs, DatsS S H1 (kvs.map (·.1)) xs → (H1 a = some u → R (Itk a o u xs) (upd H1 a (.frz o u))) ∧ (H1 a = some (.frz o u) → R (Itk a o u xs) H1)
theorem z2r {mk : Env' → Mx D} {tc : TT} {σ : St} {H : Hp} {Q : VK} (htc : ∀ σ H Q, rdG RT K Er mc σ H Q → tc σ H Q) (h : rdG RF K Er (xo mk mc m) σ H Q) : z4z (piK K Er mk) tc (rdG RE K Er m) σ H (fun x H1 => Thw H (Q x) H1) := by
 obtain ⟨g, ow, ρ, n, fr0, q0⟩ := h
 refine ⟨g, ow, ρ, n, fr0, ?_⟩
 refine AftG.bind q0 fun d n1 v H1 k01 t1 r c1 => ?_
 have q := c1 (R3 := RF g (g.S ow)) fun H2 b u r => z00 _ _ _ _ _ _ _ _ k01 t1 r
 have fr := fr0.kp k01 t1
 obtain ⟨ds, e, q2⟩ := yr q
 obtain ⟨x, rfl, e1⟩ := zl e
 cases x <;> simp only [z6D] at e1 <;> try (cases e1; done)
 rename_i kvs
 split at e1
 next hl =>
  cases e1
  obtain ⟨a, ks, rfl, hn, h1, h2⟩ := (show ∃ a ks, v = .ref a ∧ ¬ (g.S ow) a ∧ DctAt H1 a ks ∧ DctS (g.S ow) H1 kvs ks by simpa only [Rep, DatS] using r)
  have hT : ¬ g.T a := fun z => hn (.inr (.inl z))
  obtain ⟨u, hu, hdu⟩ : ∃ u, Rd H1 a u ∧ z0F u := by
   rcases h1 with ⟨l, h, _⟩ | ⟨l, h, _⟩
   ·exact ⟨_, h, True.intro⟩
   ·exact ⟨_, h, True.intro⟩
  have hl' : (kvs.map (·.1)).length ≤ lim := by rw [List.length_map]; exact hl
  have q3 : ∀ l n2, zP mc m ρ (kvs.map (·.1)) [] n1 = .ok l n2 → ∀ v H', Kp g.T H1 H' → Twn g H' n2 → RF g (g.S ow) H1 H' (.list l) v → Q v H' := fun l n2 ez => by
   have q2 : AftG (RF g (g.S ow)) g Er H1 (((zP mc m ρ (kvs.map (·.1)) []).sure >>= fun l => pure (PyData.list l)) n1) Q := q2
   rw [Mx.bind_def, show (zP mc m ρ (kvs.map (·.1)) []).sure n1 = .ok l n2 by unfold Mx.sure; rw [ez]] at q2
   exact q2
  have q4 : ∃ l n2, zP mc m ρ (kvs.map (·.1)) [] n1 = .ok l n2 := by
   have q2 : AftG (RF g (g.S ow)) g Er H1 (((zP mc m ρ (kvs.map (·.1)) []).sure >>= fun l => pure (PyData.list l)) n1) Q := q2
   rw [Mx.bind_def] at q2
   unfold Mx.sure at q2
   cases ez : zP mc m ρ (kvs.map (·.1)) [] n1 with
   | ok l n2 => exact ⟨l, n2, rfl⟩
   | err c n2 => rw [ez] at q2; exact q2.elim
   | bad => rw [ez] at q2; exact q2.elim
  obtain ⟨l, n2, ez⟩ := q4
  have q5 := q3 l n2 ez
  have run : ((zP mc m ρ (kvs.map (·.1)) [] >>= fun l => pure (PyData.list l)) n1) = .ok (.list l) n2 := by rw [Mx.bind_def, ez]; rfl
  refine ⟨a, u, g.S ow, kvs, ks, rfl, hu, hdu, h1, h2, fun o xs dv => ⟨fun hp => ?_, fun hf => ?_⟩⟩
  ·have f2 := fr.fz (o := o) hp hdu hn
   refine z1t (m := m) (Q := fun x H1 => Thw H (Q x) H1) (g := g.fz a o u) htc f2 hl' (DatsS.mv (z7J hp hdu) dv) (z0n zC hT) ?_
   rw [run]
   intro v H' k t r
   obtain ⟨e1, k1⟩ := z9M hp hdu hT (T := g.T) k
   have h0 : ∀ o u, H a ≠ some (.frz o u) := fun o' u' z => by
    have := k01 _ _ z (.inl hT)
    rw [hp] at this; cases this; exact hdu
   refine .inr ⟨a, o, u, h0, e1, q5 v _ k1 (fun b eb => (z8E e1).2.1 _ _ (t b eb)) ?_⟩
   obtain ⟨D, rfl, hD, ⟨w, hw, hnf⟩, dd⟩ := r
   have hDa : D ≠ a := fun z => by subst z; rw [zC] at hD; cases hD
   exact ⟨D, rfl, by rw [zF hDa] at hD; exact hD, ⟨w, by rw [zF hDa]; exact hw, hnf⟩, Dat1.mv (z8E e1) dd⟩
  ·refine z1t (m := m) (Q := fun x H1 => Thw H (Q x) H1) htc fr hl' dv (z0n hf hT) ?_
   rw [run]
   intro v H' k t r
   exact .inl (q5 v H' k t r)
 next => cases e1
theorem z1y {mk : Env' → Mx D} {i : Nat} {N N' : List Str} {sc scope : Scope} {x y : Str} {ifs : List Expr} {px py spos : Pos} {tc : TT} (hc : X.calm = true) (hN : X.N = N) (hsc : X.env.scope = sc) (h : wF N sc scope x N' = true) (hnd : X.N.Nodup) (hy : X.N[i]? = some y) (hl : X.env.scope.names.lookup y = some .local)
  (htc : ∀ σ H Q, rdG RT K Er mc σ H Q → tc σ H Q) (hi : DE K Er X it mk) (hf : ∀ C s H fp, PF (zZ X scope N' C s H fp) ifs tc) (he : ∀ C s H fp, DE K Er (zZ X scope N' C s H fp) elt m)
  (hsw : swapsWith (.ListComp elt [⟨.Name x px, it, ifs, 0⟩] scope pos) (some (.Name y py)) spos.line X.env = pure true := by rfl)
  (hs : ∀ x, foldedSetIterable it X.env x = pure x := by intro _; rfl) : DS K Er X (.Assign [.Name y py] (.ListComp elt [⟨.Name x px, it, ifs, 0⟩] scope pos) spos) (sSet i (mP (xo mk mc m))) :=
 (z75 (z4B hc hN hsc h hnd hy hl (z6M hi) hf he hsw hs)).imp fun σ H E h => z2r (Q := fun v H1 => E.nx (σ.set i (some v)) H1) htc (by
  have e : sSet i (mP (xo mk mc m)) = fun ρ => xo mk mc m ρ >>= fun z => pure (.nx (ρ.set i (some (Sl.val (.p z))))) := by
   funext ρ; unfold sSet mP; rw [yJ]; rfl
  rw [e] at h
  refine rs1 h fun g ow ρ n n1 z v H1 f k f1 r q => ?_
  obtain ⟨p, rfl, hp, _, d⟩ := r
  have hn : ¬ g.S ow p := fun z => f.dom p z hp
  refine q _ _ H1 (f1.setVal ?_) Stp.put
  show DatS _ _ z _
  cases z <;> simp only [Dat1, DatS] at d ⊢
  case list => obtain ⟨b, xs, e, _, h1, h2⟩ := d; cases e; exact ⟨p, xs, rfl, hn, h1, DatsS.kp (Kp.refl _ _) (fun _ z => .inl (.inl z)) h2⟩
  case dict => obtain ⟨b, xs, e, _, h1, h2⟩ := d; cases e; exact ⟨p, xs, rfl, hn, h1, DctS.kp (Kp.refl _ _) (fun _ z => .inl (.inl z)) h2⟩
  case tuple => obtain ⟨b, xs, e, h1, h2⟩ := d; exact ⟨b, xs, e, h1, DatsS.kp (Kp.refl _ _) (fun _ z => .inl (.inl z)) h2⟩
  all_goals cases d)
end
end L2
namespace L2
open PySem PySem.Spec PyProof.Rows
section
variable {K : W.Frag} {Er : Str → Hp → Prop} {X : Cx} {e a' b c tg it elt : Expr} {m ma mb : Env' → Mx D} {mc mt : Env' → Mx Bool} {sa : Env' → Mx Out} {pos p2 : Pos} {sts : List Stmt}
variable {g : Gh} {ow ow' : Nat → Option Addr} {ρ ρ' : Env'} {n n' : Nat} {σ σ' : St} {H H' H1 : Hp} {a : Addr} {o : Obj} {u : HO}
end
end L2
namespace PySem
namespace F
end F
section
variable {prog : Program} {w : World} {A : Around} {E : Value → Shared → Prop} {h : Heap} {g : Array GenState} {d : Drawn} {t : Nat} {os : OsState} {a : Addr} {o : Obj}
end
end PySem
namespace L2
open PySem PySem.Spec PyProof.Rows
section
variable {X : Cx} {pins : List (Addr × Obj)} {σ : St} {H : Hp} {s : Shared} {a : Addr} {y v : V} {u r : Value} {A : Around} {E : Value → Shared → Prop}
end
section
variable {K : W.Frag} {Er : Str → Hp → Prop} {X : Cx} {e : Expr} {m : Env' → Mx D} {pos : Pos}
end
end L2
namespace L2
open PySem PySem.Spec PyProof.Rows
section
variable {K : W.Frag} {Er : Str → Hp → Prop} {X : Cx} {o e f : Expr} {md mk mz : Env' → Mx D} {apos cpos : Pos}
end
section
variable {prog : Program} {w : World} {A : Around} {E : Value → Shared → Prop} {s : Shared}
end
section
variable {X : Cx}
variable {K : W.Frag} {Er : Str → Hp → Prop} {a : Expr} {ma : Env' → Mx D}
noncomputable def z2k : PyData → Bool
 | .tuple ds => (wO ds).isSome
 | x => (keyD x).isSome
theorem DctS.nil_ks {S : Addr → Prop} {H : Hp} {ks : List (PyData × V)} (h : DctS S H [] ks) : ks = [] := by simpa only [DctS] using h
end
end L2
namespace L2
open PySem PySem.Spec PyProof.Rows
section
variable {prog : Program} {w : World} {A : Around} {E : Value → Shared → Prop} {s : Shared}
theorem z6f {S L : Addr} {c0 : Nat} {ep : Nat} {es : Array DictEntry} {res : Value} {R : Result → Shared → Prop} (hh : A.handled = none) (hsys : (S == sysModules) = false) (hz : es.size ≤ sizeLine) (hS : DictIs s.heap S es ep)
  (hL : s.heap.get? L = some { cls := .type "list", data := .seq #[] c0 })
  (hR : ∀ h' tk c', (∀ b o, b ≠ L → s.heap.get? b = some o → h'.get? b = some o) → h'.get? L = some { cls := .type "list", dict := none, data := .seq (es.toList.map (·.key)).toArray c', slots := #[] } → R (.ok (.ret res)) { s with heap := h', toks := tk }) :
  wpAny (model prog w) A.in1 (Builtin.List.listExtendWith (.ref L) (.ref S) res)
   (fun fin s' => match fin with | .done f => R (.ok f) s' | .again c' => c'.quiet = true ∧ codeAny (model prog w) A c' R s') (fun e s' => R (.error e) s') s := by
 obtain ⟨o, ho, hex, hd⟩ := id hS
 have hSlt := Heap.lt_size ho
 have hLlt := Heap.lt_size hL
 have hSI : L ≠ S := fun e => by
  subst e
  rw [hL] at ho; cases ho
  have := hex.1
  simp at this
 have hT : Shared.TypeIs s (.ref S) "dict" := ⟨o, ho, hex.1⟩
 unfold Builtin.List.listExtendWith
 refine wpAny_bind (wpAny_typeOf (T := "dict") (v := .ref S) hT ?_)
 have h1 : Builtin.List.listSameRef (.ref L) (.ref S) = false := by simp [Builtin.List.listSameRef, hSI]
 have h2 : (Value.type "dict" == Value.type "list") = false := by decide
 have h3 : (Value.type "dict" == Value.type "tuple") = false := by decide
 simp only [h1, h2, h3, Bool.or_false, Bool.false_eq_true, if_false]
 refine wpAny_bind (z6h (s := s) hsys hS ?_)
 generalize hIo : ({ cls := .type "dict_keyiterator", data := .fields #[.ref S, .int 0 0, .int (es.size : Int) 0, .int (ep : Int) 0] } : Obj) = io
 have hT2 : Shared.TypeIs { s with heap := s.heap.push io } (.ref S) "dict" := ⟨o, Heap.get?_push_of_some _ ho, hex.1⟩
 refine wpAny_bind (wpAny_holding ?_)
 unfold Builtin.List.listLengthHint
 refine wpAny_bind (wpAny_specialOf (T := "dict") (v := .ref S) hT2 z5y ?_)
 wp_delta
 refine wpAny_bind (wpAny_isInstance (T := "dict") (v := .ref S) (b := true) hT2 (by rw [isSubtype_type]; kernel_rfl) ?_)
 show wpAny _ A.in1 (typeOf (Value.ref S) >>= _) _ _ _
 refine wpAny_bind (wpAny_typeOf (T := "dict") (v := .ref S) hT2 ?_)
 refine wpAny_pure ?_
 rw [if_pos (by decide)]
 have hSf : L ∉ [s.heap.objs.size, S] := by
  simp only [List.mem_cons, List.mem_singleton, List.not_mem_nil, or_false, not_or]
  exact ⟨Nat.ne_of_lt hLlt, hSI⟩
 have hL1 : (s.heap.push io).get? L = some { cls := .type "list", data := .seq #[] c0 } := Heap.get?_push_of_some _ hL
 have hneI : S ≠ s.heap.objs.size := Nat.ne_of_lt hSlt
 refine wpAny_bind (wpAny_rule ?_)
 unfold Builtin.List.listTouch
 refine wpAny_bind (wpAny_bind (listUpdate_at hL1 rfl ?_ (by decide) (by decide)))
 have g1 := Heap.get?_update_self (Obj.mapSeq (·.push .none)) hL1 rfl
 refine listUpdate_at g1 rfl ?_ (by decide) (by decide)
 have g2 := Heap.get?_update_self (Obj.mapSeq (·.pop)) g1 rfl
 have sb := (Heap.SameBut.update (s.heap.push io) L (Obj.mapSeq (·.push .none))).trans (Heap.SameBut.update _ L (Obj.mapSeq (·.pop)))
 generalize hH2 : ((s.heap.push io).update L (Obj.mapSeq (·.push .none))).update L (Obj.mapSeq (·.pop)) = H2 at g2 sb ⊢
 have hIT : H2.get? s.heap.objs.size = some io := sb.extBut _ _ (Nat.ne_of_gt hLlt) (Heap.get?_push_size _ (by subst hIo; rfl))
 have hI0 : H2.IsKeyIter s.heap.objs.size S 0 es.size ep := ⟨_, hIT, by subst hIo; rfl, by subst hIo; rfl⟩
 have hS2 : DictIs H2 S es ep := hS.at fun ob e => sb.extBut _ _ (Ne.symm hSI) (Heap.get?_push_of_some _ e)
 refine wpAny_pure ⟨plainId_quiet F.plain_extend_loop _, codeAny_extend_loopS (z69 (A := A.in1) (ep := ep) (es := es) hh s.heap.objs.size S hneI).toS hz _ hSf _ es.size 0 _ _ _ rfl (Nat.zero_le _) ⟨hI0, hS2⟩ g2 (ItemsOf.nil _) fun s' acc' c' hmv hS' hacc => ?_⟩
 obtain ⟨h', g', d', tk', os'⟩ := s'
 have eg : g' = s.gens := hmv.gens
 have ed : d' = s.drawn := hmv.drawn
 have eo : os' = s.os := hmv.os
 subst eg; subst ed; subst eo
 have eacc : acc'.toList = es.toList.map (·.key) := by
  refine List.ext_getElem? fun i => ?_
  rw [List.getElem?_map, Array.getElem?_toList, Array.getElem?_toList]
  cases e : acc'[i]? with
  | some v => exact (hacc.2 i v e).symm
  | none =>
   have h1 := Array.getElem?_eq_none_iff.mp e
   rw [hacc.1] at h1
   rw [Array.getElem?_eq_none (by omega)]; rfl
 have eacc2 : acc' = (es.toList.map (·.key)).toArray := by rw [← eacc]
 refine hR h' tk' c' (fun b ob hb e => hmv.heap b ob (fun hb2 => ?_) (sb.extBut _ _ hb (Heap.get?_push_of_some _ e))) (by rw [← eacc2]; exact hS')
 have hlt := Heap.lt_size e
 rcases List.mem_cons.mp hb2 with h | h
 ·exact hb h
 ·rw [List.mem_singleton.mp h] at hlt; exact absurd hlt (Nat.lt_irrefl _)
theorem uw {Q : Value → Shared → Prop} {S : Addr} {ep : Nat} {es : Array DictEntry} (hh : A.handled = none) (hsys : (S == sysModules) = false) (hz : es.size ≤ sizeLine) (hS : DictIs s.heap S es ep)
  (hQ : ∀ h' tk c', (∀ b o, s.heap.get? b = some o → h'.get? b = some o) →
   h'.get? s.heap.objs.size = some { cls := .type "list", dict := none, data := .seq (es.toList.map (·.key)).toArray c', slots := #[] } → Q (.ref s.heap.objs.size) { s with heap := h', toks := tk }) :
  wpAny (model prog w) A (call (.type "list") [.ref S]) Q E s := by
 refine callType_codes (Q₁ := fun obj s₁ => obj = .ref s.heap.objs.size ∧ s₁ = { s with heap := s.heap.push { cls := .type "list", data := .seq #[] } }) F.called_list (F.typeCall_list_1 _) F.entry_list_init
  (code_list_new _ ⟨rfl, rfl⟩) fun obj s₁ h₁ => ?_
 obtain ⟨rfl, rfl⟩ := h₁
 have hL : (s.heap.push { cls := .type "list", data := .seq #[] }).get? s.heap.objs.size = some { cls := .type "list", data := .seq #[] } := Heap.get?_push_size _ rfl
 have hD : DictIs (s.heap.push { cls := .type "list", data := .seq #[] }) S es ep := hS.at fun ob e => Heap.get?_push_of_some _ e
 have hne : S ≠ s.heap.objs.size := by
  obtain ⟨o, ho, _⟩ := id hS
  exact Nat.ne_of_lt (Heap.lt_size ho)
 refine ⟨⟨_, hL, rfl⟩, F.args_list_init_2 _ _, ?_⟩
 show wpAny _ _ (do let old ← Builtin.List.listItems (.ref s.heap.objs.size); Builtin.List.listUpdate (.ref s.heap.objs.size) (fun _ => #[]); letGo old.toList.reverse; Builtin.List.listExtendWith (.ref s.heap.objs.size) (.ref S) .none) _ _ _
 refine wpAny_bind ?_
 unfold Builtin.List.listItems
 refine wpAny_bind (wpAny_seqItems hL rfl (wpAny_pure ?_))
 show wpAny _ _ (updateSeq s.heap.objs.size (fun _ => #[]) >>= fun _ => letGo (#[] : Array Value).toList.reverse >>= fun _ => Builtin.List.listExtendWith (.ref s.heap.objs.size) (.ref S) .none) _ _ _
 refine wpAny_bind (wpAny_updateSeq hL rfl ?_)
 have hS₂ := Heap.get?_update_self (Obj.mapSeq (fun _ => (#[] : Array Value))) hL rfl
 have oth : ∀ b o, b ≠ s.heap.objs.size → (s.heap.push { cls := .type "list", data := .seq #[] }).get? b = some o → ((s.heap.push { cls := .type "list", data := .seq #[] }).update s.heap.objs.size (Obj.mapSeq (fun _ => (#[] : Array Value)))).get? b = some o :=
  fun b o hb e => (Heap.get?_update_other _ _ (Ne.symm hb)).trans e
 refine wpAny_bind (wpAny_letGo ?_)
 refine z6f (A := A.in1) hh hsys hz (hD.at fun ob e => oth S ob hne e) hS₂ fun h' tk c' hk hl => ?_
 exact ⟨rfl, hQ h' tk c' (fun b o e => hk b o (Nat.ne_of_lt (Heap.lt_size e)) (oth b o (Nat.ne_of_lt (Heap.lt_size e)) (Heap.get?_push_of_some _ e))) hl⟩
end
section
variable {X : Cx}
noncomputable abbrev z8h : List V → Hp → VK → Prop := fun xs H Q => (∃ p ys, xs = [.ref p] ∧ (SqL X.K H p ys ∨ SqT X.K H p ys) ∧ ∀ l, H l = none → Q (.ref l) (upd H l (.lst ys))) ∨
 ∃ a ks kvs S, xs = [.ref a] ∧ DctAt H a ks ∧ DctS S H kvs ks ∧ ∀ l vs, H l = none → DatsS S H (kvs.map (·.1)) vs → Q (.ref l) (upd H l (.lst vs))
theorem z2R (hc : X.calm = true) : CallR X (.type "list") (z8h (X := X)) := by
 refine CallR.or z0Y ?_
 intro pins s σ H xs us Q I r h
 obtain ⟨a, ks, kvs, S, rfl, g1, k1, q⟩ := h
 obtain ⟨u, rfl, rx⟩ := xY r
 cases rx
 obtain ⟨es, ep, ys, h1, h2, h3, rv, dv⟩ := z1L (S := S) I g1 k1
 refine uw (I.ok.hd hc) h2 h3 h1 fun h' tk c' kp e => ?_
 refine ⟨.ref s.heap.objs.size, _, I.laid (t' := tk) kp (Nat.le_refl _) (show ObjOk X.prog X.w _ h' _ (.lst ys) from ⟨?_, _, c', rv, e⟩), rfl, q _ _ (I.hok.fresh (Nat.le_refl _)) dv⟩
 rw [rv.length, List.length_map, Array.length_toList]; exact h3
variable {K : W.Frag} {Er : Str → Hp → Prop} {e k v o : Expr} {ms : Env' → Mx (List D)} {mk mv : Env' → Mx D} {pos : Pos}
variable {g : Gh} {ow : Nat → Option Addr} {ρ : Env'} {n n' : Nat} {σ : St} {H H' H1 : Hp}
noncomputable def z3L : List PyData → Option (List PyData)
 | [.list ds] => some ds
 | [.tuple ds] => some ds
 | [.dict kvs] => some (kvs.map (·.1))
 | _ => none
theorem z5A (h : PE X e (tCB (z8h (X := X)) (rdG RAW K Er ms))) : DF K Er X e (z4P z3L ms) := z84 h fun σ H Q hq => by
 obtain ⟨g, ow, ρ, n, f, q⟩ := hq
 refine ⟨g, ow, ρ, n, f, q.imp (fun _ _ _ z => z) fun vs H1 ⟨S, ds, zs, hS, h1, hf, q⟩ => ?_⟩
 match ds, hf, h1 with
 | [.list xs], hf, h1 =>
  cases hf
  obtain ⟨v, rfl, r⟩ := all1 h1
  obtain ⟨a, ys, rfl, g1, k1⟩ := yO r
  exact .inl ⟨a, ys, rfl, .inl (SqL.of g1), fun l hl => q l _ _ (Same.refl _) hl k1⟩
 | [.tuple xs], hf, h1 =>
  cases hf
  obtain ⟨v, rfl, r⟩ := all1 h1
  obtain ⟨a, ys, rfl, g1, k1⟩ := zy r
  exact .inl ⟨a, ys, rfl, .inr (SqT.of g1), fun l hl => q l _ _ (Same.refl _) hl k1⟩
 | [.dict kvs], hf, h1 =>
  cases hf
  obtain ⟨v, rfl, r⟩ := all1 h1
  obtain ⟨a, ks, rfl, g1, k1⟩ := u4 r
  exact .inr ⟨a, ks, kvs, S, rfl, g1, k1, fun l vs hl dv => q l _ _ (Same.refl _) hl dv⟩
end
end L2
namespace L2
open PySem PySem.Spec PyProof.Rows
section
variable {K : W.Frag} {Er : Str → Hp → Prop} {X : Cx} {e : Expr} {es : List Expr} {ms : Env' → Mx (List D)} {pos p : Pos}
noncomputable def mFnV (a : Addr) : Env' → Mx D := fun _ => pure (.fn a)
theorem z8o {a : Addr} (h : PE X e (tC (.ref a))) : DE K Er X e (mFnV a) := h.imp fun σ H Q ⟨g, ow, ρ, n, f, q⟩ => q (.ref a) H (Kp.refl _ _) f.twn rfl
noncomputable def isFn (o : Option (Option Sl)) (f : Addr) : Bool := match o with
 | some (some (Sl.val (.fn a))) => decide (a = f)
 | _ => false
theorem z6Z {o : Option (Option Sl)} {f : Addr} (h : isFn o f = true) : o = some (some (Sl.val (.fn f))) := by
 unfold isFn at h
 split at h
 next a => rw [of_decide_eq_true h]
 next => cases h
noncomputable def z2P (i : Nat) (f : Addr) (F : List D → Mx D) (ms : Env' → Mx (List D)) : Env' → Mx D := fun ρ => if isFn ρ[i]? f = true then zR F ms ρ else Mx.bad
theorem z5T {CX : CXT} {k i : Nat} {f : Addr} {fd : FuncData} {ps : List Str} {sp : Sp} {dvs : List V} {ds : List Value} {E : XK} {x : Str} {t : TA} (F : FnOk X.prog X.w X.K X.mg X.base CX k f fd ps sp) (hr : Room k X.A) (hn : PE X (.Name x p) (tVar i)) (hk : W.keepIn X.K (.ref f) = true) (hb : Binds X.K fd ps ds) (hd : Vals dvs ds) (hx : ua CX X E)
  (ha : PA X (e :: es) t) (he : starEach (e :: es) X.env = (false, eval e X.env) :: starEach es X.env := by rfl) (hpl : (backTo pos (starEach es X.env)).any (·.1) = false := by rfl) :
  PE X (.Call (.Name x p) (e :: es) [] pos) (fun σ H Q => σ[i]? = some (some (.ref f)) ∧ z88 sp dvs E t σ H Q) := by
 intro pins s σ H Q I h
 obtain ⟨h0, h⟩ := h
 refine wpAny_Call_Name_kw (thn (hn pins s σ H (fun v H1 => v = .ref f ∧ H1 = H) I ⟨.ref f, h0, rfl, rfl⟩) fun u s1 ⟨v, H1, I1, r1, e1, e2⟩ => ?_)
 subst e1 e2
 obtain rfl : u = Value.ref f := r1
 refine W.callWith_K (h₀ := X.base) I1.ok.mod.kin hk (thn (ha pos pins s1 σ H1 _ I1 h) fun us s2 ⟨vs, H2, I2, r, q⟩ => ⟨I2.kIn, ?_⟩) he hpl
 exact z5n F hr hb hd hx I2 r q
theorem z5V {F : List D → Mx D} {EW : Str → XK → Hp → Prop} {E : XK} {CX : CXT} {k i : Nat} {f : Addr} {fd : FuncData} {ps : List Str} {x : Str} (Fn : FnOk X.prog X.w X.K X.mg X.base CX k f fd ps (spD K EW F)) (hE : ∀ c H', Er c H' → EW c E H') (hr : Room k X.A) (hn : PE X (.Name x p) (tVar i)) (hk : W.keepIn X.K (.ref f) = true) (hb : Binds X.K fd ps []) (hx : ua CX X E)
  (ha : DA K Er X (e :: es) ms) (he : starEach (e :: es) X.env = (false, eval e X.env) :: starEach es X.env := by rfl) (hpl : (backTo pos (starEach es X.env)).any (·.1) = false := by rfl) :
  DE K Er X (.Call (.Name x p) (e :: es) [] pos) (z2P i f F ms) := (z5T Fn hr hn hk hb .nil hx ha he hpl).imp fun σ H Q h => by
 obtain ⟨g, ow, ρ, n, fr, q⟩ := h
 unfold z2P at q
 split at q
 next c =>
  obtain ⟨v, e1, e2⟩ := fr.val i (.fn f) (z6Z c)
  have e2 : v = .ref f := e2
  subst e2
  exact ⟨e1, z0k hE ⟨g, ow, ρ, n, fr, q⟩⟩
 next => exact q.elim
end
end L2
namespace L2
open PySem PySem.Spec PyProof.Rows
section
variable {prog : Program} {w : World} {A : Around} {R : Result → Shared → Prop}
end
section
variable {prog : Program} {w : World} {A : Around}
end
section
variable {X : Cx}
end
end L2
namespace L2
open PySem PySem.Spec PyProof.Rows
noncomputable def lst (m : Nat) : List Nat := (List.range 8).filter fun i => m.testBit i
noncomputable def tb0 (led : Bool) (l : List Nat) : SetTable := { mask := 7, place := l.toArray, dummies := #[], finger := 0, led := led, moves := 0, plain := true }
noncomputable def tb1 (led : Bool) (l : List Nat) : SetTable := { mask := 31, place := l.toArray, dummies := #[], finger := 0, led := led, moves := 1, plain := true }
noncomputable def tbl (led : Bool) (l : List Nat) : SetTable := if l.length < 5 then tb0 led l else tb1 led l
noncomputable def ins (l : List Nat) (p x : Nat) : List Nat := l.take p ++ x :: l.drop p
noncomputable def tEq (a b : SetTable) : Bool := a.mask == b.mask && a.place.toList == b.place.toList && a.dummies.toList == b.dummies.toList && a.finger == b.finger && a.led == b.led && a.moves == b.moves && a.plain == b.plain
theorem z5j {a b : SetTable} (h : tEq a b = true) : a = b := by
 cases a; cases b
 simp only [tEq, Bool.and_eq_true, beq_iff_eq] at h
 obtain ⟨⟨⟨⟨⟨⟨h1, h2⟩, h3⟩, h4⟩, h5⟩, h6⟩, h7⟩ := h
 have h2' := Array.toList_inj.mp h2
 have h3' := Array.toList_inj.mp h3
 subst h1 h2' h3' h4 h5 h6 h7
 rfl
noncomputable def z5f (led : Bool) (m x : Nat) : Bool :=
 let l := lst m
 let t := tbl led l
 let p := SetTable.below t.place x
 let l' := lst (m ||| 2 ^ x)
 let t' := (t.put x).1
 m.testBit x || ((match t.freeSlot (x : Int) with | some (j, d) => j == x && d == false | none => false) && l' == ins l p x && (t.put x).2 == p && t'.plain == true && t'.fits (l.length + 1) &&
  (if t'.tooFull then (match t'.relaid ((l'.map fun (i : Nat) => (i : Int)).toArray) (SetTable.grown (l.length + 1)) with | some (t2, o) => tEq t2 (tbl led l') && o.toList == List.range (l.length + 1) && (tbl led l').fits (l.length + 1) | none => false) else tEq t' (tbl led l')))
theorem z2b : ∀ led : Bool, ∀ m : Fin 256, ∀ x : Fin 8, z5f led m.1 x.1 = true := by decide +kernel
end L2
namespace L2
open PySem PySem.Spec PyProof.Rows
theorem z74 : ∀ x : Fin 8, hashInt ((x.1 : Nat) : Int) = ((x.1 : Nat) : Int) := by decide +kernel
noncomputable def nI (n : Nat) : Int := (n : Int)
noncomputable def EsOf (es : Array (Int × Value)) (l : List Nat) : Prop := es.toList.map (·.1) = l.map nI ∧ ∀ e ∈ es.toList, ∃ t, e.2 = .int e.1 t
theorem EsOf.size {es : Array (Int × Value)} {l : List Nat} (h : EsOf es l) : es.size = l.length := by
 have := congrArg List.length h.1
 simpa using this
theorem z68 {m i : Nat} (h : i ∈ lst m) : i < 8 := List.mem_range.mp (List.mem_filter.mp h).1
theorem z35 {m i : Nat} (hi : i < 8) : i ∈ lst m ↔ m.testBit i = true := by
 unfold lst
 rw [List.mem_filter]
 exact ⟨fun h => h.2, fun h => ⟨List.mem_range.mpr hi, h⟩⟩
theorem wW (m : Nat) : (lst m).length ≤ 8 := by
 unfold lst
 exact Nat.le_trans (List.length_filter_le _ _) (by simp)
section
variable {prog : Program} {w : World} {A : Around} {E : Value → Shared → Prop} {s : Shared}
theorem EsOf.elems {es : Array (Int × Value)} {m : Nat} (h : EsOf es (lst m)) : ElemsOf (intKind prog w) es.toList := fun e he => by
 obtain ⟨t, ht⟩ := h.2 e he
 have hm : e.1 ∈ es.toList.map (·.1) := List.mem_map_of_mem he
 rw [h.1] at hm
 obtain ⟨n, hn, e1⟩ := List.mem_map.mp hm
 refine ⟨⟨e.1, by rw [ht]; exact intKind_is _ _ _ _, ?_⟩, by rw [ht]; rfl⟩
 rw [← e1]
 exact (z74 ⟨n, z68 hn⟩).symm
noncomputable def SetAt (h : Heap) (a : Addr) (led : Bool) (m : Nat) : Prop := ∃ o es ep, h.get? a = some o ∧ o.ExactSet ∧ o.data = .set es ep (tbl led (lst m)) ∧ EsOf es (lst m) ∧ (tbl led (lst m)).fits es.size = true
theorem z0p : ∀ led : Bool, ∀ n : Fin 9, (tbl led (List.replicate n.1 0)).fits n.1 = true := by decide +kernel
theorem z01 (led : Bool) (m : Nat) : (tbl led (lst m)).fits (lst m).length = true := by
 have := z0p led ⟨(lst m).length, Nat.lt_succ_of_le (wW m)⟩
 revert this
 unfold tbl SetTable.fits SetTable.fill
 simp only [List.length_replicate]
 split <;> simp [tb0, tb1]
theorem EsOf.add {es : Array (Int × Value)} {l : List Nat} {p x : Nat} {t : Tok} (h : EsOf es l) : EsOf (SetTable.insertAt es p (nI x, .int (nI x) t)) (ins l p x) := by
 refine ⟨?_, fun e he => ?_⟩
 ·rw [SetTable.toList_insertAt, List.map_append, List.map_cons, List.map_take, List.map_drop, h.1]
  unfold ins
  rw [List.map_append, List.map_cons, List.map_take, List.map_drop]
 ·rw [SetTable.toList_insertAt] at he
  rcases List.mem_append.mp he with he | he
  ·exact h.2 e (List.mem_of_mem_take he)
  ·rcases List.mem_cons.mp he with rfl | he
   ·exact ⟨t, rfl⟩
   ·exact h.2 e (List.mem_of_mem_drop he)
theorem ug {h : Heap} {a : Addr} {o : Obj} {es : Array (Int × Value)} {ep : Nat} {t : SetTable} (es' : Array (Int × Value)) (t' : SetTable) (ho : h.get? a = some o) (hd : o.data = .set es ep t) :
  (h.update a (Obj.putSet es' t')).get? a = some { o with data := .set es' (ep + 1) t' } := by
 have := Heap.get?_update_self (Obj.putSet es' t') ho (by rw [putSet_of es' t' hd]; rfl)
 rw [putSet_of es' t' hd] at this; exact this
theorem z6k {a : Addr} {led : Bool} {m x : Nat} {t : Tok} {Q : Bool → Shared → Prop} (hm : m < 256) (hx : x < 8) (hS : SetAt s.heap a led m)
  (h : ∀ h', Heap.SameBut a s.heap h' → SetAt h' a led (m ||| 2 ^ x) → Q (!m.testBit x) { s with heap := h' }) :
  wpAny (model prog w) A (setAddHashed a (.int (nI x) t) (hashInt (nI x))) Q E s := by
 obtain ⟨o, es, ep, ho, hex, hd, he, hf⟩ := hS
 have hsz := he.size
 have hln := wW m
 have hb : es.size < scanBound := by unfold scanBound; omega
 have hel : ElemsOf (intKind prog w) es.toList := he.elems
 have hkey : (intKind prog w).is (nI x) (.int (nI x) t) = true := intKind_is _ _ _ _
 unfold setAddHashed setAddHashedIn
 refine wpAny_holding (wpAny_bind (wpAny_setState_of ho hd hf ?_))
 dsimp only
 rw [byScan_of rfl hb hel]
 simp only [↓reduceIte]
 unfold setAddByScan
 refine wpAny_bind ?_
 refine wpAny_bind (wpAny_rule ?_)
 refine wpAny_bind (wpAny_setScan_of (knd := intKind prog w) hkey ho hd hf hel ?_)
 have memI : (∃ e ∈ es.toList, (intKind prog w).is (nI x) e.2 = true) ↔ m.testBit x = true := by
  rw [← z35 hx]
  constructor
  ·rintro ⟨e, he1, he2⟩
   obtain ⟨t', e3⟩ := he.2 e he1
   rw [e3] at he2
   have e4 : nI x = e.1 := (intKind prog w).inj _ _ _ he2 (intKind_is _ _ _ _)
   have h1 : e.1 ∈ es.toList.map (·.1) := List.mem_map_of_mem he1
   rw [he.1] at h1
   obtain ⟨n, hn, e5⟩ := List.mem_map.mp h1
   have : n = x := by unfold nI at e4 e5; omega
   rwa [← this]
  ·intro hl
   have h1 : nI x ∈ es.toList.map (·.1) := by rw [he.1]; exact List.mem_map_of_mem hl
   obtain ⟨e, he1, e2⟩ := List.mem_map.mp h1
   obtain ⟨t', e3⟩ := he.2 e he1
   exact ⟨e, he1, by rw [e3, e2]; exact intKind_is _ _ _ _⟩
 cases hr : List.findIdx? (fun e => (intKind prog w).is (nI x) e.2) es.toList with
 | some j =>
  dsimp only
  obtain ⟨hj, hpj, _⟩ := List.findIdx?_eq_some_iff_getElem.mp hr
  have hSk : m.testBit x = true := memI.mp ⟨es.toList[j], List.getElem_mem hj, hpj⟩
  refine wpAny_pure (wpAny_pure ?_)
  have e : s = { s with heap := s.heap } := by cases s; rfl
  have em : m ||| 2 ^ x = m := by
   apply Nat.eq_of_testBit_eq
   intro i
   rw [Nat.testBit_or, Nat.testBit_two_pow]
   by_cases hi : x = i
   ·subst hi; rw [hSk]; rfl
   ·simp [hi]
  have := h s.heap (Heap.SameBut.refl a s.heap) (by rw [em]; exact ⟨o, es, ep, ho, hex, hd, he, hf⟩)
  rw [hSk] at this; rw [e]; exact this
 | none =>
  dsimp only
  have hSk : m.testBit x = false := by
   cases hk : m.testBit x with
   | false => rfl
   | true => obtain ⟨e, he1, hp⟩ := memI.mpr hk; have := List.findIdx?_eq_none_iff.mp hr e he1; rw [hp] at this; exact Bool.noConfusion this
  have st := z2b led ⟨m, hm⟩ ⟨x, hx⟩
  simp only [z5f, hSk, Bool.false_or, Bool.and_eq_true] at st
  obtain ⟨⟨⟨⟨⟨s1, s2⟩, s3⟩, s4⟩, s5⟩, s6⟩ := st
  have fs : (tbl led (lst m)).freeSlot (hashInt (nI x)) = some (x, false) := by
   rw [show hashInt (nI x) = ((x : Nat) : Int) from z74 ⟨x, hx⟩]
   split at s1
   next j d e =>
    simp only [Bool.and_eq_true, beq_iff_eq] at s1
    rw [e, s1.1, s1.2]
   next => cases s1
  have e2 := beq_iff_eq.mp s2
  have e3 := beq_iff_eq.mp s3
  have e4 := beq_iff_eq.mp s4
  have hxx : hashInt (nI x) = nI x := z74 ⟨x, hx⟩
  generalize hp : SetTable.below (tbl led (lst m)).place x = p at *
  generalize hput : (tbl led (lst m)).put x = pt at *
  obtain ⟨t1, p1⟩ := pt
  simp only at e3 e4 s5 s6
  subst e3
  have he1 : EsOf (SetTable.insertAt es p1 (nI x, .int (nI x) t)) (lst (m ||| 2 ^ x)) := by rw [e2]; exact he.add
  have hsz1 : (SetTable.insertAt es p1 (nI x, Value.int (nI x) t)).size = (lst m).length + 1 := by
   rw [he1.size, e2]; unfold ins; simp; omega
  have hlay : layNew (tbl led (lst m)) es (hashInt (nI x)) (.int (nI x) t) = (SetTable.insertAt es p1 (nI x, .int (nI x) t), t1, false, false) := by
   unfold layNew
   rw [fs]
   simp only [hput]
   rw [hxx, hsz1, SetTable.orStandIn, s5]
   rfl
  rw [hlay]
  dsimp only
  refine wpAny_bind (wpAny_pure ?_)
  rw [e4]
  simp only [↓reduceIte]
  refine wpAny_bind ?_
  rw [hashByValue_scannable 8 (x := .int (nI x) t) rfl]
  refine wpAny_pure ?_
  simp only [plainKind, ↓reduceIte]
  have hz1 : (SetTable.insertAt es p1 (nI x, Value.int (nI x) t)).size ≤ sizeLine := by rw [hsz1, sizeLine_eq]; omega
  refine wpAny_bind (wpAny_storeSet_of ho hd ?_ hz1)
  have g1 := ug (SetTable.insertAt es p1 (nI x, .int (nI x) t)) t1 ho hd
  have sb1 := Heap.SameBut.update s.heap a (Obj.putSet (SetTable.insertAt es p1 (nI x, Value.int (nI x) t)) t1)
  have hl1 := he1.size
  cases htf : t1.tooFull with
  | false =>
   rw [htf] at s6
   simp only [Bool.false_eq_true, ↓reduceIte] at s6
   have et := z5j s6
   simp only [Bool.not_false, Bool.true_and, Bool.false_eq_true, ↓reduceIte]
   refine wpAny_pure (wpAny_pure ?_)
   have := h _ sb1 ⟨_, _, _, g1, hex, by rw [et], he1, by rw [hl1]; exact z01 _ _⟩
   rw [hSk] at this
   exact this
  | true =>
   rw [htf] at s6
   simp only [↓reduceIte] at s6
   have hmapk : (SetTable.insertAt es p1 (nI x, Value.int (nI x) t)).map (·.1) = ((lst (m ||| 2 ^ x)).map fun (i : Nat) => (i : Int)).toArray := by
    apply Array.toList_inj.mp
    rw [Array.toList_map, he1.1]; rfl
   have hrl : relayAll t1 (SetTable.insertAt es p1 (nI x, Value.int (nI x) t)) (SetTable.grown (SetTable.insertAt es p1 (nI x, Value.int (nI x) t)).size) = (SetTable.insertAt es p1 (nI x, Value.int (nI x) t), tbl led (lst (m ||| 2 ^ x)), false) := by
    unfold relayAll
    rw [hmapk, hsz1]
    split at s6
    next t2 od e =>
     simp only [Bool.and_eq_true, beq_iff_eq] at s6
     rw [e]
     have et := z5j s6.1.1
     have eo : od = (List.range ((lst m).length + 1)).toArray := by rw [← s6.1.2]
     have ef : od.filterMap (fun x_1 => (SetTable.insertAt es p1 (nI x, Value.int (nI x) t))[x_1]?) = SetTable.insertAt es p1 (nI x, Value.int (nI x) t) := by
      apply Array.toList_inj.mp
      rw [Array.toList_filterMap, s6.1.2, ← hsz1]
      exact filterMap_getElem?_range _
     dsimp only
     rw [ef, hsz1, et, s6.2]
     have ec : coversAll od ((lst m).length + 1) = true := by
      unfold coversAll
      rw [s6.1.2]
      exact List.isPerm_iff.mpr (List.Perm.refl _)
     rw [ec]; rfl
    next => cases s6
   simp only [Bool.not_false, Bool.true_and, ↓reduceIte]
   rw [hrl]
   dsimp only
   refine wpAny_bind (wpAny_pure ?_)
   refine wpAny_bind (wpAny_storeSet_of g1 rfl ?_ hz1)
   have g2 := ug (SetTable.insertAt es p1 (nI x, .int (nI x) t)) (tbl led (lst (m ||| 2 ^ x))) g1 rfl
   refine wpAny_pure (wpAny_pure ?_)
   have := h _ (sb1.trans (Heap.SameBut.update _ a _)) ⟨_, _, _, g2, hex, rfl, he1, by rw [hl1]; exact z01 _ _⟩
   rw [hSk] at this
   exact this
end
end L2
namespace L2
open PySem PySem.Spec PyProof.Rows
noncomputable def mOf (val : Nat → Nat) : Nat → Nat
 | 0 => 0
 | i + 1 => mOf val i ||| 2 ^ val i
theorem z3e {val : Nat → Nat} : ∀ {n : Nat}, (∀ i, i < n → val i < 8) → mOf val n < 256
 | 0, _ => by show 0 < 256; decide
 | n + 1, h => by
  have h1 := z3e (n := n) fun i hi => h i (Nat.lt_succ_of_lt hi)
  have h2 : 2 ^ val n < 2 ^ 8 := Nat.pow_lt_pow_right (by decide) (h n (Nat.lt_succ_self n))
  exact Nat.or_lt_two_pow (n := 8) h1 h2
theorem z3J {val : Nat → Nat} (x : Nat) : ∀ {n : Nat}, (mOf val n).testBit x = true ↔ ∃ i, i < n ∧ val i = x
 | 0 => by simp [mOf]
 | n + 1 => by
  rw [mOf, Nat.testBit_or, Nat.testBit_two_pow, Bool.or_eq_true, z3J x, decide_eq_true_eq]
  constructor
  ·rintro (⟨i, hi, e⟩ | e)
   ·exact ⟨i, Nat.lt_succ_of_lt hi, e⟩
   ·exact ⟨n, Nat.lt_succ_self n, e⟩
  ·rintro ⟨i, hi, e⟩
   by_cases h : i = n
   ·subst h; exact .inr e
   ·exact .inl ⟨i, by omega, e⟩
theorem SetAt.at {h h' : Heap} {a : Addr} {led : Bool} {m : Nat} (x : SetAt h a led m) (e : ∀ o, h.get? a = some o → h'.get? a = some o) : SetAt h' a led m := by
 obtain ⟨o, es, ep, ho, r⟩ := x
 exact ⟨o, es, ep, e _ ho, r⟩
section
variable {prog : Program} {w : World} {A : Around} {R : Result → Shared → Prop} {I : Addr} {fp wr : List Addr} {G : Array GenState → Array GenState → Prop} {n : Nat} {P : Nat → Value → Prop} {St : Nat → Shared → Prop}
theorem z8w (W : WalksS prog w A.in1 I fp wr G n P St) (S : Addr) (hSf : S ∉ fp) (val : Nat → Nat) {led : Bool}
  (hval : ∀ i v, P i v → ∃ t, v = .int (nI (val i)) t) (h8 : ∀ i, i < n → val i < 8) :
  ∀ (k i : Nat) (s : Shared), n - i = k → i ≤ n → St i s → SetAt s.heap S led (mOf val i) →
   (∀ s', Moved (S :: wr) G s s' → SetAt s'.heap S led (mOf val n) → R (.ok (.ret .none)) s') →
   codeAny (model prog w) A (.builtin "set.update.loop" ⟨[.ref S, .ref I], []⟩) R s := by
 have hSw : S ∉ wr := fun h => hSf (W.sub _ h)
 have hsub : ∀ b ∈ wr, b ∈ S :: wr := fun b hb => List.mem_cons_of_mem _ hb
 intro k
 induction k with
 | zero =>
  intro i s hk hi hst hS hR
  obtain rfl : i = n := by omega
  refine codeAny_builtin PyProof.Rows.F.entry_set_update_loop ?_
  rw [Around.under_plainId PyProof.Rows.F.plain_set_update_loop _]
  show wpAny _ A.in1 (pyNext (.ref I) >>= _) _ _ s
  refine wpAny_bind (W.done s _ _ hst fun s' hm => ?_)
  show wpAny _ A.in1 (ret Value.none) _ _ s'
  exact wpAny_pure (hR s' (hm.mono hsub) (hS.at fun o e => hm.heap S _ hSw e))
 | succ k ih =>
  intro i s hk hi hst hS hR
  have hlt : i < n := by omega
  refine codeAny_builtin PyProof.Rows.F.entry_set_update_loop ?_
  rw [Around.under_plainId PyProof.Rows.F.plain_set_update_loop _]
  show wpAny _ A.in1 (pyNext (.ref I) >>= _) _ _ s
  refine wpAny_bind (W.item i s _ _ hlt hst fun v s' hP hst' hm => ?_)
  obtain ⟨t, rfl⟩ := hval i v hP
  have hS' : SetAt s'.heap S led (mOf val i) := hS.at fun o e => hm.heap S _ hSw e
  show wpAny _ A.in1 (holding [Value.int (nI (val i)) t] (setAdd S (.int (nI (val i)) t)) >>= _) _ _ s'
  refine wpAny_bind (wpAny_holding ?_)
  unfold setAdd
  refine wpAny_holding ?_
  refine wpAny_bind (wpAny_pyHash_int ?_)
  refine z6k (s := { s' with toks := s'.toks + 1 }) (z3e fun j hj => h8 j (by omega)) (h8 i hlt) hS' fun h' hsb hS2 => ?_
  refine wpAny_pure ⟨plainId_quiet PyProof.Rows.F.plain_set_update_loop _, ih (i + 1) _ (by omega) hlt (W.frame _ s' _ _ hst' (Nat.le_succ _) fun b hb o e => ?_) hS2 fun s'' hm'' hS'' => ?_⟩
  ·rw [hsb.2 b (fun h : b = S => hSf (by rw [← h]; exact hb))]; exact e
  ·refine hR s'' (Moved.trans W.gtrans ((hm.mono hsub).then_heap (Nat.le_succ _) fun b o hb e => ?_) hm'') hS''
   rw [hsb.2 b (fun h : b = S => hb (by rw [h]; exact List.mem_cons_self))]; exact e
end
end L2
namespace L2
open PySem PySem.Spec PyProof.Rows
section
variable {prog : Program} {w : World} {A : Around} {E : Value → Shared → Prop} {s : Shared}
noncomputable abbrev yD (w : World) : Bool := !w.params.followText "set-order"
noncomputable abbrev oSet (led : Bool) : Obj := { cls := .type "set", dict := none, data := .set #[] 0 (.fresh 0 0 led) }
theorem z6N (a : Value) {Q₁ : Value → Shared → Prop} (h : Q₁ (.ref s.heap.objs.size) { s with heap := s.heap.push (oSet (yD w)) }) :
  codeAny (model prog w) A (.call (.builtin "set.__new__") ⟨[.type "set", a], []⟩) (wants Q₁ E) s := by
 refine codeAny_of_tree ?_
 show wpAny _ A.in1 (do checkBuiltinCall "set.__new__" ⟨[.type "set", a], []⟩; again (.builtin "set.__new__" ⟨[.type "set", a], []⟩)) _ _ s
 refine wpAny_bind (wpAny_of_eq (PySem.F.newCall_set_1 a) (wpAny_pure ⟨plainId_quiet PySem.F.plain_set_new _, codeAny_builtin PySem.F.entry_set_new ?_⟩))
 rw [Around.under_plainId PySem.F.plain_set_new _]
 unfold Builtin.«set.__new__» Builtin.Frozenset.newClass
 have hsub := sub_set_self
 obtain ⟨hp, g, d, tk, os⟩ := s
 dsimp only
 wp_walk
 refine wpAny_askSetting (wpAny_pure ?_)
 dsimp only
 simp only [newObj]
 refine wpAny_bind (wpAny_alloc (wpAny_pure ?_))
 exact wpAny_pure h
theorem z38 {h : Heap} {a : Addr} {led : Bool} (e : h.get? a = some (oSet led)) : SetAt h a led 0 := by
 have h0 : lst 0 = [] := by decide
 refine ⟨_, #[], 0, e, ⟨rfl, rfl, rfl⟩, ?_, ?_, ?_⟩
 ·rw [h0]; rfl
 ·rw [h0]; exact ⟨rfl, fun e he => nomatch he⟩
 ·have := z01 led 0
  rw [h0] at this ⊢
  exact this
theorem z3M {l : Addr} {items : Array Value} {val : Nat → Nat} {Q : Value → Shared → Prop}
  (hh : A.handled = none) (hl : s.heap.IsList l items) (hv : ∀ (i : Nat) (v : Value), items[i]? = some v → ∃ t, v = .int (nI (val i)) t) (h8 : ∀ i, i < items.size → val i < 8)
  (h : ∀ (h' : Heap) (tk : Nat), SetAt h' s.heap.objs.size (yD w) (mOf val items.size) → (∀ b o, s.heap.get? b = some o → h'.get? b = some o) → Q (.ref s.heap.objs.size) { s with heap := h', toks := tk }) :
  wpAny (model prog w) A (call (.type "set") [.ref l]) Q E s := by
 obtain ⟨c, tl, hmro⟩ := PySem.F.called_set.mro
 have hmade := PySem.F.called_set.made
 have hsub := PySem.F.called_set.sub
 refine wpAny_call (codeAny_of_tree ?_)
 show wpAny _ _ (callAny (.type "set") _) _ _ _
 refine wpAny_pure ⟨Code.quiet_builtin _ (by decide +kernel), codeAny_builtin PySem.F.entry_type_call ?_⟩
 rw [Around.under_plain (weight_type_call_type "set" [.ref l] []) rfl]
 have h1 := PySem.F.called_set.notType
 have h2 := PySem.F.called_set.canCreate
 have hct := PySem.F.typeCall_set_1 (.ref l)
 repeat (any_goals (first | assumption | wp_step))
 refine codeAny_mono (z6N (.ref l) (E := E) (Q₁ := fun obj s₁ => obj = .ref s.heap.objs.size ∧ s₁ = { s with heap := s.heap.push (oSet (yD w)) }) ⟨rfl, rfl⟩) fun r s₁ hr => ?_
 cases r with
 | error e => exact hr
 | ok fl =>
  cases fl with
  | ret obj =>
   obtain ⟨rfl, rfl⟩ := hr
   have hS : (s.heap.push (oSet (yD w))).get? s.heap.objs.size = some (oSet (yD w)) := Heap.get?_push_size _ rfl
   have hT : Shared.TypeIs { s with heap := s.heap.push (oSet (yD w)) } (.ref s.heap.objs.size) "set" := ⟨_, hS, rfl⟩
   have hli := PySem.F.called_set.init.lookup
   have hbi := PySem.F.called_set.init.bind (.ref s.heap.objs.size)
   repeat (any_goals (first | assumption | wp_step))
   refine codeAny_mono (codeAny_call_builtin (R := wants (fun r s₂ => r = .none ∧ ∃ h' tk, s₂ = { s with heap := h', toks := tk } ∧ SetAt h' s.heap.objs.size (yD w) (mOf val items.size) ∧
     (∀ b o, s.heap.get? b = some o → h'.get? b = some o)) E) PySem.F.called_set.init.plain PySem.F.entry_set_init (check_set_init_1 hT ?_)) fun r₂ s₂ hr₂ => ?_
   ·obtain ⟨ol, hol, hcl, nl, hdl⟩ := hl
    obtain ⟨ocls, odict, odata, oslots⟩ := ol
    simp only at hcl hdl
    subst hcl; subst hdl
    have hol' : (s.heap.push (oSet (yD w))).get? l = some { cls := .type "list", dict := odict, data := .seq items nl, slots := oslots } := Heap.get?_push_of_some _ hol
    have hsls := PySem.F.sub_list_set
    have hslf := PySem.F.sub_list_frozenset
    have hne : (Value.type "list" == Value.type "dict") = false := by decide
    have hl1 : (s.heap.push (oSet (yD w))).IsList l items := ⟨_, hol', rfl, nl, rfl⟩
    unfold Builtin.«set.__init__» noKeywords Builtin.Frozenset.updateFrom
    generalize hPI : pyIter = PI
    wp_walk
    subst hPI
    refine wpAny_pyIter_list hl1 ?_
    refine wpAny_bind (wpAny_runValue ?_)
    have hlS : l < s.heap.objs.size := Heap.lt_size hol
    have hh3 : A.in1.in1.in1.handled = none := by simp [hh]
    have hneI : l ≠ (s.heap.push (oSet (yD w))).objs.size := by
     rw [Heap.size_push]; exact Nat.ne_of_lt (Nat.lt_succ_of_lt hlS)
    have hSf : s.heap.objs.size ∉ [(s.heap.push (oSet (yD w))).objs.size, l] := by
     rw [Heap.size_push]; simp only [List.mem_cons, List.mem_singleton, List.not_mem_nil, or_false, not_or]
     exact ⟨Nat.ne_of_lt (Nat.lt_succ_self _), Nat.ne_of_gt hlS⟩
    refine z8w ((Walks.list hh3 _ l hneI items).toS) s.heap.objs.size hSf val (led := yD w) hv h8 (items.size - 0) 0 _ (by omega) (Nat.zero_le _)
     ⟨⟨_, Heap.get?_push_size _ rfl, rfl, rfl⟩, (hl1.push _)⟩ (z38 (Heap.get?_push_of_some _ hS)) ?hR
    case hR =>
     intro s' hm hS'
     obtain ⟨h', g', d', tk', os'⟩ := s'
     have eg : g' = s.gens := hm.gens
     have ed : d' = s.drawn := hm.drawn
     have eo : os' = s.os := hm.os
     subst eg; subst ed; subst eo
     show wpAny _ _ _ _ _ _
     refine wpAny_pure ?_
     show wpAny _ _ (ret Value.none) _ _ _
     refine wpAny_pure ⟨rfl, h', tk', rfl, hS', fun b o e => ?_⟩
     have hb := Heap.lt_size e
     have hb1 : b ≠ s.heap.objs.size := Nat.ne_of_lt hb
     have hb2 : b ≠ (s.heap.push (oSet (yD w))).objs.size := by
      rw [Heap.size_push]; exact Nat.ne_of_lt (Nat.lt_succ_of_lt hb)
     exact hm.heap b o (by simp only [List.mem_cons, List.mem_singleton, List.not_mem_nil, or_false, not_or]; exact ⟨hb1, hb2⟩) (Heap.get?_push_of_some _ (Heap.get?_push_of_some _ e))
   ·cases r₂ with
    | error e => exact hr₂
    | ok fl₂ =>
     cases fl₂ with
     | ret r =>
      obtain ⟨rfl, h', tk, rfl, hS', hk'⟩ := hr₂
      repeat (any_goals (first | assumption | wp_step))
      exact h _ _ hS' hk'
     | next => exact hr₂.elim
     | brk => exact hr₂.elim
     | cont => exact hr₂.elim
  | next => exact hr.elim
  | brk => exact hr.elim
  | cont => exact hr.elim
end
end L2
namespace L2
open PySem PySem.Spec PyProof.Rows
theorem si_slot_next : Slot "set_iterator" "__next__" "set_iterator.__next__" :=
 .of (owner := "set_iterator") (n := "__next__") (by rw [typeLookup_type, builtinLookup_eq_fast]; kernel_rfl) (by decide +kernel) (by decide +kernel) (by decide +kernel)
  (by first | exact .inl (by decide +kernel) | exact .inr (by decide +kernel)) (by rw [isSubtype_type]; kernel_rfl)
theorem xr : Slot "set_iterator" "__iter__" "set_iterator.__iter__" :=
 .of (owner := "set_iterator") (n := "__iter__") (by rw [typeLookup_type, builtinLookup_eq_fast]; kernel_rfl) (by decide +kernel) (by decide +kernel) (by decide +kernel)
  (by first | exact .inl (by decide +kernel) | exact .inr (by decide +kernel)) (by rw [isSubtype_type]; kernel_rfl)
theorem xN : entryFor table "set_iterator.__next__" = some Builtin.«set_iterator.__next__» := entryFor_of_tree (by kernel_rfl)
theorem z0A : entryFor table "set_iterator.__iter__" = some Builtin.«dict_keyiterator.__iter__» :=
 entryFor_alias (id' := "dict_keyiterator.__iter__") (by kernel_rfl) rfl (by decide +kernel) (by kernel_rfl)
theorem xl (a : Value) : argsOk "set_iterator.__next__" ⟨[a], []⟩ := by unfold argsOk; kernel_rfl
theorem z0q (a : Value) : argsOk "set_iterator.__iter__" ⟨[a], []⟩ := by unfold argsOk; kernel_rfl
theorem z0N : entryFor table "set.__iter__" = some Builtin.«frozenset.__iter__» :=
 entryFor_alias (id' := "frozenset.__iter__") (by kernel_rfl) rfl (by decide +kernel) (by kernel_rfl)
theorem z4H {α : Type} (next : Nat → Nat) : ∀ (fuel k : Nat) (left : List α) (out : Array α), left.length ≤ fuel → (pickOrder.go next fuel k left out).toList.Perm (out.toList ++ left)
 | 0, k, left, out, h => by
  obtain rfl : left = [] := List.eq_nil_of_length_eq_zero (by omega)
  simp [pickOrder.go]
 | fuel + 1, k, left, out, h => by
  unfold pickOrder.go
  cases e : left[next k % left.length]? with
  | none =>
   have : left = [] := by
    cases left with
    | nil => rfl
    | cons a l =>
     rw [List.getElem?_eq_none_iff] at e
     have := Nat.mod_lt (next k) (y := (a :: l).length) (by simp)
     omega
   subst this
   simp
  | some x =>
   obtain ⟨hi, ex⟩ := List.getElem?_eq_some_iff.mp e
   refine (z4H next fuel (k + 1) _ _ ?_).trans ?_
   ·rw [List.length_eraseIdx]; simp [hi]; omega
   ·rw [Array.toList_push, List.append_assoc]
    refine List.Perm.append_left _ ?_
    rw [← ex]
    have e3 : left = left.take (next k % left.length) ++ left[next k % left.length] :: left.drop (next k % left.length + 1) := by
     conv => lhs; rw [← List.take_append_drop (next k % left.length) left, List.drop_eq_getElem_cons hi]
    rw [List.eraseIdx_eq_take_drop_succ]
    have e4 := List.perm_middle (a := left[next k % left.length]) (l₁ := left.take (next k % left.length)) (l₂ := left.drop (next k % left.length + 1))
    rw [← e3] at e4
    exact e4.symm
theorem z2z {α : Type} (next : Nat → Nat) (xs : Array α) : (pickOrder next xs).toList.Perm xs.toList := by
 have := z4H next xs.size 0 xs.toList #[] (by simp)
 simpa [pickOrder] using this
noncomputable def z0o (l : List Nat) (i : Nat) : Nat := if i = 0 then 0 else l.getD (i - 1) 0 + 1
theorem z30 : ∀ m : Fin 256, ∀ i : Fin 9, (decide (i.1 ≤ (lst m.1).length)) = true → SetTable.below (lst m.1).toArray (z0o (lst m.1) i.1) = i.1 := by decide +kernel
theorem z2u (led : Bool) (l : List Nat) : (tbl led l).place = l.toArray := by unfold tbl; split <;> rfl
theorem z6H (led : Bool) (l : List Nat) : (tbl led l).led = led := by unfold tbl; split <;> rfl
theorem z15 (led : Bool) (l : List Nat) : (tbl led l).plain = true := by unfold tbl; split <;> rfl
section
variable {prog : Program} {w : World} {A : Around} {E : Value → Shared → Prop} {s : Shared}
noncomputable def SetIs (h : Heap) (a : Addr) (led : Bool) (m : Nat) (es : Array (Int × Value)) (ep : Nat) : Prop := ∃ o, h.get? a = some o ∧ o.ExactSet ∧ o.data = .set es ep (tbl led (lst m)) ∧ EsOf es (lst m) ∧ (tbl led (lst m)).fits es.size = true
noncomputable def yk (w : World) (S ep : Nat) (es : Array (Int × Value)) : Array (Int × Value) := if w.params.followText "set-order" = true then pickOrder (w.params.setOrder S ep) es else es
theorem xy (w : World) (S ep : Nat) (es : Array (Int × Value)) : (yk w S ep es).toList.Perm es.toList := by
 unfold yk
 split
 ·exact z2z _ _
 ·exact .refl _
noncomputable def slOf (w : World) (l : List Nat) (i : Nat) : Nat := if w.params.followText "set-order" = true then 0 else z0o l i
theorem z2D {a : Addr} {m ep i : Nat} {es : Array (Int × Value)} {Q : Option (Value × Nat) → Shared → Prop} (hm : m < 256) (hi : i ≤ es.size) (hS : SetIs s.heap a (!w.params.followText "set-order") m es ep)
  (h : Q ((yk w a ep es)[i]?.map fun e => (e.2, slOf w (lst m) (i + 1))) s) : wpAny (model prog w) A (setNext a (slOf w (lst m) i) i ep) Q E s := by
 obtain ⟨o, ho, hex, hd, he, hf⟩ := hS
 unfold setNext
 refine wpAny_bind (wpAny_setState_of ho hd hf ?_)
 dsimp only
 unfold setsByText
 refine wpAny_bind (wpAny_bind (wpAny_askSetting (wpAny_pure ?_)))
 show wpAny _ _ (if w.params.followText "set-order" = true then _ else _) _ _ s
 cases hb : w.params.followText "set-order" with
 | true =>
  simp only [↓reduceIte, bne_self_eq_false, Bool.false_eq_true]
  unfold setWalk
  refine wpAny_bind (wpAny_bind (wpAny_setState_of ho hd hf ?_))
  dsimp only
  unfold setsByText
  refine wpAny_bind (wpAny_bind (wpAny_askSetting (wpAny_pure ?_)))
  show wpAny _ _ (if w.params.followText "set-order" = true then _ else _) _ _ s
  rw [hb]
  simp only [↓reduceIte]
  refine wpAny_bind (wpAny_askSetting (wpAny_pure (wpAny_pure ?_)))
  simp only [yk, slOf, hb, ↓reduceIte] at h ⊢
  exact h
 | false =>
  simp only [Bool.false_eq_true, ↓reduceIte]
  split
  next hdr =>
   have : (!(tbl (!false) (lst m)).plain && decide (es.size > 1)) = true := hdr
   rw [z15] at this
   simp at this
  next hdr =>
   refine wpAny_bind ?_
   show wpAny _ _ (if (!(tbl (!false) (lst m)).led && !es.isEmpty) = true then unsupported "set:maker-not-led" else pure ()) _ _ s
   rw [z6H]
   simp only [Bool.not_false, Bool.not_true, Bool.false_and, Bool.false_eq_true, ↓reduceIte]
   refine wpAny_pure (wpAny_pure ?_)
   simp only [yk, slOf, hb, Bool.false_eq_true, ↓reduceIte] at h ⊢
   rw [z2u]
   have hln := wW m
   have hsz := he.size
   rw [z30 ⟨m, hm⟩ ⟨i, by omega⟩ (decide_eq_true (by show i ≤ (lst m).length; omega))]
   by_cases hlt : i < es.size
   ·have e1 : es[i]? = some es[i] := Array.getElem?_eq_getElem hlt
    have hl2 : i < (lst m).length := by omega
    have e2 : (lst m).toArray[i]? = some (lst m)[i] := by simp [hl2]
    rw [e1, e2]
    rw [e1] at h
    have e3 : z0o (lst m) (i + 1) = (lst m)[i] + 1 := by
     unfold z0o
     rw [if_neg (Nat.succ_ne_zero i), Nat.add_sub_cancel, List.getD_eq_getElem?_getD, List.getElem?_eq_getElem hl2]; rfl
    rw [e3] at h
    exact h
   ·have e1 : es[i]? = none := Array.getElem?_eq_none (by omega)
    rw [e1] at h ⊢
    exact h
end
end L2
namespace L2
open PySem PySem.Spec PyProof.Rows
section
variable {prog : Program} {w : World} {A : Around} {E : Value → Shared → Prop} {s : Shared}
theorem SetIs.at {h h' : Heap} {a : Addr} {led : Bool} {m ep : Nat} {es : Array (Int × Value)} (x : SetIs h a led m es ep) (e : ∀ o, h.get? a = some o → h'.get? a = some o) : SetIs h' a led m es ep := by
 obtain ⟨o, ho, r⟩ := x
 exact ⟨o, e _ ho, r⟩
noncomputable def IsSI (h : Heap) (I S n ep sl i : Nat) : Prop := ∃ o, h.get? I = some o ∧ o.cls = .type "set_iterator" ∧ o.data = .fields #[.int (sl : Int) 0, .int (i : Int) 0, .ref S, .int (n : Int) 0, .int (ep : Int) 0]
theorem IsSI.typeIs {I S n ep sl i : Nat} (x : IsSI s.heap I S n ep sl i) : s.TypeIs (.ref I) "set_iterator" := let ⟨o, ho, hc, _⟩ := x; ⟨o, ho, hc⟩
theorem z6i {I S m ep i : Nat} {es : Array (Int × Value)} {x : Int × Value} {Q : Option Value → Shared → Prop} (hm : m < 256) (hi : i < es.size) (hit : IsSI s.heap I S es.size ep (slOf w (lst m) i) i) (hS : SetIs s.heap S (yD w) m es ep) (hx : (yk w S ep es)[i]? = some x)
  (hQ : ∀ h', IsSI h' I S es.size ep (slOf w (lst m) (i + 1)) (i + 1) → Heap.SameBut I s.heap h' → Q (some x.2) { s with heap := h' }) : wpAny (model prog w) A (pyNext (.ref I)) Q E s := by
 obtain ⟨o, ho, hc, hd⟩ := id hit
 unfold pyNext
 refine wpAny_bind (wpAny_attempt (wpAny_callSpecial?_slot (name := Str.ofString "__next__") hit.typeIs si_slot_next (wpAny_call_entry si_slot_next hit.typeIs xN ?_ (xl _))))
 show wpAny _ _ (fieldsOf (.ref I) >>= _) _ _ s
 refine wpAny_bind (wpAny_fieldsOf ho hd ?_)
 dsimp only
 obtain ⟨oS, hoS, hexS, hdS, heS, hfS⟩ := id hS
 show wpAny _ _ (setEntries S >>= _) _ _ s
 refine wpAny_bind (wpAny_setEntries_of hoS hdS hfS ?_)
 rw [if_neg (by simp)]
 show wpAny _ _ (setNext S ((slOf w (lst m) i : Nat) : Int).toNat ((i : Nat) : Int).toNat ((ep : Nat) : Int).toNat >>= _) _ _ s
 simp only [Int.toNat_natCast]
 refine wpAny_bind (z2D hm (Nat.le_of_lt hi) hS ?_)
 rw [hx]
 dsimp only [Option.map_some]
 refine wpAny_bind (wpAny_setField ho hd (by simp) ?_)
 have g1 : (s.heap.update I (Obj.mapFields (·.setIfInBounds 0 (rawInt (slOf w (lst m) (i + 1)))))).get? I = some _ := Heap.get?_update_self _ ho (Obj.isFreed_of_fields (Obj.data_mapFields hd _))
 refine wpAny_bind (wpAny_setField g1 (Obj.data_mapFields hd _) (by simp) (wpAny_pure ⟨x.2, rfl, wpAny_pure (hQ _ ?_ ((Heap.SameBut.update ..).trans (Heap.SameBut.update ..)))⟩))
 refine ⟨_, Heap.get?_update_self _ g1 (Obj.isFreed_of_fields (Obj.data_mapFields (Obj.data_mapFields hd _) _)), (Obj.cls_mapFields ..).trans ((Obj.cls_mapFields ..).trans hc), ?_⟩
 rw [Obj.data_mapFields (Obj.data_mapFields hd _)]
 simp [rawInt]
theorem z8N {I S m ep : Nat} {es : Array (Int × Value)} {Q : Option Value → Shared → Prop} (hh : A.handled = none) (hm : m < 256) (hit : IsSI s.heap I S es.size ep (slOf w (lst m) es.size) es.size) (hS : SetIs s.heap S (yD w) m es ep)
  (hQ : ∀ h', Heap.ExtBut I s.heap h' → Q none { s with heap := h' }) : wpAny (model prog w) A (pyNext (.ref I)) Q E s := by
 obtain ⟨o, ho, hc, hd⟩ := id hit
 unfold pyNext
 refine wpAny_bind (wpAny_attempt (wpAny_callSpecial?_slot (name := Str.ofString "__next__") hit.typeIs si_slot_next (wpAny_call_entry si_slot_next hit.typeIs xN ?_ (xl _))))
 show wpAny _ _ (fieldsOf (.ref I) >>= _) _ _ s
 refine wpAny_bind (wpAny_fieldsOf ho hd ?_)
 dsimp only
 obtain ⟨oS, hoS, hexS, hdS, heS, hfS⟩ := id hS
 show wpAny _ _ (setEntries S >>= _) _ _ s
 refine wpAny_bind (wpAny_setEntries_of hoS hdS hfS ?_)
 rw [if_neg (by simp)]
 show wpAny _ _ (setNext S ((slOf w (lst m) es.size : Nat) : Int).toNat ((es.size : Nat) : Int).toNat ((ep : Nat) : Int).toNat >>= _) _ _ s
 simp only [Int.toNat_natCast]
 refine wpAny_bind (z2D hm (Nat.le_refl _) hS ?_)
 have hx : (yk w S ep es)[es.size]? = none := by
  have := (xy w S ep es).length_eq
  exact Array.getElem?_eq_none (by simpa using Nat.le_of_eq this)
 rw [hx]
 dsimp only [Option.map_none]
 refine wpAny_bind (wpAny_setField ho hd (by simp) ?_)
 show wpAny _ _ (newExc (.type "StopIteration") [] >>= _) _ _ _
 refine wpAny_bind ?_
 simp only [newExc, newTuple]
 refine wpAny_bind (wpAny_newObj_type ?_ (by size_fits))
 refine wpAny_bind (m := firstArgMember _ _) (wpAny_of_eq (a := Value.none) (by first | rfl | (simp only [firstArgMember]; rfl)) ?_)
 refine wpAny_newObj_type ?_ (by size_fits)
 simp only [raiseNew]
 refine wpAny_bind (wpAny_handled ?_)
 rw [show A.in1.handled = none from hh]
 refine wpAny_bind (wpAny_pure (wpAny_throw ?_))
 refine wpAny_bind (wpAny_isInstance (T := "StopIteration") (b := true) ⟨_, Heap.get?_push_size _ rfl, rfl⟩ isSubtype_stop ?_)
 exact wpAny_pure (hQ _ (((Heap.SameBut.update ..).extBut.push _).push _))
theorem z70 {I S n ep sl i : Nat} {Q : Value → Shared → Prop} (hit : IsSI s.heap I S n ep sl i) (h : Q (.ref I) s) : wpAny (model prog w) A (pyIter (.ref I)) Q E s := by
 refine wpAny_pyIter_slot hit.typeIs xr (wpAny_call_entry xr hit.typeIs z0A ?_ (z0q _))
 show wpAny _ _ (ret (.ref I)) _ _ s
 exact wpAny_pure ⟨_, rfl, "set_iterator", _, hit.typeIs, si_slot_next.lookup, h⟩
theorem z8Q (hh : A.handled = none) (I S : Addr) (hne : S ≠ I) {m ep : Nat} {es : Array (Int × Value)} (hm : m < 256) :
  PySem.Walks prog w A I [I, S] [I] es.size (fun i v => ((yk w S ep es)[i]?.map (·.2)) = some v) (fun i h => IsSI h I S es.size ep (slOf w (lst m) i) i ∧ SetIs h S (yD w) m es ep) where
 sub := fun b hb => by simp at hb; simp [hb]
 frame := fun _ _ _ st hk => ⟨let ⟨o, ho, r⟩ := st.1; ⟨o, hk I (by simp) o ho, r⟩, st.2.at fun o e => hk S (by simp) o e⟩
 item := fun i s Q E hi st hQ => by
  have hl := (xy w S ep es).length_eq
  have hi' : i < (yk w S ep es).size := by simpa using (by rw [Array.length_toList, Array.length_toList] at hl; omega : i < (yk w S ep es).size)
  refine z6i hm hi st.1 st.2 (x := (yk w S ep es)[i]) (Array.getElem?_eq_getElem hi') fun h' hit' hs' => ?_
  exact hQ _ h' s.toks (by rw [Array.getElem?_eq_getElem hi']; rfl) ⟨hit', st.2.at fun o e => hs'.extBut S o hne e⟩ fun b o hb e => hs'.extBut b o (fun h => hb (by simp [h])) e
 done := fun s Q E st hQ => z8N hh hm st.1 st.2 fun h' he' => hQ h' s.toks fun b o hb e => he' b o (fun h => hb (by simp [h])) e
 self := fun _ _ _ _ st hQ => z70 st.1 hQ
theorem z8p {S m ep : Nat} {es : Array (Int × Value)} {Q : Value → Shared → Prop} (hS : SetIs s.heap S (yD w) m es ep)
  (hQ : Q (.ref s.heap.objs.size) { s with heap := s.heap.push { cls := .type "set_iterator", data := .fields #[.int 0 0, .int 0 0, .ref S, .int (es.size : Int) 0, .int (ep : Int) 0] } }) : wpAny (model prog w) A (pyIter (.ref S)) Q E s := by
 obtain ⟨o, ho, hex, hd, he, hf⟩ := hS
 have hT : s.TypeIs (.ref S) "set" := ⟨o, ho, hex.1⟩
 refine wpAny_pyIter_slot hT F.slot_set_iter (wpAny_call_entry F.slot_set_iter hT z0N ?_ (F.args_set_iter_1 _))
 show wpAny _ _ (Builtin.Frozenset.sizeOf S >>= _) _ _ s
 unfold Builtin.Frozenset.sizeOf
 refine wpAny_bind (wpAny_bind (wpAny_setEntries_of ho hd hf (wpAny_pure ?_)))
 unfold setDrawn
 refine wpAny_bind (wpAny_bind (wpAny_setState_of ho hd hf ?_))
 dsimp only
 unfold setsByText
 refine wpAny_bind (wpAny_bind (wpAny_askSetting (wpAny_pure ?_)))
 refine wpAny_pure ?_
 have nd : (!w.params.followText "set-order" && (!(tbl (yD w) (lst m)).plain && decide (es.size > 1))) = false := by rw [z15]; simp
 rw [if_neg (fun z => by
  have z' : (!w.params.followText "set-order" && (!(tbl (yD w) (lst m)).plain && decide (es.size > 1))) = true := z
  rw [nd] at z'; cases z')]
 refine wpAny_bind (wpAny_pure ?_)
 unfold setEpoch
 refine wpAny_bind (wpAny_bind (wpAny_setState_of ho hd hf (wpAny_pure ?_)))
 exact wpAny_bind (wpAny_newObj_type (wpAny_pure ⟨_, rfl, "set_iterator", _, ⟨_, Heap.get?_push_size _ rfl, rfl⟩, si_slot_next.lookup, hQ⟩))
end
end L2
namespace L2
open PySem PySem.Spec PyProof.Rows
theorem z8v : typeLookup (.type "set") "__len__" = pure (some (.builtin "set.__len__")) := by rw [typeLookup_type, builtinLookup_eq_fast]; kernel_rfl
section
variable {prog : Program} {w : World} {A : Around} {E : Value → Shared → Prop} {s : Shared}
theorem z5Q {S m ep : Nat} {es : Array (Int × Value)} {Q : List Value → Shared → Prop} (hh : A.handled = none) (hm : m < 256) (hS : SetIs s.heap S (yD w) m es ep)
  (hQ : ∀ h' tk, (∀ b o, s.heap.get? b = some o → h'.get? b = some o) → Q ((yk w S ep es).toList.map (·.2)) { s with heap := h', toks := tk }) :
  wpAny (model prog w) A (collect (.ref S)) Q E s := by
 obtain ⟨o, ho, hex, hd, he, hf⟩ := id hS
 have hln := wW m
 have hsz := he.size
 have hSlt := Heap.lt_size ho
 unfold collect
 refine wpAny_bind (wpAny_runValue (codeAny_builtin F.entry_proto_collect ?_))
 rw [Around.under_plainId F.plain_proto_collect _]
 show wpAny _ A.in1 (newList [] >>= fun l => again (.builtin "list.__iadd__" ⟨[l, .ref S], []⟩)) _ _ s
 refine wpAny_bind (wpAny_newObj_type ?_)
 refine wpAny_pure ⟨plainId_quiet F.plain_list_iadd _, codeAny_builtin F.entry_list_iadd ?_⟩
 rw [Around.under_plainId F.plain_list_iadd _]
 show wpAny _ A.in1 (Builtin.List.listExtendWith (.ref s.heap.objs.size) (.ref S) (.ref s.heap.objs.size)) _ _ _
 unfold Builtin.List.listExtendWith
 generalize hH : s.heap.push { cls := .type "list", data := .seq ([] : List Value).toArray } = H
 have hHs : H.objs.size = s.heap.objs.size + 1 := by rw [← hH, Heap.size_push]
 have keep : ∀ b ob, s.heap.get? b = some ob → H.get? b = some ob := fun b ob e => hH ▸ Heap.get?_push_of_some _ e
 have hS1 : SetIs H S (yD w) m es ep := hS.at fun ob e => keep S ob e
 have hT : Shared.TypeIs { s with heap := H } (.ref S) "set" := ⟨o, keep _ _ ho, hex.1⟩
 refine wpAny_bind (wpAny_typeOf (T := "set") (v := .ref S) hT ?_)
 have hSI : s.heap.objs.size ≠ S := Nat.ne_of_gt hSlt
 have h1 : Builtin.List.listSameRef (.ref s.heap.objs.size) (.ref S) = false := by simp [Builtin.List.listSameRef, hSI]
 have h2 : (Value.type "set" == Value.type "list") = false := by decide
 have h3 : (Value.type "set" == Value.type "tuple") = false := by decide
 simp only [h1, h2, h3, Bool.or_false, Bool.false_eq_true, if_false]
 refine wpAny_bind (z8p (s := { s with heap := H }) hS1 ?_)
 have hT2 : Shared.TypeIs { s with heap := H.push { cls := .type "set_iterator", data := .fields #[.int 0 0, .int 0 0, .ref S, .int (es.size : Int) 0, .int (ep : Int) 0] } } (.ref S) "set" := ⟨o, Heap.get?_push_of_some _ (keep _ _ ho), hex.1⟩
 refine wpAny_bind (wpAny_holding ?_)
 unfold Builtin.List.listLengthHint
 refine wpAny_bind (wpAny_specialOf (T := "set") (v := .ref S) hT2 z8v ?_)
 wp_delta
 refine wpAny_bind (wpAny_isInstance (T := "set") (v := .ref S) (b := true) hT2 (by rw [isSubtype_type]; kernel_rfl) ?_)
 show wpAny _ A.in1 (typeOf (Value.ref S) >>= _) _ _ _
 refine wpAny_bind (wpAny_typeOf (T := "set") (v := .ref S) hT2 ?_)
 refine wpAny_pure ?_
 rw [if_pos (by decide)]
 have hSf : s.heap.objs.size ∉ [H.objs.size, S] := by
  rw [hHs]; simp only [List.mem_cons, List.mem_singleton, List.not_mem_nil, or_false, not_or]
  exact ⟨Nat.ne_of_lt (Nat.lt_succ_self _), hSI⟩
 have hL : (H.push { cls := .type "set_iterator", data := .fields #[.int 0 0, .int 0 0, .ref S, .int (es.size : Int) 0, .int (ep : Int) 0] }).get? s.heap.objs.size = some { cls := .type "list", data := .seq ([] : List Value).toArray } := Heap.get?_push_of_some _ (hH ▸ Heap.get?_push_size _ rfl)
 have hneI : S ≠ H.objs.size := by rw [hHs]; exact Nat.ne_of_lt (Nat.lt_succ_of_lt hSlt)
 have hs0 : slOf w (lst m) 0 = 0 := by unfold slOf z0o; simp
 refine wpAny_bind (wpAny_rule ?_)
 unfold Builtin.List.listTouch
 refine wpAny_bind (wpAny_bind (listUpdate_at hL rfl ?_ (by decide) (by decide)))
 have g1 := Heap.get?_update_self (Obj.mapSeq (·.push .none)) hL rfl
 refine listUpdate_at g1 rfl ?_ (by decide) (by decide)
 have g2 := Heap.get?_update_self (Obj.mapSeq (·.pop)) g1 rfl
 have sb := (Heap.SameBut.update (H.push { cls := .type "set_iterator", data := .fields #[.int 0 0, .int 0 0, .ref S, .int (es.size : Int) 0, .int (ep : Int) 0] }) s.heap.objs.size (Obj.mapSeq (·.push .none))).trans (Heap.SameBut.update _ s.heap.objs.size (Obj.mapSeq (·.pop)))
 generalize hH2 : ((H.push { cls := .type "set_iterator", data := .fields #[.int 0 0, .int 0 0, .ref S, .int (es.size : Int) 0, .int (ep : Int) 0] }).update s.heap.objs.size (Obj.mapSeq (·.push .none))).update s.heap.objs.size (Obj.mapSeq (·.pop)) = H2 at g2 sb ⊢
 have hIT : H2.get? H.objs.size = some { cls := .type "set_iterator", data := .fields #[.int 0 0, .int 0 0, .ref S, .int (es.size : Int) 0, .int (ep : Int) 0] } := sb.extBut _ _ (by rw [hHs]; exact Nat.ne_of_gt (Nat.lt_succ_self _)) (Heap.get?_push_size _ rfl)
 have hI0 : IsSI H2 H.objs.size S es.size ep (slOf w (lst m) 0) 0 := by
  rw [hs0]; exact ⟨_, hIT, rfl, rfl⟩
 have hS2 : SetIs H2 S (yD w) m es ep := hS1.at fun ob e => sb.extBut _ _ (Ne.symm hSI) (Heap.get?_push_of_some _ e)
 refine wpAny_pure ⟨plainId_quiet F.plain_extend_loop _, codeAny_extend_loopS (z8Q (A := A.in1) (ep := ep) (es := es) hh H.objs.size S hneI hm).toS (by rw [sizeLine_eq]; omega) _ hSf _ es.size 0 _ _ _ rfl (Nat.zero_le _) ⟨hI0, hS2⟩ g2 (ItemsOf.nil _) fun s' acc' c' hmv hS' hacc => ?_⟩
 show wpAny _ A (load s.heap.objs.size >>= _) _ _ s'
 refine wpAny_bind (wpAny_load hS' ?_)
 obtain ⟨h', g', d', tk', os'⟩ := s'
 have eg : g' = s.gens := hmv.gens
 have ed : d' = s.drawn := hmv.drawn
 have eo : os' = s.os := hmv.os
 subst eg; subst ed; subst eo
 have eacc : acc'.toList = (yk w S ep es).toList.map (·.2) := by
  have hl := (xy w S ep es).length_eq
  rw [Array.length_toList, Array.length_toList] at hl
  refine List.ext_getElem? fun i => ?_
  rw [List.getElem?_map, Array.getElem?_toList, Array.getElem?_toList]
  cases e : acc'[i]? with
  | some v => exact (hacc.2 i v e).symm
  | none =>
   have h1 := Array.getElem?_eq_none_iff.mp e
   rw [hacc.1] at h1
   rw [Array.getElem?_eq_none (by omega)]; rfl
 refine wpAny_pure ?_
 rw [eacc]
 refine hQ h' tk' fun b ob e => hmv.heap b ob (fun hb => ?_) (sb.extBut _ _ (Nat.ne_of_lt (Heap.lt_size e)) (Heap.get?_push_of_some _ (keep _ _ e)))
 have hlt := Heap.lt_size e
 rcases List.mem_cons.mp hb with h | h
 ·exact absurd hlt (h ▸ Nat.lt_irrefl _)
 ·rw [List.mem_singleton.mp h, hHs] at hlt; exact absurd hlt (Nat.not_lt.mpr (Nat.le_succ _))
end
end L2
namespace L2
open PySem PySem.Spec PyProof.Rows
open PySem.W (kat_lt_int)
section
variable {X : Cx}
theorem uj : ∀ {a b : List Int}, a.Perm b → a.Pairwise (· ≤ ·) → b.Pairwise (· ≤ ·) → a = b
 | [], b, h, _, _ => h.nil_eq
 | x :: a, [], h, _, _ => absurd h.length_eq (by simp)
 | x :: a, y :: b, h, h1, h2 => by
  obtain ⟨p1, q1⟩ := List.pairwise_cons.mp h1
  obtain ⟨p2, q2⟩ := List.pairwise_cons.mp h2
  have e : x = y := by
   have hx : x ∈ y :: b := h.mem_iff.mp List.mem_cons_self
   have hy : y ∈ x :: a := h.mem_iff.mpr List.mem_cons_self
   rcases List.mem_cons.mp hx with z | z
   ·exact z
   ·rcases List.mem_cons.mp hy with w | w
    ·exact w.symm
    ·exact Int.le_antisymm (p1 y w) (p2 x z)
  subst e
  rw [uj (h.cons_inv) q1 q2]
theorem z1T {pins : List (Addr × Obj)} {s : Shared} {σ : L2.St} {H : Hp} {Q : VK} {S : Addr → Prop} {x : Value} {ns r : List Int} {its : List Value} (I : L2.Inv X pins σ H s) (hS : ∀ a, S a → H a ≠ none) (rv : Vals (ns.map V.int) its) (h64 : ns.length < 64)
  (hcol : ∀ (Q' : List Value → Shared → Prop), (∀ h' tk, (∀ b o, s.heap.get? b = some o → h'.get? b = some o) → Q' its { s with heap := h', toks := tk }) → wpAny (model X.prog X.w) X.A.in1 (collect x) Q' X.xe s)
  (hr : ns.Perm r) (hrs : r.Pairwise (· ≤ ·)) (q : ∀ v H', Same H H' → DatS S H' (.list (r.map PyData.int)) v → Q v H') : wpAny (model X.prog X.w) X.A (call (.builtin "sorted") [x]) (EP X pins σ Q) X.xe s := by
 have l2 : ns.length = its.length := by rw [← rv.length, List.length_map]
 have at1 : ∀ i, i < its.length → ∃ t, its.getD i Value.none = .int (ns.getD i 0) t := fun i hi => by
  have hi' : i < ns.length := by omega
  obtain ⟨u, e, t, ru⟩ := rv.get (i := i) (x := .int ns[i]) (by rw [List.getElem?_map, List.getElem?_eq_getElem hi']; rfl)
  exact ⟨t, by rw [List.getD_eq_getElem?_getD, e, List.getD_eq_getElem?_getD, List.getElem?_eq_getElem hi', ru]; rfl⟩
 refine z1Q (κ := oneType') (f := fun i => ns.getD i 0) (by omega) hcol (fun s' Q' E' h2 kp hq' => ?_) (fun i j s' Q' E' hi hj kp hq' => ?_) fun p h' hf e tk hp hup k1 k2 ho => ?_
 ·refine W.kas_kind (T := .type "int") h2 (fun v hv => ?_) rfl rfl hq'
  obtain ⟨i, hi, rfl⟩ := List.mem_iff_getElem.mp hv
  obtain ⟨t, e⟩ := at1 i hi
  rw [List.getD_eq_getElem?_getD, List.getElem?_eq_getElem hi] at e
  have e' : its[i] = .int (ns.getD i 0) t := e
  rw [e']
  exact W.Looks.of_pure rfl
 ·obtain ⟨t, e1⟩ := at1 i hi
  obtain ⟨t2, e2⟩ := at1 j hj
  rw [e1, e2]
  exact kat_lt_int hq'
 ·have hpl : p.toList.Perm (List.range its.length) := by simpa using hp.toList
  have hmem : ∀ i ∈ p.toList, i < its.length := fun i hi => List.mem_range.mp (hpl.mem_iff.mp hi)
  have hsz : p.size = its.length := by have := hpl.length_eq; simpa using this
  have er : p.toList.map (fun i => ns.getD i 0) = r := by
   refine uj (List.Perm.trans ?_ hr) ?_ hrs
   ·have := hpl.map fun i => ns.getD i 0
    rwa [show (List.range its.length).map (fun i => ns.getD i 0) = ns from List.ext_getElem (by simp [l2]) fun i a b => by simp [List.getD_eq_getElem?_getD, b]] at this
   ·rw [List.pairwise_map]; exact wX hsz hup
  have vals : ∀ l : List Nat, (∀ i ∈ l, i < its.length) → Vals ((l.map fun i => ns.getD i 0).map V.int) (l.map fun i => its.getD i Value.none) := fun l => by
   induction l with
   | nil => intro _; exact .nil
   | cons i l ih =>
    intro hl
    obtain ⟨t, e⟩ := at1 i (hl i List.mem_cons_self)
    exact .cons ⟨t, e⟩ (ih fun j hj => hl j (List.mem_cons_of_mem _ hj))
  have vp := vals p.toList hmem
  rw [er] at vp
  have I1 := I.kept (t' := tk) k1
  refine ⟨.ref h'.objs.size, _, I1.laid (t' := tk) (a := h'.objs.size) (o := .lst (r.map V.int)) (h' := hf) k2 (Nat.le_refl _) ⟨by rw [List.length_map, ← hr.length_eq, sizeLine_eq]; omega, _, e, vp, ho⟩, rfl, q _ _ (Same.new (I1.hok.fresh (Nat.le_refl _))) (xz hS (I1.hok.fresh (Nat.le_refl _)) (z13 r))⟩
end
end L2
namespace L2
open PySem PySem.Spec PyProof.Rows
noncomputable def m8 (ns : List Nat) : Nat := mOf (fun i => ns.getD i 0) ns.length
noncomputable def toN8 : List PyData → Option (List Nat)
 | [] => some []
 | .int i :: r => if 0 ≤ i ∧ i < 8 then (toN8 r).map (i.toNat :: ·) else none
 | _ => none
theorem z2q : ∀ {ds : List PyData} {ns : List Nat}, toN8 ds = some ns → ds = ns.map (fun n => PyData.int (nI n)) ∧ ∀ n ∈ ns, n < 8
 | [], ns, h => by simp only [toN8] at h; cases h; exact ⟨rfl, fun n hn => nomatch hn⟩
 | d :: r, ns, h => by
  cases d <;> simp only [toN8] at h <;> try (cases h; done)
  rename_i i
  split at h
  next hi =>
   cases e : toN8 r with
   | none => rw [e] at h; cases h
   | some ms =>
    rw [e] at h; cases h
    obtain ⟨e1, e2⟩ := z2q e
    refine ⟨by rw [List.map_cons, ← e1, show nI i.toNat = i from Int.toNat_of_nonneg hi.1], fun n hn => ?_⟩
    rcases List.mem_cons.mp hn with rfl | hn
    ·omega
    ·exact e2 n hn
  next => cases h
theorem z0O : ∀ ns : List Nat, yB (ns.map fun n => PyData.int (nI n)) = some (ns.map nI)
 | [] => rfl
 | n :: ns => by simp only [List.map_cons, yB]; rw [z0O ns]; rfl
theorem z94 {ns : List Nat} (h : ∀ n ∈ ns, n < 8) : m8 ns < 256 := z3e fun i hi => by
 rw [List.getD_eq_getElem?_getD, List.getElem?_eq_getElem hi]
 exact h _ (List.getElem_mem hi)
theorem z5w {ns : List Nat} (h : ∀ n ∈ ns, n < 8) (x : Nat) : x ∈ lst (m8 ns) ↔ x ∈ ns := by
 by_cases hx : x < 8
 ·rw [z35 hx, m8, z3J]
  constructor
  ·rintro ⟨i, hi, e⟩
   rw [List.getD_eq_getElem?_getD, List.getElem?_eq_getElem hi] at e
   rw [← e]; exact List.getElem_mem hi
  ·intro hm
   obtain ⟨i, hi, e⟩ := List.mem_iff_getElem.mp hm
   exact ⟨i, hi, by rw [List.getD_eq_getElem?_getD, List.getElem?_eq_getElem hi]; exact e⟩
 ·exact ⟨fun hm => absurd (z68 hm) hx, fun hm => absurd (h x hm) hx⟩
theorem uU (m : Nat) : (lst m).Pairwise (· < ·) := List.Pairwise.sublist List.filter_sublist List.pairwise_lt_range
noncomputable def yu : PyData → Option PyData
 | .list ds => (toN8 ds).map fun ns => .list ((lst (m8 ns)).map fun n => PyData.int (nI n))
 | _ => none
variable {X : Cx}
noncomputable def φSet (w : World) (D m : Nat) : Heap → Prop := fun h => SetAt h D (yD w) m
noncomputable abbrev z8m (w : World) (K : W.Frag) : List V → Hp → VK → Prop := fun xs H Q => ∃ (p : Addr) (ns : List Nat), xs = [.ref p] ∧ SqL K H p (ns.map fun n => V.int (nI n)) ∧ (∀ n ∈ ns, n < 8) ∧ ∀ D, H D = none → Q (.ref D) (upd H D (.ext (φSet w D (m8 ns))))
theorem z2X (hc : X.calm = true) : CallR X (.type "set") (z8m X.w X.K) := by
 intro pins s σ H xs us Q I r h
 obtain ⟨p, ns, rfl, hq, h8, q⟩ := h
 obtain ⟨u, rfl, ru⟩ := xY r
 cases ru
 obtain ⟨its, rv, pl, hz⟩ := I.list hq
 have hlen : its.length = ns.length := by rw [← rv.length, List.length_map]
 have hsz : its.toArray.size = ns.length := by simpa using hlen
 refine z3M (val := fun i => ns.getD i 0) (I.ok.hd hc) pl.isList (fun i v e => ?_) (fun i hi => ?_) fun h' tk hS kp => ?_
 ·have e' : its[i]? = some v := by simpa using e
  have hi : i < ns.length := by rw [← hlen]; exact (List.getElem?_eq_some_iff.mp e').1
  obtain ⟨v', e3, t, rfl⟩ := rv.get (i := i) (x := .int (nI (ns.getD i 0))) (by rw [List.getElem?_map, List.getElem?_eq_getElem hi, List.getD_eq_getElem?_getD, List.getElem?_eq_getElem hi]; rfl)
  rw [e3] at e'; cases e'
  exact ⟨t, rfl⟩
 ·have hi' : i < ns.length := by rw [← hsz]; exact hi
  show ns.getD i 0 < 8
  rw [List.getD_eq_getElem?_getD, List.getElem?_eq_getElem hi']
  exact h8 _ (List.getElem_mem hi')
 ·rw [hsz] at hS
  have hn : H s.heap.objs.size = none := I.hok.fresh (Nat.le_refl _)
  refine ⟨.ref s.heap.objs.size, _, I.laid (t' := tk) (a := s.heap.objs.size) (o := .ext (φSet X.w s.heap.objs.size (m8 ns))) (h' := h') kp (Nat.le_refl _) ⟨hS, ?_, fun h1 h2 a b => SetAt.at a b⟩, rfl, q _ hn⟩
  obtain ⟨o, es, ep, ho, _⟩ := hS
  exact ⟨o, ho⟩
noncomputable abbrev z7r (w : World) : List V → Hp → VK → Prop := fun xs H Q => ∃ (D : Addr) (m : Nat) (S : Addr → Prop), xs = [.ref D] ∧ H D = some (.ext (φSet w D m)) ∧ m < 256 ∧ (∀ a, S a → H a ≠ none) ∧ ∀ v H', Same H H' → DatS S H' (.list ((lst m).map fun n => PyData.int (nI n))) v → Q v H'
theorem z2T (hc : X.calm = true) : CallR X (.builtin "sorted") (z7r X.w) := by
 intro pins s σ H xs us Q I r h
 obtain ⟨D, m, S, rfl, hD, hm, hS, q⟩ := h
 obtain ⟨u, rfl, ru⟩ := xY r
 cases ru
 obtain ⟨hφ, _, _⟩ := I.hok D _ hD
 obtain ⟨o, es, ep, ho, hex, hd, he, hf⟩ : SetAt s.heap D (yD X.w) m := hφ
 have hset : SetIs s.heap D (yD X.w) m es ep := ⟨o, ho, hex, hd, he, hf⟩
 have pe := xy X.w D ep es
 have val : ∀ l : List (Int × Value), (∀ e ∈ l, ∃ t, e.2 = .int e.1 t) → Vals (l.map fun e => V.int e.1) (l.map (·.2)) := fun l => by
  induction l with
  | nil => intro _; exact .nil
  | cons e l ih =>
   intro hl
   obtain ⟨t, et⟩ := hl e List.mem_cons_self
   exact .cons ⟨t, et⟩ (ih fun e' h' => hl e' (List.mem_cons_of_mem _ h'))
 have rv := val (yk X.w D ep es).toList fun e hm' => he.2 e (pe.mem_iff.mp hm')
 rw [show ((yk X.w D ep es).toList.map fun e => V.int e.1) = ((yk X.w D ep es).toList.map (·.1)).map V.int by rw [List.map_map]; rfl] at rv
 have hp : ((yk X.w D ep es).toList.map (·.1)).Perm ((lst m).map nI) := by
  have h1 := pe.map (·.1)
  rw [he.1] at h1
  exact h1
 refine z1T I hS rv ?_ (fun Q' hq' => z5Q (A := X.A.in1) (I.ok.hd hc) hm hset hq') hp ?_ ?_
 ·rw [hp.length_eq, List.length_map]
  have := wW m
  omega
 ·rw [List.pairwise_map]
  exact (uU m).imp fun {a b} hab => by unfold nI; omega
 ·rw [List.map_map]
  exact q
variable {K : W.Frag} {Er : Str → Hp → Prop} {a : Expr} {ma : Env' → Mx D}
theorem ud {p p2 pos pos2 : Pos} (hc : X.calm = true) (hg1 : Gl X "sorted") (hm1 : X.mg "sorted" = none) (hv1 : bootBuiltins "sorted" = some (.builtin "sorted")) (hg2 : Gl X "set") (hm2 : X.mg "set" = none) (hv2 : bootBuiltins "set" = some (.type "set")) (ha : DW K Er X a ma)
  (hs : starEach [a] X.env = (false, eval a X.env) :: starEach [] X.env := by rfl) : DE K Er X (.Call (.Name "sorted" p) [.Call (.Name "set" p2) [a] [] pos2] [] pos) (mUn yu ma) :=
 (zz (z2T hc) hg1 hm1 hv1 (zW (xX (z2X hc) hg2 hm2 hv2 (zW ha pa_nil hs) (he := hs)) pa_nil)).imp fun σ H Q h => rd1 h (fun _ _ _ _ _ _ _ _ _ _ r => r) fun g ow ρ n d v H0 H2 fr _ r q => by
  obtain ⟨z, e, q2⟩ := xG fr.twn q
  obtain ⟨x, rfl, e1⟩ := zl e
  cases x <;> simp only [yu] at e1 <;> try (cases e1; done)
  rename_i ds
  cases en : toN8 ds with
  | none => rw [en] at e1; cases e1
  | some ns =>
   rw [en] at e1; cases e1
   obtain ⟨ed, h8⟩ := z2q en
   obtain ⟨b, xs, rfl, g1, k1⟩ := yO (Rep1.d1 r)
   have ex : xs = ns.map fun n => V.int (nI n) := by
    have := wD (ds := ds) (ns := ns.map nI) (by rw [ed]; exact z0O ns) k1
    rw [this, List.map_map]; rfl
   subst ex
   refine ⟨b, ns, rfl, SqL.of g1, h8, fun D' hD => ⟨D', m8 ns, g.S ow, rfl, zC, z94 h8, fun c hcS => ?_, fun v H' s' dv => q2 _ _ (fun b' o' e' => s' _ _ (Same.new hD _ _ e')) dv⟩⟩
   intro z
   by_cases hcD : c = D'
   ·subst hcD; rw [zC] at z; cases z
   ·rw [zF hcD] at z; exact fr.dom c hcS z
end L2
namespace L2
open PySem PySem.Spec PyProof.Rows
section
variable {M : Model} {A : Around} {E : Value → Shared → Prop} {s : Shared}
end
section
variable {X : Cx} {E : XK} {x : Str} {C : Addr} {bmB : List Value} {B newId initId : String} {np cpos pos : Pos} {a : Expr} {ta : TA}
end
section
variable {K : W.Frag} {Er : Str → Hp → Prop} {X : Cx} {E : XK}
end
section
variable {P : Program} {w : World} {K : W.Frag} {mg : Str → Option Value} {base : Heap}
end
end L2
namespace L2
open PySem PySem.Spec PyProof.Rows
section
variable {X : Cx} {pins : List (Addr × Obj)} {σ : St} {H : Hp} {s : Shared}
end
section
variable {M : Model} {A : Around} {E : Value → Shared → Prop}
variable {nm q nm' q' : Str} {C N G N' : Addr} {bs bm bs' bm' : List Value} {hd hd' : Bool} {sn sn' : List Str} {sub sub' : List Value} {ab ab' : Bool} {col col' : Option Bool} {dd dd' : Option Addr} {k0 k1 k2 k3 k5 j0 j1 j2 j3 j5 : Option Value} {nI nI' : String}
end
end L2
namespace L2
open PySem PySem.Spec PyProof.Rows
section
variable {X : Cx} {pins : List (Addr × Obj)} {σ : St} {H : Hp} {s : Shared}
end
end L2
namespace L2
open PySem PySem.Spec PyProof.Rows
section
variable {X : Cx} {pins : List (Addr × Obj)} {σ : St} {H : Hp} {s : Shared}
end
end L2
namespace L2
open PySem PySem.Spec PyProof.Rows
section
open PySem.W
variable {prog : Program} {w : World} {A : Around} {E : Value → Shared → Prop} {h : Heap} {g : Array GenState} {d : Drawn} {t : Nat} {os : OsState} {a C : Addr} {o : Obj} {K : Frag}
end
end L2
namespace L2
open PySem PySem.Spec PyProof.Rows
section
variable {X : Cx} {CX : CXT} {k : Nat} {f C : Addr} {fd : FuncData} {ps : List Str} {sp : Sp} {dvs : List V} {ds : List Value} {E : XK} {x m : Str} {p pos apos : Pos} {e o : Expr} {es : List Expr} {ta : TE} {t : TA}
end
section
variable {K : W.Frag} {Er : Str → Hp → Prop} {X : Cx} {e : Expr} {es : List Expr} {pos : Pos} {ms : Env' → Mx (List D)}
end
section
variable {P : Program} {w : World} {K : W.Frag} {mg : Str → Option Value} {base : Heap}
end
end L2
namespace L2
open PySem PySem.Spec PyProof.Rows
section
open PySem.W
variable {K : Frag} {ea C : Addr}
end
section
variable {X : Cx}
variable {K : W.Frag} {Er : Str → Hp → Prop} {e : Expr} {m : Env' → Mx D}
end
section
variable {K : W.Frag} {Er : Str → Hp → Prop} {X : Cx}
end
end L2
namespace L2
open PySem PySem.Spec PyProof.Rows
section
variable {X : Cx}
end
section
variable {K : W.Frag} {Er : Str → Hp → Prop} {X : Cx} {e : Expr} {m : Env' → Mx D}
end
end L2
namespace L2
open PySem PySem.Spec PyProof.Rows
section
variable {K : W.Frag} {Er : Str → Hp → Prop} {X : Cx}
end
section
variable {K : W.Frag} {G : Addr} {Cs : List Addr}
end
end L2
namespace L2
open PySem PySem.Spec PyProof.Rows
section
variable {K : W.Frag} {Er : Str → Hp → Prop} {X : Cx} {e : Expr} {es : List Expr} {m : Env' → Mx D} {ms : Env' → Mx (List D)}
end
end L2
namespace L2
open PySem PySem.Spec PyProof.Rows
section
variable {K : W.Frag} {Er : Str → Hp → Prop} {X : Cx} {e a b : Expr} {es els : List Expr} {ms : Env' → Mx (List D)} {m : Env' → Mx D} {pos p lp : Pos}
end
end L2
namespace L2
open PySem PySem.Spec PyProof.Rows
section
variable {K : W.Frag} {Er : Str → Hp → Prop} {X : Cx} {a : Expr} {ma : Env' → Mx D} {pos p2 : Pos}
end
end L2
namespace L2
open PySem PySem.Spec PyProof.Rows PySem.Builtin PySem.Builtin.Str
section
variable {K : W.Frag} {Er : Str → Hp → Prop} {X : Cx} {e a tg it : Expr} {ma mo m : Env' → Mx D} {pos : Pos}
noncomputable def toS : List PyData → Option (List Str)
 | [] => some []
 | .str y :: r => (toS r).map (y :: ·)
 | _ :: _ => none
end
end L2
namespace L2
open PySem PySem.Spec PyProof.Rows PySem.Builtin PySem.Builtin.Str
section
variable {K : W.Frag} {Er : Str → Hp → Prop} {X : Cx} {o a : Expr} {ma mo : Env' → Mx D} {apos cpos : Pos}
end
end L2
namespace L2
open PySem PySem.Spec PyProof.Rows PySem.Builtin
section
variable {K : W.Frag} {Er : Str → Hp → Prop} {X : Cx} {e o a : Expr} {ma mo m : Env' → Mx D} {apos cpos pos : Pos}
end
end L2
namespace PySem.SeqAt
open PySem PySem.MeetsSeq PySem.MeetsSeq2 PySem.MeetsSeq3 PySem.Builtin
open PySem.AutoSeq1 (wpAny_loadPart')
end PySem.SeqAt
namespace L2
open PySem PySem.Spec PyProof.Rows
mutual
noncomputable def ltP : PyData → PyData → Option Bool
 | .int i, .int j => some (decide (i < j))
 | .tuple xs, .tuple ys => ltPs xs ys
 | _, _ => none
noncomputable def ltPs : List PyData → List PyData → Option Bool
 | x :: xs, y :: ys => if PyData.eqv x y = true then ltPs xs ys else ltP x y
 | [], [] => some false
 | [], _ :: _ => some true
 | _ :: _, [] => some false
end
end L2
namespace HT
open PySem PySem.Spec PyProof.Rows L2
section
open PySem.SeqAt
open PySem.AutoSeq1 (wpAny_loadPart')
open PySem.MeetsSeq PySem.MeetsSeq2 PySem.MeetsSeq3
theorem z0J (l b : Addr) (items items2 : Array Value) (n n2 : Nat) (dd dd2 : Option Addr) (sl sl2 : Array (Option Value)) (xs ys : List PyData) (r : Bool) (hr : ltPs xs ys = some r)
  (hx : PyData.canLayAll0 xs = true) (hy : PyData.canLayAll0 ys = true)
  (lt : ∀ (A : Around) (s : Shared) (u v : Value) (dx dy : PyData) (as bs : List Addr) (r : Bool) (prog : Program) (w : World) (Q : Value → Shared → Prop) (E : Value → Shared → Prop), dx ∈ xs → dy ∈ ys → Reads s.heap u dx as → Reads s.heap v dy bs → dx.canLay0 = true → dy.canLay0 = true → A.units + 2 * PyData.depthAll xs < cLine → ltP dx dy = some r → Q (.bool r) s → wpAny (model prog w) A (richCompare .Lt u v) Q E s) :
  Meets (Builtin.«tuple.__lt__» ⟨[.ref l, .ref b], []⟩)
   (fun A R s => s.heap.get? l = some { cls := .type "tuple", dict := dd, data := .seq items n, slots := sl } ∧ s.heap.get? b = some { cls := .type "tuple", dict := dd2, data := .seq items2 n2, slots := sl2 } ∧
    (∃ as bs, ReadsAll s.heap items.toList xs as ∧ ReadsAll s.heap items2.toList ys bs) ∧ A.in1.units + 2 * PyData.depthAll xs < cLine ∧ R (.ok (.ret (.bool r))) s) :=
 .of_wp fun prog w A R s h => by
  obtain ⟨hp, g, d, tk, os⟩ := s; obtain ⟨hl, hb, ⟨as, bs, ra, rb⟩, hu, h⟩ := h
  have f2 := AutoSeq1.sub_tuple_tuple
  wp_walk using wpAny_loadPart' hl, wpAny_loadPart' hb, wpAny_forIn_list _ (fun rest b s' => b.1 = none ∧ s' = ⟨hp, g, d, tk, os⟩ ∧ ∃ (vs ws : List Value) (xs' ys' : List PyData) (as bs : List Addr), rest = vs.zip ws ∧
   ReadsAll hp vs xs' as ∧ ReadsAll hp ws ys' bs ∧ vs.length + items2.size = ws.length + items.size ∧ (∀ x ∈ xs', x ∈ xs) ∧ (∀ y ∈ ys', y ∈ ys) ∧ PyData.canLayAll0 xs' = true ∧ PyData.canLayAll0 ys' = true ∧ PyData.depthAll xs' ≤ PyData.depthAll xs ∧ ltPs xs' ys' = some r) _
  case turn =>
   rintro ⟨y, x⟩ rest b s' ⟨hb', rfl, vs, ws, xs', ys', as, bs, hz, rva, rwb, hlen, hmx, hmy, cx, cy, hd, hlt⟩
   cases rva with
   | nil => rw [List.zip_nil_left] at hz; cases hz
   | cons r1 ra' =>
    rename_i v vs' dx xs'' as1 as2
    cases rwb with
    | nil => rw [List.zip_nil_right] at hz; cases hz
    | cons r2 rb' =>
     rename_i w' ws' dy ys'' bs1 bs2
     rw [List.zip_cons_cons] at hz
     injection hz with hyx hrest
     injection hyx with hy' hx'
     subst hy' hx'
     simp only [PyData.canLayAll0, Bool.and_eq_true] at cx cy
     simp only [PyData.depthAll] at hd
     simp only [List.length_cons] at hlen
     have hu2 : A.in1.units + min dx.depth dy.depth < cLine := by
      have := Nat.min_le_left dx.depth dy.depth
      omega
     have he := eqAt_reads dx dy A.in1 ⟨hp, g, d, tk, os⟩ y x _ _ r1 r2 cx.1 cy.1 hu2
     refine wpAny_bind (he prog w _ _ ?_)
     simp only [ltPs] at hlt
     cases ee : PyData.eqv dx dy with
     | true =>
      rw [ee, if_pos rfl] at hlt
      wp_walk
      exact ⟨rfl, rfl, vs', ws', xs'', ys'', _, _, hrest, ra', rb', by omega, fun z hz => hmx z (List.mem_cons_of_mem _ hz), fun z hz => hmy z (List.mem_cons_of_mem _ hz), cx.2, cy.2, by omega, hlt⟩
     | false =>
      rw [ee, if_neg Bool.false_ne_true] at hlt
      have hri := fun (E : Value → Shared → Prop) (Q : Value → Shared → Prop) (h : Q (.bool r) ⟨hp, g, d, tk, os⟩) => lt A.in1 ⟨hp, g, d, tk, os⟩ y x dx dy _ _ r prog w Q E (hmx dx List.mem_cons_self) (hmy dy List.mem_cons_self) r1 r2 cx.1 cy.1 hu hlt h
      wp_walk using hri
      exact ⟨_, rfl, by simpa using h⟩
  case fin =>
   rintro ⟨b1, b2⟩ s' ⟨hb', rfl, vs, ws, xs', ys', as, bs, hz, rva, rwb, hlen, hmx, hmy, cx, cy, hd, hlt⟩
   simp only at hb'
   subst hb'
   have hv : r = decide (items.size < items2.size) := by
    cases rva with
    | nil =>
     cases rwb with
     | nil =>
      simp only [List.length_nil, ltPs] at hlen hlt
      cases hlt
      exact (decide_eq_false (by omega)).symm
     | cons r2 rb' =>
      simp only [List.length_nil, List.length_cons, ltPs] at hlen hlt
      cases hlt
      exact (decide_eq_true (by omega)).symm
    | cons r1 ra' =>
     cases rwb with
     | nil =>
      simp only [List.length_nil, List.length_cons, ltPs] at hlen hlt
      cases hlt
      exact (decide_eq_false (by omega)).symm
     | cons r2 rb' =>
      rw [List.zip_cons_cons] at hz
      cases hz
   rw [hv] at h
   wp_walk
   exact ⟨_, rfl, by simpa [Builtin.Tuple.tupleCompareSizes] using h⟩
  case h =>
   exact ⟨rfl, rfl, items.toList, items2.toList, xs, ys, as, bs, rfl, ra, rb, by simp; omega, fun _ z => z, fun _ z => z, hx, hy, Nat.le_refl _, hr⟩
end
theorem lt_reads : ∀ (N : Nat) (A : Around) (s : Shared) (u v : Value) (dx dy : PyData) (as bs : List Addr) (r : Bool) (prog : Program) (w : World) (Q : Value → Shared → Prop) (E : Value → Shared → Prop), dx.depth ≤ N → Reads s.heap u dx as → Reads s.heap v dy bs → dx.canLay0 = true → dy.canLay0 = true → A.units + 2 * dx.depth < cLine → ltP dx dy = some r → Q (.bool r) s → wpAny (model prog w) A (richCompare .Lt u v) Q E s := by
 intro N
 induction N with
 | zero =>
  intro A s u v dx dy as bs r prog w Q E hN ru rv cx cy hu hr hq
  cases dx <;> cases dy <;> simp only [ltP] at hr <;> try (cases hr; done)
  ·cases hr
   cases ru
   cases rv
   exact z0D A s _ _ _ _ prog w E Q hq
  ·simp [PyData.depth] at hN
 | succ N ih =>
  intro A s u v dx dy as bs r prog w Q E hN ru rv cx cy hu hr hq
  cases dx <;> cases dy <;> simp only [ltP] at hr <;> try (cases hr; done)
  ·cases hr
   cases ru
   cases rv
   exact z0D A s _ _ _ _ prog w E Q hq
  ·rename_i xs ys
   simp only [PyData.depth] at hN hu
   simp only [PyData.canLay0] at cx cy
   cases ru with
   | tuple a1 a2 a3 a4 =>
    cases rv with
    | tuple b1 b2 b3 b4 =>
     rename_i l1 o1 v1 n1 l2 o2 v2 n2
     obtain ⟨cls, dd, data, sl⟩ := o1
     obtain ⟨cls2, dd2, data2, sl2⟩ := o2
     simp only at a2 a3 b2 b3
     subst a2 a3 b2 b3
     have dle : ∀ (l : List PyData) (x : PyData), x ∈ l → x.depth ≤ PyData.depthAll l := by
      intro l
      induction l with
      | nil => intro x h; cases h
      | cons y t iht =>
       intro x h
       simp only [PyData.depthAll]
       rcases List.mem_cons.mp h with rfl | h
       ·omega
       ·have := iht x h; omega
     exact richCompare_meets_room (op := .Lt) ⟨_, a1, rfl⟩ ⟨_, b1, rfl⟩ PySem.F.slot_tuple_lt PySem.F.entry_tuple_lt (PySem.F.args_tuple_lt_2 _ _)
      (z0J l1 l2 v1 v2 n1 n2 dd dd2 sl sl2 xs ys r hr cx cy fun A s u v dx dy as bs r prog w Q E hx hy ru rv c1 c2 hu hr hq => ih A s u v dx dy as bs r prog w Q E (by have := dle xs dx hx; omega) ru rv c1 c2 (by have := dle xs dx hx; omega) hr hq)
      ⟨a1, b1, ⟨_, _, a4, b4⟩, by show A.units + 1 + 2 * PyData.depthAll xs < cLine; omega, show Value.bool r ≠ Value.notImplemented ∧ Q (.bool r) s from ⟨(fun x => nomatch x), hq⟩⟩ (by omega)
end HT
namespace L2
open PySem PySem.Spec PyProof.Rows
section
variable {K : W.Frag} {Er : Str → Hp → Prop} {X : Cx} {e : Expr} {m : Env' → Mx D}
noncomputable def fLtN (x y : PyData) : Option PyData := if x.canLay0 = true ∧ y.canLay0 = true ∧ x.depth ≤ 20 then (ltP x y).map PyData.bool else none
theorem z87 (hu : X.A.units + 64 < cLine) : OpR X (compareOp .Lt) (rD2 fLtN) := by
 intro pins s σ H x y v u Q I rx ry h
 obtain ⟨S, d, e, r, hS, h1, h2, hf, q⟩ := h
 unfold fLtN at hf
 split at hf
 next c =>
  obtain ⟨b, eb, rfl⟩ := Option.map_eq_some_iff.mp hf
  obtain ⟨as, r1⟩ := DatV.reads I.hok (h1.datV c.1) rx
  obtain ⟨bs, r2⟩ := DatV.reads I.hok (h2.datV c.2.1) ry
  exact HT.lt_reads 20 X.A s v u d e _ _ b X.prog X.w _ _ c.2.2 r1 r2 c.1 c.2.1 (by omega) eb ⟨.bl b, H, I, rfl, q _ _ (Same.refl _) db⟩
 next => cases hf
noncomputable def btP (ds : List PyData) (i j : Nat) : Bool := (ltP (ds.getD i .none) (ds.getD j .none)).getD false
noncomputable def z0Z : List PyData → Option PyData
 | [.list ds] => if ds ≠ [] ∧ PyData.canLayAll0 ds = true ∧ PyData.depthAll ds ≤ 20 ∧ (ds.all fun x => ds.all fun y => (ltP x y).isSome) = true then some (ds.getD (argBest (btP ds) (ds.length - 1)) .none) else none
 | _ => none
theorem z0l {l : List PyData} (h : PyData.canLayAll0 l = true) : ∀ x ∈ l, x.canLay0 = true := by
 induction l with
 | nil => intro x hx; cases hx
 | cons y t ih =>
  simp only [PyData.canLayAll0, Bool.and_eq_true] at h
  intro x hx
  rcases List.mem_cons.mp hx with rfl | hx
  ·exact h.1
  ·exact ih h.2 x hx
theorem z4a {l : List PyData} : ∀ x ∈ l, x.depth ≤ PyData.depthAll l := by
 induction l with
 | nil => intro x hx; cases hx
 | cons y t ih =>
  intro x hx
  simp only [PyData.depthAll]
  rcases List.mem_cons.mp hx with rfl | hx
  ·omega
  ·have := ih x hx; omega
theorem z1f (hc : X.calm = true) (hu : X.A.units + 64 < cLine) : CallR X (.builtin "min") (rDn z0Z) := by
 intro pins s σ H xs us Q I r h
 obtain ⟨S, ds, r', hS, h1, hf, q⟩ := h
 match ds, hf, h1 with
 | [.list ds], hf, h1 =>
  simp only [z0Z] at hf
  split at hf
  next c =>
   obtain ⟨c0, c1, c2, c3⟩ := c
   cases hf
   obtain ⟨v, rfl, r1⟩ := all1 h1
   obtain ⟨a, ys, rfl, g1, k1⟩ := yO r1
   obtain ⟨u, rfl, ru⟩ := xY r
   cases ru
   obtain ⟨its, rv, pl, hz⟩ := I.list (SqL.of g1)
   have hn : 0 < ds.length := List.length_pos_iff.mpr c0
   have hl1 : ys.length = ds.length := k1.length.symm
   have hl2 : its.length = ys.length := rv.length.symm
   have at_ : ∀ {i : Nat} {w : Value}, its[i]? = some w → ∃ y, ys[i]? = some y ∧ RelV y w ∧ i < ds.length ∧ DatS S H (ds.getD i .none) y := fun {i w} e => by
    obtain ⟨y, e1, e2⟩ := rv.back e
    have hi : i < ds.length := by rw [← hl1]; exact (List.getElem?_eq_some_iff.mp e1).1
    obtain ⟨y', ey, d⟩ := k1.get (List.getElem?_eq_getElem hi)
    rw [e1] at ey; cases ey
    exact ⟨y, e1, e2, hi, by rw [List.getD_eq_getElem?_getD, List.getElem?_eq_getElem hi]; exact d⟩
   have mem_ : ∀ {i : Nat}, i < ds.length → ds.getD i .none ∈ ds := fun {i} hi => by
    rw [List.getD_eq_getElem?_getD, List.getElem?_eq_getElem hi]; exact List.getElem_mem hi
   refine z4o (bt := btP ds) (I.ok.hd hc) pl.isList (by omega) (fun i j vi vj s' Q' E' e1 e2 kp hq' => ?_) fun w h' tk hv kp => ?_
   ·obtain ⟨y1, _, q1, hi, d1⟩ := at_ e1
    obtain ⟨y2, _, q2, hj, d2⟩ := at_ e2
    have cl1 := z0l c1 _ (mem_ hi)
    have cl2 := z0l c1 _ (mem_ hj)
    obtain ⟨as, r1⟩ := DatV.reads I.hok (d1.datV cl1) q1
    obtain ⟨bs, r2⟩ := DatV.reads I.hok (d2.datV cl2) q2
    have hs : (ltP (ds.getD i .none) (ds.getD j .none)).isSome = true := by
     rw [List.all_eq_true] at c3
     exact List.all_eq_true.mp (c3 _ (mem_ hi)) _ (mem_ hj)
    obtain ⟨b, eb⟩ := Option.isSome_iff_exists.mp hs
    have hb : btP ds i j = b := by unfold btP; rw [eb]; rfl
    rw [hb] at hq'
    have hd := z4a _ (mem_ hi)
    exact HT.lt_reads 20 X.A.in1 s' vi vj _ _ _ _ b X.prog X.w _ _ (by omega) (PyProof.Rows.Reads.keeps kp r1) (PyProof.Rows.Reads.keeps kp r2) cl1 cl2 (by show X.A.units + 1 + 2 * _ < cLine; omega) eb hq'
   ·obtain ⟨y, ey, ry, hi, dy⟩ := at_ hv
    rw [hl2, hl1] at dy
    exact ⟨y, H, I.kept (t' := tk) kp, ry, q _ _ (Same.refl _) dy⟩
  next => cases hf
end
end L2
namespace PySem.SeqAt
open PySem PySem.MeetsSeq PySem.MeetsSeq2 PySem.MeetsSeq3 PySem.Builtin
open PySem.AutoSeq1 (wpAny_loadPart')
theorem ut (l : Addr) (items : Array Value) (n : Nat) (dd : Option Addr) (sl : Array (Option Value)) (x : Value) (e : Value → Bool) (j : Nat) (hj : j < items.size)
  (hit : e items[j] = true) (k : Nat) (hs1 : items.size ≤ sizeLine) :
  ∀ i : Nat, j - i = k → i ≤ j → (∀ m (hm : m < items.size), i ≤ m → m < j → e items[m] = false) → Meets (Builtin.«list.remove.loop» ⟨[.ref l, x, rawInt i], []⟩)
   (fun A R s => s.heap.get? l = some { cls := .type "list", dict := dd, data := .seq items n, slots := sl } ∧ (∀ y, y ∈ items → EqAt A.in1 s y x (e y)) ∧ R (.ok (.ret .none)) { s with heap := s.heap.update l (Obj.mapSeq (·.eraseIdxIfInBounds j)) }) := by
 induction k with
 | zero =>
  intro i hk hij hno prog w A R s h
  obtain ⟨hp, g, d, tk, os⟩ := s; obtain ⟨hl, he, h⟩ := h
  have hij' : i = j := by omega
  subst hij'
  wp_walk using wpAny_loadPart' hl
  have hi : items[((i : Nat) : Int).toNat]? = some items[i] := by simp [hj]
  rw [hi]
  refine wpAny_bind (he _ (Array.getElem_mem hj) prog w _ _ ?_)
  rw [hit]
  have hz' : (items.eraseIdxIfInBounds i).size ≤ sizeLine + 1 := Nat.le_trans (size_erased items _) (Nat.le_succ_of_le hs1)
  wp_walk using (wpAny_updateSeq hl rfl (hz := hs1) (_hz' := hz')), wpAny_loadPart' hl
  simpa using h
 | succ k ih =>
  intro i hk hij hno prog w A R s h
  obtain ⟨hp, g, d, tk, os⟩ := s; obtain ⟨hl, he, h⟩ := h
  have hlt : i < items.size := by omega
  wp_walk using wpAny_loadPart' hl
  have hi : items[((i : Nat) : Int).toNat]? = some items[i] := by simp [hlt]
  have hc : ((i : Int) + 1) = ((i + 1 : Nat) : Int) := by push_cast; rfl
  rw [hi]
  refine wpAny_bind (he _ (Array.getElem_mem hlt) prog w _ _ ?_)
  rw [hno i hlt (Nat.le_refl _) (by omega)]
  wp_walk
  rw [hc]
  exact ⟨plainId_quiet plain_remove_loop _, codeAny_builtin entry_remove_loop (by
   rw [Around.under_plainId plain_remove_loop _]
   exact ih (i + 1) (by omega) (by omega) (fun m hm h1 h2 => hno m hm (by omega) h2) prog w A R _ ⟨hl, he, h⟩)⟩
theorem list_removeAt (l : Addr) (items : Array Value) (n : Nat) (dd : Option Addr) (sl : Array (Option Value)) (x : Value) (e : Value → Bool) (j : Nat) (hj : j < items.size)
  (hit : e items[j] = true) (hno : ∀ m (hm : m < items.size), m < j → e items[m] = false) (hs1 : items.size ≤ sizeLine) :
  Meets (Builtin.«list.remove» ⟨[.ref l, x], []⟩)
   (fun A R s => s.heap.get? l = some { cls := .type "list", dict := dd, data := .seq items n, slots := sl } ∧ (∀ y, y ∈ items → EqAt A.in1 s y x (e y)) ∧ R (.ok (.ret .none)) { s with heap := s.heap.update l (Obj.mapSeq (·.eraseIdxIfInBounds j)) }) := by
 intro prog w A R s h
 obtain ⟨hp, g, d, tk, os⟩ := s; obtain ⟨hl, he, h⟩ := h
 wp_walk using wpAny_loadPart' hl
 exact ⟨plainId_quiet plain_remove_loop _, codeAny_builtin entry_remove_loop (by
  rw [Around.under_plainId plain_remove_loop _]
  exact ut l items n dd sl x e j hj hit _ hs1 0 rfl (Nat.zero_le _) (fun m hm _ h2 => hno m hm h2) prog w A R _ ⟨hl, he, h⟩)⟩
end PySem.SeqAt
namespace L2
open PySem PySem.Spec PyProof.Rows
section
variable {K : W.Frag} {Er : Str → Hp → Prop} {X : Cx} {e : Expr} {m : Env' → Mx D} {pos : Pos}
noncomputable def rRem : V → List V → Hp → VK → Prop := fun x vs H Q => ∃ (l : Addr) (y : V) (xs : List V) (d : PyData) (ds : List PyData) (j : Nat), x = .ref l ∧ vs = [y] ∧ H l = some (.lst xs) ∧ DatV H (.list ds) (.ref l) ∧ DatV H d y ∧ d.canLay0 = true ∧ PyData.canLayAll0 ds = true ∧ d.depth ≤ 60 ∧ (∃ z, ds[j]? = some z ∧ PyData.eqv z d = true) ∧ (∀ (i : Nat) (z : PyData), i < j → ds[i]? = some z → PyData.eqv z d = false) ∧ Q .non (upd H l (.lst (xs.eraseIdx j)))
theorem z3u (hu : X.A.units + 64 < cLine) : MtM X "list.remove" rRem := by
 intro pins s σ H x vs v us Q I rx rv h
 obtain ⟨l, y, xs, d, ds, j, rfl, rfl, hH, h1, h2, c1, c2, hd, ⟨z0, hz0, ez0⟩, hno, q⟩ := h
 cases rx
 obtain ⟨u, rfl, ru⟩ := rv.one
 obtain ⟨z, its, n, r, hl, e⟩ := I.lstM hH
 obtain ⟨as, r1⟩ := DatV.reads I.hok h1 (show RelV (.ref l) (.ref l) from rfl)
 obtain ⟨bs, r2⟩ := DatV.reads I.hok h2 ru
 cases r1 with
 | list a1 a2 a3 a4 =>
  rename_i ob arr _
  rw [e] at a1; cases a1
  obtain ⟨rfl, _⟩ : its.toArray = _ ∧ _ := by injection a3 with z1 z2; exact ⟨z1, z2⟩
  have em := SeqAt.readsAll_map ds _ _ c2 a4
  have gt : ∀ i : Nat, ds[i]? = its[i]?.map (SeqAt.readOf s.heap) := fun i => by
   have : ds[i]? = (its.map (SeqAt.readOf s.heap))[i]? := by rw [show its.map (SeqAt.readOf s.heap) = ds from em]
   rw [this, List.getElem?_map]
  have hjl : j < its.length := by
   rw [gt j] at hz0
   cases w : its[j]? with
   | none => rw [w] at hz0; cases hz0
   | some w' => exact (List.getElem?_eq_some_iff.mp w).1
  refine call_meets F.slot_list_remove ⟨_, e, rfl⟩ F.entry_list_remove (F.args_list_remove_2 _ _) (SeqAt.list_removeAt l its.toArray n none #[] u (fun y => PyData.eqv (SeqAt.readOf s.heap y) d) j (by simpa using hjl) ?_ (fun i hi hij => ?_) (by rw [List.size_toArray]; omega)) ⟨e, SeqAt.items_eqAt a4 r2 c2 c1 (by have := Nat.min_le_right (PyData.depthAll ds) d.depth; omega), ?_⟩
  ·rw [gt j, List.getElem?_eq_getElem hjl] at hz0
   cases hz0
   simpa using ez0
  ·have hi' : i < its.length := by simpa using hi
   have := hno i (SeqAt.readOf s.heap its[i]) hij (by rw [gt i, List.getElem?_eq_getElem hi']; rfl)
   simpa using this
  ·refine ⟨.non, _, I.lset (its' := its.eraseIdx j) hH e ?_ (r.eraseIdx j) ?_, rfl, q⟩
   ·show its.toArray.eraseIdxIfInBounds j = (its.eraseIdx j).toArray
    rw [List.eraseIdxIfInBounds_toArray]
   ·have := wv xs j
    omega
noncomputable def z42 (l : List PyData) (d : PyData) : Option Nat := if d.canLay0 = true ∧ PyData.canLayAll0 l = true ∧ d.depth ≤ 60 then l.findIdx? fun z => PyData.eqv z d else none
noncomputable def z07 (i : Nat) (m : Env' → Mx D) : Env' → Mx Out := fun ρ => Mx.opt (ownL ρ i) >>= fun l => m ρ >>= fun d => Mx.opt ((onP (z42 l) d).map fun j => Out.nx (ρ.set i (some (Sl.own (.list (l.eraseIdx j))))))
theorem z43 {i : Nat} (h : PE X e (tBM X.K "list" rRem (tVar i) (uQ (rdG RE K Er m) tNil))) (hs : swapsWith e none pos.line X.env = pure false := by rfl) : DS K Er X (.Expr e pos) (z07 i m) := (wL h hs).imp fun σ H E h => by
 obtain ⟨g, ow, ρ, n, f, q⟩ := h
 obtain ⟨l, el, q⟩ := uc q
 obtain ⟨a, xs, e1, e2, e3, e4⟩ := f.ownLst el
 refine ⟨.ref a, e2, .inl ⟨rfl, xs, SqL.of e3⟩, g, ow, ρ, n, f, xk f q fun n1 d v H1 k f1 r q => ?_⟩
 obtain ⟨out, eo, q2⟩ := rs_o q
 obtain ⟨j, ej, eo⟩ := Option.map_eq_some_iff.mp eo
 subst eo
 obtain ⟨d', rfl, e5⟩ := zl ej
 obtain ⟨a', xs', g1, g2, g3, g4⟩ := f1.ownLst el
 rw [e1] at g1; cases g1
 unfold z42 at e5
 split at e5
 next c =>
  have r : DatS (g.S ow) H1 d' v := r
  obtain ⟨hj, h1, h2⟩ := List.findIdx?_eq_some_iff_getElem.mp e5
  refine ⟨a, v, xs', d', l, j, rfl, rfl, g3, by simp only [DatV]; exact ⟨a, xs', rfl, g3, g4.datV c.2.1⟩, r.datV c.1, c.1, c.2.1, c.2.2, ⟨l[j], List.getElem?_eq_getElem hj, h1⟩, fun i z hi ez => ?_, ?_⟩
  ·obtain ⟨hil, rfl⟩ := List.getElem?_eq_some_iff.mp ez
   have := h2 i hi
   simpa using this
  ·have kS := f1.kpOwn (o := .lst (xs'.eraseIdx j)) e1 (not_tup g3)
   refine q2 _ _ _ (f1.updOwn (wl el) e1 (not_tup g3) ?_) (Stp.upd f1 e1 (not_tup g3))
   simp only [Dat1]
   exact ⟨a, _, rfl, id, zC, DatsS.kp kS (fun _ z => .inl z) (g4.erase j)⟩
 next => cases e5
end
end L2
namespace L2
open PySem PySem.Spec PyProof.Rows
section
variable {K : W.Frag} {Er : Str → Hp → Prop} {X : Cx}
noncomputable def z57 (H : Hp) (a : Addr) (y : V) (o : Option V) : Prop := DGet H a y o ∨ (o = none ∧ ∃ (k : List Key) (b : Addr), Rd H a (.dK []) ∧ y = .ref b ∧ H b = some (.tup (k.map kV))) ∨ (o = none ∧ ∃ k : Key, Rd H a (.dT []) ∧ y = kV k)
theorem z5G {pins : List (Addr × Obj)} {σ : L2.St} {H : Hp} {s : Shared} {a : Addr} {y : V} {u : Value} {o : Option V} {A : Around} {E : Value → Shared → Prop} {Q : Value → Shared → Prop} (hu : A.units + 1 < cLine) (I : L2.Inv X pins σ H s) (g : z57 H a y o) (ry : RelV y u) (h : ∀ s', L2.Inv X pins σ H s' → Q (.bool (!o.isSome)) s') :
  wpAny (model X.prog X.w) A (compareOp .NotIn u (.ref a)) Q E s := by
 rcases g with g | ⟨rfl, k, b, e, rfl, hb⟩ | ⟨rfl, k, e, rfl⟩
 ·exact z3q hu I g ry h
 ·cases (show u = Value.ref b from ry)
  obtain ⟨z, hd, vs, rel, dd⟩ := z1b I.hok e
  cases rel
  obtain ⟨o, es, ep, h1, h2, h3, h4, h5, h6⟩ := dd
  have e : es.toList = [] := by
   cases q : es.toList with
   | nil => rfl
   | cons x r => rw [q] at h5; exact nomatch h5
  have dd : s.heap.DictOfH (tupleKind (ze X.prog X.w)) a [] := ⟨o, es, ep, h1, h2, h3, e, fun x hx => by simp at hx, List.nodup_nil⟩
  exact wpAny_notIn_heap (tupleKind_room_in1 hu) (wQ I.hok hb) hd dd (h _ (I.tok _))
 ·obtain ⟨z, hd, xs, rel, o, es, ep, h1, h2, h3, h4, h5⟩ := z1P I.hok e
  cases rel
  have e : es = #[] := by
   have : es.toList = [] := h4
   cases es; simp at this; subst this; rfl
  subst e
  have dd : s.heap.DictOf (ze X.prog X.w) a [] := ⟨o, #[], ep, h1, h2, h3, fun x hx => by simp at hx, .nil, List.nodup_nil⟩
  exact wpAny_notIn_of (z1c ry) hd dd.mapOf (h _ (I.tok _))
noncomputable def fInE (neg : Bool) (x : PyData) : PyData → Option PyData
 | .dict [] => if z2k x = true then some (.bool neg) else none
 | y => fIn neg x y
theorem z4r {neg : Bool} {x y : V} {H : Hp} {Q : VK} (h : rD2 (fInE neg) x y H Q) : rD2 (fIn neg) x y H Q ∨ ∃ a o, y = .ref a ∧ z57 H a x o ∧ Q (.bl (if neg then !o.isSome else o.isSome)) H := by
 obtain ⟨S, d, e, r, hS, h1, h2, hf, q⟩ := h
 cases e with
 | dict kvs =>
  cases kvs with
  | cons p ps => exact .inl ⟨S, d, _, r, hS, h1, h2, hf, q⟩
  | nil =>
   simp only [fInE] at hf
   split at hf
   next hkey =>
    cases hf
    obtain ⟨a, ks, e1, g1, k1⟩ := u4 h2
    have eks := DctS.nil_ks k1
    have hq : Q (.bl (if neg then !(none : Option V).isSome else (none : Option V).isSome)) H := by
     have := q (.bl neg) H (Same.refl _) db
     cases neg <;> exact this
    have plain : ∀ k : Key, d = kD k → DatS S H d x → z57 H a x none := fun k e h1 => by
     have ey : x = kV k := by rw [e] at h1; exact uk h1
     rcases g1 with ⟨l, gl, el⟩ | ⟨l, gl, el⟩
     ·rw [eks] at el
      have : l = [] := List.map_eq_nil_iff.mp el.symm
      subst this
      exact .inl (.inl ⟨[], k, gl, ey, rfl⟩)
     ·rw [eks] at el
      have : l = [] := List.map_eq_nil_iff.mp el.symm
      subst this
      exact .inr (.inr ⟨rfl, k, gl, ey⟩)
    refine .inr ⟨a, none, e1, ?_, hq⟩
    cases d with
    | tuple ds =>
     obtain ⟨k, ekk⟩ := Option.isSome_iff_exists.mp (show (wO ds).isSome = true from hkey)
     have ed := xQ ekk
     obtain ⟨b, xs, rfl, hb, hxs⟩ := zy h1
     rw [ed] at hxs
     rw [wM hxs] at hb
     rcases g1 with ⟨l, gl, el⟩ | ⟨l, gl, el⟩
     ·rw [eks] at el
      have : l = [] := List.map_eq_nil_iff.mp el.symm
      subst this
      exact .inr (.inl ⟨rfl, k, b, gl, rfl, hb⟩)
     ·rw [eks] at el
      have : l = [] := List.map_eq_nil_iff.mp el.symm
      subst this
      exact .inl (.inr ⟨[], k, b, gl, rfl, hb, rfl⟩)
    | int j => exact plain (.inl j) rfl (by simp only [Dat1] at h1; exact h1)
    | str j => exact plain (.inr j) rfl (by simp only [Dat1] at h1; exact h1)
    | none => simp [z2k, keyD] at hkey
    | bool _ => simp [z2k, keyD] at hkey
    | list _ => simp [z2k, keyD] at hkey
    | dict _ => simp [z2k, keyD] at hkey
   next => cases hf
 | _ => exact .inl ⟨S, d, _, r, hS, h1, h2, hf, q⟩
theorem z0B (hu : X.A.units + 1 < cLine) : OpR X (compareOp .NotIn) (fun y x H Q => ∃ a o, x = .ref a ∧ z57 H a y o ∧ Q (.bl (!o.isSome)) H) := by
 intro pins s σ H y x v u Q I ry rx h
 obtain ⟨a, o, rfl, g, q⟩ := h
 obtain rfl : u = Value.ref a := rx
 exact z5G hu I g ry fun s3 I3 => ⟨.bl (!o.isSome), H, I3, rfl, q⟩
theorem z0m (hu : X.A.units + 64 < cLine) : OpR X (compareOp .NotIn) (rD2 (fInE true)) := ((wn hu).or (z0B (by omega))).imp fun x y H Q h => z4r h
end
end L2
namespace L2
open PySem PySem.Spec PyProof.Rows
noncomputable def Ok {α : Type} (m : Mx α) (n : Nat) (P : α → Nat → Prop) : Prop := ∃ a n', m n = .ok a n' ∧ P a n'
section
variable {α β : Type} {n : Nat}
theorem Ok.imp {m : Mx α} {P Q : α → Nat → Prop} (h : Ok m n P) (k : ∀ a n', P a n' → Q a n') : Ok m n Q := by
 obtain ⟨a, n', e, p⟩ := h
 exact ⟨a, n', e, k a n' p⟩
theorem zr (m : Mx α) (f : α → Mx β) (P : β → Nat → Prop) : Ok (m >>= f) n P ↔ Ok m n (fun a n' => Ok (f a) n' P) := by
 constructor
 ·rintro ⟨b, n', e, p⟩
  rw [Mx.bind_def] at e
  cases z : m n with
  | ok a n1 => rw [z] at e; exact ⟨a, n1, z, b, n', e, p⟩
  | err c n1 => rw [z] at e; cases e
  | bad => rw [z] at e; cases e
 ·rintro ⟨a, n1, e1, b, n2, e2, p⟩
  exact ⟨b, n2, by rw [Mx.bind_def, e1]; exact e2, p⟩
theorem zh (a : α) (P : α → Nat → Prop) : Ok (pure a : Mx α) n P ↔ P a n :=
 ⟨fun ⟨_, _, e, p⟩ => by cases e; exact p, fun p => ⟨a, n, rfl, p⟩⟩
theorem yN (a : α) (P : α → Nat → Prop) : Ok (Mx.opt (some a)) n P ↔ P a n :=
 ⟨fun ⟨_, _, e, p⟩ => by cases e; exact p, fun p => ⟨a, n, rfl, p⟩⟩
theorem xO {o : Option α} {P : α → Nat → Prop} {a : α} (e : o = some a) (h : P a n) : Ok (Mx.opt o) n P := by rw [e]; exact (yN a P).mpr h
end
theorem z0P {τ : Env' → PyData → Option Env'} {body : Env' → Mx Out} {P : Out → Nat → Prop} (I : Nat → Env' → Nat → Prop) {ds : List PyData}
  (step : ∀ k ρ n (hk : k < ds.length), I k ρ n → ∃ ρ1, τ ρ ds[k] = some ρ1 ∧ Ok (body ρ1) n fun o n' => match o with
   | .nx ρ' => I (k + 1) ρ' n'
   | .ct ρ' => I (k + 1) ρ' n'
   | .bk ρ' => P (.nx ρ') n'
   | .rt d => P (.rt d) n')
  (ends : ∀ ρ n, I ds.length ρ n → P (.nx ρ) n) {ρ : Env'} {n : Nat} (h : I 0 ρ n) : Ok (yh τ body ds ρ) n P := by
 have gen : ∀ (l : List PyData) (k : Nat), ds.drop k = l → k ≤ ds.length → ∀ ρ n, I k ρ n → Ok (yh τ body l ρ) n P := by
  intro l
  induction l with
  | nil =>
   intro k e hk ρ n h
   have : k = ds.length := by
    have := congrArg List.length e
    rw [List.length_drop, List.length_nil] at this
    omega
   subst this
   simp only [yh, zh]
   exact ends ρ n h
  | cons d r ih =>
   intro k e hk ρ n h
   have hlt : k < ds.length := by
    have := congrArg List.length e
    rw [List.length_drop, List.length_cons] at this
    omega
   have ed : ds[k] = d ∧ ds.drop (k + 1) = r := by
    rw [List.drop_eq_getElem_cons hlt] at e
    exact ⟨(List.cons.inj e).1, (List.cons.inj e).2⟩
   obtain ⟨ρ1, e1, hb⟩ := step k ρ n hlt h
   rw [ed.1] at e1
   simp only [yh, e1, zr, yN]
   refine hb.imp fun o n' ho => ?_
   cases o with
   | nx ρ' => exact ih (k + 1) ed.2 hlt ρ' n' ho
   | ct ρ' => exact ih (k + 1) ed.2 hlt ρ' n' ho
   | bk ρ' => simp only [xm, zh]; exact ho
   | rt d => simp only [xm, zh]; exact ho
 exact gen ds 0 (List.drop_zero) (Nat.zero_le _) ρ n h
theorem uy {c : Env' → Mx Bool} {body : Env' → Mx Out} {P : Out → Nat → Prop} (I : Nat → Env' → Nat → Prop)
  (step : ∀ μ ρ n, I μ ρ n → Ok (c ρ) n fun t n' => (t = true → ∃ μ', μ = μ' + 1 ∧ Ok (body ρ) n' fun o n2 => match o with
   | .nx ρ' => ∃ ν, ν ≤ μ' ∧ I ν ρ' n2
   | .ct ρ' => ∃ ν, ν ≤ μ' ∧ I ν ρ' n2
   | .bk ρ' => P (.nx ρ') n2
   | .rt d => P (.rt d) n2) ∧ (t = false → P (.nx ρ) n')) {μ k : Nat} (hk : μ < k) {ρ : Env'} {n : Nat} (h : I μ ρ n) : Ok (uO c body k ρ) n P := by
 have gen : ∀ (k μ : Nat), μ < k → ∀ ρ n, I μ ρ n → Ok (uO c body k ρ) n P := by
  intro k
  induction k with
  | zero => intro μ h; omega
  | succ k ih =>
   intro μ hμ ρ n h
   simp only [uO, zr]
   refine (step μ ρ n h).imp fun t n' ⟨h1, h2⟩ => ?_
   cases t with
   | false => simp only [Bool.false_eq_true, if_false, zh]; exact h2 rfl
   | true =>
    obtain ⟨μ', e, hb⟩ := h1 rfl
    simp only [if_true, zr]
    refine hb.imp fun o n2 ho => ?_
    cases o with
    | nx ρ' => obtain ⟨ν, hν, hi⟩ := ho; exact ih ν (by omega) ρ' n2 hi
    | ct ρ' => obtain ⟨ν, hν, hi⟩ := ho; exact ih ν (by omega) ρ' n2 hi
    | bk ρ' => simp only [xm, zh]; exact ho
    | rt d => simp only [xm, zh]; exact ho
 exact gen k μ hk ρ n h
theorem xZ {c : Env' → Mx Bool} {e : Env' → Mx D} {ρ : Env'} {P : List PyData → Nat → Prop} (I : Nat → List PyData → Nat → Prop) {ds : List PyData}
  (step : ∀ k acc n (hk : k < ds.length), I k acc n → Ok (c (ρ ++ [some (Sl.val (.p ds[k]))])) n fun t n' => (t = true → Ok (e (ρ ++ [some (Sl.val (.p ds[k]))])) n' fun y n2 => ∃ z, y = .p z ∧ I (k + 1) (acc ++ [z]) n2) ∧ (t = false → I (k + 1) acc n'))
  (ends : ∀ acc n, I ds.length acc n → P acc n) {acc : List PyData} {n : Nat} (h : I 0 acc n) : Ok (zP c e ρ ds acc) n P := by
 have gen : ∀ (l : List PyData) (k : Nat), ds.drop k = l → k ≤ ds.length → ∀ acc n, I k acc n → Ok (zP c e ρ l acc) n P := by
  intro l
  induction l with
  | nil =>
   intro k ez hk acc n h
   have : k = ds.length := by
    have := congrArg List.length ez
    rw [List.length_drop, List.length_nil] at this
    omega
   subst this
   simp only [zP, zh]
   exact ends acc n h
  | cons d r ih =>
   intro k ez hk acc n h
   have hlt : k < ds.length := by
    have := congrArg List.length ez
    rw [List.length_drop, List.length_cons] at this
    omega
   have ed : ds[k] = d ∧ ds.drop (k + 1) = r := by
    rw [List.drop_eq_getElem_cons hlt] at ez
    exact ⟨(List.cons.inj ez).1, (List.cons.inj ez).2⟩
   have st := step k acc n hlt h
   rw [ed.1] at st
   simp only [zP, zr]
   refine st.imp fun t n' ⟨h1, h2⟩ => ?_
   cases t with
   | false => simp only [Bool.false_eq_true, if_false]; exact ih (k + 1) ed.2 hlt acc n' (h2 rfl)
   | true =>
    simp only [if_true, zr]
    refine (h1 rfl).imp fun y n2 ⟨z, ey, hi⟩ => ?_
    subst ey
    simp only [onP, yN]
    exact ih (k + 1) ed.2 hlt _ n2 hi
 exact gen ds 0 (List.drop_zero) (Nat.zero_le _) acc n h
theorem z5N {c : Env' → Mx Bool} {e : Env' → Mx D} {ρ : Env'} (f : PyData → Option PyData) {ds : List PyData} {n : Nat}
  (step : ∀ d ∈ ds, (f d = none ∧ Ok (c (ρ ++ [some (Sl.val (.p d))])) n fun t n' => t = false ∧ n' = n) ∨ ∃ z, f d = some z ∧ Ok (c (ρ ++ [some (Sl.val (.p d))])) n fun t n' => t = true ∧ n' = n ∧ Ok (e (ρ ++ [some (Sl.val (.p d))])) n fun y n2 => y = .p z ∧ n2 = n)
  {P : List PyData → Nat → Prop} (h : P (ds.filterMap f) n) : Ok (zP c e ρ ds []) n P := by
 refine xZ (I := fun k acc n' => n' = n ∧ acc = (ds.take k).filterMap f) (fun k acc n' hk hI => ?_) (fun acc n' hI => ?_) ⟨rfl, by simp⟩
 ·obtain ⟨e1, e2⟩ := hI
  subst e1
  have tk : (ds.take (k + 1)).filterMap f = (ds.take k).filterMap f ++ (match f ds[k] with | some z => [z] | none => []) := by
   rw [List.take_succ, List.getElem?_eq_getElem hk, List.filterMap_append]
   congr 1
   simp only [Option.toList]
   cases z : f ds[k] <;> simp [z]
  rcases step ds[k] (List.getElem_mem hk) with ⟨fz, h1⟩ | ⟨z, fz, h1⟩
  ·refine h1.imp fun t n1 ht => ?_
   obtain ⟨et, en⟩ := ht
   refine ⟨fun z => ?_, fun _ => ⟨en, ?_⟩⟩
   ·rw [et] at z; cases z
   ·rw [tk, fz, ← e2]; simp
  ·refine h1.imp fun t n1 ht => ?_
   obtain ⟨et, en, h2⟩ := ht
   refine ⟨fun _ => ?_, fun z => ?_⟩
   ·rw [en]
    refine h2.imp fun y n2 hy => ?_
    obtain ⟨ey, en2⟩ := hy
    refine ⟨z, ey, en2, ?_⟩
    rw [tk, fz, ← e2]
   ·rw [et] at z; cases z
 ·obtain ⟨e1, e2⟩ := hI
  subst e1 e2
  rw [List.take_length]
  exact h
theorem z9E {nn ar : Nat} {m : Env' → Mx Out} {ds : List D} {n : Nat} {P : D → Nat → Prop} (hl : ds.length = ar) (h : Ok (m (ds.map (fun d => some (Sl.val d)) ++ List.replicate (nn - ar) none)) n fun o n' => match o with
      | .rt d => P d n'
      | .nx _ => P (.p .none) n'
      | _ => False) : Ok (mFn nn ar m ds) n P := by
  unfold mFn
  rw [if_pos hl, zr]
  refine h.imp fun o n' ho => ?_
  cases o with
  | rt d => simp only [outD, zh]; exact ho
  | nx ρ => simp only [outD, zh]; exact ho
  | bk ρ => exact ho.elim
  | ct ρ => exact ho.elim
theorem ok_seq {a b : Env' → Mx Out} {ρ : Env'} {n : Nat} {P : Out → Nat → Prop} : Ok (sSeq a b ρ) n P ↔ Ok (a ρ) n fun o n' => match o with
      | .nx ρ' => Ok (b ρ') n' P
      | o => P o n' := by
  unfold sSeq
  rw [zr]
  constructor
  · refine fun h => h.imp fun o n' ho => ?_
    cases o <;> first | exact ho | (simp only [zh] at ho; exact ho)
  · refine fun h => h.imp fun o n' ho => ?_
    cases o <;> first | exact ho | (simp only [zh]; exact ho)
end L2
namespace L2
open PySem
theorem z3F {α : Type} (f : PyData → Option α) (x : PyData) : onP f (.p x) = f x := rfl
theorem fAdd_int (i j : Int) : fAdd (.int i) (.int j) = some (.int (i + j)) := rfl
theorem fSub_int (i j : Int) : fSub (.int i) (.int j) = some (.int (i - j)) := rfl
theorem yt {i j : Int} (h : 0 < j) : fMod (.int i) (.int j) = some (.int (i % j)) := by simp only [fMod, if_pos h]
theorem z8e {i j : Int} (h : -(2 ^ 64) < j ∧ j < 2 ^ 64) : fMul (.int i) (.int j) = some (.int (i * j)) := by simp only [fMul]; rw [if_pos (.inr h)]
theorem z7f {i j : Int} (h : -(2 ^ 64) < i ∧ i < 2 ^ 64) : fMul (.int i) (.int j) = some (.int (i * j)) := by simp only [fMul]; rw [if_pos (.inl h)]
theorem z5H {i j : Int} (h : 0 ≤ j ∧ j ≤ 1000 ∧ i.natAbs < 2 ^ 64) : fPow (.int i) (.int j) = some (.int (i ^ j.toNat)) := by simp only [fPow]; rw [if_pos h]
theorem fLt_int (i j : Int) : fLt (.int i) (.int j) = some (.bool (decide (i < j))) := rfl
theorem fCmp_int (p : Int → Int → Bool) (i j : Int) : fCmp p (.int i) (.int j) = some (.bool (p i j)) := rfl
theorem wJ (i j : Int) : PyData.eqv (.int i) (.int j) = decide (i = j) := by simp [PyData.eqv, Bool.beq_eq_decide_eq]
theorem fEq_int (i j : Int) : fEq false (.int i) (.int j) = some (.bool (decide (i = j))) := by
 unfold fEq; rw [if_pos ⟨rfl, rfl, by simp [PyData.depth]⟩, wJ]; rfl
theorem fNe_int (i j : Int) : fEq true (.int i) (.int j) = some (.bool (!decide (i = j))) := by
 unfold fEq; rw [if_pos ⟨rfl, rfl, by simp [PyData.depth]⟩, wJ]; rfl
theorem z7I {α : Type} (x : α) (l : List α) : atI (x :: l) 0 = some x := by
 have := z03 (xs := x :: l) (j := 0) (v := x) rfl
 simpa using this
theorem z9D {α : Type} (x y : α) (l : List α) : atI (x :: y :: l) 1 = some y := by
 have := z03 (xs := x :: y :: l) (j := 1) (v := y) rfl
 simpa using this
theorem uZ {α : Type} {xs : List α} {i : Int} {v : α} (h0 : 0 ≤ i) (h : xs[i.toNat]? = some v) : atI xs i = some v := by
 have := z03 h
 rwa [Int.toNat_of_nonneg h0] at this
theorem fIx_t0 (x : PyData) (l : List PyData) : fIx (.tuple (x :: l)) (.int 0) = some x := z7I x l
theorem fIx_t1 (x y : PyData) (l : List PyData) : fIx (.tuple (x :: y :: l)) (.int 1) = some y := z9D x y l
theorem fLen_t (l : List PyData) : fLen [.tuple l] = some (.int l.length) := rfl
theorem fLen_l (l : List PyData) : fLen [.list l] = some (.int l.length) := rfl
theorem z6X {ρ : Env'} {i n : Nat} {P : Out → Nat → Prop} (h : wo ρ[i]? = true) (hn : n < lim) (k : P (.nx ρ) (n + 1)) : Ok (z2y i ρ) n P := ⟨.nx ρ, n + 1, by unfold z2y; rw [if_pos ⟨h, hn⟩], k⟩
theorem z6S {ρ : Env'} {i n : Nat} {P : D → Nat → Prop} (h : wo ρ[i]? = true) (k : P (.p (.int n)) n) : Ok (z4F i ρ) n P := ⟨_, n, by unfold z4F; rw [if_pos h], k⟩
theorem fIsi_bi (x : Int) : fIsi "bool" (.int x) = some (.bool false) := rfl
theorem fIsi_ii (x : Int) : fIsi "int" (.int x) = some (.bool true) := rfl
theorem fIsi_tt (l : List PyData) : fIsi "tuple" (.tuple l) = some (.bool true) := rfl
theorem y4 {j : Int} (h : -1000000 ≤ j ∧ j ≤ 1000000) : yy [.int j] = some (rngD 0 j) := by simp only [yy, if_pos h]
theorem fTuple_l (l : List PyData) : x0 [.list l] = some (.tuple l) := rfl
theorem z4j {lo hi : Int} {k : Nat} (h : k < (rngD lo hi).length) : (rngD lo hi)[k] = .int (lo + k) := by
 simp [rngD]
theorem z5P {lo hi : Int} : (rngD lo hi).length = (hi - lo).toNat := by simp [rngD]
theorem z7N {i : Nat} {m : Env' → Mx D} {ρ : Env'} {n : Nat} {P : Out → Nat → Prop} {l : List PyData} (hl : ownL ρ i = some l) (h : Ok (m ρ) n fun d n' => ∃ z, d = .p (.list z) ∧ l.length + z.length < 10000 ∧ P (.nx (ρ.set i (some (Sl.own (.list (l ++ z)))))) n') : Ok (sExt i m ρ) n P := by
 unfold sExt
 simp only [hl, zr, yN]
 refine h.imp fun d n' hz => ?_
 obtain ⟨z, rfl, hlen, hp⟩ := hz
 have hlen : l.length + z.length ≤ lim := by unfold lim; omega
 simp only [z3F, Option.bind_some, if_pos hlen, yN]
 exact hp
theorem z5s {i : Nat} {m : Env' → Mx D} {ρ : Env'} {n : Nat} {P : Out → Nat → Prop} {l : List PyData} (hl : ownL ρ i = some l) (h : Ok (m ρ) n fun d n' => ∃ z, d = .p z ∧ l.length < 10000 ∧ P (.nx (ρ.set i (some (Sl.own (.list (l ++ [z])))))) n') : Ok (sApp i m ρ) n P := by
 unfold sApp
 simp only [hl, zr, yN]
 refine h.imp fun d n' hz => ?_
 obtain ⟨z, rfl, hlen, hp⟩ := hz
 have hlen : l.length < lim := by unfold lim; omega
 simp only [z3F, Option.bind_some, if_pos hlen, yN]
 exact hp
end L2
namespace L2
open PySem
section
variable {α β : Type} {n : Nat} {ρ : Env'}
noncomputable def kont (b : Env' → Mx Out) (P : Out → Nat → Prop) (o : Out) (n : Nat) : Prop := match o with
 | .nx ρ' => Ok (b ρ') n P
 | o => P o n
noncomputable def outP (P : D → Nat → Prop) (o : Out) (n : Nat) : Prop := match o with
 | .rt d => P d n
 | .nx _ => P (.p .none) n
 | _ => False
theorem t_bind {m : Mx α} {f : α → Mx β} {P : β → Nat → Prop} (h : Ok m n fun a n' => Ok (f a) n' P) : Ok (m >>= f) n P := (zr m f P).mpr h
theorem t_pure {a : α} {P : α → Nat → Prop} (h : P a n) : Ok (pure a : Mx α) n P := ⟨a, n, rfl, h⟩
theorem t_some {a : α} {P : α → Nat → Prop} (h : P a n) : Ok (Mx.opt (some a)) n P := ⟨a, n, rfl, h⟩
theorem t_msome {a : α} {f : α → β} {P : β → Nat → Prop} (h : P (f a) n) : Ok (Mx.opt ((some a).map f)) n P := ⟨f a, n, rfl, h⟩
theorem t_itt {a b : Mx α} {P : α → Nat → Prop} (h : Ok a n P) : Ok (if true = true then a else b) n P := by rw [if_pos rfl]; exact h
theorem t_itf {a b : Mx α} {P : α → Nat → Prop} (h : Ok b n P) : Ok (if false = true then a else b) n P := by rw [if_neg (by decide)]; exact h
theorem t_iT {a b : Mx α} {i : Decidable True} {P : α → Nat → Prop} (h : Ok a n P) : Ok (if True then a else b) n P := by rw [if_pos trivial]; exact h
theorem t_it1 {a b : Mx α} {t : Bool} {P : α → Nat → Prop} (e : t = true) (h : Ok a n P) : Ok (if t = true then a else b) n P := by rw [if_pos e]; exact h
theorem t_it0 {a b : Mx α} {t : Bool} {P : α → Nat → Prop} (e : t = false) (h : Ok b n P) : Ok (if t = true then a else b) n P := by rw [if_neg (by rw [e]; decide)]; exact h
theorem t_seq {a b : Env' → Mx Out} {P : Out → Nat → Prop} (h : Ok (a ρ) n (kont b P)) : Ok (sSeq a b ρ) n P := ok_seq.mpr (h.imp fun o n' q => by cases o <;> exact q)
theorem t_nx {b : Env' → Mx Out} {P : Out → Nat → Prop} (h : Ok (b ρ) n P) : kont b P (.nx ρ) n := h
theorem t_rt {b : Env' → Mx Out} {P : Out → Nat → Prop} {d : D} (h : P (.rt d) n) : kont b P (.rt d) n := h
theorem t_ort {P : D → Nat → Prop} {d : D} (h : P d n) : outP P (.rt d) n := h
theorem t_onx {P : D → Nat → Prop} (h : P (.p .none) n) : outP P (.nx ρ) n := h
theorem t_fn {nn ar : Nat} {m : Env' → Mx Out} {ds : List D} {P : D → Nat → Prop} (hl : ds.length = ar) (h : Ok (m (ds.map (fun d => some (Sl.val d)) ++ List.replicate (nn - ar) none)) n (outP P)) : Ok (mFn nn ar m ds) n P :=
 z9E hl (h.imp fun o n' q => by cases o <;> exact q)
theorem t_set {i : Nat} {m : Env' → Mx D} {P : Out → Nat → Prop} (h : Ok (m ρ) n fun d n' => P (.nx (ρ.set i (some (Sl.val d)))) n') : Ok (sSet i m ρ) n P := t_bind (h.imp fun _ _ q => t_pure q)
theorem t_own {i : Nat} {m : Env' → Mx PyData} {P : Out → Nat → Prop} (hl : Nat.ble (i + 1) ρ.length = true) (h : Ok (m ρ) n fun d n' => P (.nx (ρ.set i (some (Sl.own d)))) n') : Ok (sOwn i m ρ) n P := t_bind (h.imp fun _ _ q => by
 rw [if_pos (show i < ρ.length from Nat.le_of_ble_eq_true hl)]; exact t_pure q)
theorem t_sret {m : Env' → Mx D} {P : Out → Nat → Prop} (h : Ok (m ρ) n fun d n' => P (.rt d) n') : Ok (sRet m ρ) n P := t_bind (h.imp fun _ _ q => t_pure q)
theorem t_sexpr {m : Env' → Mx D} {P : Out → Nat → Prop} (h : Ok (m ρ) n fun _ n' => P (.nx ρ) n') : Ok (uv m ρ) n P := t_bind (h.imp fun _ _ q => t_pure q)
theorem t_snil {P : Out → Nat → Prop} (h : P (.nx ρ) n) : Ok (sNil ρ) n P := t_pure h
theorem t_sif {c : Env' → Mx Bool} {a b : Env' → Mx Out} {P : Out → Nat → Prop} (h : Ok (c ρ) n fun t n' => Ok (if t = true then a ρ else b ρ) n' P) : Ok (sIf c a b ρ) n P := t_bind h
theorem t_bin {f : PyData → PyData → Option PyData} {a b : Env' → Mx D} {P : D → Nat → Prop} (h : Ok (a ρ) n fun x n1 => Ok (b ρ) n1 fun y n2 => Ok (Mx.opt ((onP2 f x y).map D.p)) n2 P) : Ok (mBin f a b ρ) n P := t_bind (h.imp fun _ _ q => t_bind q)
theorem t_p2 {f : PyData → PyData → Option α} {g : α → β} {x y : PyData} {P : β → Nat → Prop} (h : Ok (Mx.opt ((f x y).map g)) n P) : Ok (Mx.opt ((onP2 f (.p x) (.p y)).map g)) n P := h
theorem t_p1 {f : PyData → Option α} {g : α → β} {x : PyData} {P : β → Nat → Prop} (h : Ok (Mx.opt ((f x).map g)) n P) : Ok (Mx.opt ((onP f (.p x)).map g)) n P := h
theorem t_p1' {f : PyData → Option α} {x : PyData} {P : α → Nat → Prop} (h : Ok (Mx.opt (f x)) n P) : Ok (Mx.opt (onP f (.p x))) n P := h
theorem t_p2' {f : PyData → PyData → Option α} {x y : PyData} {P : α → Nat → Prop} (h : Ok (Mx.opt (f x y)) n P) : Ok (Mx.opt (onP2 f (.p x) (.p y))) n P := h
theorem t_p2b {f : PyData → PyData → Option PyData} {x y : PyData} {P : Bool → Nat → Prop} (h : Ok (Mx.opt ((f x y).bind bool?)) n P) : Ok (Mx.opt ((onP2 f (.p x) (.p y)).bind bool?)) n P := h
theorem t_map {o : Option PyData} {x : PyData} {P : D → Nat → Prop} (e : o = some x) (h : P (.p x) n) : Ok (Mx.opt (o.map D.p)) n P := by subst e; exact t_some h
theorem t_boo {o : Option PyData} {b : Bool} {P : Bool → Nat → Prop} (e : o = some (.bool b)) (h : P b n) : Ok (Mx.opt (o.bind bool?)) n P := by subst e; exact t_some h
theorem t_var {i : Nat} {d : D} {P : D → Nat → Prop} (e : slW ρ[i]? = some d) (h : P d n) : Ok (mVar i ρ) n P := xO e h
theorem t_val {i : Nat} {d : D} {P : D → Nat → Prop} (e : slV ρ[i]? = some d) (h : P d n) : Ok (mVal i ρ) n P := xO e h
theorem t_c {x : PyData} {P : D → Nat → Prop} (h : P (.p x) n) : Ok (mC x ρ) n P := t_pure h
theorem t_nil {P : List D → Nat → Prop} (h : P [] n) : Ok (mNil ρ) n P := t_pure h
theorem t_cons {m : Env' → Mx D} {ms : Env' → Mx (List D)} {P : List D → Nat → Prop} (h : Ok (m ρ) n fun x n1 => Ok (ms ρ) n1 fun xs n2 => P (x :: xs) n2) : Ok (z5 m ms ρ) n P := t_bind (h.imp fun _ _ q => t_bind (q.imp fun _ _ q => t_pure q))
theorem t_call {F : List D → Mx D} {ms : Env' → Mx (List D)} {P : D → Nat → Prop} (h : Ok (ms ρ) n fun ds n' => Ok (F ds) n' P) : Ok (zR F ms ρ) n P := t_bind h
theorem t_callB {f : List PyData → Option PyData} {ms : Env' → Mx (List D)} {P : D → Nat → Prop} (h : Ok (ms ρ) n fun ds n' => Ok (Mx.opt ((onPs f ds).map D.p)) n' P) : Ok (zO f ms ρ) n P := t_bind h
theorem t_b1 {f : List PyData → Option α} {g : α → β} {x : PyData} {P : β → Nat → Prop} (h : Ok (Mx.opt ((f [x]).map g)) n P) : Ok (Mx.opt ((onPs f [.p x]).map g)) n P := h
theorem t_b1' {f : List PyData → Option α} {x : PyData} {P : α → Nat → Prop} (h : Ok (Mx.opt (f [x])) n P) : Ok (Mx.opt (onPs f [.p x])) n P := h
theorem t_mseq {j : List PyData → PyData} {ms : Env' → Mx (List D)} {P : PyData → Nat → Prop} (h : Ok (ms ρ) n fun ds n' => Ok (Mx.opt ((toP ds).bind fun xs => if xs.length ≤ lim then some (j xs) else none)) n' P) : Ok (mSeq j ms ρ) n P := t_bind h
theorem t_s0 {j : List PyData → PyData} {P : PyData → Nat → Prop} (h : P (j []) n) : Ok (Mx.opt ((toP []).bind fun xs => if xs.length ≤ lim then some (j xs) else none)) n P := xO (by simp [toP, lim]) h
theorem t_s1 {j : List PyData → PyData} {x : PyData} {P : PyData → Nat → Prop} (h : P (j [x]) n) : Ok (Mx.opt ((toP [.p x]).bind fun xs => if xs.length ≤ lim then some (j xs) else none)) n P := xO (by simp [toP, lim]) h
theorem t_s2 {j : List PyData → PyData} {x y : PyData} {P : PyData → Nat → Prop} (h : P (j [x, y]) n) : Ok (Mx.opt ((toP [.p x, .p y]).bind fun xs => if xs.length ≤ lim then some (j xs) else none)) n P := xO (by simp [toP, lim]) h
theorem t_s3 {j : List PyData → PyData} {x y z : PyData} {P : PyData → Nat → Prop} (h : P (j [x, y, z]) n) : Ok (Mx.opt ((toP [.p x, .p y, .p z]).bind fun xs => if xs.length ≤ lim then some (j xs) else none)) n P := xO (by simp [toP, lim]) h
theorem t_s4 {j : List PyData → PyData} {x y z u : PyData} {P : PyData → Nat → Prop} (h : P (j [x, y, z, u]) n) : Ok (Mx.opt ((toP [.p x, .p y, .p z, .p u]).bind fun xs => if xs.length ≤ lim then some (j xs) else none)) n P := xO (by simp [toP, lim]) h
theorem t_mp {m : Env' → Mx PyData} {P : D → Nat → Prop} (h : Ok (m ρ) n fun x n' => P (.p x) n') : Ok (mP m ρ) n P := t_bind (h.imp fun _ _ q => t_pure q)
theorem t_test {m : Env' → Mx D} {P : Bool → Nat → Prop} (h : Ok (m ρ) n fun x n' => Ok (Mx.opt (onB x)) n' P) : Ok (zx m ρ) n P := t_bind h
theorem t_onb {b : Bool} {P : Bool → Nat → Prop} (h : P b n) : Ok (Mx.opt (onB (.p (.bool b)))) n P := t_some h
theorem t_tru {m : Env' → Mx D} {P : Bool → Nat → Prop} (h : Ok (m ρ) n fun x n' => Ok (Mx.opt (onP truD x)) n' P) : Ok (mTru m ρ) n P := t_bind h
theorem t_trl {l : List PyData} {P : Bool → Nat → Prop} (h : P (!l.isEmpty) n) : Ok (Mx.opt (onP truD (.p (.list l)))) n P := t_some h
theorem t_trb {b : Bool} {P : Bool → Nat → Prop} (h : P b n) : Ok (Mx.opt (onP truD (.p (.bool b)))) n P := t_some h
theorem t_not {m : Env' → Mx Bool} {P : Bool → Nat → Prop} (h : Ok (m ρ) n fun b n' => P (!b) n') : Ok (z0r m ρ) n P := t_bind (h.imp fun _ _ q => t_pure q)
theorem t_and {a b : Env' → Mx Bool} {P : Bool → Nat → Prop} (h : Ok (a ρ) n fun t n' => Ok (if t = true then b ρ else pure false) n' P) : Ok (z6m a b ρ) n P := t_bind h
theorem t_or {a b : Env' → Mx Bool} {P : Bool → Nat → Prop} (h : Ok (a ρ) n fun t n' => Ok (if t = true then pure true else b ρ) n' P) : Ok (mOrT a b ρ) n P := t_bind h
theorem t_andv {a b : Env' → Mx D} {P : D → Nat → Prop} (h : Ok (a ρ) n fun x n' => Ok (Mx.opt (onB x)) n' fun t n2 => Ok (if t = true then b ρ else pure (.p (.bool false))) n2 P) : Ok (xu a b ρ) n P := t_bind (h.imp fun _ _ q => t_bind q)
theorem t_mif {c : Env' → Mx Bool} {a b : Env' → Mx α} {P : α → Nat → Prop} (h : Ok (c ρ) n fun t n' => Ok (if t = true then a ρ else b ρ) n' P) : Ok (mIf c a b ρ) n P := t_bind h
theorem t_un {f : PyData → Option PyData} {m : Env' → Mx D} {P : D → Nat → Prop} (h : Ok (m ρ) n fun x n' => Ok (Mx.opt ((onP f x).map D.p)) n' P) : Ok (mUn f m ρ) n P := t_bind h
theorem t_chain {f f' : PyData → PyData → Option PyData} {a b c : Env' → Mx D} {P : D → Nat → Prop} (h : Ok (a ρ) n fun x n1 => Ok (b ρ) n1 fun y n2 => Ok (Mx.opt ((onP2 f x y).bind bool?)) n2 fun k n3 => Ok (if k = true then (c ρ >>= fun z => Mx.opt ((onP2 f' y z).map D.p)) else pure (.p (.bool false))) n3 P) : Ok (z0a f f' a b c ρ) n P :=
 t_bind (h.imp fun _ _ q => t_bind (q.imp fun _ _ q => t_bind q))
theorem t_rng {f : List PyData → Option (List PyData)} {ms : Env' → Mx (List D)} {P : List PyData → Nat → Prop} (h : Ok (ms ρ) n fun ds n' => Ok (Mx.opt (onPs f ds)) n' P) : Ok (mRng f ms ρ) n P := t_bind h
theorem t_it {m : Env' → Mx D} {P : List PyData → Nat → Prop} (h : Ok (m ρ) n fun x n' => Ok (Mx.opt (onP itD x)) n' P) : Ok (mIt m ρ) n P := t_bind h
theorem t_comp {mi : Env' → Mx (List PyData)} {mc : Env' → Mx Bool} {me : Env' → Mx D} {P : PyData → Nat → Prop} (h : Ok (mi ρ) n fun ds n' => Ok (zP mc me ρ ds []) n' fun l n2 => P (.list l) n2) : Ok (yV mi mc me ρ) n P := t_bind (h.imp fun _ _ q => t_bind (q.imp fun _ _ q => t_pure q))
theorem t_for {mi : Env' → Mx (List PyData)} {τ : Env' → PyData → Option Env'} {body : Env' → Mx Out} {P : Out → Nat → Prop} (h : Ok (mi ρ) n fun ds n' => Ok (yh τ body ds ρ) n' P) : Ok (sFor mi τ body ρ) n P := t_bind h
end
section
variable {α : Type} {l : List α}
theorem len1 (h : l.length = 1) : ∃ a, l = [a] := List.length_eq_one_iff.mp h
theorem len2 (h : l.length = 2) : ∃ a b, l = [a, b] := by
 cases l with
 | nil => cases h
 | cons x r => obtain ⟨a, z⟩ := len1 (l := r) (by simpa using h); exact ⟨x, a, by rw [z]⟩
theorem len3 (h : l.length = 3) : ∃ a b c, l = [a, b, c] := by
 cases l with
 | nil => cases h
 | cons x r => obtain ⟨a, b, z⟩ := len2 (l := r) (by simpa using h); exact ⟨x, a, b, by rw [z]⟩
theorem len4 (h : l.length = 4) : ∃ a b c d, l = [a, b, c, d] := by
 cases l with
 | nil => cases h
 | cons x r => obtain ⟨a, b, c, e⟩ := len3 (l := r) (by simpa using h); exact ⟨x, a, b, c, by rw [e]⟩
end
end L2
local macro_rules | `(tactic| walk_at "st1") => do
 let nm (x : String) : Lean.Ident := Lean.mkIdent ("L2." ++ x).toName
 let a ← (("t_seq t_nx t_set t_call t_cons t_nil t_c t_bin t_p2 t_sif t_itt t_itf t_iT t_test t_onb t_sret t_rt t_ort t_onx t_snil t_mp t_callB t_b1 t_b1' t_mseq t_s0 t_s1 t_s2 t_s3 t_s4 t_sexpr t_not t_and t_or t_andv t_mif t_un t_chain t_p2b t_rng t_it t_comp t_for t_tru t_trl t_trb t_p1 t_p1' t_p2' t_bind t_pure t_some t_msome").splitOn " ").toArray.mapM fun x => `(tactic| refine $(nm x) ?_)
 let b ← (("t_var t_own t_val").splitOn " ").toArray.mapM fun x => `(tactic| refine $(nm x) (by with_unfolding_all exact rfl) ?_)
 let c ← (("fAdd_int fSub_int fLt_int fCmp_int fEq_int fNe_int fIx_t0 fIx_t1 fLen_t fLen_l fTuple_l fIsi_bi fIsi_ii fIsi_tt").splitOn " ").toArray.mapM fun x => `(tactic| refine $(nm "t_map") ($(nm x) ..) ?_)
 let d ← (("fCmp_int fLt_int").splitOn " ").toArray.mapM fun x => `(tactic| refine $(nm "t_boo") ($(nm x) ..) ?_)
 let e ← (("t_it1 t_it0").splitOn " ").toArray.mapM fun x => `(tactic| refine $(nm x) (by with_unfolding_all exact rfl) ?_)
 let l := a ++ b ++ c ++ d ++ e
 `(tactic| with_reducible first $[| $l:tactic]*)
local macro_rules | `(tactic| walk_at "dl") => do
 let l ← (("List.set_cons_zero List.set_cons_succ List.map List.cons_append List.nil_append List.replicate_succ List.replicate_zero Nat.reduceSub Option.map_some Option.bind_some Bool.not_true Bool.not_false").splitOn " ").toArray.mapM fun x => `(Lean.Parser.Tactic.simpLemma| $(Lean.mkIdent x.toName):term)
 `(tactic| dsimp only [$l,*])
local macro_rules | `(tactic| walk_at "es") => `(tactic| try first | (walk_at "st1"; repeat walk_at "st1"; (try (walk_at "dl"; repeat walk_at "st1"; try walk_at "dl"))) | (walk_at "dl"; repeat walk_at "st1"; try walk_at "dl"))
namespace L2
open PySem
theorem wA : ∀ {l r : List Int}, l.Pairwise (· < ·) → r.Pairwise (· < ·) → (∀ x, x ∈ l ↔ x ∈ r) → l = r
 | [], [], _, _, _ => rfl
 | [], y :: r, _, _, h => absurd ((h y).mpr List.mem_cons_self) (by simp)
 | x :: l, [], _, _, h => absurd ((h x).mp List.mem_cons_self) (by simp)
 | x :: l, y :: r, hl, hr, h => by
  obtain ⟨l1, l2⟩ := List.pairwise_cons.mp hl
  obtain ⟨r1, r2⟩ := List.pairwise_cons.mp hr
  have e : x = y := by
   rcases List.mem_cons.mp ((h x).mp List.mem_cons_self) with e | hx
   ·exact e
   ·rcases List.mem_cons.mp ((h y).mpr List.mem_cons_self) with e | hy
    ·exact e.symm
    ·have a := r1 x hx
     have b := l1 y hy
     omega
  subst e
  congr 1
  refine wA l2 r2 fun z => ⟨fun hz => ?_, fun hz => ?_⟩
  ·rcases List.mem_cons.mp ((h z).mp (List.mem_cons_of_mem _ hz)) with e | hz'
   ·have := l1 z hz; omega
   ·exact hz'
  ·rcases List.mem_cons.mp ((h z).mpr (List.mem_cons_of_mem _ hz)) with e | hz'
   ·have := r1 z hz; omega
   ·exact hz'
theorem xK {α : Type} {l : List α} {k : Nat} (h : k < l.length) : l.take (k + 1) = l.take k ++ [l[k]] := by rw [List.take_succ, List.getElem?_eq_getElem h]; rfl
theorem z3I : ∀ {l : List Int}, (∀ x ∈ l, 0 ≤ x ∧ x < 8) → toN8 (l.map PyData.int) = some (l.map Int.toNat)
 | [], _ => rfl
 | x :: l, h => by
  simp only [List.map_cons, toN8]
  rw [if_pos (h x List.mem_cons_self), z3I fun y hy => h y (List.mem_cons_of_mem _ hy)]
  rfl
theorem z3y {l : List Int} (h : ∀ x ∈ l, 0 ≤ x ∧ x < 8) : ∃ r : List Int, yu (.list (l.map PyData.int)) = some (.list (r.map PyData.int)) ∧ r.Pairwise (· < ·) ∧ ∀ x, x ∈ r ↔ x ∈ l := by
 refine ⟨(lst (m8 (l.map Int.toNat))).map nI, ?_, ?_, fun x => ?_⟩
 ·simp only [yu]
  rw [z3I h, Option.map_some, List.map_map]
  rfl
 ·exact List.pairwise_map.mpr ((uU _).imp fun {a b} h => by unfold nI; omega)
 ·have h8 : ∀ n ∈ l.map Int.toNat, n < 8 := fun n hn => by
   obtain ⟨x, hx, rfl⟩ := List.mem_map.mp hn
   have := h x hx
   omega
  rw [List.mem_map]
  constructor
  ·rintro ⟨k, hk, rfl⟩
   obtain ⟨y, hy, e⟩ := List.mem_map.mp ((z5w h8 k).mp hk)
   have := h y hy
   have : nI k = y := by unfold nI; omega
   rw [this]; exact hy
  ·intro hx
   have := h x hx
   exact ⟨x.toNat, (z5w h8 _).mpr (List.mem_map.mpr ⟨x, hx, rfl⟩), by unfold nI; omega⟩
theorem yd {α : Type} (f : α → Bool) : ∀ l : List α, yo (l.map fun x => PyData.bool (f x)) = some (l.map f)
 | [] => rfl
 | x :: l => by simp only [List.map_cons, yo, yd f l, Option.map_some]
theorem z4f {e : Env' → Mx D} {ρ : Env'} {n : Nat} {ds : List PyData} {P : List PyData → Nat → Prop} (f : PyData → PyData) (step : ∀ d ∈ ds, Ok (e (ρ ++ [some (Sl.val (.p d))])) n fun y n2 => y = .p (f d) ∧ n2 = n) (h : P (ds.map f) n) : Ok (zP mYes e ρ ds []) n P := by
 refine z5N (f := fun d => some (f d)) (fun d hd => .inr ⟨f d, rfl, ?_⟩) ?_
 ·unfold mYes
  exact (zh _ _).mpr ⟨rfl, rfl, step d hd⟩
 ·rw [show ds.filterMap (fun d => some (f d)) = ds.map f by simp]
  exact h
theorem ym {α β : Type} {e : Env' → Mx D} {ρ : Env'} {n : Nat} {J : α → PyData} {J' : β → PyData} {l : List α} {P : List PyData → Nat → Prop} (f : α → β) (step : ∀ a ∈ l, Ok (e (ρ ++ [some (Sl.val (.p (J a)))])) n fun y n2 => y = .p (J' (f a)) ∧ n2 = n) (h : P ((l.map f).map J') n) : Ok (zP mYes e ρ (l.map J) []) n P := by
 refine xZ (I := fun k acc n' => n' = n ∧ acc = ((l.take k).map f).map J') (fun k acc n' hk hI => ?_) (fun acc n' hI => ?_) ⟨rfl, by simp⟩
 ·obtain ⟨rfl, rfl⟩ := hI
  have hk' : k < l.length := by simpa using hk
  rw [List.getElem_map]
  unfold mYes
  refine (zh _ _).mpr ⟨fun _ => (step _ (List.getElem_mem hk')).imp fun y n2 ⟨e1, e2⟩ => ⟨_, e1, e2, ?_⟩, fun z => (nomatch z)⟩
  rw [xK hk', List.map_append, List.map_append]
  rfl
 ·obtain ⟨rfl, rfl⟩ := hI
  rw [List.length_map, List.take_length]
  exact h
theorem z0W {α : Type} {c : Env' → Mx Bool} {e : Env' → Mx D} {ρ : Env'} {n : Nat} {J : α → PyData} {l : List α} {P : List PyData → Nat → Prop} (f : α → Bool) (hc : ∀ a ∈ l, Ok (c (ρ ++ [some (Sl.val (.p (J a)))])) n fun t n2 => t = f a ∧ n2 = n) (he : ∀ a ∈ l, f a = true → Ok (e (ρ ++ [some (Sl.val (.p (J a)))])) n fun y n2 => y = .p (J a) ∧ n2 = n) (h : P ((l.filter f).map J) n) : Ok (zP c e ρ (l.map J) []) n P := by
 refine xZ (I := fun k acc n' => n' = n ∧ acc = ((l.take k).filter f).map J) (fun k acc n' hk hI => ?_) (fun acc n' hI => ?_) ⟨rfl, by simp⟩
 ·obtain ⟨rfl, rfl⟩ := hI
  have hk' : k < l.length := by simpa using hk
  rw [List.getElem_map]
  refine (hc _ (List.getElem_mem hk')).imp fun t n2 ⟨e1, e2⟩ => ?_
  subst e1 e2
  refine ⟨fun ht => (he _ (List.getElem_mem hk') ht).imp fun y n3 ⟨e3, e4⟩ => ⟨_, e3, e4, ?_⟩, fun ht => ⟨rfl, ?_⟩⟩
  ·rw [xK hk', List.filter_append, List.map_append]
   simp only [List.filter_cons, ht, List.filter_nil, if_true, List.map_cons, List.map_nil]
  ·rw [xK hk', List.filter_append, List.map_append]
   simp only [List.filter_cons, ht, List.filter_nil, Bool.false_eq_true, if_false, List.map_nil, List.append_nil]
 ·obtain ⟨rfl, rfl⟩ := hI
  rw [List.length_map, List.take_length]
  exact h
theorem xL {α : Type} {e : Env' → Mx D} {ρ : Env'} {n : Nat} {ds : List PyData} {P : List PyData → Nat → Prop} (J : α → PyData) (Q : α → Prop) (c : Nat) (step : ∀ d ∈ ds, ∀ n', n' ≤ n + c * ds.length → Ok (e (ρ ++ [some (Sl.val (.p d))])) n' fun y n2 => ∃ z, y = .p (J z) ∧ Q z ∧ n2 ≤ n' + c)
  (h : ∀ (l : List α) (n' : Nat), l.length = ds.length → (∀ x ∈ l, Q x) → n' ≤ n + c * ds.length → P (l.map J) n') : Ok (zP mYes e ρ ds []) n P := by
 refine xZ (I := fun k acc n' => k ≤ ds.length ∧ n' ≤ n + c * k ∧ ∃ l : List α, acc = l.map J ∧ l.length = k ∧ ∀ x ∈ l, Q x) (fun k acc n' hk hI => ?_) (fun acc n' hI => ?_) ⟨Nat.zero_le _, by simp, [], rfl, rfl, by simp⟩
 ·obtain ⟨_, hn, l, rfl, hl, hq⟩ := hI
  unfold mYes
  refine (zh _ _).mpr ⟨fun _ => ?_, fun z => (nomatch z)⟩
  refine (step ds[k] (List.getElem_mem hk) n' (Nat.le_trans hn (Nat.add_le_add_left (Nat.mul_le_mul_left c (Nat.le_of_lt hk)) n))).imp fun y n2 ⟨z, ey, hz, hn2⟩ => ?_
  refine ⟨J z, ey, hk, ?_, l ++ [z], by simp, by simp [hl], fun x hx => ?_⟩
  ·rw [Nat.mul_succ]; omega
  ·rcases List.mem_append.mp hx with hx | hx
   ·exact hq x hx
   ·rw [List.mem_singleton.mp hx]; exact hz
 ·obtain ⟨_, hn, l, rfl, hl, hq⟩ := hI
  exact h l n' hl hq hn
theorem z8F {l : List PyData} (h : l.length < 10000) : itD (.list l) = some l := by simp only [itD]; rw [if_pos (by unfold lim; omega)]
theorem z1E {l : List PyData} (h : l.length < 10000) : itD (.tuple l) = some l := by simp only [itD]; rw [if_pos (by unfold lim; omega)]
theorem z6Q {α : Type} {R : α → α → Prop} {l : List α} (h : l.Pairwise R) {i : Nat} {x y : α} (e1 : l[i]? = some x) (e2 : l[i + 1]? = some y) : R x y := by
 obtain ⟨h1, rfl⟩ := List.getElem?_eq_some_iff.mp e1
 obtain ⟨h2, rfl⟩ := List.getElem?_eq_some_iff.mp e2
 exact List.pairwise_iff_getElem.mp h i (i + 1) h1 h2 (Nat.lt_succ_self i)
noncomputable def upto (N : Nat) : List Int := (List.range N).map fun (i : Nat) => (i : Int)
theorem mem_upto {N : Nat} {x : Int} : x ∈ upto N ↔ 0 ≤ x ∧ x < (N : Int) := by
 unfold upto
 simp only [List.mem_map, List.mem_range]
 exact ⟨fun ⟨k, hk, e⟩ => by omega, fun h => ⟨x.toNat, by omega, by omega⟩⟩
theorem zN (N : Nat) : (upto N).length = N := by simp [upto]
theorem w4 (N : Nat) : (upto N).Pairwise (· < ·) := by
 unfold upto
 exact List.pairwise_map.mpr (List.pairwise_lt_range.imp fun h => by omega)
theorem zv (m : Int) (h : 0 ≤ m) : rngD 0 m = (upto m.toNat).map PyData.int := by
 unfold rngD upto
 simp [Function.comp_def]
theorem yc : ∀ l : List Int, PyData.canLayAll0 (l.map PyData.int) = true
 | [] => rfl
 | q :: r => by rw [List.map_cons]; simp only [PyData.canLayAll0, yc r, Bool.and_true]; rfl
theorem uX : ∀ l : List Int, PyData.depthAll (l.map PyData.int) ≤ 1
 | [] => by simp [PyData.depthAll]
 | q :: r => by
  have := uX r
  rw [List.map_cons]; simp only [PyData.depthAll, PyData.depth]; omega
theorem xE : ∀ l r : List Int, PyData.eqvAll (l.map PyData.int) (r.map PyData.int) = decide (l = r)
 | [], [] => by simp [PyData.eqvAll]
 | [], y :: r => by simp [PyData.eqvAll]
 | x :: l, [] => by simp [PyData.eqvAll]
 | x :: l, y :: r => by
  rw [List.map_cons, List.map_cons]
  simp only [PyData.eqvAll, wJ, xE l r]
  by_cases e : x = y <;> by_cases e2 : l = r <;> simp [e, e2]
theorem z3Y (neg : Bool) (l r : List Int) : fEq neg (.list (l.map PyData.int)) (.list (r.map PyData.int)) = some (.bool (if neg then !decide (l = r) else decide (l = r))) := by
 have d := uX l
 unfold fEq
 rw [if_pos ⟨by simp only [PyData.canLay0]; exact yc l, by simp only [PyData.canLay0]; exact yc r, by simp only [PyData.depth]; omega⟩]
 simp only [PyData.eqv, xE]
theorem z6c (l : List Int) : fEq true (.list (l.map PyData.int)) (.list []) = some (.bool (!l.isEmpty)) := by
 have := z3Y true l []
 rw [List.map_nil] at this
 rw [this]
 cases l <;> rfl
theorem z1q (c : List Int) : fIn false .none (.list (c.map PyData.int)) = some (.bool false) := by
 simp only [fIn]
 rw [if_pos ⟨rfl, yc c, by simp [PyData.depth]⟩]
 rw [show ((c.map PyData.int).any fun y => PyData.eqv y .none) = false from by
  rw [List.any_eq_false]
  intro y hy
  obtain ⟨z, _, rfl⟩ := List.mem_map.mp hy
  simp [PyData.eqv]]
 rfl
theorem xM {l : List Int} {i : Int} (h0 : 0 ≤ i) (h : i < (l.length : Int)) : fIx (.tuple (l.map PyData.int)) (.int i) = some (.int (l.getD i.toNat 0)) := by
 refine uZ h0 ?_
 rw [List.getElem?_map, List.getElem?_eq_getElem (by omega), List.getD_eq_getElem?_getD, List.getElem?_eq_getElem (by omega)]
 rfl
theorem z0I {α : Type} {J : α → PyData} {l : List α} {i : Int} {d : α} (h0 : 0 ≤ i) (h : i < (l.length : Int)) : fIx (.tuple (l.map J)) (.int i) = some (J (l.getD i.toNat d)) := by
 refine uZ h0 ?_
 rw [List.getElem?_map, List.getElem?_eq_getElem (by omega), List.getD_eq_getElem?_getD, List.getElem?_eq_getElem (by omega)]
 rfl
theorem yG {α : Type} {l : List α} {i : Nat} {d : α} (h : i < l.length) : l.getD i d ∈ l := by
 rw [List.getD_eq_getElem?_getD, List.getElem?_eq_getElem h]
 exact List.getElem_mem h
noncomputable def z9V (l : List Int) : PyData := .dict (l.map fun x => (.int x, .bool true))
end L2
namespace L2
open PySem
noncomputable abbrev tupI (st : List Int) : PyData := .tuple (st.map PyData.int)
theorem yK : ∀ l : List Int, (wO (l.map PyData.int)).isSome = true
 | [] => rfl
 | x :: l => by
  have := yK l
  obtain ⟨k, e⟩ := Option.isSome_iff_exists.mp this
  simp only [List.map_cons, wO, keyD, e, Option.isSome_some]
theorem y3 (a b : List Int) : PyData.eqv (tupI a) (tupI b) = decide (a = b) := by simp only [PyData.eqv, xE]
end L2
namespace L2
open PySem
section
variable {α : Type} {f : Int → α → Option α}
noncomputable def xW (f : Int → α → Option α) (s : α) (row : List Int) : Option α := row.foldl (fun o d => o.bind (f d)) (some s)
theorem yp (f : Int → α → Option α) (s : α) (row : List Int) (d : Int) : xW f s (row ++ [d]) = (xW f s row).bind (f d) := by simp [xW]
structure Bfs (f : Int → α → Option α) (D : Nat) (s0 : α) (l : List (α × List Int)) (k c : Nat) : Prop where
 nd : (l.map (·.1)).Nodup
 hd : l[0]? = some (s0, [])
 sound : ∀ q ∈ l, xW f s0 q.2 = some q.1
 doors : ∀ q ∈ l, ∀ d ∈ q.2, 0 ≤ d ∧ d < (D : Int)
 mono : l.Pairwise fun a b => a.2.length ≤ b.2.length
 near : ∀ q : α × List Int, l[k]? = some q → ∀ p ∈ l, p.2.length ≤ q.2.length + 1
 deep : ∀ (i : Nat) (q : α × List Int), l[i]? = some q → q.2.length ≤ i
 closed : ∀ (i d : Nat) (q : α × List Int), l[i]? = some q → d < D → (i < k ∨ (i = k ∧ d < c)) → ∀ s', f (d : Int) q.1 = some s' → ∃ p ∈ l, p.1 = s' ∧ p.2.length ≤ q.2.length + 1
variable {D : Nat} {s0 : α} {l : List (α × List Int)} {k c : Nat}
theorem Bfs.init : Bfs f D s0 [(s0, [])] 0 0 :=
 ⟨by simp, rfl, fun q h => by rw [List.mem_singleton.mp h]; rfl, fun q h => by rw [List.mem_singleton.mp h]; simp, by simp, fun q _ p h => by rw [List.mem_singleton.mp h]; simp, fun i q h => by
  cases i with
  | zero => simp at h; rw [← h]; simp
  | succ i => simp at h, fun i d q _ _ h => by omega⟩
theorem Bfs.skip {q : α × List Int} (B : Bfs f D s0 l k c) (hq : l[k]? = some q) (h : ∀ s', f (c : Int) q.1 = some s' → ∃ p ∈ l, p.1 = s') : Bfs f D s0 l k (c + 1) := by
 refine ⟨B.nd, B.hd, B.sound, B.doors, B.mono, B.near, B.deep, fun i d q' h1 h2 h3 s' hs => ?_⟩
 by_cases e : i = k ∧ d = c
 ·obtain ⟨rfl, rfl⟩ := e
  rw [hq] at h1; cases h1
  obtain ⟨p, hp, e⟩ := h s' hs
  exact ⟨p, hp, e, B.near q hq p hp⟩
 ·exact B.closed i d q' h1 h2 (by omega) s' hs
theorem Bfs.add {q : α × List Int} {s' : α} (B : Bfs f D s0 l k c) (hq : l[k]? = some q) (hc : c < D) (hs : f (c : Int) q.1 = some s') (hn : ∀ p ∈ l, p.1 ≠ s') : Bfs f D s0 (l ++ [(s', q.2 ++ [(c : Int)])]) k (c + 1) := by
 have hqm : q ∈ l := List.mem_of_getElem? hq
 have hkl : k < l.length := (List.getElem?_eq_some_iff.mp hq).1
 have old : ∀ {i : Nat} {p : α × List Int}, l[i]? = some p → (l ++ [(s', q.2 ++ [(c : Int)])])[i]? = some p := fun {i p} h => by
  rw [List.getElem?_append_left (List.getElem?_eq_some_iff.mp h).1]; exact h
 refine ⟨?_, old B.hd, fun p hp => ?_, fun p hp => ?_, ?_, fun q' h p hp => ?_, fun i p h => ?_, fun i d q' h1 h2 h3 s2 hs2 => ?_⟩
 ·rw [List.map_append]
  refine List.nodup_append.mpr ⟨B.nd, by simp, fun a ha b hb => ?_⟩
  obtain ⟨p, hp, rfl⟩ := List.mem_map.mp ha
  have : b = s' := by simpa using hb
  rw [this]; exact hn p hp
 ·rcases List.mem_append.mp hp with hp | hp
  ·exact B.sound p hp
  ·rw [List.mem_singleton.mp hp]
   show xW f s0 (q.2 ++ [(c : Int)]) = some s'
   rw [yp, B.sound q hqm]; exact hs
 ·rcases List.mem_append.mp hp with hp | hp
  ·exact B.doors p hp
  ·rw [List.mem_singleton.mp hp]
   intro d hd
   rcases List.mem_append.mp hd with hd | hd
   ·exact B.doors q hqm d hd
   ·rw [List.mem_singleton.mp hd]; omega
 ·rw [List.pairwise_append]
  refine ⟨B.mono, by simp, fun a ha b hb => ?_⟩
  rw [List.mem_singleton.mp hb]
  have := B.near q hq a ha
  simp; omega
 ·rw [old hq] at h; cases h
  rcases List.mem_append.mp hp with hp | hp
  ·exact B.near q hq p hp
  ·rw [List.mem_singleton.mp hp]; simp
 ·by_cases hi : i < l.length
  ·rw [List.getElem?_append_left hi] at h; exact B.deep i p h
  ·rw [List.getElem?_append_right (by omega)] at h
   have h0 : i - l.length = 0 := by
    rcases Nat.eq_zero_or_pos (i - l.length) with z | z
    ·exact z
    ·rw [List.getElem?_eq_none (by simp; omega)] at h; cases h
   rw [h0] at h
   simp at h
   rw [← h]
   have := B.deep k q hq
   simp; omega
 ·by_cases hi : i < l.length
  ·rw [List.getElem?_append_left hi] at h1
   by_cases e : i = k ∧ d = c
   ·obtain ⟨rfl, rfl⟩ := e
    rw [hq] at h1; cases h1
    rw [hs] at hs2; cases hs2
    exact ⟨_, List.mem_append_right _ (List.mem_singleton.mpr rfl), rfl, by simp⟩
   ·obtain ⟨p, hp, e1, e2⟩ := B.closed i d q' h1 h2 (by omega) s2 hs2
    exact ⟨p, List.mem_append_left _ hp, e1, e2⟩
  ·omega
theorem Bfs.next (B : Bfs f D s0 l k D) : Bfs f D s0 l (k + 1) 0 := by
 refine ⟨B.nd, B.hd, B.sound, B.doors, B.mono, fun q hq p hp => ?_, B.deep, fun i d q h1 h2 h3 => B.closed i d q h1 h2 (by omega)⟩
 obtain ⟨h1, rfl⟩ := List.getElem?_eq_some_iff.mp hq
 have hk : k < l.length := by omega
 have a := B.near _ (List.getElem?_eq_getElem hk) p hp
 have b := List.pairwise_iff_getElem.mp B.mono k (k + 1) hk h1 (Nat.lt_succ_self k)
 omega
theorem Bfs.all (B : Bfs f D s0 l l.length 0) : ∀ (row : List Int), (∀ d ∈ row, 0 ≤ d ∧ d < (D : Int)) → ∀ s, xW f s0 row = some s → ∃ p ∈ l, p.1 = s ∧ p.2.length ≤ row.length := by
 intro row
 have gen : ∀ (n : Nat) (row : List Int), row.length = n → (∀ d ∈ row, 0 ≤ d ∧ d < (D : Int)) → ∀ s, xW f s0 row = some s → ∃ p ∈ l, p.1 = s ∧ p.2.length ≤ row.length := by
  intro n
  induction n with
  | zero =>
   intro row hr _ s hs
   have : row = [] := List.length_eq_zero_iff.mp hr
   subst this
   refine ⟨(s0, []), List.mem_of_getElem? B.hd, ?_, by simp⟩
   have : some s0 = some s := hs
   cases this; rfl
  | succ n ih =>
   intro row hr hd s hs
   have hne : row ≠ [] := fun z => by rw [z] at hr; simp at hr
   obtain ⟨r, d, e⟩ : ∃ r d, row = r ++ [d] := ⟨row.dropLast, row.getLast hne, (List.dropLast_concat_getLast hne).symm⟩
   subst e
   rw [yp] at hs
   obtain ⟨s1, h1, h2⟩ := Option.bind_eq_some_iff.mp hs
   have hrl : r.length = n := by simpa using hr
   obtain ⟨p, hp, e1, e2⟩ := ih r hrl (fun d hd' => hd d (List.mem_append_left _ hd')) s1 h1
   obtain ⟨i, hi, e3⟩ := List.mem_iff_getElem.mp hp
   have hdd := hd d (List.mem_append_right _ (List.mem_singleton.mpr rfl))
   obtain ⟨p', hp', e4, e5⟩ := B.closed i d.toNat p (by rw [List.getElem?_eq_getElem hi, e3]) (by omega) (.inl hi) s (by rw [show ((d.toNat : Nat) : Int) = d by omega, e1]; exact h2)
   exact ⟨p', hp', e4, by simp; omega⟩
 exact gen row.length row rfl
end
noncomputable def gP (l : List (List Int × List Int)) : List (PyData × PyData) := l.map fun kv => (tupI kv.1, tupI kv.2)
theorem z1u (l : List (List Int × List Int)) : ((gP l).all fun kv => yz kv.1) = true := by
 rw [List.all_eq_true]
 intro kv h
 obtain ⟨q, _, rfl⟩ := List.mem_map.mp h
 rfl
theorem wN (l : List (List Int × List Int)) (k : List Int) : zj (gP l) (tupI k) = true := by
 simp only [zj, yK, z1u, Bool.and_true]
theorem z2A {l : List (List Int × List Int)} (h : l ≠ []) (k : List Int) : yj (gP l) (tupI k) = true := by
 simp only [yj, yK, z1u, Bool.and_true, Bool.true_and]
 cases l with
 | nil => exact absurd rfl h
 | cons x r => rfl
theorem z6A : ∀ (l : List (List Int × List Int)) (k : List Int), ((gP l).any fun kv => PyData.eqv kv.1 (tupI k)) = (l.any fun kv => decide (kv.1 = k))
 | [], k => rfl
 | (c, v) :: r, k => by
  have ih := z6A r k
  unfold gP at ih ⊢
  rw [List.map_cons, List.any_cons, List.any_cons, ih]
  simp only [y3]
theorem z09 : ∀ (l : List (List Int × List Int)) (k : List Int), yf (gP l) (tupI k) = ((l.find? fun kv => decide (kv.1 = k)).map (·.2)).map tupI
 | [], k => rfl
 | (c, v) :: r, k => by
  have ih := z09 r k
  unfold yf gP at ih ⊢
  rw [List.map_cons, List.find?_cons, List.find?_cons]
  simp only [y3]
  by_cases e : c = k
  ·simp [e]
  ·simp only [e, decide_false]
   exact ih
theorem z6y {l : List (List Int × List Int)} (hl : l.length < 10000) {k : List Int} (hn : ∀ p ∈ l, p.1 ≠ k) (v : List Int) : putD (gP l) (tupI k) (tupI v) = some (gP (l ++ [(k, v)])) := by
 unfold putD
 rw [if_pos ⟨wN l k, by unfold lim; simp [gP]; omega⟩]
 congr 1
 unfold dPut
 rw [z6A, if_neg (by
  rw [Bool.not_eq_true, List.any_eq_false]
  intro p hp
  simpa using hn p hp)]
 unfold gP
 rw [List.map_append]; rfl
theorem z5m {l : List (List Int × List Int)} (nd : (l.map (·.1)).Nodup) {q : List Int × List Int} (h : q ∈ l) : fIx (.dict (gP l)) (tupI q.1) = some (tupI q.2) := by
 have hne : l ≠ [] := fun z => by rw [z] at h; cases h
 simp only [fIx]
 rw [if_pos (z2A hne _), z09]
 have : (l.find? fun kv => decide (kv.1 = q.1)) = some q := by
  induction l with
  | nil => cases h
  | cons p r ih =>
   rw [List.map_cons, List.nodup_cons] at nd
   rw [List.find?_cons]
   rcases List.mem_cons.mp h with rfl | h
   ·simp
   ·have hne2 : p.1 ≠ q.1 := fun e => nd.1 (e ▸ List.mem_map.mpr ⟨q, h, rfl⟩)
    simp only [hne2, decide_false]
    exact ih nd.2 h (fun z => by rw [z] at h; cases h)
 rw [this]; rfl
theorem z7i {l : List (List Int × List Int)} (h : l ≠ []) (neg : Bool) (k : List Int) : fIn neg (tupI k) (.dict (gP l)) = some (.bool (if neg then !(l.any fun p => decide (p.1 = k)) else l.any fun p => decide (p.1 = k))) := by
 simp only [fIn]
 rw [if_pos (z2A h k), z09, Option.isSome_map, Option.isSome_map, List.isSome_find?]
noncomputable def subs : List Int → List (List Int)
 | [] => [[]]
 | x :: l => subs l ++ (subs l).map (x :: ·)
theorem z2N : ∀ l : List Int, (subs l).length = 2 ^ l.length
 | [] => rfl
 | x :: l => by
  rw [subs, List.length_append, List.length_map, z2N l, List.length_cons, Nat.pow_succ]; omega
theorem xw : ∀ {l st : List Int}, st.Sublist l → st ∈ subs l
 | _, _, .slnil => by simp [subs]
 | _, _, .cons x h => List.mem_append_left _ (xw h)
 | _, _, .cons₂ x h => List.mem_append_right _ (List.mem_map.mpr ⟨_, xw h, rfl⟩)
theorem z3N {st : List Int} (h : st.Pairwise (· < ·)) (hin : ∀ x ∈ st, 0 ≤ x ∧ x < 8) : st ∈ subs (upto 8) := by
 have e : st = (upto 8).filter fun x => decide (x ∈ st) := wA h ((w4 8).filter _) fun x => by
  rw [List.mem_filter, decide_eq_true_iff]
  exact ⟨fun hx => ⟨mem_upto.mpr (by have := hin x hx; omega), hx⟩, fun hx => hx.2⟩
 rw [e]
 exact xw List.filter_sublist
theorem z3j {ks : List (List Int)} (nd : ks.Nodup) (h : ∀ st ∈ ks, st.Pairwise (· < ·) ∧ ∀ x ∈ st, 0 ≤ x ∧ x < 8) : ks.length ≤ 256 := by
 have := nd.length_le_of_subset (l₂ := subs (upto 8)) fun st hst => z3N (h st hst).1 (h st hst).2
 rw [z2N, zN] at this
 exact this
end L2
namespace L2
open PySem
noncomputable def zf (w : Int → Int) (r : List Int) : Int := (r.map w).sum
theorem yq (w : Int → Int) (r : List Int) (d : Int) : zf w (r ++ [d]) = zf w r + w d := by simp [zf]
noncomputable def wKey (w : Int → Int) (r : List Int) : List Int := zf w r :: (r.length : Int) :: r
noncomputable def wLe (w : Int → Int) (r r' : List Int) : Prop := HT.lexLt (wKey w r') (wKey w r) = false
theorem wY {a b c : List Int} (h1 : HT.lexLt b a = false) (h2 : HT.lexLt c b = false) : HT.lexLt c a = false := by
 cases h : HT.lexLt c a with
 | false => rfl
 | true =>
  cases h3 : HT.lexLt a b with
  | true => rw [y7 h h3] at h2; cases h2
  | false =>
   have := u2 h1 h3
   subst this
   rw [h] at h2; cases h2
theorem z05 {a b : List Int} (h : HT.lexLt a b = true) : HT.lexLt b a = false := by
 cases h2 : HT.lexLt b a with
 | false => rfl
 | true => have := y7 h h2; rw [yX] at this; cases this
theorem wLe.refl (w : Int → Int) (r : List Int) : wLe w r r := yX _
theorem wLe.trans {w : Int → Int} {a b c : List Int} (h1 : wLe w a b) (h2 : wLe w b c) : wLe w a c := wY h1 h2
theorem wLe.antisymm {w : Int → Int} {a b : List Int} (h1 : wLe w a b) (h2 : wLe w b a) : a = b := by
 have := u2 h2 h1
 unfold wKey at this
 injection this with _ h
 injection h
theorem z1z : ∀ {a b : List Int} (x : Int), a.length = b.length → HT.lexLt (a ++ [x]) (b ++ [x]) = HT.lexLt a b
 | [], [], x, _ => by simp [HT.lexLt_cons, HT.lexLt_nil_nil]
 | [], _ :: _, _, h => by simp at h
 | _ :: _, [], _, h => by simp at h
 | y :: a, z :: b, x, h => by
  simp only [List.cons_append, HT.lexLt_cons]
  rw [z1z x (by simpa using h)]
theorem z0d : ∀ {a b : List Int} (x y : Int), a.length = b.length → HT.lexLt a b = true → HT.lexLt (a ++ [x]) (b ++ [y]) = true
 | [], [], _, _, _, h => by simp [HT.lexLt_nil_nil] at h
 | [], _ :: _, _, _, h, _ => by simp at h
 | _ :: _, [], _, _, h, _ => by simp at h
 | u :: a, z :: b, x, y, h, k => by
  simp only [List.cons_append, HT.lexLt_cons] at k ⊢
  split at k
  next e => rw [if_pos e]; exact z0d x y (by simpa using h) k
  next e => rw [if_neg e]; exact k
theorem z0M {w : Int → Int} {a b : List Int} : wLe w a b ↔ zf w a < zf w b ∨ zf w a = zf w b ∧ (a.length < b.length ∨ a.length = b.length ∧ HT.lexLt b a = false) := by
 unfold wLe wKey
 simp only [HT.lexLt_cons]
 by_cases h1 : zf w b = zf w a
 ·rw [if_pos h1]
  by_cases h2 : (b.length : Int) = (a.length : Int)
  ·rw [if_pos h2]
   constructor
   ·intro h; exact .inr ⟨h1.symm, .inr ⟨by omega, h⟩⟩
   ·rintro (h | ⟨_, h | ⟨_, h⟩⟩)
    ·omega
    ·omega
    ·exact h
  ·rw [if_neg h2, decide_eq_false_iff_not]
   constructor
   ·intro h; exact .inr ⟨h1.symm, .inl (by omega)⟩
   ·rintro (h | ⟨_, h | ⟨h, _⟩⟩) <;> omega
 ·rw [if_neg h1, decide_eq_false_iff_not]
  constructor
  ·intro h; exact .inl (by omega)
  ·rintro (h | ⟨h, _⟩) <;> omega
theorem wLe.snoc {w : Int → Int} {a b : List Int} (d : Int) (h : wLe w a b) : wLe w (a ++ [d]) (b ++ [d]) := by
 rw [z0M] at h ⊢
 simp only [yq, List.length_append, List.length_singleton]
 rcases h with h | ⟨h, h2 | ⟨h2, h3⟩⟩
 ·left; omega
 ·right; exact ⟨by omega, .inl (by omega)⟩
 ·right; exact ⟨by omega, .inr ⟨by omega, by rw [z1z d h2.symm]; exact h3⟩⟩
theorem wLe.grow {w : Int → Int} {d : Int} (hd : 0 ≤ w d) (a : List Int) : wLe w a (a ++ [d]) := by
 rw [z0M]
 simp only [yq, List.length_append, List.length_singleton]
 by_cases h : w d = 0
 ·right; exact ⟨by omega, .inl (by omega)⟩
 ·left; omega
section
variable {α : Type} {f : Int → α → α} {w : Int → Int} {D : Nat} {goal : α → Bool} {s0 : α} {dn : List (α × List Int)} {wt wt' : List (List Int)} {x : List Int}
noncomputable def zI (f : Int → α → α) (s : α) (row : List Int) : α := row.foldl (fun s d => f d s) s
theorem zc (f : Int → α → α) (s : α) (row : List Int) (d : Int) : zI f s (row ++ [d]) = f d (zI f s row) := by simp [zI]
noncomputable def DoorsIn (D : Nat) (r : List Int) : Prop := ∀ d ∈ r, 0 ≤ d ∧ d < (D : Int)
theorem DoorsIn.snoc {r : List Int} {d : Nat} (h : DoorsIn D r) (hd : d < D) : DoorsIn D (r ++ [(d : Int)]) := fun x hx => by
 rcases List.mem_append.mp hx with hx | hx
 ·exact h x hx
 ·rw [List.mem_singleton.mp hx]; omega
structure Dij (f : Int → α → α) (w : Int → Int) (D : Nat) (goal : α → Bool) (s0 : α) (dn : List (α × List Int)) (wt : List (List Int)) : Prop where
 start : [] ∈ wt ∨ ∃ q ∈ dn, q.1 = s0 ∧ wLe w q.2 []
 sd : ∀ q ∈ dn, zI f s0 q.2 = q.1
 rowd : ∀ r ∈ wt, DoorsIn D r
 no : ∀ q ∈ dn, goal q.1 = false
 nd : (dn.map (·.1)).Nodup
 below : ∀ q ∈ dn, ∀ r ∈ wt, wLe w q.2 r
 len : ∀ r ∈ wt, r.length ≤ dn.length
 cl : ∀ q ∈ dn, ∀ d : Nat, d < D → (∃ p ∈ dn, p.1 = f d q.1 ∧ wLe w p.2 (q.2 ++ [(d : Int)])) ∨ (q.2 ++ [(d : Int)]) ∈ wt
theorem Dij.init : Dij f w D goal s0 [] [[]] :=
 ⟨.inl (List.mem_singleton.mpr rfl), fun q h => (nomatch h), fun r h => (by rw [List.mem_singleton.mp h]; intro d hd; cases hd), fun q h => (nomatch h), List.nodup_nil, fun q h => (nomatch h), fun r h => by rw [List.mem_singleton.mp h]; simp, fun q h => (nomatch h)⟩
theorem Dij.covers (B : Dij f w D goal s0 dn wt) (hw : ∀ d : Int, 0 ≤ w d) : ∀ {r : List Int}, DoorsIn D r → (∃ q ∈ dn, q.1 = zI f s0 r ∧ wLe w q.2 r) ∨ ∃ y ∈ wt, wLe w y r := by
 have gen : ∀ (n : Nat) (r : List Int), r.length = n → DoorsIn D r → (∃ q ∈ dn, q.1 = zI f s0 r ∧ wLe w q.2 r) ∨ ∃ y ∈ wt, wLe w y r := by
  intro n
  induction n with
  | zero =>
   intro r hr _
   have : r = [] := List.length_eq_zero_iff.mp hr
   subst this
   rcases B.start with h | h
   ·exact .inr ⟨[], h, wLe.refl _ _⟩
   ·obtain ⟨q, hq, e1, e2⟩ := h
    exact .inl ⟨q, hq, e1, e2⟩
  | succ n ih =>
   intro r hr hd
   have hne : r ≠ [] := fun z => by rw [z] at hr; simp at hr
   obtain ⟨r0, d, e⟩ : ∃ r0 d, r = r0 ++ [d] := ⟨r.dropLast, r.getLast hne, (List.dropLast_concat_getLast hne).symm⟩
   subst e
   have hd0 := hd d (List.mem_append_right _ (List.mem_singleton.mpr rfl))
   rcases ih r0 (by simpa using hr) (fun x hx => hd x (List.mem_append_left _ hx)) with ⟨q, hq, e1, e2⟩ | ⟨y, hy, e⟩
   ·have ed : ((d.toNat : Nat) : Int) = d := by omega
    rcases B.cl q hq d.toNat (by omega) with ⟨p, hp, e3, e4⟩ | h
    ·rw [ed] at e3 e4
     exact .inl ⟨p, hp, by rw [e3, e1, zc], e4.trans (e2.snoc d)⟩
    ·rw [ed] at h
     exact .inr ⟨_, h, e2.snoc d⟩
   ·exact .inr ⟨y, hy, e.trans (wLe.grow (hw d) r0)⟩
 intro r
 exact gen r.length r rfl
theorem Dij.found (B : Dij f w D goal s0 dn wt) (hw : ∀ d : Int, 0 ≤ w d) (hmin : ∀ r ∈ wt, wLe w x r) {r : List Int} (hr : DoorsIn D r) (hg : goal (zI f s0 r) = true) : wLe w x r := by
 rcases B.covers hw hr with ⟨q, hq, e, _⟩ | ⟨y, hy, e⟩
 ·have := B.no q hq
  rw [e, hg] at this; cases this
 ·exact (hmin y hy).trans e
theorem Dij.never (B : Dij f w D goal s0 dn []) (hw : ∀ d : Int, 0 ≤ w d) {r : List Int} (hr : DoorsIn D r) : goal (zI f s0 r) = false := by
 rcases B.covers hw hr with ⟨q, hq, e, _⟩ | ⟨y, hy, e⟩
 ·rw [← e]; exact B.no q hq
 ·cases hy
theorem Dij.old (B : Dij f w D goal s0 dn wt) (hx : x ∈ wt) (hs : ∃ q ∈ dn, q.1 = zI f s0 x) (h1 : ∀ r ∈ wt', r ∈ wt) (h2 : ∀ r ∈ wt, r = x ∨ r ∈ wt') : Dij f w D goal s0 dn wt' := by
 obtain ⟨q0, hq0, e0⟩ := hs
 refine ⟨?_, B.sd, fun r h => B.rowd r (h1 r h), B.no, B.nd, fun q hq r hr => B.below q hq r (h1 r hr), fun r h => B.len r (h1 r h), fun q hq d hd => ?_⟩
 ·rcases B.start with h | h
  ·rcases h2 _ h with e | h
   ·subst e
    exact .inr ⟨q0, hq0, e0, B.below q0 hq0 _ hx⟩
   ·exact .inl h
  ·exact .inr h
 ·rcases B.cl q hq d hd with h | h
  ·exact .inl h
  ·rcases h2 _ h with e | h
   ·refine .inl ⟨q0, hq0, ?_, ?_⟩
    ·rw [e0, ← e, zc, B.sd q hq]
    ·rw [e]; exact B.below q0 hq0 _ hx
   ·exact .inr h
theorem Dij.new (B : Dij f w D goal s0 dn wt) (hw : ∀ d : Int, 0 ≤ w d) (hx : x ∈ wt) (hmin : ∀ r ∈ wt, wLe w x r) (hg : goal (zI f s0 x) = false) (hs : ∀ q ∈ dn, q.1 ≠ zI f s0 x) (h1 : ∀ r ∈ wt', r ∈ wt ∨ ∃ d : Nat, d < D ∧ r = x ++ [(d : Int)]) (h2 : ∀ r ∈ wt, r = x ∨ r ∈ wt')
  (h3 : ∀ d : Nat, d < D → (∃ q ∈ dn ++ [(zI f s0 x, x)], q.1 = f d (zI f s0 x)) ∨ x ++ [(d : Int)] ∈ wt') : Dij f w D goal s0 (dn ++ [(zI f s0 x, x)]) wt' := by
 have hxm : (zI f s0 x, x) ∈ dn ++ [(zI f s0 x, x)] := List.mem_append_right _ (List.mem_singleton.mpr rfl)
 have le : ∀ q ∈ dn ++ [(zI f s0 x, x)], wLe w q.2 x := fun q hq => by
  rcases List.mem_append.mp hq with hq | hq
  ·exact B.below q hq x hx
  ·rw [List.mem_singleton.mp hq]; exact wLe.refl _ _
 refine ⟨?_, fun q hq => ?_, fun r h => ?_, fun q hq => ?_, ?_, fun q hq r hr => ?_, fun r hr => ?_, fun q hq d hd => ?_⟩
 ·rcases B.start with h | ⟨q, hq, e⟩
  ·rcases h2 _ h with e | h
   ·subst e; exact .inr ⟨_, hxm, rfl, wLe.refl _ _⟩
   ·exact .inl h
  ·exact .inr ⟨q, List.mem_append_left _ hq, e⟩
 ·rcases List.mem_append.mp hq with hq | hq
  ·exact B.sd q hq
  ·rw [List.mem_singleton.mp hq]
 ·rcases h1 r h with h | ⟨d, hd, rfl⟩
  ·exact B.rowd r h
  ·exact (B.rowd x hx).snoc hd
 ·rcases List.mem_append.mp hq with hq | hq
  ·exact B.no q hq
  ·rw [List.mem_singleton.mp hq]; exact hg
 ·rw [List.map_append]
  refine List.nodup_append.mpr ⟨B.nd, by simp, fun a ha b hb => ?_⟩
  obtain ⟨p, hp, rfl⟩ := List.mem_map.mp ha
  have : b = zI f s0 x := by simpa using hb
  rw [this]; exact hs p hp
 ·rcases h1 r hr with h | ⟨d, hd, rfl⟩
  ·rcases List.mem_append.mp hq with hq | hq
   ·exact B.below q hq r h
   ·rw [List.mem_singleton.mp hq]; exact hmin r h
  ·exact (le q hq).trans (wLe.grow (hw _) x)
 ·rw [List.length_append, List.length_singleton]
  rcases h1 r hr with h | ⟨d, hd, rfl⟩
  ·have := B.len r h; omega
  ·have := B.len x hx
   rw [List.length_append, List.length_singleton]; omega
 ·rcases List.mem_append.mp hq with hq | hq
  ·rcases B.cl q hq d hd with ⟨p, hp, e⟩ | h
   ·exact .inl ⟨p, List.mem_append_left _ hp, e⟩
   ·rcases h2 _ h with e | h
    ·refine .inl ⟨_, hxm, ?_, ?_⟩
     ·rw [← e]; show zI f s0 (q.2 ++ [(d : Int)]) = _
      rw [zc, B.sd q hq]
     ·rw [e]; exact wLe.refl _ _
    ·exact .inr h
  ·rw [List.mem_singleton.mp hq]
   rcases h3 d hd with ⟨p, hp, e⟩ | h
   ·exact .inl ⟨p, hp, e, (le p hp).trans (wLe.grow (hw _) x)⟩
   ·exact .inr h
end
end L2
namespace L2
open PySem
noncomputable def w0 : Int → Int := fun _ => 0
theorem z2p : ∀ r : List Int, zf w0 r = 0
 | [] => rfl
 | _ :: r => by
  have := z2p r
  unfold zf at this ⊢
  rw [List.map_cons, List.sum_cons, this]; rfl
noncomputable def sLt (a b : List Int) : Prop := a.length < b.length ∨ a.length = b.length ∧ HT.lexLt a b = true
theorem z6l {a b : List Int} : wLe w0 a b ↔ a.length < b.length ∨ a.length = b.length ∧ HT.lexLt b a = false := by
 rw [z0M, z2p, z2p]
 constructor
 ·rintro (h | ⟨_, h⟩)
  ·omega
  ·exact h
 ·intro h; exact .inr ⟨rfl, h⟩
theorem sLt.le {a b : List Int} (h : sLt a b) : wLe w0 a b := by
 rw [z6l]
 rcases h with h | ⟨h, k⟩
 ·exact .inl h
 ·exact .inr ⟨h, z05 k⟩
theorem sLt.trans {a b c : List Int} (h : sLt a b) (k : sLt b c) : sLt a c := by
 rcases h with h | ⟨h, h2⟩ <;> rcases k with k | ⟨k, k2⟩
 ·exact .inl (by omega)
 ·exact .inl (by omega)
 ·exact .inl (by omega)
 ·exact .inr ⟨by omega, y7 h2 k2⟩
theorem sLt.snoc {a b : List Int} (h : sLt a b) (x y : Int) : sLt (a ++ [x]) (b ++ [y]) := by
 rcases h with h | ⟨h, h2⟩
 ·exact .inl (by simp; omega)
 ·exact .inr ⟨by simp; omega, z0d x y h h2⟩
theorem z2I : ∀ (a : List Int) {x y : Int}, x < y → HT.lexLt (a ++ [x]) (a ++ [y]) = true
 | [], x, y, h => by
  show HT.lexLt [x] [y] = true
  rw [HT.lexLt_cons, if_neg (by omega)]; exact decide_eq_true h
 | z :: a, x, y, h => by
  show HT.lexLt (z :: (a ++ [x])) (z :: (a ++ [y])) = true
  rw [HT.lexLt_cons, if_pos rfl]; exact z2I a h
theorem sLt.last (a : List Int) {x y : Int} (h : x < y) : sLt (a ++ [x]) (a ++ [y]) := .inr ⟨by simp, z2I a h⟩
section
variable {α : Type} {f : Int → α → Option α} {D : Nat} {s0 : α} {l : List (α × List Int)} {k c : Nat}
structure BfsL (f : Int → α → Option α) (D : Nat) (l : List (α × List Int)) (k c : Nat) : Prop where
 ris : l.Pairwise fun a b => sLt a.2 b.2
 near : ∀ q : α × List Int, l[k]? = some q → ∀ p ∈ l, sLt p.2 (q.2 ++ [(c : Int)])
 closed : ∀ (i d : Nat) (q : α × List Int), l[i]? = some q → d < D → (i < k ∨ (i = k ∧ d < c)) → ∀ s', f (d : Int) q.1 = some s' → ∃ p ∈ l, p.1 = s' ∧ wLe w0 p.2 (q.2 ++ [(d : Int)])
theorem BfsL.init : BfsL f D [(s0, [])] 0 0 :=
 ⟨by simp, fun q h p hp => by
  rw [List.mem_singleton.mp hp]; exact .inl (by simp), fun i d q _ _ h => by omega⟩
theorem BfsL.skip {q : α × List Int} (B : BfsL f D l k c) (hq : l[k]? = some q) (h : ∀ s', f (c : Int) q.1 = some s' → ∃ p ∈ l, p.1 = s') : BfsL f D l k (c + 1) := by
 refine ⟨B.ris, fun q' hq' p hp => (B.near q' hq' p hp).trans (sLt.last _ (by omega)), fun i d q' h1 h2 h3 s' hs => ?_⟩
 by_cases e : i = k ∧ d = c
 ·obtain ⟨rfl, rfl⟩ := e
  rw [hq] at h1; cases h1
  obtain ⟨p, hp, e⟩ := h s' hs
  exact ⟨p, hp, e, (B.near q hq p hp).le⟩
 ·exact B.closed i d q' h1 h2 (by omega) s' hs
theorem BfsL.add {q : α × List Int} {s' : α} (B : BfsL f D l k c) (hq : l[k]? = some q) (hs : f (c : Int) q.1 = some s') : BfsL f D (l ++ [(s', q.2 ++ [(c : Int)])]) k (c + 1) := by
 have hkl : k < l.length := (List.getElem?_eq_some_iff.mp hq).1
 refine ⟨?_, fun q' h p hp => ?_, fun i d q' h1 h2 h3 s2 hs2 => ?_⟩
 ·rw [List.pairwise_append]
  refine ⟨B.ris, by simp, fun a ha b hb => ?_⟩
  rw [List.mem_singleton.mp hb]
  exact B.near q hq a ha
 ·rw [List.getElem?_append_left hkl, hq] at h; cases h
  rcases List.mem_append.mp hp with hp | hp
  ·exact (B.near q hq p hp).trans (sLt.last _ (by omega))
  ·rw [List.mem_singleton.mp hp]; exact sLt.last _ (by omega)
 ·by_cases hi : i < l.length
  ·rw [List.getElem?_append_left hi] at h1
   by_cases e : i = k ∧ d = c
   ·obtain ⟨rfl, rfl⟩ := e
    rw [hq] at h1; cases h1
    rw [hs] at hs2; cases hs2
    exact ⟨_, List.mem_append_right _ (List.mem_singleton.mpr rfl), rfl, wLe.refl _ _⟩
   ·obtain ⟨p, hp, e1, e2⟩ := B.closed i d q' h1 h2 (by omega) s2 hs2
    exact ⟨p, List.mem_append_left _ hp, e1, e2⟩
  ·omega
theorem BfsL.next (B : BfsL f D l k D) : BfsL f D l (k + 1) 0 := by
 refine ⟨B.ris, fun q hq p hp => ?_, fun i d q h1 h2 h3 => B.closed i d q h1 h2 (by omega)⟩
 obtain ⟨h1, rfl⟩ := List.getElem?_eq_some_iff.mp hq
 have hk : k < l.length := by omega
 have a := B.near _ (List.getElem?_eq_getElem hk) p hp
 have b := List.pairwise_iff_getElem.mp B.ris k (k + 1) hk h1 (Nat.lt_succ_self k)
 exact a.trans (b.snoc _ _)
theorem BfsL.all (B : Bfs f D s0 l l.length 0) (L : BfsL f D l l.length 0) : ∀ (row : List Int), (∀ d ∈ row, 0 ≤ d ∧ d < (D : Int)) → ∀ s, xW f s0 row = some s → ∃ p ∈ l, p.1 = s ∧ wLe w0 p.2 row := by
 intro row
 have gen : ∀ (n : Nat) (row : List Int), row.length = n → (∀ d ∈ row, 0 ≤ d ∧ d < (D : Int)) → ∀ s, xW f s0 row = some s → ∃ p ∈ l, p.1 = s ∧ wLe w0 p.2 row := by
  intro n
  induction n with
  | zero =>
   intro row hr _ s hs
   have : row = [] := List.length_eq_zero_iff.mp hr
   subst this
   refine ⟨(s0, []), List.mem_of_getElem? B.hd, ?_, wLe.refl _ _⟩
   have : some s0 = some s := hs
   cases this; rfl
  | succ n ih =>
   intro row hr hd s hs
   have hne : row ≠ [] := fun z => by rw [z] at hr; simp at hr
   obtain ⟨r, d, e⟩ : ∃ r d, row = r ++ [d] := ⟨row.dropLast, row.getLast hne, (List.dropLast_concat_getLast hne).symm⟩
   subst e
   rw [yp] at hs
   obtain ⟨s1, h1, h2⟩ := Option.bind_eq_some_iff.mp hs
   have hrl : r.length = n := by simpa using hr
   obtain ⟨p, hp, e1, e2⟩ := ih r hrl (fun d hd' => hd d (List.mem_append_left _ hd')) s1 h1
   obtain ⟨i, hi, e3⟩ := List.mem_iff_getElem.mp hp
   have hdd := hd d (List.mem_append_right _ (List.mem_singleton.mpr rfl))
   obtain ⟨p', hp', e4, e5⟩ := L.closed i d.toNat p (by rw [List.getElem?_eq_getElem hi, e3]) (by omega) (.inl hi) s (by rw [show ((d.toNat : Nat) : Int) = d by omega, e1]; exact h2)
   rw [show ((d.toNat : Nat) : Int) = d by omega] at e5
   exact ⟨p', hp', e4, e5.trans (e2.snoc d)⟩
 exact gen row.length row rfl
theorem z36 (L : l.Pairwise fun a b => sLt a.2 b.2) (g : α → Bool) : ∀ q0 rest, l.filter (fun q => g q.1) = q0 :: rest → ∀ p ∈ l, g p.1 = true → wLe w0 q0.2 p.2 := by
 induction l with
 | nil => intro _ _ h; simp at h
 | cons a l ih =>
  intro q0 rest hf p hp hp1
  obtain ⟨pw1, pw2⟩ := List.pairwise_cons.mp L
  rw [List.filter_cons] at hf
  cases ha : g a.1 with
  | true =>
   rw [ha, if_pos rfl] at hf
   have e0 : a = q0 := (List.cons.inj hf).1
   subst e0
   rcases List.mem_cons.mp hp with rfl | hp
   ·exact wLe.refl _ _
   ·exact (pw1 p hp).le
  | false =>
   rw [ha, if_neg (by simp)] at hf
   rcases List.mem_cons.mp hp with rfl | hp
   ·rw [ha] at hp1; cases hp1
   ·exact ih pw2 q0 rest hf p hp hp1
end
end L2
namespace L2
open PySem
theorem z0z : ∀ (a b : List Int), ltPs (a.map PyData.int) (b.map PyData.int) = some (HT.lexLt a b)
 | [], [] => by simp [ltPs, HT.lexLt]
 | [], _ :: _ => by simp [ltPs, HT.lexLt]
 | _ :: _, [] => by simp [ltPs, HT.lexLt]
 | x :: a, y :: b => by
  simp only [List.map_cons, ltPs, HT.lexLt_cons, wJ, decide_eq_true_eq]
  split
  ·exact z0z a b
  ·simp [ltP]
theorem z4T (a b : List Int) : ltP (tupI a) (tupI b) = some (HT.lexLt a b) := by
 show ltP (.tuple _) (.tuple _) = _
 rw [ltP]; exact z0z a b
noncomputable def wayT (w : Int → Int) (r : List Int) (t : List PyData) : PyData := .tuple (.int (zf w r) :: .int r.length :: tupI r :: t)
theorem z49 : ∀ (s : List Int), ltPs [tupI s] [tupI s] = some false := fun s => by
 rw [ltPs, y3, if_pos (decide_eq_true rfl)]; rfl
theorem z6K {w : Int → Int} {r r' : List Int} {t t' : List PyData} (h : r = r' → ltPs t t' = some false) : ltP (wayT w r t) (wayT w r' t') = some (HT.lexLt (wKey w r) (wKey w r')) := by
 unfold wayT wKey
 simp only [ltP, ltPs, HT.lexLt_cons, wJ, y3, decide_eq_true_eq]
 split
 ·split
  ·split
   next e => rw [h e, e, yX]
   next e => exact z4T r r'
  ·simp [ltP]
 ·simp [ltP]
theorem xP {bt : Nat → Nat → Bool} {key : Nat → List Int} {n : Nat} (hb : ∀ i j, i ≤ n → j ≤ n → bt i j = HT.lexLt (key i) (key j)) : ∀ m, m ≤ n → argBest bt m ≤ m ∧ ∀ j, j ≤ m → HT.lexLt (key j) (key (argBest bt m)) = false
 | 0, _ => ⟨Nat.le_refl _, fun j hj => by
  have : j = 0 := by omega
  subst this
  exact yX _⟩
 | m + 1, hm => by
  obtain ⟨h1, h2⟩ := xP hb m (by omega)
  have e := hb (m + 1) (argBest bt m) hm (by omega)
  cases hc : HT.lexLt (key (m + 1)) (key (argBest bt m)) with
  | true =>
   rw [hc] at e
   have ea : argBest bt (m + 1) = m + 1 := by simp only [argBest, e, if_true]
   rw [ea]
   refine ⟨Nat.le_refl _, fun j hj => ?_⟩
   rcases Nat.lt_or_ge j (m + 1) with h | h
   ·exact wY (z05 hc) (h2 j (by omega))
   ·have : j = m + 1 := by omega
    subst this; exact yX _
  | false =>
   rw [hc] at e
   have ea : argBest bt (m + 1) = argBest bt m := by simp only [argBest, e, Bool.false_eq_true, if_false]
   rw [ea]
   refine ⟨by omega, fun j hj => ?_⟩
   rcases Nat.lt_or_ge j (m + 1) with h | h
   ·exact h2 j (by omega)
   ·have : j = m + 1 := by omega
    subst this; exact hc
structure WayOk (t : List Int → List PyData) : Prop where
 lay : ∀ r, PyData.canLayAll0 (t r) = true
 dep : ∀ r, PyData.depthAll (t r) ≤ 10
 lt : ∀ r, ltPs (t r) (t r) = some false
 eqv : ∀ r, PyData.eqvAll (t r) (t r) = true
theorem xU : ∀ l : List Int, PyData.canLayAll0 (l.map PyData.int) = true
 | [] => rfl
 | x :: l => by simp only [List.map_cons, PyData.canLayAll0, PyData.canLay0, Bool.true_and]; exact xU l
theorem xx : ∀ l : List Int, PyData.depthAll (l.map PyData.int) ≤ 1
 | [] => by simp [PyData.depthAll]
 | x :: l => by simp only [List.map_cons, PyData.depthAll, PyData.depth]; have := xx l; omega
theorem xj {t : List Int → List PyData} (T : WayOk t) (w : Int → Int) (r : List Int) : (wayT w r (t r)).canLay0 = true := by
 unfold wayT
 simp only [PyData.canLay0, PyData.canLayAll0, T.lay, xU, Bool.and_self]
theorem z1W {t : List Int → List PyData} (T : WayOk t) (w : Int → Int) (r : List Int) : (wayT w r (t r)).depth ≤ 15 := by
 unfold wayT
 simp only [PyData.depth, PyData.depthAll]
 have := T.dep r
 have := xx r
 omega
theorem z2C {J : List Int → PyData} (h : ∀ r, (J r).canLay0 = true) : ∀ l : List (List Int), PyData.canLayAll0 (l.map J) = true
 | [] => rfl
 | r :: l => by simp only [List.map_cons, PyData.canLayAll0, h, Bool.true_and]; exact z2C h l
theorem z61 {J : List Int → PyData} (h : ∀ r, (J r).depth ≤ 15) : ∀ l : List (List Int), PyData.depthAll (l.map J) ≤ 20
 | [] => by simp [PyData.depthAll]
 | r :: l => by
  simp only [List.map_cons, PyData.depthAll]
  have := h r
  have := z61 h l
  omega
theorem z44 {t : List Int → List PyData} (T : WayOk t) (w : Int → Int) (r r' : List Int) : ltP (wayT w r (t r)) (wayT w r' (t r')) = some (HT.lexLt (wKey w r) (wKey w r')) := z6K fun e => by rw [e]; exact T.lt r'
theorem ul {t : List Int → List PyData} (T : WayOk t) (w : Int → Int) {wt : List (List Int)} (h : wt ≠ []) : ∃ x ∈ wt, z0Z [.list (wt.map fun r => wayT w r (t r))] = some (wayT w x (t x)) ∧ ∀ r ∈ wt, wLe w x r := by
 have hl : 0 < wt.length := List.length_pos_iff.mpr h
 have hbt : ∀ i j, i ≤ wt.length - 1 → j ≤ wt.length - 1 → btP (wt.map fun r => wayT w r (t r)) i j = HT.lexLt (wKey w (wt.getD i [])) (wKey w (wt.getD j [])) := fun i j hi hj => by
  unfold btP
  have gd : ∀ i, i < wt.length → (wt.map fun r => wayT w r (t r)).getD i .none = wayT w (wt.getD i []) (t (wt.getD i [])) := fun i hi => by
   rw [List.getD_eq_getElem?_getD, List.getD_eq_getElem?_getD, List.getElem?_map, List.getElem?_eq_getElem hi]; rfl
  rw [gd i (by omega), gd j (by omega), z44 T]; rfl
 obtain ⟨a1, a2⟩ := xP (key := fun i => wKey w (wt.getD i [])) hbt (wt.length - 1) (Nat.le_refl _)
 generalize ha : argBest (btP (wt.map fun r => wayT w r (t r))) (wt.length - 1) = a at a1 a2
 have hal : a < wt.length := by omega
 refine ⟨wt[a], List.getElem_mem hal, ?_, fun r hr => ?_⟩
 ·have hall : ((wt.map fun r => wayT w r (t r)).all fun x => (wt.map fun r => wayT w r (t r)).all fun y => (ltP x y).isSome) = true := by
   rw [List.all_eq_true]
   intro x hx
   rw [List.all_eq_true]
   intro y hy
   obtain ⟨r, _, rfl⟩ := List.mem_map.mp hx
   obtain ⟨r', _, rfl⟩ := List.mem_map.mp hy
   rw [z44 T]; rfl
  have hne : (wt.map fun r => wayT w r (t r)) ≠ [] := by simpa using h
  simp only [z0Z]
  rw [if_pos ⟨hne, z2C (J := fun r => wayT w r (t r)) (xj T w) wt, z61 (J := fun r => wayT w r (t r)) (z1W T w) wt, hall⟩, List.length_map, ha]
  rw [List.getD_eq_getElem?_getD, List.getElem?_map, List.getElem?_eq_getElem hal]; rfl
 ·obtain ⟨j, hj, rfl⟩ := List.mem_iff_getElem.mp hr
  have := a2 j (by omega)
  rw [List.getD_eq_getElem?_getD, List.getD_eq_getElem?_getD, List.getElem?_eq_getElem hj, List.getElem?_eq_getElem hal] at this
  exact this
theorem z73 {t : List Int → List PyData} (T : WayOk t) (w : Int → Int) (r r' : List Int) : PyData.eqv (wayT w r (t r)) (wayT w r' (t r')) = decide (r = r') := by
 unfold wayT
 simp only [PyData.eqv, PyData.eqvAll]
 rw [show PyData.eqvAll (r.map PyData.int) (r'.map PyData.int) = decide (r = r') from by have := y3 r r'; simpa only [PyData.eqv] using this]
 by_cases e : r = r'
 ·subst e; simp [T.eqv]
 ·simp [e]
theorem z3a {t : List Int → List PyData} (T : WayOk t) (w : Int → Int) {wt : List (List Int)} {x : List Int} (h : x ∈ wt) : ∃ j, z42 (wt.map fun r => wayT w r (t r)) (wayT w x (t x)) = some j ∧ wt[j]? = some x := by
 unfold z42
 rw [if_pos ⟨xj T w x, z2C (J := fun r => wayT w r (t r)) (xj T w) wt, by have := z1W T w x; omega⟩]
 have e : (wt.map fun r => wayT w r (t r)).findIdx? (fun z => PyData.eqv z (wayT w x (t x))) = wt.findIdx? fun r => decide (r = x) := by
  rw [List.findIdx?_map]
  congr 1
  funext r
  exact z73 T w r x
 rw [e]
 cases hf : wt.findIdx? fun r => decide (r = x) with
 | none =>
  have := List.findIdx?_eq_none_iff.mp hf x h
  simp at this
 | some j =>
  obtain ⟨hj, h1, _⟩ := List.findIdx?_eq_some_iff_getElem.mp hf
  exact ⟨j, rfl, by rw [List.getElem?_eq_getElem hj]; exact congrArg some (of_decide_eq_true h1)⟩
theorem z0e {α : Type} {l : List α} {j : Nat} {x r : α} (h : l[j]? = some x) (hr : r ∈ l) : r = x ∨ r ∈ l.eraseIdx j := by
 obtain ⟨i, hi, rfl⟩ := List.mem_iff_getElem.mp hr
 obtain ⟨hj, rfl⟩ := List.getElem?_eq_some_iff.mp h
 by_cases e : i = j
 ·subst e; exact .inl rfl
 ·refine .inr ?_
  rw [List.mem_eraseIdx_iff_getElem?]
  exact ⟨i, e, List.getElem?_eq_getElem hi⟩
section
variable {β : Type}
noncomputable def gJ (J : β → PyData) (l : List (List Int × β)) : List (PyData × PyData) := l.map fun kv => (tupI kv.1, J kv.2)
variable {J : β → PyData}
theorem z29 (l : List (List Int × β)) : ((gJ J l).all fun kv => yz kv.1) = true := by
 rw [List.all_eq_true]
 intro kv h
 obtain ⟨q, _, rfl⟩ := List.mem_map.mp h
 rfl
theorem z0b (l : List (List Int × β)) (k : List Int) : zj (gJ J l) (tupI k) = true := by
 simp only [zj, yK, z29, Bool.and_true]
theorem z21 {l : List (List Int × β)} (h : l ≠ []) (k : List Int) : yj (gJ J l) (tupI k) = true := by
 simp only [yj, yK, z29, Bool.and_true, Bool.true_and]
 cases l with
 | nil => exact absurd rfl h
 | cons x r => rfl
theorem z46 : ∀ (l : List (List Int × β)) (k : List Int), ((gJ J l).any fun kv => PyData.eqv kv.1 (tupI k)) = (l.any fun kv => decide (kv.1 = k))
 | [], k => rfl
 | (c, v) :: r, k => by
  have ih := z46 r k
  unfold gJ at ih ⊢
  rw [List.map_cons, List.any_cons, List.any_cons, ih]
  simp only [y3]
theorem z0L : ∀ (l : List (List Int × β)) (k : List Int), yf (gJ J l) (tupI k) = ((l.find? fun kv => decide (kv.1 = k)).map (·.2)).map J
 | [], k => rfl
 | (c, v) :: r, k => by
  have ih := z0L r k
  unfold yf gJ at ih ⊢
  rw [List.map_cons, List.find?_cons, List.find?_cons]
  simp only [y3]
  by_cases e : c = k
  ·simp [e]
  ·simp only [e, decide_false]
   exact ih
theorem z6q {l : List (List Int × β)} (hl : l.length < 10000) {k : List Int} (hn : ∀ p ∈ l, p.1 ≠ k) (v : β) : putD (gJ J l) (tupI k) (J v) = some (gJ J (l ++ [(k, v)])) := by
 unfold putD
 rw [if_pos ⟨z0b l k, by unfold lim; simp [gJ]; omega⟩]
 congr 1
 unfold dPut
 rw [z46, if_neg (by
  rw [Bool.not_eq_true, List.any_eq_false]
  intro p hp
  simpa using hn p hp)]
 unfold gJ
 rw [List.map_append]; rfl
theorem wI {l : List (List Int × β)} (nd : (l.map (·.1)).Nodup) {q : List Int × β} (h : q ∈ l) : (l.find? fun kv => decide (kv.1 = q.1)) = some q := by
 induction l with
 | nil => cases h
 | cons p r ih =>
  rw [List.map_cons, List.nodup_cons] at nd
  rw [List.find?_cons]
  rcases List.mem_cons.mp h with rfl | h
  ·simp
  ·have hne2 : p.1 ≠ q.1 := fun e => nd.1 (e ▸ List.mem_map.mpr ⟨q, h, rfl⟩)
   simp only [hne2, decide_false]
   exact ih nd.2 h
theorem z3s {l : List (List Int × β)} (nd : (l.map (·.1)).Nodup) {q : List Int × β} (h : q ∈ l) : fIx (.dict (gJ J l)) (tupI q.1) = some (J q.2) := by
 have hne : l ≠ [] := fun z => by rw [z] at h; cases h
 simp only [fIx]
 rw [if_pos (z21 hne _), z0L, wI nd h]; rfl
theorem z5q {l : List (List Int × β)} (h : l ≠ []) (neg : Bool) (k : List Int) : fIn neg (tupI k) (.dict (gJ J l)) = some (.bool (if neg then !(l.any fun p => decide (p.1 = k)) else l.any fun p => decide (p.1 = k))) := by
 simp only [fIn]
 rw [if_pos (z21 h k), z0L, Option.isSome_map, Option.isSome_map, List.isSome_find?]
theorem z3v (l : List (List Int × β)) (neg : Bool) (k : List Int) : fInE neg (tupI k) (.dict (gJ J l)) = some (.bool (if neg then !(l.any fun p => decide (p.1 = k)) else l.any fun p => decide (p.1 = k))) := by
 cases l with
 | nil =>
  show (if z2k (tupI k) = true then some (PyData.bool neg) else none) = _
  rw [if_pos (by show (wO (k.map PyData.int)).isSome = true; exact yK k)]
  cases neg <;> rfl
 | cons p r =>
  rw [← z5q (J := J) (l := p :: r) (by simp)]
  rfl
end
end L2
namespace L2
open PySem
section
variable {α : Type} [DecidableEq α] {f : Int → α → α} {w : Int → Int} {D : Nat} {s0 : α} {T T0 : List (α × List Int)} {k : Nat} {s : α} {r : List Int}
noncomputable def putT (T : List (α × List Int)) (s : α) (r : List Int) : List (α × List Int) := if (T.any fun q => decide (q.1 = s)) = true then T.map (fun q => if q.1 = s then (q.1, r) else q) else T ++ [(s, r)]
theorem yb : ∀ q, q ∈ putT T s r ↔ q = (s, r) ∨ q ∈ T ∧ q.1 ≠ s := by
 intro q
 unfold putT
 split
 next h =>
  rw [List.mem_map]
  constructor
  ·rintro ⟨p, hp, rfl⟩
   by_cases e : p.1 = s
   ·rw [if_pos e]; exact .inl (by rw [e])
   ·rw [if_neg e]; exact .inr ⟨hp, e⟩
  ·rintro (rfl | ⟨h1, h2⟩)
   ·obtain ⟨p, hp, e⟩ := List.any_eq_true.mp h
    exact ⟨p, hp, by rw [if_pos (of_decide_eq_true e), of_decide_eq_true e]⟩
   ·exact ⟨q, h1, by rw [if_neg h2]⟩
 next h =>
  have hn : ∀ p ∈ T, p.1 ≠ s := fun p hp => by
   have := List.any_eq_false.mp (Bool.not_eq_true _ ▸ h) p hp
   simpa using this
  rw [List.mem_append, List.mem_singleton]
  constructor
  ·rintro (h | h)
   ·exact .inr ⟨h, hn q h⟩
   ·exact .inl h
  ·rintro (h | h)
   ·exact .inr h
   ·exact .inl h.1
theorem z6V (nd : (T.map (·.1)).Nodup) : ((putT T s r).map (·.1)).Nodup := by
 unfold putT
 split
 next h =>
  have : (T.map fun q => if q.1 = s then (q.1, r) else q).map (·.1) = T.map (·.1) := by
   rw [List.map_map]
   refine List.map_congr_left fun q _ => ?_
   show (if q.1 = s then (q.1, r) else q).1 = q.1
   split <;> rfl
  rw [this]; exact nd
 next h =>
  rw [List.map_append]
  refine List.nodup_append.mpr ⟨nd, by simp, fun a ha b hb => ?_⟩
  obtain ⟨p, hp, rfl⟩ := List.mem_map.mp ha
  have : b = s := by simpa using hb
  rw [this]
  have := List.any_eq_false.mp (Bool.not_eq_true _ ▸ h) p hp
  simpa using this
noncomputable def Low (w : Int → Int) (T0 T : List (α × List Int)) : Prop := ∀ q ∈ T0, ∃ p ∈ T, p.1 = q.1 ∧ wLe w p.2 q.2
theorem Low.refl (T : List (α × List Int)) : Low w T T := fun q h => ⟨q, h, rfl, wLe.refl _ _⟩
theorem Low.trans {T1 T2 T3 : List (α × List Int)} (h : Low w T1 T2) (k : Low w T2 T3) : Low w T1 T3 := fun q hq => by
 obtain ⟨p, hp, e, l⟩ := h q hq
 obtain ⟨p2, hp2, e2, l2⟩ := k p hp
 exact ⟨p2, hp2, by rw [e2, e], l2.trans l⟩
theorem Low.put (h : ∀ q ∈ T, q.1 = s → wLe w r q.2) : Low w T (putT T s r) := fun q hq => by
 by_cases e : q.1 = s
 ·exact ⟨(s, r), (yb _).mpr (.inl rfl), e.symm, h q hq e⟩
 ·exact ⟨q, (yb _).mpr (.inr ⟨hq, e⟩), rfl, wLe.refl _ _⟩
structure Tab (f : Int → α → α) (D : Nat) (s0 : α) (T : List (α × List Int)) : Prop where
 nd : (T.map (·.1)).Nodup
 sd : ∀ q ∈ T, zI f s0 q.2 = q.1
 rd : ∀ q ∈ T, DoorsIn D q.2
theorem Tab.init : Tab f D s0 [(s0, [])] := ⟨by simp, fun q h => by rw [List.mem_singleton.mp h]; rfl, fun q h => by rw [List.mem_singleton.mp h]; intro d hd; cases hd⟩
theorem Tab.put (B : Tab f D s0 T) (h1 : zI f s0 r = s) (h2 : DoorsIn D r) : Tab f D s0 (putT T s r) :=
 ⟨z6V B.nd, fun q hq => by
  rcases (yb q).mp hq with rfl | ⟨h, _⟩
  ·exact h1
  ·exact B.sd q h, fun q hq => by
  rcases (yb q).mp hq with rfl | ⟨h, _⟩
  ·exact h2
  ·exact B.rd q h⟩
noncomputable def Dom (f : Int → α → α) (w : Int → Int) (D : Nat) (s0 : α) (T : List (α × List Int)) (k : Nat) : Prop := ∀ r, DoorsIn D r → r.length ≤ k → ∃ q ∈ T, q.1 = zI f s0 r ∧ wLe w q.2 r
theorem Dom.low (h : Dom f w D s0 T0 k) (l : Low w T0 T) : Dom f w D s0 T k := fun r h1 h2 => by
 obtain ⟨q, hq, e, g⟩ := h r h1 h2
 obtain ⟨p, hp, e2, g2⟩ := l q hq
 exact ⟨p, hp, by rw [e2, e], g2.trans g⟩
noncomputable def Gone (f : Int → α → α) (w : Int → Int) (D : Nat) (T : List (α × List Int)) (q : α × List Int) (c : Nat) : Prop := ∀ d : Nat, d < c → ∃ p ∈ T, p.1 = f d q.1 ∧ wLe w p.2 (q.2 ++ [(d : Int)])
theorem Gone.low {T' : List (α × List Int)} {q : α × List Int} {c : Nat} (h : Gone f w D T q c) (l : Low w T T') : Gone f w D T' q c := fun d hd => by
 obtain ⟨p, hp, e, g⟩ := h d hd
 obtain ⟨p2, hp2, e2, g2⟩ := l p hp
 exact ⟨p2, hp2, by rw [e2, e], g2.trans g⟩
theorem z6J {r : List Int} (h : r ≠ []) : ∃ r0 d, r = r0 ++ [d] := ⟨r.dropLast, r.getLast h, (List.dropLast_concat_getLast h).symm⟩
theorem Dom.next (h : Dom f w D s0 T0 k) (l : Low w T0 T) (g : ∀ q ∈ T0, Gone f w D T q D) : Dom f w D s0 T (k + 1) := fun r hr hl => by
 by_cases e : r = []
 ·subst e
  exact (h.low l) [] hr (Nat.zero_le _)
 ·obtain ⟨r0, d, rfl⟩ := z6J e
  have hd := hr d (List.mem_append_right _ (List.mem_singleton.mpr rfl))
  obtain ⟨q, hq, e1, l1⟩ := h r0 (fun x hx => hr x (List.mem_append_left _ hx)) (by simpa using hl)
  obtain ⟨p, hp, e2, l2⟩ := g q hq d.toNat (by omega)
  rw [show ((d.toNat : Nat) : Int) = d by omega] at e2 l2
  exact ⟨p, hp, by rw [e2, e1, zc], l2.trans (l1.snoc d)⟩
theorem Dom.all (h : Dom f w D s0 T 0) (g : ∀ q ∈ T, Gone f w D T q D) : ∀ k, Dom f w D s0 T k
 | 0 => h
 | k + 1 => (Dom.all h g k).next (Low.refl T) g
theorem z25 (f : Int → α → α) (s0 : α) (a b : List Int) : zI f s0 (a ++ b) = zI f (zI f s0 a) b := by simp [zI]
theorem z08 (w : Int → Int) (a b : List Int) : zf w (a ++ b) = zf w a + zf w b := by simp [zf]
theorem z2F (hw : ∀ d : Int, 0 ≤ w d) : ∀ r : List Int, 0 ≤ zf w r
 | [] => by simp [zf]
 | x :: r => by
  have := z2F hw r
  have := hw x
  unfold zf at *
  simp only [List.map_cons, List.sum_cons]; omega
theorem cut (hw : ∀ d : Int, 0 ≤ w d) {N : Nat} (few : ∀ l : List (List Int), (l.map (zI f s0)).Nodup → (∀ r ∈ l, DoorsIn D r) → l.length ≤ N) : ∀ r, DoorsIn D r → ∃ r', DoorsIn D r' ∧ zI f s0 r' = zI f s0 r ∧ wLe w r' r ∧ r'.length < N := by
 have gen : ∀ (n : Nat) (r : List Int), r.length = n → DoorsIn D r → ∃ r', DoorsIn D r' ∧ zI f s0 r' = zI f s0 r ∧ wLe w r' r ∧ r'.length < N := by
  intro n
  induction n using Nat.strongRecOn with
  | _ n ih =>
   intro r hr hd
   by_cases hn : n < N
   ·exact ⟨r, hd, rfl, wLe.refl _ _, by omega⟩
   ·have hnn : ¬ (((List.range (n + 1)).map fun i => r.take i).map (zI f s0)).Nodup := fun nd => by
     have := few _ nd fun x hx => by
      obtain ⟨i, _, rfl⟩ := List.mem_map.mp hx
      exact fun d hd' => hd d (List.mem_of_mem_take hd')
     simp at this
     omega
    have : ∃ i j, i < j ∧ j ≤ n ∧ zI f s0 (r.take i) = zI f s0 (r.take j) := by
     refine Classical.byContradiction fun hno => hnn ?_
     rw [List.Nodup, List.pairwise_iff_getElem]
     intro i j hi hj hij e
     simp only [List.length_map, List.length_range] at hi hj
     simp only [List.getElem_map, List.getElem_range] at e
     exact hno ⟨i, j, hij, by omega, e⟩
    obtain ⟨i, j, hij, hj, e⟩ := this
    have hd' : DoorsIn D (r.take i ++ r.drop j) := fun x hx => by
     rcases List.mem_append.mp hx with hx | hx
     ·exact hd x (List.mem_of_mem_take hx)
     ·exact hd x (List.mem_of_mem_drop hx)
    have hl : (r.take i ++ r.drop j).length < n := by
     rw [List.length_append, List.length_take, List.length_drop]; omega
    obtain ⟨r', h1, h2, h3, h4⟩ := ih _ hl _ rfl hd'
    refine ⟨r', h1, ?_, h3.trans ?_, h4⟩
    ·rw [h2, z25, e, ← z25, List.take_append_drop]
    ·rw [z0M]
     have c1 : zf w r = zf w (r.take i) + zf w ((r.take j).drop i) + zf w (r.drop j) := by
      have e1 : r = (r.take i ++ (r.take j).drop i) ++ r.drop j := by
       have : r.take i = (r.take j).take i := by rw [List.take_take, Nat.min_eq_left (by omega)]
       rw [this, List.take_append_drop, List.take_append_drop]
      conv => lhs; rw [e1]
      rw [z08, z08]
     have c2 := z2F hw ((r.take j).drop i)
     rw [z08]
     by_cases z : zf w ((r.take j).drop i) = 0
     ·exact .inr ⟨by omega, .inl (by omega)⟩
     ·exact .inl (by omega)
 intro r
 exact gen r.length r rfl
theorem Dom.full (hw : ∀ d : Int, 0 ≤ w d) {N : Nat} (few : ∀ l : List (List Int), (l.map (zI f s0)).Nodup → (∀ r ∈ l, DoorsIn D r) → l.length ≤ N) (h : Dom f w D s0 T k) (hk : N ≤ k + 1) : ∀ r, DoorsIn D r → ∃ q ∈ T, q.1 = zI f s0 r ∧ wLe w q.2 r := fun r hr => by
 obtain ⟨r', h1, h2, h3, h4⟩ := cut hw few r hr
 obtain ⟨q, hq, e, l⟩ := h r' h1 (by omega)
 exact ⟨q, hq, by rw [e, h2], l.trans h3⟩
end
theorem z3h {st : List Int} (h : st.Pairwise (· < ·)) (hin : ∀ x ∈ st, 0 ≤ x ∧ x < 6) : st ∈ subs (upto 6) := by
 have e : st = (upto 6).filter fun x => decide (x ∈ st) := wA h ((w4 6).filter _) fun x => by
  rw [List.mem_filter, decide_eq_true_iff]
  exact ⟨fun hx => ⟨mem_upto.mpr (by have := hin x hx; omega), hx⟩, fun hx => hx.2⟩
 rw [e]
 exact xw List.filter_sublist
theorem z8T {ks : List (List Int)} (nd : ks.Nodup) (h : ∀ st ∈ ks, st.Pairwise (· < ·) ∧ (∀ x ∈ st, 0 ≤ x ∧ x < 6) ∧ st ≠ []) : ks.length ≤ 63 := by
 have := nd.length_le_of_subset (l₂ := (subs (upto 6)).filter fun st => !st.isEmpty) fun st hst => by
  obtain ⟨h1, h2, h3⟩ := h st hst
  refine List.mem_filter.mpr ⟨z3h h1 h2, ?_⟩
  cases st with
  | nil => exact absurd rfl h3
  | cons => rfl
 refine Nat.le_trans this ?_
 decide
theorem z8n {ks : List (List Int)} (nd : ks.Nodup) (h : ∀ st ∈ ks, st.Pairwise (· < ·) ∧ (∀ x ∈ st, 0 ≤ x ∧ x < 6) ∧ st ≠ [] ∧ st.length ≠ 1) : ks.length ≤ 57 := by
 have := nd.length_le_of_subset (l₂ := (subs (upto 6)).filter fun st => decide (2 ≤ st.length)) fun st hst => by
  obtain ⟨h1, h2, h3, h4⟩ := h st hst
  refine List.mem_filter.mpr ⟨z3h h1 h2, decide_eq_true ?_⟩
  have := List.length_pos_iff.mpr h3
  omega
 refine Nat.le_trans this ?_
 decide
theorem z5o {β : Type} {J : List Int → PyData} (l : List (List Int × List Int)) (hl : l.length < 10000) (k v : List Int) : putD (gJ J l) (tupI k) (J v) = some (gJ J (putT l k v)) := by
 unfold putD
 rw [if_pos ⟨z0b l k, by unfold lim; simp [gJ]; omega⟩]
 congr 1
 unfold dPut putT
 rw [z46]
 split
 next h =>
  unfold gJ
  rw [List.map_map, List.map_map]
  refine List.map_congr_left fun q _ => ?_
  show (if PyData.eqv (tupI q.1) (tupI k) = true then (tupI q.1, J v) else (tupI q.1, J q.2)) = _
  rw [y3]
  by_cases e : q.1 = k
  ·simp [e]
  ·simp [e]
 next h =>
  unfold gJ
  rw [List.map_append]; rfl
theorem ye : ∀ l : List Int, yB (l.map PyData.int) = some l
 | [] => rfl
 | x :: l => by
  have := ye l
  simp only [List.map_cons, yB, this, Option.map_some]
theorem z14 (t : List Int) : keyI (tupI t) = t := by
 show (yB (t.map PyData.int)).getD [] = t
 rw [ye]; rfl
theorem z1Y {ts : List (List Int)} (hne : ∀ t ∈ ts, t ≠ []) (hl : ts.length < 64) : ∃ us : List (List Int), yZ [.list (ts.map tupI)] = some (.list (us.map tupI)) ∧ us.Perm ts ∧ us.Pairwise fun a b => HT.lexLt b a = false := by
 have hs : zu (ts.map tupI) = true := by
  unfold zu
  rw [Bool.and_eq_true, Bool.or_eq_true]
  refine ⟨.inr (List.all_eq_true.mpr fun d hd => ?_), by simpa using hl⟩
  obtain ⟨q, hq, rfl⟩ := List.mem_map.mp hd
  show ((yB (q.map PyData.int)).isSome && !(q.map PyData.int).isEmpty) = true
  rw [ye]
  cases q with
  | nil => exact absurd rfl (hne _ hq)
  | cons => rfl
 have perm := xf (key := keyI) (ts.map tupI)
 have srt := yn (key := keyI) (ts.map tupI)
 have e : (xc keyI (ts.map tupI)) = ((xc keyI (ts.map tupI)).map keyI).map tupI := by
  rw [List.map_map]
  conv => lhs; rw [← List.map_id (xc keyI (ts.map tupI))]
  refine List.map_congr_left fun d hd => ?_
  obtain ⟨q, _, rfl⟩ := List.mem_map.mp (perm.mem_iff.mp hd)
  show tupI q = tupI (keyI (tupI q))
  rw [z14]
 refine ⟨(xc keyI (ts.map tupI)).map keyI, ?_, ?_, ?_⟩
 ·simp only [yZ, xi]
  rw [if_pos hs, ← e]
 ·have := perm.map keyI
  rw [List.map_map] at this
  have e2 : ts.map (keyI ∘ tupI) = ts := by
   conv => rhs; rw [← List.map_id ts]
   exact List.map_congr_left fun q _ => z14 q
  rwa [e2] at this
 ·exact List.pairwise_map.mpr srt
end L2
namespace Bt
open PySem
theorem b_isinstance : bootBuiltins "isinstance" = some (.builtin "isinstance") := by decide +kernel
theorem b_all : bootBuiltins "all" = some (.builtin "all") := by decide +kernel
theorem b_sum : bootBuiltins "sum" = some (.builtin "sum") := by decide +kernel
theorem b_min : bootBuiltins "min" = some (.builtin "min") := by decide +kernel
theorem b_len : bootBuiltins "len" = some (.builtin "len") := by decide +kernel
theorem b_sorted : bootBuiltins "sorted" = some (.builtin "sorted") := by decide +kernel
theorem b_bool : bootBuiltins "bool" = some (.type "bool") := by decide +kernel
theorem b_int : bootBuiltins "int" = some (.type "int") := by decide +kernel
theorem b_tuple : bootBuiltins "tuple" = some (.type "tuple") := by decide +kernel
theorem b_list : bootBuiltins "list" = some (.type "list") := by decide +kernel
theorem b_range : bootBuiltins "range" = some (.type "range") := by decide +kernel
theorem b_set : bootBuiltins "set" = some (.type "set") := by decide +kernel
end Bt
namespace L2
open PySem
section
variable {X : Cx} {K : W.Frag}
end
end L2
namespace Gw
open PySem L2
noncomputable def top (i : Nat) : Stmt := PySem.Challenge.pw_gatherall_k26_whole_cheapest.main.body.getD i (.Pass ⟨0, 0, 0, 0⟩)
noncomputable abbrev s_q0 : Stmt := top 10
noncomputable abbrev s_q1 : Stmt := top 11
noncomputable abbrev s_q2 : Stmt := top 12
noncomputable abbrev s_q3 : Stmt := top 13
noncomputable abbrev s_q4 : Stmt := top 14
noncomputable abbrev s_q5 : Stmt := top 15
noncomputable abbrev s_q6 : Stmt := top 16
noncomputable abbrev s_q7 : Stmt := top 17
noncomputable abbrev s_q8 : Stmt := top 18
noncomputable abbrev s_q9 : Stmt := top 19
noncomputable abbrev uA : Stmt := top 20
noncomputable abbrev u8 : Stmt := top 21
noncomputable abbrev uI : Stmt := top 23
noncomputable abbrev wf : Stmt := top 24
noncomputable abbrev uK : Stmt := top 25
noncomputable abbrev u7 : Stmt := top 26
noncomputable abbrev uJ : Stmt := top 27
noncomputable abbrev u9 : Stmt := top 28
noncomputable abbrev u0 : Stmt := top 29
noncomputable abbrev uC : Stmt := top 30
noncomputable abbrev uD : Stmt := top 33
noncomputable abbrev uG : Stmt := top 34
noncomputable abbrev wR : Stmt := top 35
noncomputable abbrev uB : Stmt := top 37
noncomputable abbrev uN : Stmt := top 38
noncomputable abbrev uH : Stmt := top 39
noncomputable abbrev uF : Stmt := top 40
noncomputable abbrev xh : Stmt := top 41
noncomputable abbrev wK : Stmt := top 42
noncomputable abbrev wq : Stmt := top 43
noncomputable abbrev wy : Stmt := top 44
noncomputable abbrev wd : Stmt := top 45
noncomputable abbrev uR : Stmt := top 46
noncomputable abbrev xI : Stmt := top 47
theorem z8s : FnScope ["thing", "least", "most"] ["thing", "least", "most"] (z3 s_q0) := ⟨rfl, rfl, rfl, by decide +kernel, rfl, by decide +kernel, by decide +kernel⟩
theorem z98 : FnScope ["thing", "least", "most"] ["thing", "least", "most"] (z3 s_q1) := ⟨rfl, rfl, rfl, by decide +kernel, rfl, by decide +kernel, by decide +kernel⟩
theorem z99 : FnScope ["things"] ["things"] (z3 s_q2) := ⟨rfl, rfl, rfl, by decide +kernel, rfl, by decide +kernel, by decide +kernel⟩
theorem z8x : FnScope ["thing", "many"] ["thing", "many"] (z3 s_q3) := ⟨rfl, rfl, rfl, by decide +kernel, rfl, by decide +kernel, by decide +kernel⟩
theorem z9L : FnScope ["thing", "many"] ["thing", "many"] (z3 s_q4) := ⟨rfl, rfl, rfl, by decide +kernel, rfl, by decide +kernel, by decide +kernel⟩
theorem z93 : FnScope ["thing"] ["thing"] (z3 s_q5) := ⟨rfl, rfl, rfl, by decide +kernel, rfl, by decide +kernel, by decide +kernel⟩
theorem z8y : FnScope ["thing"] ["thing"] (z3 s_q6) := ⟨rfl, rfl, rfl, by decide +kernel, rfl, by decide +kernel, by decide +kernel⟩
theorem z90 : FnScope ["thing"] ["thing"] (z3 s_q7) := ⟨rfl, rfl, rfl, by decide +kernel, rfl, by decide +kernel, by decide +kernel⟩
theorem z9T : FnScope ["thing", "house"] ["thing", "house"] (z3 s_q8) := ⟨rfl, rfl, rfl, by decide +kernel, rfl, by decide +kernel, by decide +kernel⟩
theorem z9Q : FnScope ["house"] ["house"] (z3 s_q9) := ⟨rfl, rfl, rfl, by decide +kernel, rfl, by decide +kernel, by decide +kernel⟩
theorem z7c : FnScope ["places", "many"] ["places", "many"] (z3 uA) := ⟨rfl, rfl, rfl, by decide +kernel, rfl, by decide +kernel, by decide +kernel⟩
theorem z8V : FnScope ["row", "house"] ["row", "house"] (z3 u8) := ⟨rfl, rfl, rfl, by decide +kernel, rfl, by decide +kernel, by decide +kernel⟩
theorem z8B : FnScope ["house", "places"] ["house", "places"] (z3 uI) := ⟨rfl, rfl, rfl, by decide +kernel, rfl, by decide +kernel, by decide +kernel⟩
theorem sc_q13 : FnScope ["door", "standing", "rooms"] ["door", "standing"] (z3 wf) := ⟨rfl, rfl, rfl, by decide +kernel, rfl, by decide +kernel, by decide +kernel⟩
theorem sc_q14 : FnScope ["house", "places", "row", "standing", "door"] ["house", "places", "row"] (z3 uK) := ⟨rfl, rfl, rfl, by decide +kernel, rfl, by decide +kernel, by decide +kernel⟩
theorem z7h : FnScope ["house", "places", "row"] ["house", "places", "row"] (z3 u7) := ⟨rfl, rfl, rfl, by decide +kernel, rfl, by decide +kernel, by decide +kernel⟩
theorem sc_q15 : FnScope ["start", "doors", "behind", "rows", "waiting", "ahead", "door", "came"] ["start", "doors", "behind"] (z3 uJ) := ⟨rfl, rfl, rfl, by decide +kernel, rfl, by decide +kernel, by decide +kernel⟩
theorem z8C : FnScope ["house", "places"] ["house", "places"] (z3 u9) := ⟨rfl, rfl, rfl, by decide +kernel, rfl, by decide +kernel, by decide +kernel⟩
theorem sc_q17 : FnScope ["house", "places", "few", "rows", "fitting"] ["house", "places", "few"] (z3 u0) := ⟨rfl, rfl, rfl, by decide +kernel, rfl, by decide +kernel, by decide +kernel⟩
theorem z7G : FnScope ["house", "places"] ["house", "places"] (z3 uC) := ⟨rfl, rfl, rfl, by decide +kernel, rfl, by decide +kernel, by decide +kernel⟩
theorem z7v : FnScope ["costs", "house"] ["costs", "house"] (z3 uD) := ⟨rfl, rfl, rfl, by decide +kernel, rfl, by decide +kernel, by decide +kernel⟩
theorem sc_q20 : FnScope ["house", "costs", "way", "found", "door", "behind"] ["house", "costs", "way"] (z3 uG) := ⟨rfl, rfl, rfl, by decide +kernel, rfl, by decide +kernel, by decide +kernel⟩
theorem sc_q21 : FnScope ["house", "costs", "places", "done", "waiting", "way"] ["house", "costs", "places"] (z3 wR) := ⟨rfl, rfl, rfl, by decide +kernel, rfl, by decide +kernel, by decide +kernel⟩
theorem z8M : FnScope ["_law_script", "_law_k"] ["_law_script", "_law_k"] (z3 uB) := ⟨rfl, rfl, rfl, by decide +kernel, rfl, by decide +kernel, by decide +kernel⟩
theorem sc_q23 : FnScope ["_law_script", "_law_k", "_law_many", "_law_drawn"] ["_law_script", "_law_k", "_law_many"] (z3 uN) := ⟨rfl, rfl, rfl, by decide +kernel, rfl, by decide +kernel, by decide +kernel⟩
theorem z80 : FnScope ["_law_script", "_law_town", "_law_many"] ["_law_script", "_law_town", "_law_many"] (z3 uH) := ⟨rfl, rfl, rfl, by decide +kernel, rfl, by decide +kernel, by decide +kernel⟩
theorem z8c : FnScope ["_law_script", "_law_town", "_law_some"] ["_law_script", "_law_town", "_law_some"] (z3 uF) := ⟨rfl, rfl, rfl, by decide +kernel, rfl, by decide +kernel, by decide +kernel⟩
theorem sc_q26 : FnScope ["_law_script", "_law_town", "_law_many", "_law_way", "_law_gone", "_law_few"] ["_law_script", "_law_town", "_law_many"] (z3 xh) := ⟨rfl, rfl, rfl, by decide +kernel, rfl, by decide +kernel, by decide +kernel⟩
theorem sc_q27 : FnScope ["_law_script", "_law_town", "_law_low", "_law_most", "_law_times", "_law_many"] ["_law_script", "_law_town", "_law_low", "_law_most"] (z3 wK) := ⟨rfl, rfl, rfl, by decide +kernel, rfl, by decide +kernel, by decide +kernel⟩
theorem sc_q28 : FnScope ["_law_script", "_law_town", "_law_many", "_law_some"] ["_law_script", "_law_town", "_law_many"] (z3 wq) := ⟨rfl, rfl, rfl, by decide +kernel, rfl, by decide +kernel, by decide +kernel⟩
theorem sc_q29 : FnScope ["_law_script", "_law_town", "_law_house_here", "_law_wide"] ["_law_script", "_law_town", "_law_house_here"] (z3 wy) := ⟨rfl, rfl, rfl, by decide +kernel, rfl, by decide +kernel, by decide +kernel⟩
theorem sc_q30 : FnScope ["_law_house_here", "_law_places_here", "_law_door_here", "_law_later"] ["_law_house_here", "_law_places_here", "_law_door_here"] (z3 wd) := ⟨rfl, rfl, rfl, by decide +kernel, rfl, by decide +kernel, by decide +kernel⟩
theorem sc_q31 : FnScope ["_law_house_here", "_law_costs_here", "_law_places_here", "_law_best_here", "_law_changed", "_law_here", "_law_cost", "_law_many", "_law_line", "_law_door_here", "_law_there", "_law_new"] ["_law_house_here", "_law_costs_here", "_law_places_here"] (z3 uR) := ⟨rfl, rfl, rfl, by decide +kernel, rfl, by decide +kernel, by decide +kernel⟩
theorem sc_law : FnScope ["_law_script", "_law_town", "_law_house_here", "_law_costs_here", "_law_places_here", "_law_made", "_law_best_here", "_law_some"] ["_law_script"] (z3 xI) := ⟨rfl, rfl, rfl, by decide +kernel, rfl, by decide +kernel, by decide +kernel⟩
set_option genInjectivity false in
set_option genSizeOfSpec false in
structure Adr where
 f_q0 : Addr
 fd_q0 : FuncData
 f_q1 : Addr
 fd_q1 : FuncData
 f_q2 : Addr
 fd_q2 : FuncData
 f_q3 : Addr
 fd_q3 : FuncData
 f_q4 : Addr
 fd_q4 : FuncData
 f_q5 : Addr
 fd_q5 : FuncData
 f_q6 : Addr
 fd_q6 : FuncData
 f_q7 : Addr
 fd_q7 : FuncData
 f_q8 : Addr
 fd_q8 : FuncData
 f_q9 : Addr
 fd_q9 : FuncData
 f_q10 : Addr
 fd_q10 : FuncData
 f_q11 : Addr
 fd_q11 : FuncData
 f_q12 : Addr
 fd_q12 : FuncData
 f_q13 : Addr
 fd_q13 : FuncData
 f_q14 : Addr
 fd_q14 : FuncData
 f_led : Addr
 fd_led : FuncData
 f_q15 : Addr
 fd_q15 : FuncData
 f_q16 : Addr
 fd_q16 : FuncData
 f_q17 : Addr
 fd_q17 : FuncData
 f_q18 : Addr
 fd_q18 : FuncData
 f_q19 : Addr
 fd_q19 : FuncData
 f_q20 : Addr
 fd_q20 : FuncData
 f_q21 : Addr
 fd_q21 : FuncData
 f_q22 : Addr
 fd_q22 : FuncData
 f_q23 : Addr
 fd_q23 : FuncData
 f_q24 : Addr
 fd_q24 : FuncData
 f_q25 : Addr
 fd_q25 : FuncData
 f_q26 : Addr
 fd_q26 : FuncData
 f_q27 : Addr
 fd_q27 : FuncData
 f_q28 : Addr
 fd_q28 : FuncData
 f_q29 : Addr
 fd_q29 : FuncData
 f_q30 : Addr
 fd_q30 : FuncData
 f_q31 : Addr
 fd_q31 : FuncData
 f_law : Addr
 fd_law : FuncData
structure Txt (K : W.Frag) (mg : Str → Option Value) (t : Adr) : Prop where
 F_q0 : Fun K "is_number" "is_number" s_q0 t.f_q0 t.fd_q0
 m_q0 : mg "is_number" = some (.ref t.f_q0)
 k_q0 : W.keepIn K (.ref t.f_q0) = true
 d_q0 : Binds K t.fd_q0 ["thing", "least", "most"] []
 F_q1 : Fun K "are_numbers" "are_numbers" s_q1 t.f_q1 t.fd_q1
 m_q1 : mg "are_numbers" = some (.ref t.f_q1)
 k_q1 : W.keepIn K (.ref t.f_q1) = true
 d_q1 : Binds K t.fd_q1 ["thing", "least", "most"] []
 F_q2 : Fun K "is_rising" "is_rising" s_q2 t.f_q2 t.fd_q2
 m_q2 : mg "is_rising" = some (.ref t.f_q2)
 k_q2 : W.keepIn K (.ref t.f_q2) = true
 d_q2 : Binds K t.fd_q2 ["things"] []
 F_q3 : Fun K "are_places" "are_places" s_q3 t.f_q3 t.fd_q3
 m_q3 : mg "are_places" = some (.ref t.f_q3)
 k_q3 : W.keepIn K (.ref t.f_q3) = true
 d_q3 : Binds K t.fd_q3 ["thing", "many"] []
 F_q4 : Fun K "is_door" "is_door" s_q4 t.f_q4 t.fd_q4
 m_q4 : mg "is_door" = some (.ref t.f_q4)
 k_q4 : W.keepIn K (.ref t.f_q4) = true
 d_q4 : Binds K t.fd_q4 ["thing", "many"] []
 F_q5 : Fun K "is_number_and_tuple" "is_number_and_tuple" s_q5 t.f_q5 t.fd_q5
 m_q5 : mg "is_number_and_tuple" = some (.ref t.f_q5)
 k_q5 : W.keepIn K (.ref t.f_q5) = true
 d_q5 : Binds K t.fd_q5 ["thing"] []
 F_q6 : Fun K "may_hold_doors" "may_hold_doors" s_q6 t.f_q6 t.fd_q6
 m_q6 : mg "may_hold_doors" = some (.ref t.f_q6)
 k_q6 : W.keepIn K (.ref t.f_q6) = true
 d_q6 : Binds K t.fd_q6 ["thing"] []
 F_q7 : Fun K "is_house" "is_house" s_q7 t.f_q7 t.fd_q7
 m_q7 : mg "is_house" = some (.ref t.f_q7)
 k_q7 : W.keepIn K (.ref t.f_q7) = true
 d_q7 : Binds K t.fd_q7 ["thing"] []
 F_q8 : Fun K "is_row" "is_row" s_q8 t.f_q8 t.fd_q8
 m_q8 : mg "is_row" = some (.ref t.f_q8)
 k_q8 : W.keepIn K (.ref t.f_q8) = true
 d_q8 : Binds K t.fd_q8 ["thing", "house"] []
 F_q9 : Fun K "need_house" "need_house" s_q9 t.f_q9 t.fd_q9
 m_q9 : mg "need_house" = some (.ref t.f_q9)
 k_q9 : W.keepIn K (.ref t.f_q9) = true
 d_q9 : Binds K t.fd_q9 ["house"] []
 F_q10 : Fun K "need_places" "need_places" uA t.f_q10 t.fd_q10
 m_q10 : mg "need_places" = some (.ref t.f_q10)
 k_q10 : W.keepIn K (.ref t.f_q10) = true
 d_q10 : Binds K t.fd_q10 ["places", "many"] []
 F_q11 : Fun K "need_row" "need_row" u8 t.f_q11 t.fd_q11
 m_q11 : mg "need_row" = some (.ref t.f_q11)
 k_q11 : W.keepIn K (.ref t.f_q11) = true
 d_q11 : Binds K t.fd_q11 ["row", "house"] []
 F_q12 : Fun K "need_house_and_places" "need_house_and_places" uI t.f_q12 t.fd_q12
 m_q12 : mg "need_house_and_places" = some (.ref t.f_q12)
 k_q12 : W.keepIn K (.ref t.f_q12) = true
 d_q12 : Binds K t.fd_q12 ["house", "places"] []
 F_q13 : Fun K "through" "through" wf t.f_q13 t.fd_q13
 m_q13 : mg "through" = some (.ref t.f_q13)
 k_q13 : W.keepIn K (.ref t.f_q13) = true
 d_q13 : Binds K t.fd_q13 ["door", "standing"] []
 F_q14 : Fun K "behind_row" "behind_row" uK t.f_q14 t.fd_q14
 m_q14 : mg "behind_row" = some (.ref t.f_q14)
 k_q14 : W.keepIn K (.ref t.f_q14) = true
 d_q14 : Binds K t.fd_q14 ["house", "places", "row"] []
 F_led : Fun K "led" "led" u7 t.f_led t.fd_led
 m_led : mg "led" = some (.ref t.f_led)
 k_led : W.keepIn K (.ref t.f_led) = true
 d_led : Binds K t.fd_led ["house", "places", "row"] []
 F_q15 : Fun K "rows_from" "rows_from" uJ t.f_q15 t.fd_q15
 m_q15 : mg "rows_from" = some (.ref t.f_q15)
 k_q15 : W.keepIn K (.ref t.f_q15) = true
 d_q15 : Binds K t.fd_q15 ["start", "doors", "behind"] []
 F_q16 : Fun K "shortest_rows" "shortest_rows" u9 t.f_q16 t.fd_q16
 m_q16 : mg "shortest_rows" = some (.ref t.f_q16)
 k_q16 : W.keepIn K (.ref t.f_q16) = true
 d_q16 : Binds K t.fd_q16 ["house", "places"] []
 F_q17 : Fun K "row_to_so_few" "row_to_so_few" u0 t.f_q17 t.fd_q17
 m_q17 : mg "row_to_so_few" = some (.ref t.f_q17)
 k_q17 : W.keepIn K (.ref t.f_q17) = true
 d_q17 : Binds K t.fd_q17 ["house", "places", "few"] []
 F_q18 : Fun K "gather" "gather" uC t.f_q18 t.fd_q18
 m_q18 : mg "gather" = some (.ref t.f_q18)
 k_q18 : W.keepIn K (.ref t.f_q18) = true
 d_q18 : Binds K t.fd_q18 ["house", "places"] []
 F_q19 : Fun K "need_costs" "need_costs" uD t.f_q19 t.fd_q19
 m_q19 : mg "need_costs" = some (.ref t.f_q19)
 k_q19 : W.keepIn K (.ref t.f_q19) = true
 d_q19 : Binds K t.fd_q19 ["costs", "house"] []
 F_q20 : Fun K "ways_on" "ways_on" uG t.f_q20 t.fd_q20
 m_q20 : mg "ways_on" = some (.ref t.f_q20)
 k_q20 : W.keepIn K (.ref t.f_q20) = true
 d_q20 : Binds K t.fd_q20 ["house", "costs", "way"] []
 F_q21 : Fun K "cheapest" "cheapest" wR t.f_q21 t.fd_q21
 m_q21 : mg "cheapest" = some (.ref t.f_q21)
 k_q21 : W.keepIn K (.ref t.f_q21) = true
 d_q21 : Binds K t.fd_q21 ["house", "costs", "places"] []
 F_q22 : Fun K "_law_cell_at" "_law_cell_at" uB t.f_q22 t.fd_q22
 m_q22 : mg "_law_cell_at" = some (.ref t.f_q22)
 k_q22 : W.keepIn K (.ref t.f_q22) = true
 d_q22 : Binds K t.fd_q22 ["_law_script", "_law_k"] []
 F_q23 : Fun K "_law_mixed" "_law_mixed" uN t.f_q23 t.fd_q23
 m_q23 : mg "_law_mixed" = some (.ref t.f_q23)
 k_q23 : W.keepIn K (.ref t.f_q23) = true
 d_q23 : Binds K t.fd_q23 ["_law_script", "_law_k", "_law_many"] []
 F_q24 : Fun K "_law_draw" "_law_draw" uH t.f_q24 t.fd_q24
 m_q24 : mg "_law_draw" = some (.ref t.f_q24)
 k_q24 : W.keepIn K (.ref t.f_q24) = true
 d_q24 : Binds K t.fd_q24 ["_law_script", "_law_town", "_law_many"] []
 F_q25 : Fun K "_law_pick" "_law_pick" uF t.f_q25 t.fd_q25
 m_q25 : mg "_law_pick" = some (.ref t.f_q25)
 k_q25 : W.keepIn K (.ref t.f_q25) = true
 d_q25 : Binds K t.fd_q25 ["_law_script", "_law_town", "_law_some"] []
 F_q26 : Fun K "_law_door" "_law_door" xh t.f_q26 t.fd_q26
 m_q26 : mg "_law_door" = some (.ref t.f_q26)
 k_q26 : W.keepIn K (.ref t.f_q26) = true
 d_q26 : Binds K t.fd_q26 ["_law_script", "_law_town", "_law_many"] []
 F_q27 : Fun K "_law_house" "_law_house" wK t.f_q27 t.fd_q27
 m_q27 : mg "_law_house" = some (.ref t.f_q27)
 k_q27 : W.keepIn K (.ref t.f_q27) = true
 d_q27 : Binds K t.fd_q27 ["_law_script", "_law_town", "_law_low", "_law_most"] []
 F_q28 : Fun K "_law_places" "_law_places" wq t.f_q28 t.fd_q28
 m_q28 : mg "_law_places" = some (.ref t.f_q28)
 k_q28 : W.keepIn K (.ref t.f_q28) = true
 d_q28 : Binds K t.fd_q28 ["_law_script", "_law_town", "_law_many"] []
 F_q29 : Fun K "_law_costs" "_law_costs" wy t.f_q29 t.fd_q29
 m_q29 : mg "_law_costs" = some (.ref t.f_q29)
 k_q29 : W.keepIn K (.ref t.f_q29) = true
 d_q29 : Binds K t.fd_q29 ["_law_script", "_law_town", "_law_house_here"] []
 F_q30 : Fun K "_law_go" "_law_go" wd t.f_q30 t.fd_q30
 m_q30 : mg "_law_go" = some (.ref t.f_q30)
 k_q30 : W.keepIn K (.ref t.f_q30) = true
 d_q30 : Binds K t.fd_q30 ["_law_house_here", "_law_places_here", "_law_door_here"] []
 F_q31 : Fun K "_law_best" "_law_best" uR t.f_q31 t.fd_q31
 m_q31 : mg "_law_best" = some (.ref t.f_q31)
 k_q31 : W.keepIn K (.ref t.f_q31) = true
 d_q31 : Binds K t.fd_q31 ["_law_house_here", "_law_costs_here", "_law_places_here"] []
 F_law : Fun K "law" "law" xI t.f_law t.fd_law
 m_law : mg "law" = some (.ref t.f_law)
 k_law : W.keepIn K (.ref t.f_law) = true
 d_law : Binds K t.fd_law ["_law_script"] []
 b_isinstance : mg "isinstance" = none
 b_bool : mg "bool" = none
 b_int : mg "int" = none
 b_tuple : mg "tuple" = none
 b_list : mg "list" = none
 b_all : mg "all" = none
 b_range : mg "range" = none
 b_len : mg "len" = none
 b_sum : mg "sum" = none
 b_sorted : mg "sorted" = none
 b_min : mg "min" = none
 b_set : mg "set" = none
 g_q34 : ∃ u, mg "MOST_PLACES" = some u ∧ RelV (.int 8) u
 g_q35 : ∃ u, mg "MOST_DOORS" = some u ∧ RelV (.int 3) u
 g_q36 : ∃ u, mg "MOST_IN_ROW" = some u ∧ RelV (.int 60) u
 g_q39 : ∃ u, mg "MOST_COST" = some u ∧ RelV (.int 99) u
noncomputable def z6G : Int := 8
noncomputable def z6n : Int := 3
noncomputable def z6d : Int := 60
noncomputable def z97 : Int := 99
section
variable {P : Program} {w : World} {K : W.Frag} {mg : Str → Option Value} {base : Heap} {t : Adr}
noncomputable def b_q0 : Env' → Mx Out := (sSeq (sIf (mOrT (mTru (mUn (fIsi "bool") (mVar 0))) (z0r (mTru (mUn (fIsi "int") (mVar 0))))) (sRet (mC (.bool false))) sNil)
 (sRet (z0a (fCmp fun i j => decide (i ≤ j)) (fCmp fun i j => decide (i ≤ j)) (mVar 1) (mVar 0) (mVar 2))))
noncomputable def F_q0 : List D → Mx D := mFn 3 3 b_q0
theorem z8G (T : Txt K mg t) : FnOk P w K mg base CX0 1 t.f_q0 t.fd_q0 ["thing", "least", "most"] (spD K EW0 F_q0) := by
 refine zX (m := b_q0) T.F_q0 z8s rfl rfl rfl fun cdv A outer s H E hr => ?_
 have hu := zm hr
 unfold b_q0
 exact (zB (yx (DPW.dt (z1B (zt (DE.w (z0w z4U (zz xV (by rfl) T.b_isinstance Bt.b_isinstance (zW (z8 (pv 0)) (zW (wE (v := .ty "bool") (by rfl) T.b_bool Bt.b_bool rfl) pa_nil))))) (fun _ => rfl)) (wZ (ub (zt (DE.w (z0w z6s (zz xV (by rfl) T.b_isinstance Bt.b_isinstance (zW (z8 (pv 0)) (zW (wE (v := .ty "int") (by rfl) T.b_int Bt.b_int rfl) pa_nil))))) (fun _ => rfl)))))) (zK (zQ (DE.w z1l))) yH)
   (zK (zQ (DE.w (z26 (xb z3n) (xb z3n) (z8 (pv 1)) (z8 (pv 0)) (z8 (pv 2)))))))
noncomputable def b_q2 : Env' → Mx Out := (sRet (zO (xR fun bs => bs.all id) (z5 (mP (yV (mRng yy (z5 (mBin fSub (zO fLen (z5 (mVar 0) mNil)) (mC (.int 1))) mNil)) mYes (mBin fLt (mBin fIx (mVar 0) (mVar 1)) (mBin fIx (mVar 0) (mBin fAdd (mVar 1) (mC (.int 1))))))) mNil)))
noncomputable def F_q2 : List D → Mx D := mFn 1 1 b_q2
theorem z8q (T : Txt K mg t) : FnOk P w K mg base CX0 1 t.f_q2 t.fd_q2 ["things"] (spD K EW0 F_q2) := by
 refine zX (m := b_q2) T.F_q2 z99 rfl rfl rfl fun cdv A outer s H E hr => ?_
 have hu := zm hr
 unfold b_q2
 exact (zK (zQ (DE.w (zM (z3O rfl) (by rfl) T.b_all Bt.b_all (zD (DE.w (DF.de (yW (N := ["things"]) (sc := (z3 s_q2)) (N' := ["things", "k"]) rfl rfl rfl (by decide +kernel) yL (yY (by rfl) T.b_range (zD (DE.w (za wx (DE.w (zM y8 (by rfl) T.b_len Bt.b_len (zD (z8 (pv 0)) zJ))) (DE.w z9))) zJ)) (fun _ _ _ _ => ww) (fun _ _ _ _ => (xp (z7H (Nat.lt_of_succ_lt hu)) (DE.w (zV hu (z8 (pv 0)) (z8 (pv 1)) (fun _ _ => rfl))) (DE.w (zV hu (z8 (pv 0)) (DE.w (za zp (z8 (pv 1)) (DE.w z9))) (fun _ _ => rfl))) (zb _)))))) zJ)))))
noncomputable def z4p : Env' → Mx Out := (sSeq (sSet 2 (mP (yV (mIt (mVar 1)) mYes (mBin fIx (mVar 0) (mVar 3)))))
 (sRet (mIf (zx (mBin (fIn false) (mC .none) (mVar 2))) (mC .none) (zO x0 (z5 (mUn yu (mVar 2)) mNil)))))
noncomputable def F_q13 : List D → Mx D := mFn 3 2 z4p
theorem z39 (T : Txt K mg t) : FnOk P w K mg base CX0 1 t.f_q13 t.fd_q13 ["door", "standing"] (spD K EW0 F_q13) := by
 refine zX (m := z4p) T.F_q13 sc_q13 rfl rfl rfl fun cdv A outer s H E hr => ?_
 have hu := zm hr
 unfold z4p
 exact (zB (z1S (i := 2) (N := ["door", "standing", "rooms"]) (sc := (z3 wf)) (N' := ["door", "standing", "rooms", "room"]) rfl rfl rfl (by decide +kernel) sc_q13.nd rfl rfl yL (u6 (z8 (pv 1))) (fun _ _ _ _ => ww) (fun _ _ _ _ => (zV hu (z8 (pv 0)) (z8 (pv 3)) (fun _ _ => rfl))))
   (zK (zQ (z4k (zg (z5v hr.units) (DE.w x3) (z8 (pv 2)) (by rfl)) (DE.w x3) (DE.w (yA yQ (by rfl) T.b_tuple Bt.b_tuple (zD (DE.w (ud rfl (by rfl) T.b_sorted Bt.b_sorted (by rfl) T.b_set Bt.b_set (z8 (pv 2)))) zJ)))))))
noncomputable def wj (ns : List Int) (k : Int) : Int := if k < ns.length then ns.getD k.toNat 0 else if ns = [] then 0 else ns.getD (k % ns.length).toNat 0 * 31 + k
noncomputable def F_q22 : List D → Mx D
 | [.scr ns, .p (.int k)] => if 0 ≤ k then pure (.p (.int (wj ns k))) else Mx.bad
 | _ => Mx.bad
theorem z4S {α : Type} {xs : List α} {i : Int} {v : α} (h0 : 0 ≤ i) (h : xs[i.toNat]? = some v) : atI xs i = some v := by
 have := z03 h
 rwa [Int.toNat_of_nonneg h0] at this
theorem z7M (T : Txt K mg t) : FnOk P w K mg base CX0 1 t.f_q22 t.fd_q22 ["_law_script", "_law_k"] (spD K EW0 F_q22) := by
 have shape : ∀ {vs : List V} {H : Hp} {Q : VK} {E : XK}, spD K EW0 F_q22 vs H Q E → ∃ (a : Addr) (k : Int) (ns : List Int), vs = [.ref a, .int k] ∧ SqL K H a (ns.map V.int) ∧ 0 ≤ k ∧ ∀ H', Same H H' → Q (.int (wj ns k)) H' := fun {vs H Q E} h => by
  obtain ⟨g, n, ds, h0, hs, ht, hd, r, q⟩ := h
  match ds, q, r with
  | [.scr ns, .p (.int k)], q, r =>
   by_cases hk : 0 ≤ k
   ·have q : AftG (fun _ H' d v => Rep g g.U H' d v) g (fun c H' => EW0 c E H') H ((if 0 ≤ k then pure (.p (.int (wj ns k))) else Mx.bad : Mx D) n) Q := q
    rw [if_pos hk] at q
    obtain ⟨v, u, rfl, ⟨e1, rfl⟩, r2⟩ := all2 r
    have e2 : u = .int k := by simpa only [Rep, DatS] using r2
    subst e2 e1
    refine ⟨g.aS, k, g.ns, rfl, ?_, hk, fun H' s => q _ H' s.kp (s.twn ht) (di : DatS g.U H' (.int _) (.int _))⟩
    rcases hs with hs | ⟨_, hs⟩
    ·exact hs H
    ·exact hs
   ·have q : AftG (fun _ H' d v => Rep g g.U H' d v) g (fun c H' => EW0 c E H') H ((if 0 ≤ k then pure (.p (.int (wj ns k))) else Mx.bad : Mx D) n) Q := q
    rw [if_neg hk] at q
    exact q.elim
 refine T.F_q22.ok z8M (fun vs H Q E h => ?_) (fun cdv A outer s H vs Q E hr h => ?_)
 ·obtain ⟨a, k, ns, rfl, _⟩ := shape h; rfl
 ·obtain ⟨a, k, ns, rfl, hS, hk, q⟩ := shape h
  have hu := zm hr
  have item : ∀ (j : Int), 0 ≤ j → j < (ns.length : Int) → atI (ns.map V.int) j = some (.int (ns.getD j.toNat 0)) := fun j h1 h2 => by
   have hj : j.toNat < ns.length := by omega
   exact z4S h1 (by rw [List.getElem?_map, List.getElem?_eq_getElem hj, List.getD_eq_getElem?_getD, List.getElem?_eq_getElem hj]; rfl)
  refine ⟨_, (wB (z6C (z1X op_lt (pv 1) (zz call_len_seq (by rfl) T.b_len Bt.b_len (zW (pv 0) pa_nil)) (zb _)) (z06 (z2K (z6g ix_list (pv 0) (pv 1) (fun _ _ => rfl)))) pss_nil)
   (wB (z6C (z1X (z50 (Nat.lt_of_succ_lt hu)) (pv 0) (z3E pa_nil) (zb _)) (z06 (z2K z1v)) pss_nil)
   (z06 (z2K (z5J op_add (z5J op_mul (z6g ix_list (pv 0) (z5J op_mod (pv 1) (zz call_len_seq (by rfl) T.b_len Bt.b_len (zW (pv 0) pa_nil))) (fun _ _ => rfl)) z1v) (pv 1)))))), ?_⟩
  refine ⟨_, rfl, _, rfl, a, _, rfl, .inl hS, _, _, rfl, rfl, _, rfl, ite2 (fun c => ?_) (fun c => ?_)⟩
  ·have c' : k < (ns.length : Int) := by simpa using c
   have q1 := q H (Same.refl H)
   unfold wj at q1
   rw [if_pos c'] at q1
   exact ⟨_, rfl, _, rfl, a, _, _, _, rfl, rfl, hS, item k hk c', q1⟩
  ·have c' : ¬ k < (ns.length : Int) := by simpa using c
   refine ⟨_, rfl, by decide, fun p hp => ⟨a, p, _, rfl, rfl, (Same.new hp).seq hS, SqL.of zC, _, rfl, ite2 (fun e => ?_) (fun e => ?_)⟩⟩
   ·have e' : ns = [] := by cases ns with
     | nil => rfl
     | cons _ _ => cases e
    have q1 := q _ (Same.new (o := .lst []) hp)
    unfold wj at q1
    rw [if_neg c', if_pos e'] at q1
    exact q1
   ·have e' : ns ≠ [] := fun z => e (by rw [z]; rfl)
    have hne : 0 < ns.length := List.length_pos_iff.mpr e'
    have m1 := Int.emod_nonneg k (show (ns.length : Int) ≠ 0 by omega)
    have m2 := Int.emod_lt_of_pos k (show (0 : Int) < ns.length by omega)
    have q1 := q _ (Same.new (o := .lst []) hp)
    unfold wj at q1
    rw [if_neg c', if_neg e'] at q1
    refine ⟨_, rfl, _, rfl, _, rfl, a, _, rfl, .inl ((Same.new hp).seq hS), _, _, rfl, rfl, (by rw [List.length_map]; omega), a, _, _, _, rfl, rfl, (Same.new hp).seq hS, (by rw [List.length_map]; exact item _ m1 m2), _, _, rfl, rfl, .inr ⟨by decide, by decide⟩, _, rfl, _, _, rfl, rfl, q1⟩
noncomputable def z4m : Env' → Mx Out := (sSeq (sSet 3 (mP (yV (mIt (mVar 1)) mYes (mBin fIx (mBin fIx (mBin fIx (mVar 0) (mC (.int 1))) (mVar 2)) (mVar 4)))))
 (sRet (mIf (zx (mBin (fIn false) (mC .none) (mVar 3))) (mC .none) (zO x0 (z5 (mUn yu (mVar 3)) mNil)))))
noncomputable def F_q30 : List D → Mx D := mFn 4 3 z4m
theorem z7j (T : Txt K mg t) : FnOk P w K mg base CX0 1 t.f_q30 t.fd_q30 ["_law_house_here", "_law_places_here", "_law_door_here"] (spD K EW0 F_q30) := by
 refine zX (m := z4m) T.F_q30 sc_q30 rfl rfl rfl fun cdv A outer s H E hr => ?_
 have hu := zm hr
 unfold z4m
 exact (zB (z1S (i := 3) (N := ["_law_house_here", "_law_places_here", "_law_door_here", "_law_later"]) (sc := (z3 wd)) (N' := ["_law_house_here", "_law_places_here", "_law_door_here", "_law_later", "_law_place"]) rfl rfl rfl (by decide +kernel) sc_q30.nd rfl rfl yL (u6 (z8 (pv 1))) (fun _ _ _ _ => ww) (fun _ _ _ _ => (zV hu (DE.w (zV hu (DE.w (zV hu (z8 (pv 0)) (DE.w z9) (fun _ _ => rfl))) (z8 (pv 2)) (fun _ _ => rfl))) (z8 (pv 4)) (fun _ _ => rfl))))
   (zK (zQ (z4k (zg (z5v hr.units) (DE.w x3) (z8 (pv 3)) (by rfl)) (DE.w x3) (DE.w (yA yQ (by rfl) T.b_tuple Bt.b_tuple (zD (DE.w (ud rfl (by rfl) T.b_sorted Bt.b_sorted (by rfl) T.b_set Bt.b_set (z8 (pv 3)))) zJ)))))))
noncomputable def b_q1 : Env' → Mx Out := (sRet (xu (mUn (fIsi "tuple") (mVar 0)) (zO (xR fun bs => bs.all id) (z5 (mP (yV (mIt (mVar 0)) mYes (zR F_q0 (z5 (mVal 3) (z5 (mVal 1) (z5 (mVal 2) mNil)))))) mNil))))
noncomputable def F_q1 : List D → Mx D := mFn 3 3 b_q1
theorem z5S (T : Txt K mg t) : FnOk P w K mg base CX0 2 t.f_q1 t.fd_q1 ["thing", "least", "most"] (spD K EW0 F_q1) := by
 have G_q0 : FnOk P w K mg base CX0 1 t.f_q0 t.fd_q0 ["thing", "least", "most"] (spD K EW0 F_q0) := z8G T
 refine zX (m := b_q1) T.F_q1 z98 rfl rfl rfl fun cdv A outer s H E hr => ?_
 have hu := zm hr
 unfold b_q1
 exact (zK (zQ (DE.w (xC (DE.w (z0w wm (zz xV (by rfl) T.b_isinstance Bt.b_isinstance (zW (z8 (pv 0)) (zW (wE (v := .ty "tuple") (by rfl) T.b_tuple Bt.b_tuple rfl) pa_nil))))) (xT (zM (z3O rfl) (by rfl) T.b_all Bt.b_all (zD (DE.w (DF.de (yW (N := ["thing", "least", "most"]) (sc := (z3 s_q1)) (N' := ["thing", "least", "most", "each"]) rfl rfl rfl (by decide +kernel) yL (u6 (z8 (pv 0))) (fun _ _ _ _ => ww) (fun _ _ _ _ => (zH (E := E0) G_q0 (fun _ _ z => z.elim) (hr.mono (by decide)) (by rfl) T.m_q0 T.k_q0 T.d_q0 zU (z4 (zA (pv 3)) (z4 (zA (pv 1)) (z4 (zA (pv 2)) zE)))))))) zJ)))))))
noncomputable def b_q5 : Env' → Mx Out := (sSeq (sIf (mOrT (z0r (mTru (mUn (fIsi "tuple") (mVar 0)))) (zx (mBin (fEq true) (zO fLen (z5 (mVar 0) mNil)) (mC (.int 2))))) (sRet (mC (.bool false))) sNil)
 (sRet (xu (zR F_q0 (z5 (mBin fIx (mVar 0) (mC (.int 0))) (z5 (mC (.int 1)) (z5 (mC (.int z6G)) mNil)))) (mUn (fIsi "tuple") (mBin fIx (mVar 0) (mC (.int 1)))))))
noncomputable def F_q5 : List D → Mx D := mFn 1 1 b_q5
theorem z8i (T : Txt K mg t) : FnOk P w K mg base CX0 2 t.f_q5 t.fd_q5 ["thing"] (spD K EW0 F_q5) := by
 have G_q0 : FnOk P w K mg base CX0 1 t.f_q0 t.fd_q0 ["thing", "least", "most"] (spD K EW0 F_q0) := z8G T
 obtain ⟨u_q34, g_q34, r_q34⟩ := T.g_q34
 refine zX (m := b_q5) T.F_q5 z93 rfl rfl rfl fun cdv A outer s H E hr => ?_
 have hu := zm hr
 unfold b_q5
 exact (zB (yx (DPW.dt (z1B (ub (zt (DE.w (z0w wm (zz xV (by rfl) T.b_isinstance Bt.b_isinstance (zW (z8 (pv 0)) (zW (wE (v := .ty "tuple") (by rfl) T.b_tuple Bt.b_tuple rfl) pa_nil))))) (fun _ => rfl))) (wZ (zg (z2E hr.units) (DE.w (zM y8 (by rfl) T.b_len Bt.b_len (zD (z8 (pv 0)) zJ))) (DE.w z9) (zb _))))) (zK (zQ (DE.w z1l))) yH)
   (zK (zQ (DE.w (xC (DE.w (zH (E := E0) G_q0 (fun _ _ z => z.elim) (hr.mono (by decide)) (by rfl) T.m_q0 T.k_q0 T.d_q0 zU (z4 (zV hu (z8 (pv 0)) (DE.w z9) (fun _ _ => rfl)) (z4 z9 (z4 (ux (wG (by rfl) g_q34 r_q34)) zE))))) (xT (z0w wm (zz xV (by rfl) T.b_isinstance Bt.b_isinstance (zW (DE.w (zV hu (z8 (pv 0)) (DE.w z9) (fun _ _ => rfl))) (zW (wE (v := .ty "tuple") (by rfl) T.b_tuple Bt.b_tuple rfl) pa_nil))))))))))
noncomputable def z4y : Env' → Mx Out := (sSeq (sSet 3 (mVal 1))
 (sSeq (sFor (mIt (mVal 2)) (τ1 4) (sIf (zx (mBin (fIs true) (mVar 3) (mC .none))) (sSet 3 (zR F_q13 (z5 (mBin fIx (mBin fIx (mVar 0) (mC (.int 1))) (mVar 4)) (z5 (mVal 3) mNil)))) sNil))
 (sRet (mVar 3))))
noncomputable def F_q14 : List D → Mx D := mFn 5 3 z4y
theorem z82 (T : Txt K mg t) : FnOk P w K mg base CX0 2 t.f_q14 t.fd_q14 ["house", "places", "row"] (spD K EW0 F_q14) := by
 have G_q13 : FnOk P w K mg base CX0 1 t.f_q13 t.fd_q13 ["door", "standing"] (spD K EW0 F_q13) := z39 T
 refine zX (m := z4y) T.F_q14 sc_q14 rfl rfl rfl fun cdv A outer s H E hr => ?_
 have hu := zm hr
 unfold z4y
 exact (zB (zi (i := 3) sc_q14.nd rfl (by first | exact Or.inl rfl | exact Or.inr rfl) (zA (pv 1)))
   (zB (z0t PassesOwn.never rfl (z60 (zA (pv 2))) (u3 (ya (i := 4) sc_q14.nd rfl (by first | exact Or.inl rfl | exact Or.inr rfl)))
   (zK (yx (zg z1C (z8 (pv 3)) (DE.w x3) (zb _)) (zK (zi (i := 3) sc_q14.nd rfl (by first | exact Or.inl rfl | exact Or.inr rfl) (zH (E := E0) G_q13 (fun _ _ z => z.elim) (hr.mono (by decide)) (by rfl) T.m_q13 T.k_q13 T.d_q13 zU (z4 (zV hu (DE.w (zV hu (z8 (pv 0)) (DE.w z9) (fun _ _ => rfl))) (z8 (pv 4)) (fun _ _ => rfl)) (z4 (zA (pv 3)) zE))))) yH)))
   (zK (zQ (z8 (pv 3))))))
noncomputable def z5a (t : Adr) : Env' → Mx Out := (sSeq (sOwn 3 (mD1 (mVal 0) (mP (mSeq PyData.tuple mNil))))
 (sSeq (sOwn 4 (mSeq PyData.list (z5 (mVal 0) mNil)))
 (sSeq (xn 100000 (mTru (mVar 4)) (sSeq (z1r 5 4 (mC (.int 0)))
 (sFor (mRng yy (z5 (zO fLen (z5 (mVar 1) mNil)) mNil)) (τ1 6) (sSeq (sSet 7 (z2P 2 t.f_q13 F_q13 (z5 (mBin fIx (mVar 1) (mVar 6)) (z5 (mVal 5) mNil))))
 (sIf (z6m (zx (mBin (fIs true) (mVar 7) (mC .none))) (zx (mBin (fIn true) (mVar 7) (mVar 3)))) (sSeq (xt 3 (mVal 7) (mBin fAdd (mBin fIx (mVar 3) (mVar 5)) (mP (mSeq PyData.tuple (z5 (mVal 6) mNil)))))
 (sApp 4 (mVal 7))) sNil)))))
 (sRet (mVar 3)))))
noncomputable def F_q15 (t : Adr) : List D → Mx D := mFn 8 3 (z5a t)
theorem z7s (T : Txt K mg t) : FnOk P w K mg base CX0 2 t.f_q15 t.fd_q15 ["start", "doors", "behind"] (spD K EW0 (F_q15 t)) := by
 have G_q13 : FnOk P w K mg base CX0 1 t.f_q13 t.fd_q13 ["door", "standing"] (spD K EW0 F_q13) := z39 T
 refine zX (m := (z5a t)) T.F_q15 sc_q15 rfl rfl rfl fun cdv A outer s H E hr => ?_
 have hu := zm hr
 unfold z5a
 exact (zB (uf (i := 3) sc_q15.nd rfl (by first | exact Or.inl rfl | exact Or.inr rfl) (z7C hr.units (zA (pv 0)) (yS zE)))
   (zB (uf (i := 4) sc_q15.nd rfl (by first | exact Or.inl rfl | exact Or.inr rfl) (wu (z4 (zA (pv 0)) zE)))
   (zB (z04 (k := 100000) PassesOwn.never (zt (z8 (pv 4)) (fun _ => rfl)) (zB (z4R (i := 5) sc_q15.nd rfl (by first | exact Or.inl rfl | exact Or.inr rfl) (z2m PySem.F.plainAttrs_list PySem.F.slot_list_pop PySem.F.type_list_pop z4e (pv 4) (zW z9 pa_nil)))
   (zK (z0t PassesOwn.never rfl (yY (by rfl) T.b_range (zD (DE.w (zM y8 (by rfl) T.b_len Bt.b_len (zD (z8 (pv 1)) zJ))) zJ)) (u3 (ya (i := 6) sc_q15.nd rfl (by first | exact Or.inl rfl | exact Or.inr rfl)))
   (zB (zi (i := 7) sc_q15.nd rfl (by first | exact Or.inl rfl | exact Or.inr rfl) (z5V (E := E0) G_q13 (fun _ _ z => z.elim) (hr.mono (by decide)) (pv 2) T.k_q13 T.d_q13 zU (z4 (zV hu (z8 (pv 1)) (z8 (pv 6)) (fun _ _ => rfl)) (z4 (zA (pv 5)) zE))))
   (zK (yx (DPW.dt (z6z (zg z1C (z8 (pv 7)) (DE.w x3) (zb _)) (z53 (zg (wn hr.units) (z8 (pv 7)) (z8 (pv 3)) (by rfl))))) (zB (z1I hu (pv 3) (zA (pv 7)) (za zp (DE.w (zV hu (z8 (pv 3)) (z8 (pv 5)) (fun _ _ => rfl))) (DE.w (yS (z4 (zA (pv 6)) zE)))) rfl)
   (zK (z5u (z2m PySem.F.plainAttrs_list PySem.F.slot_list_append PySem.F.type_list_append wH (pv 4) (zW (zA (pv 7)) pa_nil))))) yH)))))))
   (zK (zQ (z8 (pv 3)))))))
noncomputable def z4s : Env' → Mx Out := (sSeq (sOwn 3 (mSeq PyData.list mNil))
 (sSeq (sFor (mRng yy (z5 (zO fLen (z5 (mBin fIx (mVar 0) (mC (.int 1))) mNil)) mNil)) (τ1 4) (sSeq (sSet 5 (zR F_q13 (z5 (mBin fIx (mBin fIx (mVar 0) (mC (.int 1))) (mVar 4)) (z5 (mBin fIx (mVar 2) (mC (.int 3))) mNil))))
 (sApp 3 (mP (mSeq PyData.tuple (z5 (mBin fAdd (mBin fIx (mVar 2) (mC (.int 0))) (mBin fIx (mVar 1) (mVar 4))) (z5 (mBin fAdd (mBin fIx (mVar 2) (mC (.int 1))) (mC (.int 1))) (z5 (mBin fAdd (mBin fIx (mVar 2) (mC (.int 2))) (mP (mSeq PyData.tuple (z5 (mVal 4) mNil)))) (z5 (mVal 5) mNil)))))))))
 (sRet (mVar 3))))
noncomputable def F_q20 : List D → Mx D := mFn 6 3 z4s
theorem z7l (T : Txt K mg t) : FnOk P w K mg base CX0 2 t.f_q20 t.fd_q20 ["house", "costs", "way"] (spD K EW0 F_q20) := by
 have G_q13 : FnOk P w K mg base CX0 1 t.f_q13 t.fd_q13 ["door", "standing"] (spD K EW0 F_q13) := z39 T
 refine zX (m := z4s) T.F_q20 sc_q20 rfl rfl rfl fun cdv A outer s H E hr => ?_
 have hu := zm hr
 unfold z4s
 exact (zB (uf (i := 3) sc_q20.nd rfl (by first | exact Or.inl rfl | exact Or.inr rfl) (wu zE))
   (zB (z0t PassesOwn.never rfl (yY (by rfl) T.b_range (zD (DE.w (zM y8 (by rfl) T.b_len Bt.b_len (zD (DE.w (zV hu (z8 (pv 0)) (DE.w z9) (fun _ _ => rfl))) zJ))) zJ)) (u3 (ya (i := 4) sc_q20.nd rfl (by first | exact Or.inl rfl | exact Or.inr rfl)))
   (zB (zi (i := 5) sc_q20.nd rfl (by first | exact Or.inl rfl | exact Or.inr rfl) (zH (E := E0) G_q13 (fun _ _ z => z.elim) (hr.mono (by decide)) (by rfl) T.m_q13 T.k_q13 T.d_q13 zU (z4 (zV hu (DE.w (zV hu (z8 (pv 0)) (DE.w z9) (fun _ _ => rfl))) (z8 (pv 4)) (fun _ _ => rfl)) (z4 (zV hu (z8 (pv 2)) (DE.w z9) (fun _ _ => rfl)) zE))))
   (zK (z5u (z2m PySem.F.plainAttrs_list PySem.F.slot_list_append PySem.F.type_list_append wH (pv 3) (zW (yS (z4 (za zp (DE.w (zV hu (z8 (pv 2)) (DE.w z9) (fun _ _ => rfl))) (DE.w (zV hu (z8 (pv 1)) (z8 (pv 4)) (fun _ _ => rfl)))) (z4 (za zp (DE.w (zV hu (z8 (pv 2)) (DE.w z9) (fun _ _ => rfl))) (DE.w z9)) (z4 (za zp (DE.w (zV hu (z8 (pv 2)) (DE.w z9) (fun _ _ => rfl))) (DE.w (yS (z4 (zA (pv 4)) zE)))) (z4 (zA (pv 5)) zE))))) pa_nil))))))
   (zK (zQ (z8 (pv 3))))))
noncomputable def z58 : Env' → Mx Out := (sSeq (sSet 3 (mBin fMod (mBin fAdd (mBin fAdd (mBin fMul (zR F_q22 (z5 (mVal 0) (z5 (mVal 1) mNil))) (mC (.int 1103515245))) (mBin fMul (mC (.int 7919)) (mVar 1))) (mC (.int 12345))) (mC (.int 2147483647))))
 (sRet (mBin fMod (mBin fMod (mBin fMod (mBin fPow (mVar 3) (mC (.int 5))) (mC (.int 2147483647))) (mC (.int 999983))) (mVar 2))))
noncomputable def F_q23 : List D → Mx D := mFn 4 3 z58
theorem z7V (T : Txt K mg t) : FnOk P w K mg base CX0 2 t.f_q23 t.fd_q23 ["_law_script", "_law_k", "_law_many"] (spD K EW0 F_q23) := by
 have G_q22 : FnOk P w K mg base CX0 1 t.f_q22 t.fd_q22 ["_law_script", "_law_k"] (spD K EW0 F_q22) := z7M T
 refine zX (m := z58) T.F_q23 sc_q23 rfl rfl rfl fun cdv A outer s H E hr => ?_
 have hu := zm hr
 unfold z58
 exact (zB (zi (i := 3) sc_q23.nd rfl (by first | exact Or.inl rfl | exact Or.inr rfl) (za xg (DE.w (za zp (DE.w (za zp (DE.w (za z3k (DE.w (zH (E := E0) G_q22 (fun _ _ z => z.elim) (hr.mono (by decide)) (by rfl) T.m_q22 T.k_q22 T.d_q22 zU (z4 (zA (pv 0)) (z4 (zA (pv 1)) zE)))) (DE.w z9))) (DE.w (za z3k (DE.w z9) (z8 (pv 1)))))) (DE.w z9))) (DE.w z9)))
   (zK (zQ (DE.w (za xg (DE.w (za xg (DE.w (za xg (DE.w (za z6v (z8 (pv 3)) (DE.w z9))) (DE.w z9))) (DE.w z9))) (z8 (pv 2)))))))
noncomputable def z5U : Env' → Mx Out := (sSeq (sOwn 3 (mD1 (mVal 2) (mP (mSeq PyData.tuple (z5 (mC (.int 0)) (z5 (mC (.int 0)) (z5 (mP (mSeq PyData.tuple mNil)) mNil)))))))
 (sSeq (sSet 4 (mC (.bool true)))
 (sSeq (xn 1000 (mTru (mVar 4)) (sSeq (sSet 4 (mC (.bool false)))
 (sFor (mIt (zO yZ (z5 (mP (z4P z3L (z5 (mVar 3) mNil))) mNil))) (τ1 5) (sSeq (sAsg (mBin fIx (mVar 3) (mVar 5)) (τT [6, 7, 8]))
 (sFor (mRng yy (z5 (zO fLen (z5 (mBin fIx (mVar 0) (mC (.int 1))) mNil)) mNil)) (τ1 9) (sSeq (sSet 10 (zR F_q30 (z5 (mVal 0) (z5 (mVal 5) (z5 (mVal 9) mNil)))))
 (sSeq (sSet 11 (mP (mSeq PyData.tuple (z5 (mBin fAdd (mVar 6) (mBin fIx (mVar 1) (mVar 9))) (z5 (mBin fAdd (mVar 7) (mC (.int 1))) (z5 (mBin fAdd (mVar 8) (mP (mSeq PyData.tuple (z5 (mVal 9) mNil)))) mNil))))))
 (sIf (mOrT (zx (mBin (fIn true) (mVar 10) (mVar 3))) (zx (mBin fLtN (mVar 11) (mBin fIx (mVar 3) (mVar 10))))) (sSeq (xt 3 (mVal 10) (mVal 11))
 (sSet 4 (mC (.bool true)))) sNil))))))))
 (sRet (mVar 3)))))
noncomputable def F_q31 : List D → Mx D := mFn 12 3 z5U
theorem z8H (T : Txt K mg t) : FnOk P w K mg base CX0 2 t.f_q31 t.fd_q31 ["_law_house_here", "_law_costs_here", "_law_places_here"] (spD K EW0 F_q31) := by
 have G_q30 : FnOk P w K mg base CX0 1 t.f_q30 t.fd_q30 ["_law_house_here", "_law_places_here", "_law_door_here"] (spD K EW0 F_q30) := z7j T
 refine zX (m := z5U) T.F_q31 sc_q31 rfl rfl rfl fun cdv A outer s H E hr => ?_
 have hu := zm hr
 unfold z5U
 exact (zB (uf (i := 3) sc_q31.nd rfl (by first | exact Or.inl rfl | exact Or.inr rfl) (z7C hr.units (zA (pv 2)) (yS (z4 z9 (z4 z9 (z4 (yS zE) zE))))))
   (zB (zi (i := 4) sc_q31.nd rfl (by first | exact Or.inl rfl | exact Or.inr rfl) z1l)
   (zB (z04 (k := 1000) PassesOwn.never (zt (z8 (pv 4)) (fun _ => rfl)) (zB (zi (i := 4) sc_q31.nd rfl (by first | exact Or.inl rfl | exact Or.inr rfl) z1l)
   (zK (z0t PassesOwn.never rfl (z60 (zM (z2g rfl hr.units) (by rfl) T.b_sorted Bt.b_sorted (zD (DE.w (DF.de (z5A (xX (z2R rfl) (by rfl) T.b_list Bt.b_list (zD (z8 (pv 3)) zJ))))) zJ))) (u3 (ya (i := 5) sc_q31.nd rfl (by first | exact Or.inl rfl | exact Or.inr rfl)))
   (zB (z8K (zV hu (z8 (pv 3)) (z8 (pv 5)) (fun _ _ => rfl)) (z6b (is := [6, 7, 8]) (z89 rfl (ur (ya (i := 6) sc_q31.nd rfl (by first | exact Or.inl rfl | exact Or.inr rfl)) (ur (ya (i := 7) sc_q31.nd rfl (by first | exact Or.inl rfl | exact Or.inr rfl)) (ur (ya (i := 8) sc_q31.nd rfl (by first | exact Or.inl rfl | exact Or.inr rfl)) z6t))))))
   (zK (z0t PassesOwn.never rfl (yY (by rfl) T.b_range (zD (DE.w (zM y8 (by rfl) T.b_len Bt.b_len (zD (DE.w (zV hu (z8 (pv 0)) (DE.w z9) (fun _ _ => rfl))) zJ))) zJ)) (u3 (ya (i := 9) sc_q31.nd rfl (by first | exact Or.inl rfl | exact Or.inr rfl)))
   (zB (zi (i := 10) sc_q31.nd rfl (by first | exact Or.inl rfl | exact Or.inr rfl) (zH (E := E0) G_q30 (fun _ _ z => z.elim) (hr.mono (by decide)) (by rfl) T.m_q30 T.k_q30 T.d_q30 zU (z4 (zA (pv 0)) (z4 (zA (pv 5)) (z4 (zA (pv 9)) zE)))))
   (zB (zi (i := 11) sc_q31.nd rfl (by first | exact Or.inl rfl | exact Or.inr rfl) (yS (z4 (za zp (z8 (pv 6)) (DE.w (zV hu (z8 (pv 1)) (z8 (pv 9)) (fun _ _ => rfl)))) (z4 (za zp (z8 (pv 7)) (DE.w z9)) (z4 (za zp (z8 (pv 8)) (DE.w (yS (z4 (zA (pv 9)) zE)))) zE)))))
   (zK (yx (DPW.dt (z1B (zg (wn hr.units) (z8 (pv 10)) (z8 (pv 3)) (by rfl)) (wZ (zg (z87 hr.units) (z8 (pv 11)) (DE.w (zV hu (z8 (pv 3)) (z8 (pv 10)) (fun _ _ => rfl))) (zb _))))) (zB (z1I hu (pv 3) (zA (pv 10)) (zA (pv 11)) rfl)
   (zK (zi (i := 4) sc_q31.nd rfl (by first | exact Or.inl rfl | exact Or.inr rfl) z1l))) yH)))))))))))
   (zK (zQ (z8 (pv 3)))))))
noncomputable def b_q3 : Env' → Mx Out := (sRet (xu (zR F_q1 (z5 (mVal 0) (z5 (mC (.int 0)) (z5 (mBin fSub (mVar 1) (mC (.int 1))) mNil)))) (xu (mBin (fCmp fun i j => decide (j ≤ i)) (zO fLen (z5 (mVar 0) mNil)) (mC (.int 1))) (zR F_q2 (z5 (mVal 0) mNil)))))
noncomputable def F_q3 : List D → Mx D := mFn 2 2 b_q3
theorem z8t (T : Txt K mg t) : FnOk P w K mg base CX0 3 t.f_q3 t.fd_q3 ["thing", "many"] (spD K EW0 F_q3) := by
 have G_q2 : FnOk P w K mg base CX0 1 t.f_q2 t.fd_q2 ["things"] (spD K EW0 F_q2) := z8q T
 have G_q1 : FnOk P w K mg base CX0 2 t.f_q1 t.fd_q1 ["thing", "least", "most"] (spD K EW0 F_q1) := z5S T
 refine zX (m := b_q3) T.F_q3 z8x rfl rfl rfl fun cdv A outer s H E hr => ?_
 have hu := zm hr
 unfold b_q3
 exact (zK (zQ (DE.w (xC (DE.w (zH (E := E0) G_q1 (fun _ _ z => z.elim) (hr.mono (by decide)) (by rfl) T.m_q1 T.k_q1 T.d_q1 zU (z4 (zA (pv 0)) (z4 z9 (z4 (za wx (z8 (pv 1)) (DE.w z9)) zE))))) (xC (DE.w (xp (xb z9S) (DE.w (zM y8 (by rfl) T.b_len Bt.b_len (zD (z8 (pv 0)) zJ))) (DE.w z9) (zb _))) (xT (zH (E := E0) G_q2 (fun _ _ z => z.elim) (hr.mono (by decide)) (by rfl) T.m_q2 T.k_q2 T.d_q2 zU (z4 (zA (pv 0)) zE))))))))
noncomputable def b_q4 : Env' → Mx Out := (sRet (xu (zR F_q1 (z5 (mVal 0) (z5 (mC (.int 0)) (z5 (mBin fSub (mVar 1) (mC (.int 1))) mNil)))) (mBin (fEq false) (zO fLen (z5 (mVar 0) mNil)) (mVar 1))))
noncomputable def F_q4 : List D → Mx D := mFn 2 2 b_q4
theorem z9O (T : Txt K mg t) : FnOk P w K mg base CX0 3 t.f_q4 t.fd_q4 ["thing", "many"] (spD K EW0 F_q4) := by
 have G_q1 : FnOk P w K mg base CX0 2 t.f_q1 t.fd_q1 ["thing", "least", "most"] (spD K EW0 F_q1) := z5S T
 refine zX (m := b_q4) T.F_q4 z9L rfl rfl rfl fun cdv A outer s H E hr => ?_
 have hu := zm hr
 unfold b_q4
 exact (zK (zQ (DE.w (xC (DE.w (zH (E := E0) G_q1 (fun _ _ z => z.elim) (hr.mono (by decide)) (by rfl) T.m_q1 T.k_q1 T.d_q1 zU (z4 (zA (pv 0)) (z4 z9 (z4 (za wx (z8 (pv 1)) (DE.w z9)) zE))))) (xT (xp (yP hr.units) (DE.w (zM y8 (by rfl) T.b_len Bt.b_len (zD (z8 (pv 0)) zJ))) (z8 (pv 1)) (zb _)))))))
noncomputable def b_q6 : Env' → Mx Out := (sRet (xu (zR F_q5 (z5 (mVal 0) mNil)) (z0a (fCmp fun i j => decide (i ≤ j)) (fCmp fun i j => decide (i ≤ j)) (mC (.int 1)) (zO fLen (z5 (mBin fIx (mVar 0) (mC (.int 1))) mNil)) (mC (.int z6n)))))
noncomputable def F_q6 : List D → Mx D := mFn 1 1 b_q6
theorem z91 (T : Txt K mg t) : FnOk P w K mg base CX0 3 t.f_q6 t.fd_q6 ["thing"] (spD K EW0 F_q6) := by
 have G_q5 : FnOk P w K mg base CX0 2 t.f_q5 t.fd_q5 ["thing"] (spD K EW0 F_q5) := z8i T
 obtain ⟨u_q35, g_q35, r_q35⟩ := T.g_q35
 refine zX (m := b_q6) T.F_q6 z8y rfl rfl rfl fun cdv A outer s H E hr => ?_
 have hu := zm hr
 unfold b_q6
 exact (zK (zQ (DE.w (xC (DE.w (zH (E := E0) G_q5 (fun _ _ z => z.elim) (hr.mono (by decide)) (by rfl) T.m_q5 T.k_q5 T.d_q5 zU (z4 (zA (pv 0)) zE))) (xT (z26 (xb z3n) (xb z3n) (DE.w z9) (DE.w (zM y8 (by rfl) T.b_len Bt.b_len (zD (DE.w (zV hu (z8 (pv 0)) (DE.w z9) (fun _ _ => rfl))) zJ))) (DE.w (ux (wG (by rfl) g_q35 r_q35)))))))))
noncomputable def b_q8 : Env' → Mx Out := (sRet (xu (zR F_q1 (z5 (mVal 0) (z5 (mC (.int 0)) (z5 (mBin fSub (zO fLen (z5 (mBin fIx (mVar 1) (mC (.int 1))) mNil)) (mC (.int 1))) mNil)))) (mBin (fCmp fun i j => decide (i ≤ j)) (zO fLen (z5 (mVar 0) mNil)) (mC (.int z6d)))))
noncomputable def F_q8 : List D → Mx D := mFn 2 2 b_q8
theorem z8l (T : Txt K mg t) : FnOk P w K mg base CX0 3 t.f_q8 t.fd_q8 ["thing", "house"] (spD K EW0 F_q8) := by
 have G_q1 : FnOk P w K mg base CX0 2 t.f_q1 t.fd_q1 ["thing", "least", "most"] (spD K EW0 F_q1) := z5S T
 obtain ⟨u_q36, g_q36, r_q36⟩ := T.g_q36
 refine zX (m := b_q8) T.F_q8 z9T rfl rfl rfl fun cdv A outer s H E hr => ?_
 have hu := zm hr
 unfold b_q8
 exact (zK (zQ (DE.w (xC (DE.w (zH (E := E0) G_q1 (fun _ _ z => z.elim) (hr.mono (by decide)) (by rfl) T.m_q1 T.k_q1 T.d_q1 zU (z4 (zA (pv 0)) (z4 z9 (z4 (za wx (DE.w (zM y8 (by rfl) T.b_len Bt.b_len (zD (DE.w (zV hu (z8 (pv 1)) (DE.w z9) (fun _ _ => rfl))) zJ))) (DE.w z9)) zE))))) (xT (xp (xb z3n) (DE.w (zM y8 (by rfl) T.b_len Bt.b_len (zD (z8 (pv 0)) zJ))) (DE.w (ux (wG (by rfl) g_q36 r_q36))) (zb _)))))))
noncomputable def z4u (t : Adr) : Env' → Mx Out := (sRet (zR (F_q15 t) (z5 (mVal 1) (z5 (mBin fIx (mVar 0) (mC (.int 1))) (z5 (mFnV t.f_q13) mNil)))))
noncomputable def F_q16 (t : Adr) : List D → Mx D := mFn 2 2 (z4u t)
theorem z7b (T : Txt K mg t) : FnOk P w K mg base CX0 3 t.f_q16 t.fd_q16 ["house", "places"] (spD K EW0 (F_q16 t)) := by
 have G_q15 : FnOk P w K mg base CX0 2 t.f_q15 t.fd_q15 ["start", "doors", "behind"] (spD K EW0 (F_q15 t)) := z7s T
 refine zX (m := (z4u t)) T.F_q16 z8C rfl rfl rfl fun cdv A outer s H E hr => ?_
 have hu := zm hr
 unfold z4u
 exact (zK (zQ (DE.w (zH (E := E0) G_q15 (fun _ _ z => z.elim) (hr.mono (by decide)) (by rfl) T.m_q15 T.k_q15 T.d_q15 zU (z4 (zA (pv 1)) (z4 (zV hu (z8 (pv 0)) (DE.w z9) (fun _ _ => rfl)) (z4 (z8o (wG (v := .ref t.f_q13) (by rfl) T.m_q13 rfl)) zE)))))))
noncomputable def z4l : Env' → Mx Out := (sIf (mOrT (z0r (mTru (zR F_q1 (z5 (mVal 0) (z5 (mC (.int 0)) (z5 (mC (.int z97)) mNil)))))) (zx (mBin (fEq true) (zO fLen (z5 (mVar 0) mNil)) (zO fLen (z5 (mBin fIx (mVar 1) (mC (.int 1))) mNil))))) z1A sNil)
noncomputable def F_q19 : List D → Mx D := mFn 2 2 z4l
theorem z7k (T : Txt K mg t) : FnOk P w K mg base CX0 3 t.f_q19 t.fd_q19 ["costs", "house"] (spD K EW0 F_q19) := by
 have G_q1 : FnOk P w K mg base CX0 2 t.f_q1 t.fd_q1 ["thing", "least", "most"] (spD K EW0 F_q1) := z5S T
 obtain ⟨u_q39, g_q39, r_q39⟩ := T.g_q39
 refine zX (m := z4l) T.F_q19 z7v rfl rfl rfl fun cdv A outer s H E hr => ?_
 have hu := zm hr
 unfold z4l
 exact (zK (yx (DPW.dt (z1B (ub (zt (DE.w (zH (E := E0) G_q1 (fun _ _ z => z.elim) (hr.mono (by decide)) (by rfl) T.m_q1 T.k_q1 T.d_q1 zU (z4 (zA (pv 0)) (z4 z9 (z4 (ux (wG (by rfl) g_q39 r_q39)) zE))))) (fun _ => rfl))) (wZ (zg (z2E hr.units) (DE.w (zM y8 (by rfl) T.b_len Bt.b_len (zD (z8 (pv 0)) zJ))) (DE.w (zM y8 (by rfl) T.b_len Bt.b_len (zD (DE.w (zV hu (z8 (pv 1)) (DE.w z9) (fun _ _ => rfl))) zJ))) (zb _))))) (zK w8) yH))
noncomputable def z52 : Env' → Mx Out := (sSeq (z2y 1)
 (sRet (zR F_q23 (z5 (mVal 0) (z5 (z4F 1) (z5 (mVal 2) mNil))))))
noncomputable def F_q24 : List D → Mx D := mFn 3 3 z52
theorem z19 (T : Txt K mg t) : FnOk P w K mg base CX0 3 t.f_q24 t.fd_q24 ["_law_script", "_law_town", "_law_many"] (spD K EW0 F_q24) := by
 have G_q23 : FnOk P w K mg base CX0 2 t.f_q23 t.fd_q23 ["_law_script", "_law_k", "_law_many"] (spD K EW0 F_q23) := z7V T
 refine zX (m := z52) T.F_q24 z80 rfl rfl rfl fun cdv A outer s H E hr => ?_
 have hu := zm hr
 unfold z52
 exact (zB (z6E (z2m PySem.F.plainAttrs_list PySem.F.slot_list_append PySem.F.type_list_append wH (pv 1) (zW z1v pa_nil)))
   (zK (zQ (DE.w (zH (E := E0) G_q23 (fun _ _ z => z.elim) (hr.mono (by decide)) (by rfl) T.m_q23 T.k_q23 T.d_q23 zU (z4 (zA (pv 0)) (z4 (z71 (zz call_len_seq (by rfl) T.b_len Bt.b_len (zW (pv 1) pa_nil))) (z4 (zA (pv 2)) zE))))))))
noncomputable def b_q7 : Env' → Mx Out := (sRet (xu (zR F_q6 (z5 (mVal 0) mNil)) (zO (xR fun bs => bs.all id) (z5 (mP (yV (mIt (mBin fIx (mVar 0) (mC (.int 1)))) mYes (zR F_q4 (z5 (mVal 1) (z5 (mBin fIx (mVar 0) (mC (.int 0))) mNil))))) mNil))))
noncomputable def F_q7 : List D → Mx D := mFn 1 1 b_q7
theorem z95 (T : Txt K mg t) : FnOk P w K mg base CX0 4 t.f_q7 t.fd_q7 ["thing"] (spD K EW0 F_q7) := by
 have G_q4 : FnOk P w K mg base CX0 3 t.f_q4 t.fd_q4 ["thing", "many"] (spD K EW0 F_q4) := z9O T
 have G_q6 : FnOk P w K mg base CX0 3 t.f_q6 t.fd_q6 ["thing"] (spD K EW0 F_q6) := z91 T
 refine zX (m := b_q7) T.F_q7 z90 rfl rfl rfl fun cdv A outer s H E hr => ?_
 have hu := zm hr
 unfold b_q7
 exact (zK (zQ (DE.w (xC (DE.w (zH (E := E0) G_q6 (fun _ _ z => z.elim) (hr.mono (by decide)) (by rfl) T.m_q6 T.k_q6 T.d_q6 zU (z4 (zA (pv 0)) zE))) (xT (zM (z3O rfl) (by rfl) T.b_all Bt.b_all (zD (DE.w (DF.de (yW (N := ["thing"]) (sc := (z3 s_q7)) (N' := ["thing", "each"]) rfl rfl rfl (by decide +kernel) yL (u6 (DE.w (zV hu (z8 (pv 0)) (DE.w z9) (fun _ _ => rfl)))) (fun _ _ _ _ => ww) (fun _ _ _ _ => (zH (E := E0) G_q4 (fun _ _ z => z.elim) (hr.mono (by decide)) (by rfl) T.m_q4 T.k_q4 T.d_q4 zU (z4 (zA (pv 1)) (z4 (zV hu (z8 (pv 0)) (DE.w z9) (fun _ _ => rfl)) zE))))))) zJ)))))))
noncomputable def z5d : Env' → Mx Out := (sIf (z0r (mTru (zR F_q3 (z5 (mVal 0) (z5 (mVal 1) mNil))))) z1A sNil)
noncomputable def F_q10 : List D → Mx D := mFn 2 2 z5d
theorem z7m (T : Txt K mg t) : FnOk P w K mg base CX0 4 t.f_q10 t.fd_q10 ["places", "many"] (spD K EW0 F_q10) := by
 have G_q3 : FnOk P w K mg base CX0 3 t.f_q3 t.fd_q3 ["thing", "many"] (spD K EW0 F_q3) := z8t T
 refine zX (m := z5d) T.F_q10 z7c rfl rfl rfl fun cdv A outer s H E hr => ?_
 have hu := zm hr
 unfold z5d
 exact (zK (yx (ub (zt (DE.w (zH (E := E0) G_q3 (fun _ _ z => z.elim) (hr.mono (by decide)) (by rfl) T.m_q3 T.k_q3 T.d_q3 zU (z4 (zA (pv 0)) (z4 (zA (pv 1)) zE)))) (fun _ => rfl))) (zK w8) yH))
noncomputable def z4c : Env' → Mx Out := (sIf (z0r (mTru (zR F_q8 (z5 (mVal 0) (z5 (mVal 1) mNil))))) z1A sNil)
noncomputable def F_q11 : List D → Mx D := mFn 2 2 z4c
theorem z8L (T : Txt K mg t) : FnOk P w K mg base CX0 4 t.f_q11 t.fd_q11 ["row", "house"] (spD K EW0 F_q11) := by
 have G_q8 : FnOk P w K mg base CX0 3 t.f_q8 t.fd_q8 ["thing", "house"] (spD K EW0 F_q8) := z8l T
 refine zX (m := z4c) T.F_q11 z8V rfl rfl rfl fun cdv A outer s H E hr => ?_
 have hu := zm hr
 unfold z4c
 exact (zK (yx (ub (zt (DE.w (zH (E := E0) G_q8 (fun _ _ z => z.elim) (hr.mono (by decide)) (by rfl) T.m_q8 T.k_q8 T.d_q8 zU (z4 (zA (pv 0)) (z4 (zA (pv 1)) zE)))) (fun _ => rfl))) (zK w8) yH))
noncomputable def z4W (t : Adr) : Env' → Mx Out := (sSeq (sSet 3 (zR (F_q16 t) (z5 (mVal 0) (z5 (mVal 1) mNil))))
 (sSeq (sSet 4 (mP (xo (mVal 3) (zx (mBin (fEq false) (zO fLen (z5 (mVar 5) mNil)) (mVar 2))) (mVal 5))))
 (sRet (mIf (mTru (mVar 4)) (mBin fIx (mVar 3) (mBin fIx (mVar 4) (mC (.int 0)))) (mC .none)))))
noncomputable def F_q17 (t : Adr) : List D → Mx D := mFn 5 3 (z4W t)
theorem z8d (T : Txt K mg t) : FnOk P w K mg base CX0 4 t.f_q17 t.fd_q17 ["house", "places", "few"] (spD K EW0 (F_q17 t)) := by
 have G_q16 : FnOk P w K mg base CX0 3 t.f_q16 t.fd_q16 ["house", "places"] (spD K EW0 (F_q16 t)) := z7b T
 refine zX (m := (z4W t)) T.F_q17 sc_q17 rfl rfl rfl fun cdv A outer s H E hr => ?_
 have hu := zm hr
 unfold z4W
 exact (zB (zi (i := 3) sc_q17.nd rfl (by first | exact Or.inl rfl | exact Or.inr rfl) (zH (E := E0) G_q16 (fun _ _ z => z.elim) (hr.mono (by decide)) (by rfl) T.m_q16 T.k_q16 T.d_q16 zU (z4 (zA (pv 0)) (z4 (zA (pv 1)) zE))))
   (zB (z1y (i := 4) (N := ["house", "places", "few", "rows", "fitting"]) (sc := (z3 u0)) (N' := ["house", "places", "few", "rows", "fitting", "standing"]) rfl rfl rfl (by decide +kernel) sc_q17.nd rfl rfl (fun _ _ _ z => z) (zA (pv 3)) (fun _ _ _ _ => z28 (zg (yP hr.units) (DE.w (zM y8 (by rfl) T.b_len Bt.b_len (zD (z8 (pv 5)) zJ))) (z8 (pv 2)) (zb _))) (fun _ _ _ _ => (zA (pv 5))))
   (zK (zQ (z4k (zt (z8 (pv 4)) (fun _ => rfl)) (DE.w (zV hu (z8 (pv 3)) (DE.w (zV hu (z8 (pv 4)) (DE.w z9) (fun _ _ => rfl))) (fun _ _ => rfl))) (DE.w x3))))))
noncomputable def z4Z : Env' → Mx Out := (sRet (mBin fIx (mVar 2) (zR F_q24 (z5 (mVal 0) (z5 (mVal 1) (z5 (zO fLen (z5 (mVar 2) mNil)) mNil))))))
noncomputable def F_q25 : List D → Mx D := mFn 3 3 z4Z
theorem z8X (T : Txt K mg t) : FnOk P w K mg base CX0 4 t.f_q25 t.fd_q25 ["_law_script", "_law_town", "_law_some"] (spD K EW0 F_q25) := by
 have G_q24 : FnOk P w K mg base CX0 3 t.f_q24 t.fd_q24 ["_law_script", "_law_town", "_law_many"] (spD K EW0 F_q24) := z19 T
 refine zX (m := z4Z) T.F_q25 z8c rfl rfl rfl fun cdv A outer s H E hr => ?_
 have hu := zm hr
 unfold z4Z
 exact (zK (zQ (DE.w (zV hu (z8 (pv 2)) (DE.w (zH (E := E0) G_q24 (fun _ _ z => z.elim) (hr.mono (by decide)) (by rfl) T.m_q24 T.k_q24 T.d_q24 zU (z4 (zA (pv 0)) (z4 (zA (pv 1)) (z4 (zM y8 (by rfl) T.b_len Bt.b_len (zD (z8 (pv 2)) zJ)) zE))))) (fun _ _ => rfl)))))
noncomputable def z5M : Env' → Mx Out := (sSeq (sSet 3 (zR F_q24 (z5 (mVal 0) (z5 (mVal 1) (z5 (mC (.int 5)) mNil)))))
 (sSeq (sIf (zx (mBin (fEq false) (mVar 3) (mC (.int 0)))) (sRet (zO x0 (z5 (mP (yV (mRng yy (z5 (mVar 2) mNil)) mYes (mBin fMod (mBin fAdd (mVar 6) (mC (.int 1))) (mVar 2)))) mNil))) sNil)
 (sSeq (sIf (zx (mBin (fEq false) (mVar 3) (mC (.int 1)))) (sSeq (sSet 4 (zR F_q24 (z5 (mVal 0) (z5 (mVal 1) (z5 (mVal 2) mNil)))))
 (sRet (zO x0 (z5 (mP (yV (mRng yy (z5 (mVar 2) mNil)) mYes (mIf (zx (mBin (fEq false) (mVar 6) (mVar 4))) (mBin fMod (mBin fAdd (mVar 6) (mC (.int 1))) (mVar 2)) (mVal 6)))) mNil)))) sNil)
 (sSeq (sSet 5 (mBin fAdd (mC (.int 1)) (zR F_q24 (z5 (mVal 0) (z5 (mVal 1) (z5 (mVal 2) mNil))))))
 (sRet (zO x0 (z5 (mP (yV (mRng yy (z5 (mVar 2) mNil)) mYes (zR F_q24 (z5 (mVal 0) (z5 (mVal 1) (z5 (mIf (zx (mBin (fEq false) (mVar 3) (mC (.int 2)))) (mVal 5) (mVal 2)) mNil)))))) mNil)))))))
noncomputable def F_q26 : List D → Mx D := mFn 6 3 z5M
theorem z7P (T : Txt K mg t) : FnOk P w K mg base CX0 4 t.f_q26 t.fd_q26 ["_law_script", "_law_town", "_law_many"] (spD K EW0 F_q26) := by
 have G_q24 : FnOk P w K mg base CX0 3 t.f_q24 t.fd_q24 ["_law_script", "_law_town", "_law_many"] (spD K EW0 F_q24) := z19 T
 refine zX (m := z5M) T.F_q26 sc_q26 rfl rfl rfl fun cdv A outer s H E hr => ?_
 have hu := zm hr
 unfold z5M
 exact (zB (zi (i := 3) sc_q26.nd rfl (by first | exact Or.inl rfl | exact Or.inr rfl) (zH (E := E0) G_q24 (fun _ _ z => z.elim) (hr.mono (by decide)) (by rfl) T.m_q24 T.k_q24 T.d_q24 zU (z4 (zA (pv 0)) (z4 (zA (pv 1)) (z4 z9 zE)))))
   (zB (yx (zg (yP hr.units) (z8 (pv 3)) (DE.w z9) (zb _)) (zK (zQ (DE.w (yA yQ (by rfl) T.b_tuple Bt.b_tuple (zD (DE.w (DF.de (yW (N := ["_law_script", "_law_town", "_law_many", "_law_way", "_law_gone", "_law_few"]) (sc := (z3 xh)) (N' := ["_law_script", "_law_town", "_law_many", "_law_way", "_law_gone", "_law_few", "_law_room"]) rfl rfl rfl (by decide +kernel) yL (yY (by rfl) T.b_range (zD (z8 (pv 2)) zJ)) (fun _ _ _ _ => ww) (fun _ _ _ _ => (za xg (DE.w (za zp (z8 (pv 6)) (DE.w z9))) (z8 (pv 2))))))) zJ))))) yH)
   (zB (yx (zg (yP hr.units) (z8 (pv 3)) (DE.w z9) (zb _)) (zB (zi (i := 4) sc_q26.nd rfl (by first | exact Or.inl rfl | exact Or.inr rfl) (zH (E := E0) G_q24 (fun _ _ z => z.elim) (hr.mono (by decide)) (by rfl) T.m_q24 T.k_q24 T.d_q24 zU (z4 (zA (pv 0)) (z4 (zA (pv 1)) (z4 (zA (pv 2)) zE)))))
   (zK (zQ (DE.w (yA yQ (by rfl) T.b_tuple Bt.b_tuple (zD (DE.w (DF.de (yW (N := ["_law_script", "_law_town", "_law_many", "_law_way", "_law_gone", "_law_few"]) (sc := (z3 xh)) (N' := ["_law_script", "_law_town", "_law_many", "_law_way", "_law_gone", "_law_few", "_law_room"]) rfl rfl rfl (by decide +kernel) yL (yY (by rfl) T.b_range (zD (z8 (pv 2)) zJ)) (fun _ _ _ _ => ww) (fun _ _ _ _ => (z7y (zg (yP hr.units) (z8 (pv 6)) (z8 (pv 4)) (zb _)) (za xg (DE.w (za zp (z8 (pv 6)) (DE.w z9))) (z8 (pv 2))) (zA (pv 6))))))) zJ)))))) yH)
   (zB (zi (i := 5) sc_q26.nd rfl (by first | exact Or.inl rfl | exact Or.inr rfl) (za zp (DE.w z9) (DE.w (zH (E := E0) G_q24 (fun _ _ z => z.elim) (hr.mono (by decide)) (by rfl) T.m_q24 T.k_q24 T.d_q24 zU (z4 (zA (pv 0)) (z4 (zA (pv 1)) (z4 (zA (pv 2)) zE)))))))
   (zK (zQ (DE.w (yA yQ (by rfl) T.b_tuple Bt.b_tuple (zD (DE.w (DF.de (yW (N := ["_law_script", "_law_town", "_law_many", "_law_way", "_law_gone", "_law_few"]) (sc := (z3 xh)) (N' := ["_law_script", "_law_town", "_law_many", "_law_way", "_law_gone", "_law_few", "_law_room"]) rfl rfl rfl (by decide +kernel) yL (yY (by rfl) T.b_range (zD (z8 (pv 2)) zJ)) (fun _ _ _ _ => ww) (fun _ _ _ _ => (zH (E := E0) G_q24 (fun _ _ z => z.elim) (hr.mono (by decide)) (by rfl) T.m_q24 T.k_q24 T.d_q24 zU (z4 (zA (pv 0)) (z4 (zA (pv 1)) (z4 (z7y (zg (yP hr.units) (z8 (pv 3)) (DE.w z9) (zb _)) (zA (pv 5)) (zA (pv 2))) zE)))))))) zJ)))))))))
noncomputable def z4V : Env' → Mx Out := (sSeq (sIf (zx (mBin (fEq false) (zR F_q24 (z5 (mVal 0) (z5 (mVal 1) (z5 (mC (.int 3)) mNil)))) (mC (.int 0)))) (sRet (zO (fRg1 PyData.tuple) (z5 (mVar 2) mNil))) sNil)
 (sSeq (sSet 3 (mP (yV (mRng yy (z5 (mVar 2) mNil)) (zx (mBin (fEq false) (zR F_q24 (z5 (mVal 0) (z5 (mVal 1) (z5 (mC (.int 2)) mNil)))) (mC (.int 0)))) (mVal 4))))
 (sRet (mIf (zx (mBin (fEq true) (mVar 3) (mP (mSeq PyData.list mNil)))) (zO x0 (z5 (mVar 3) mNil)) (mP (mSeq PyData.tuple (z5 (zR F_q24 (z5 (mVal 0) (z5 (mVal 1) (z5 (mVal 2) mNil)))) mNil)))))))
noncomputable def F_q28 : List D → Mx D := mFn 4 3 z4V
theorem z8R (T : Txt K mg t) : FnOk P w K mg base CX0 4 t.f_q28 t.fd_q28 ["_law_script", "_law_town", "_law_many"] (spD K EW0 F_q28) := by
 have G_q24 : FnOk P w K mg base CX0 3 t.f_q24 t.fd_q24 ["_law_script", "_law_town", "_law_many"] (spD K EW0 F_q24) := z19 T
 refine zX (m := z4V) T.F_q28 sc_q28 rfl rfl rfl fun cdv A outer s H E hr => ?_
 have hu := zm hr
 unfold z4V
 exact (zB (yx (zg (yP hr.units) (DE.w (zH (E := E0) G_q24 (fun _ _ z => z.elim) (hr.mono (by decide)) (by rfl) T.m_q24 T.k_q24 T.d_q24 zU (z4 (zA (pv 0)) (z4 (zA (pv 1)) (z4 z9 zE))))) (DE.w z9) (zb _)) (zK (zQ (DE.w (z0h (xX (z1k rfl) (by rfl) T.b_tuple Bt.b_tuple (zW (z6I (by rfl) T.b_range (zD (z8 (pv 2)) zJ)) pa_nil)))))) yH)
   (zB (z1S (i := 3) (N := ["_law_script", "_law_town", "_law_many", "_law_some"]) (sc := (z3 wq)) (N' := ["_law_script", "_law_town", "_law_many", "_law_some", "_law_place"]) rfl rfl rfl (by decide +kernel) sc_q28.nd rfl rfl (fun _ _ _ z => z) (yY (by rfl) T.b_range (zD (z8 (pv 2)) zJ)) (fun _ _ _ _ => z28 (zg (yP hr.units) (DE.w (zH (E := E0) G_q24 (fun _ _ z => z.elim) (hr.mono (by decide)) (by rfl) T.m_q24 T.k_q24 T.d_q24 zU (z4 (zA (pv 0)) (z4 (zA (pv 1)) (z4 z9 zE))))) (DE.w z9) (zb _))) (fun _ _ _ _ => (zA (pv 4))))
   (zK (zQ (z4k (zg (z2E hr.units) (z8 (pv 3)) (DE.w (DF.de (wu zE))) (zb _)) (DE.w (yA yQ (by rfl) T.b_tuple Bt.b_tuple (zD (z8 (pv 3)) zJ))) (DE.w (yS (z4 (zH (E := E0) G_q24 (fun _ _ z => z.elim) (hr.mono (by decide)) (by rfl) T.m_q24 T.k_q24 T.d_q24 zU (z4 (zA (pv 0)) (z4 (zA (pv 1)) (z4 (zA (pv 2)) zE)))) zE))))))))
noncomputable def b_q9 : Env' → Mx Out := (sIf (z0r (mTru (zR F_q7 (z5 (mVal 0) mNil)))) z1A sNil)
noncomputable def F_q9 : List D → Mx D := mFn 1 1 b_q9
theorem z8k (T : Txt K mg t) : FnOk P w K mg base CX0 5 t.f_q9 t.fd_q9 ["house"] (spD K EW0 F_q9) := by
 have G_q7 : FnOk P w K mg base CX0 4 t.f_q7 t.fd_q7 ["thing"] (spD K EW0 F_q7) := z95 T
 refine zX (m := b_q9) T.F_q9 z9Q rfl rfl rfl fun cdv A outer s H E hr => ?_
 have hu := zm hr
 unfold b_q9
 exact (zK (yx (ub (zt (DE.w (zH (E := E0) G_q7 (fun _ _ z => z.elim) (hr.mono (by decide)) (by rfl) T.m_q7 T.k_q7 T.d_q7 zU (z4 (zA (pv 0)) zE))) (fun _ => rfl))) (zK w8) yH))
noncomputable def z51 : Env' → Mx Out := (sSeq (sSet 4 (mBin fAdd (mC (.int 1)) (zR F_q24 (z5 (mVal 0) (z5 (mVal 1) (z5 (mC (.int 3)) mNil))))))
 (sSeq (sSet 5 (mBin fAdd (mVar 2) (zR F_q24 (z5 (mVal 0) (z5 (mVal 1) (z5 (mBin fAdd (mBin fSub (mVar 3) (mVar 2)) (mC (.int 1))) mNil))))))
 (sRet (mP (mSeq PyData.tuple (z5 (mVal 5) (z5 (zO x0 (z5 (mP (yV (mRng yy (z5 (mVar 4) mNil)) mYes (zR F_q26 (z5 (mVal 0) (z5 (mVal 1) (z5 (mVal 5) mNil)))))) mNil)) mNil)))))))
noncomputable def F_q27 : List D → Mx D := mFn 6 4 z51
theorem z7D (T : Txt K mg t) : FnOk P w K mg base CX0 5 t.f_q27 t.fd_q27 ["_law_script", "_law_town", "_law_low", "_law_most"] (spD K EW0 F_q27) := by
 have G_q24 : FnOk P w K mg base CX0 3 t.f_q24 t.fd_q24 ["_law_script", "_law_town", "_law_many"] (spD K EW0 F_q24) := z19 T
 have G_q26 : FnOk P w K mg base CX0 4 t.f_q26 t.fd_q26 ["_law_script", "_law_town", "_law_many"] (spD K EW0 F_q26) := z7P T
 refine zX (m := z51) T.F_q27 sc_q27 rfl rfl rfl fun cdv A outer s H E hr => ?_
 have hu := zm hr
 unfold z51
 exact (zB (zi (i := 4) sc_q27.nd rfl (by first | exact Or.inl rfl | exact Or.inr rfl) (za zp (DE.w z9) (DE.w (zH (E := E0) G_q24 (fun _ _ z => z.elim) (hr.mono (by decide)) (by rfl) T.m_q24 T.k_q24 T.d_q24 zU (z4 (zA (pv 0)) (z4 (zA (pv 1)) (z4 z9 zE)))))))
   (zB (zi (i := 5) sc_q27.nd rfl (by first | exact Or.inl rfl | exact Or.inr rfl) (za zp (z8 (pv 2)) (DE.w (zH (E := E0) G_q24 (fun _ _ z => z.elim) (hr.mono (by decide)) (by rfl) T.m_q24 T.k_q24 T.d_q24 zU (z4 (zA (pv 0)) (z4 (zA (pv 1)) (z4 (za zp (DE.w (za wx (z8 (pv 3)) (z8 (pv 2)))) (DE.w z9)) zE)))))))
   (zK (zQ (DE.w (yS (z4 (zA (pv 5)) (z4 (yA yQ (by rfl) T.b_tuple Bt.b_tuple (zD (DE.w (DF.de (yW (N := ["_law_script", "_law_town", "_law_low", "_law_most", "_law_times", "_law_many"]) (sc := (z3 wK)) (N' := ["_law_script", "_law_town", "_law_low", "_law_most", "_law_times", "_law_many", "_law_k"]) rfl rfl rfl (by decide +kernel) yL (yY (by rfl) T.b_range (zD (z8 (pv 4)) zJ)) (fun _ _ _ _ => ww) (fun _ _ _ _ => (zH (E := E0) G_q26 (fun _ _ z => z.elim) (hr.mono (by decide)) (by rfl) T.m_q26 T.k_q26 T.d_q26 zU (z4 (zA (pv 0)) (z4 (zA (pv 1)) (z4 (zA (pv 5)) zE)))))))) zJ)) zE))))))))
noncomputable def z59 : Env' → Mx Out := (sSeq (sSet 3 (zR F_q25 (z5 (mVal 0) (z5 (mVal 1) (z5 (mP (mSeq PyData.list (z5 (mC (.int 1)) (z5 (mC (.int 2)) (z5 (mC (.int 4)) (z5 (mC (.int 10)) (z5 (mC (.int 100)) mNil))))))) mNil)))))
 (sRet (zO x0 (z5 (mP (yV (mIt (mBin fIx (mVar 2) (mC (.int 1)))) mYes (zR F_q24 (z5 (mVal 0) (z5 (mVal 1) (z5 (mVal 3) mNil)))))) mNil))))
noncomputable def F_q29 : List D → Mx D := mFn 4 3 z59
theorem z7T (T : Txt K mg t) : FnOk P w K mg base CX0 5 t.f_q29 t.fd_q29 ["_law_script", "_law_town", "_law_house_here"] (spD K EW0 F_q29) := by
 have G_q25 : FnOk P w K mg base CX0 4 t.f_q25 t.fd_q25 ["_law_script", "_law_town", "_law_some"] (spD K EW0 F_q25) := z8X T
 have G_q24 : FnOk P w K mg base CX0 3 t.f_q24 t.fd_q24 ["_law_script", "_law_town", "_law_many"] (spD K EW0 F_q24) := z19 T
 refine zX (m := z59) T.F_q29 sc_q29 rfl rfl rfl fun cdv A outer s H E hr => ?_
 have hu := zm hr
 unfold z59
 exact (zB (zi (i := 3) sc_q29.nd rfl (by first | exact Or.inl rfl | exact Or.inr rfl) (zH (E := E0) G_q25 (fun _ _ z => z.elim) (hr.mono (by decide)) (by rfl) T.m_q25 T.k_q25 T.d_q25 zU (z4 (zA (pv 0)) (z4 (zA (pv 1)) (z4 (DF.de (wu (z4 z9 (z4 z9 (z4 z9 (z4 z9 (z4 z9 zE))))))) zE)))))
   (zK (zQ (DE.w (yA yQ (by rfl) T.b_tuple Bt.b_tuple (zD (DE.w (DF.de (yW (N := ["_law_script", "_law_town", "_law_house_here", "_law_wide"]) (sc := (z3 wy)) (N' := ["_law_script", "_law_town", "_law_house_here", "_law_wide", "_law_door_here"]) rfl rfl rfl (by decide +kernel) yL (u6 (DE.w (zV hu (z8 (pv 2)) (DE.w z9) (fun _ _ => rfl)))) (fun _ _ _ _ => ww) (fun _ _ _ _ => (zH (E := E0) G_q24 (fun _ _ z => z.elim) (hr.mono (by decide)) (by rfl) T.m_q24 T.k_q24 T.d_q24 zU (z4 (zA (pv 0)) (z4 (zA (pv 1)) (z4 (zA (pv 3)) zE)))))))) zJ))))))
noncomputable def z4g : Env' → Mx Out := (sSeq (uv (zR F_q9 (z5 (mVal 0) mNil)))
 (uv (zR F_q10 (z5 (mVal 1) (z5 (mBin fIx (mVar 0) (mC (.int 0))) mNil)))))
noncomputable def F_q12 : List D → Mx D := mFn 2 2 z4g
theorem z34 (T : Txt K mg t) : FnOk P w K mg base CX0 6 t.f_q12 t.fd_q12 ["house", "places"] (spD K EW0 F_q12) := by
 have G_q9 : FnOk P w K mg base CX0 5 t.f_q9 t.fd_q9 ["house"] (spD K EW0 F_q9) := z8k T
 have G_q10 : FnOk P w K mg base CX0 4 t.f_q10 t.fd_q10 ["places", "many"] (spD K EW0 F_q10) := z7m T
 refine zX (m := z4g) T.F_q12 z8B rfl rfl rfl fun cdv A outer s H E hr => ?_
 have hu := zm hr
 unfold z4g
 exact (zB (xD (zH (E := E0) G_q9 (fun _ _ z => z.elim) (hr.mono (by decide)) (by rfl) T.m_q9 T.k_q9 T.d_q9 zU (z4 (zA (pv 0)) zE)))
   (zK (xD (zH (E := E0) G_q10 (fun _ _ z => z.elim) (hr.mono (by decide)) (by rfl) T.m_q10 T.k_q10 T.d_q10 zU (z4 (zA (pv 1)) (z4 (zV hu (z8 (pv 0)) (DE.w z9) (fun _ _ => rfl)) zE))))))
noncomputable def z5Y : Env' → Mx Out := (sSeq (uv (zR F_q12 (z5 (mVal 0) (z5 (mVal 1) mNil))))
 (sSeq (uv (zR F_q11 (z5 (mVal 2) (z5 (mVal 0) mNil))))
 (sRet (zR F_q14 (z5 (mVal 0) (z5 (mVal 1) (z5 (mVal 2) mNil)))))))
noncomputable def F_led : List D → Mx D := mFn 3 3 z5Y
theorem z81 (T : Txt K mg t) : FnOk P w K mg base CX0 7 t.f_led t.fd_led ["house", "places", "row"] (spD K EW0 F_led) := by
 have G_q12 : FnOk P w K mg base CX0 6 t.f_q12 t.fd_q12 ["house", "places"] (spD K EW0 F_q12) := z34 T
 have G_q11 : FnOk P w K mg base CX0 4 t.f_q11 t.fd_q11 ["row", "house"] (spD K EW0 F_q11) := z8L T
 have G_q14 : FnOk P w K mg base CX0 2 t.f_q14 t.fd_q14 ["house", "places", "row"] (spD K EW0 F_q14) := z82 T
 refine zX (m := z5Y) T.F_led z7h rfl rfl rfl fun cdv A outer s H E hr => ?_
 have hu := zm hr
 unfold z5Y
 exact (zB (xD (zH (E := E0) G_q12 (fun _ _ z => z.elim) (hr.mono (by decide)) (by rfl) T.m_q12 T.k_q12 T.d_q12 zU (z4 (zA (pv 0)) (z4 (zA (pv 1)) zE))))
   (zB (xD (zH (E := E0) G_q11 (fun _ _ z => z.elim) (hr.mono (by decide)) (by rfl) T.m_q11 T.k_q11 T.d_q11 zU (z4 (zA (pv 2)) (z4 (zA (pv 0)) zE))))
   (zK (zQ (DE.w (zH (E := E0) G_q14 (fun _ _ z => z.elim) (hr.mono (by decide)) (by rfl) T.m_q14 T.k_q14 T.d_q14 zU (z4 (zA (pv 0)) (z4 (zA (pv 1)) (z4 (zA (pv 2)) zE)))))))))
noncomputable def z5E (t : Adr) : Env' → Mx Out := (sSeq (uv (zR F_q12 (z5 (mVal 0) (z5 (mVal 1) mNil))))
 (sRet (zR (F_q17 t) (z5 (mVal 0) (z5 (mVal 1) (z5 (mC (.int 1)) mNil))))))
noncomputable def F_q18 (t : Adr) : List D → Mx D := mFn 2 2 (z5E t)
theorem z7t (T : Txt K mg t) : FnOk P w K mg base CX0 7 t.f_q18 t.fd_q18 ["house", "places"] (spD K EW0 (F_q18 t)) := by
 have G_q12 : FnOk P w K mg base CX0 6 t.f_q12 t.fd_q12 ["house", "places"] (spD K EW0 F_q12) := z34 T
 have G_q17 : FnOk P w K mg base CX0 4 t.f_q17 t.fd_q17 ["house", "places", "few"] (spD K EW0 (F_q17 t)) := z8d T
 refine zX (m := (z5E t)) T.F_q18 z7G rfl rfl rfl fun cdv A outer s H E hr => ?_
 have hu := zm hr
 unfold z5E
 exact (zB (xD (zH (E := E0) G_q12 (fun _ _ z => z.elim) (hr.mono (by decide)) (by rfl) T.m_q12 T.k_q12 T.d_q12 zU (z4 (zA (pv 0)) (z4 (zA (pv 1)) zE))))
   (zK (zQ (DE.w (zH (E := E0) G_q17 (fun _ _ z => z.elim) (hr.mono (by decide)) (by rfl) T.m_q17 T.k_q17 T.d_q17 zU (z4 (zA (pv 0)) (z4 (zA (pv 1)) (z4 z9 zE))))))))
noncomputable def z5K : Env' → Mx Out := (sSeq (uv (zR F_q12 (z5 (mVal 0) (z5 (mVal 2) mNil))))
 (sSeq (uv (zR F_q19 (z5 (mVal 1) (z5 (mVal 0) mNil))))
 (sSeq (sOwn 3 (fun _ => pure (.dict [])))
 (sSeq (sOwn 4 (mSeq PyData.list (z5 (mP (mSeq PyData.tuple (z5 (mC (.int 0)) (z5 (mC (.int 0)) (z5 (mP (mSeq PyData.tuple mNil)) (z5 (mVal 2) mNil)))))) mNil)))
 (sSeq (xn 100000 (mTru (mVar 4)) (sSeq (sSet 5 (zO z0Z (z5 (mVar 4) mNil)))
 (sSeq (z07 4 (mVal 5))
 (sSeq (sIf (zx (mBin (fEq false) (zO fLen (z5 (mBin fIx (mVar 5) (mC (.int 3))) mNil)) (mC (.int 1)))) (sRet (mP (mSeq PyData.tuple (z5 (mBin fIx (mVar 5) (mC (.int 0))) (z5 (mBin fIx (mVar 5) (mC (.int 2))) mNil))))) sNil)
 (sIf (zx (mBin (fInE true) (mBin fIx (mVar 5) (mC (.int 3))) (mVar 3))) (sSeq (xt 3 (mBin fIx (mVar 5) (mC (.int 3))) (mC (.bool true)))
 (sExt 4 (mP (yV (mIt (zR F_q20 (z5 (mVal 0) (z5 (mVal 1) (z5 (mVal 5) mNil))))) (zx (mBin (fInE true) (mBin fIx (mVar 6) (mC (.int 3))) (mVar 3))) (mVal 6))))) sNil)))))
 (sRet (mC .none)))))))
noncomputable def F_q21 : List D → Mx D := mFn 6 3 z5K
theorem z7Y (T : Txt K mg t) : FnOk P w K mg base CX0 7 t.f_q21 t.fd_q21 ["house", "costs", "places"] (spD K EW0 F_q21) := by
 have G_q12 : FnOk P w K mg base CX0 6 t.f_q12 t.fd_q12 ["house", "places"] (spD K EW0 F_q12) := z34 T
 have G_q19 : FnOk P w K mg base CX0 3 t.f_q19 t.fd_q19 ["costs", "house"] (spD K EW0 F_q19) := z7k T
 have G_q20 : FnOk P w K mg base CX0 2 t.f_q20 t.fd_q20 ["house", "costs", "way"] (spD K EW0 F_q20) := z7l T
 refine zX (m := z5K) T.F_q21 sc_q21 rfl rfl rfl fun cdv A outer s H E hr => ?_
 have hu := zm hr
 unfold z5K
 exact (zB (xD (zH (E := E0) G_q12 (fun _ _ z => z.elim) (hr.mono (by decide)) (by rfl) T.m_q12 T.k_q12 T.d_q12 zU (z4 (zA (pv 0)) (z4 (zA (pv 2)) zE))))
   (zB (xD (zH (E := E0) G_q19 (fun _ _ z => z.elim) (hr.mono (by decide)) (by rfl) T.m_q19 T.k_q19 T.d_q19 zU (z4 (zA (pv 1)) (z4 (zA (pv 0)) zE))))
   (zB (uf (i := 3) sc_q21.nd rfl (by first | exact Or.inl rfl | exact Or.inr rfl) z8r)
   (zB (uf (i := 4) sc_q21.nd rfl (by first | exact Or.inl rfl | exact Or.inr rfl) (wu (z4 (yS (z4 z9 (z4 z9 (z4 (yS zE) (z4 (zA (pv 2)) zE))))) zE)))
   (zB (z04 (k := 100000) PassesOwn.never (zt (z8 (pv 4)) (fun _ => rfl)) (zB (zi (i := 5) sc_q21.nd rfl (by first | exact Or.inl rfl | exact Or.inr rfl) (zM (z1f rfl hr.units) (by rfl) T.b_min Bt.b_min (zD (z8 (pv 4)) zJ)))
   (zB (z43 (z2m PySem.F.plainAttrs_list PySem.F.slot_list_remove PySem.F.type_list_remove (z3u hr.units) (pv 4) (zW (zA (pv 5)) pa_nil)))
   (zB (yx (zg (yP hr.units) (DE.w (zM y8 (by rfl) T.b_len Bt.b_len (zD (DE.w (zV hu (z8 (pv 5)) (DE.w z9) (fun _ _ => rfl))) zJ))) (DE.w z9) (zb _)) (zK (zQ (DE.w (yS (z4 (zV hu (z8 (pv 5)) (DE.w z9) (fun _ _ => rfl)) (z4 (zV hu (z8 (pv 5)) (DE.w z9) (fun _ _ => rfl)) zE)))))) yH)
   (zK (yx (zg (z0m hr.units) (DE.w (zV hu (z8 (pv 5)) (DE.w z9) (fun _ _ => rfl))) (z8 (pv 3)) (by rfl)) (zB (z1I hu (pv 3) (zV hu (z8 (pv 5)) (DE.w z9) (fun _ _ => rfl)) z1l rfl)
   (zK (z8b (z2m PySem.F.plainAttrs_list PySem.F.slot_list_extend PySem.F.type_list_extend z3r (pv 4) (zW (DF.de (yW (N := ["house", "costs", "places", "done", "waiting", "way"]) (sc := (z3 wR)) (N' := ["house", "costs", "places", "done", "waiting", "way", "further"]) rfl rfl rfl (by decide +kernel) (fun _ _ _ z => z) (u6 (DE.w (zH (E := E0) G_q20 (fun _ _ z => z.elim) (hr.mono (by decide)) (by rfl) T.m_q20 T.k_q20 T.d_q20 zU (z4 (zA (pv 0)) (z4 (zA (pv 1)) (z4 (zA (pv 5)) zE)))))) (fun _ _ _ _ => z28 (zg (z0m hr.units) (DE.w (zV hu (z8 (pv 6)) (DE.w z9) (fun _ _ => rfl))) (z8 (pv 3)) (by rfl))) (fun _ _ _ _ => (zA (pv 6))))) pa_nil))))) yH))))))
   (zK (zQ (DE.w x3))))))))
noncomputable def z2V (t : Adr) : Env' → Mx Out := (sSeq (sSet 2 (zR F_q27 (z5 (mVal 0) (z5 (mVal 1) (z5 (mC (.int 1)) (z5 (mC (.int 6)) mNil))))))
 (sSeq (sSet 3 (zR F_q29 (z5 (mVal 0) (z5 (mVal 1) (z5 (mVal 2) mNil)))))
 (sSeq (sSet 4 (zR F_q28 (z5 (mVal 0) (z5 (mVal 1) (z5 (mBin fIx (mVar 2) (mC (.int 0))) mNil)))))
 (sSeq (sSet 5 (zR F_q21 (z5 (mVal 2) (z5 (mVal 3) (z5 (mVal 4) mNil)))))
 (sSeq (sSet 6 (zR F_q31 (z5 (mVal 2) (z5 (mVal 3) (z5 (mVal 4) mNil)))))
 (sSeq (sSet 7 (mP (xo (mVal 6) (zx (mBin (fEq false) (zO fLen (z5 (mVar 8) mNil)) (mC (.int 1)))) (mBin fIx (mVar 6) (mVar 8)))))
 (sSeq (sIf (zx (mBin (fIs false) (mVar 5) (mC .none))) (sRet (xu (mBin (fEq false) (mVar 7) (mP (mSeq PyData.list mNil))) (mBin (fIs false) (zR (F_q18 t) (z5 (mVal 2) (z5 (mVal 4) mNil))) (mC .none)))) sNil)
 (sSeq (sIf (mOrT (zx (mBin (fEq false) (mVar 7) (mP (mSeq PyData.list mNil)))) (zx (mBin (fEq true) (mVar 5) (mP (mSeq PyData.tuple (z5 (mBin fIx (zO z0Z (z5 (mVar 7) mNil)) (mC (.int 0))) (z5 (mBin fIx (zO z0Z (z5 (mVar 7) mNil)) (mC (.int 2))) mNil))))))) (sRet (mC (.bool false))) sNil)
 (sRet (xu (mBin (fEq false) (zO fLen (z5 (zR F_led (z5 (mVal 2) (z5 (mVal 4) (z5 (mBin fIx (mVar 5) (mC (.int 1))) mNil)))) mNil)) (mC (.int 1))) (mBin (fEq false) (mBin fIx (mVar 5) (mC (.int 0))) (zO fSum (z5 (mP (yV (mIt (mBin fIx (mVar 5) (mC (.int 1)))) mYes (mBin fIx (mVar 3) (mVar 8)))) mNil)))))))))))))
theorem z7X (T : Txt K mg t) (tells : z6O 8 (z2V t)) : FnOk P w K mg base CX0 8 t.f_law t.fd_law ["_law_script"] (z3U K) := by
 have G_q27 : FnOk P w K mg base CX0 5 t.f_q27 t.fd_q27 ["_law_script", "_law_town", "_law_low", "_law_most"] (spD K EW0 F_q27) := z7D T
 have G_q29 : FnOk P w K mg base CX0 5 t.f_q29 t.fd_q29 ["_law_script", "_law_town", "_law_house_here"] (spD K EW0 F_q29) := z7T T
 have G_q28 : FnOk P w K mg base CX0 4 t.f_q28 t.fd_q28 ["_law_script", "_law_town", "_law_many"] (spD K EW0 F_q28) := z8R T
 have G_q21 : FnOk P w K mg base CX0 7 t.f_q21 t.fd_q21 ["house", "costs", "places"] (spD K EW0 F_q21) := z7Y T
 have G_q31 : FnOk P w K mg base CX0 2 t.f_q31 t.fd_q31 ["_law_house_here", "_law_costs_here", "_law_places_here"] (spD K EW0 F_q31) := z8H T
 have G_q18 : FnOk P w K mg base CX0 7 t.f_q18 t.fd_q18 ["house", "places"] (spD K EW0 (F_q18 t)) := z7t T
 have G_led : FnOk P w K mg base CX0 7 t.f_led t.fd_led ["house", "places", "row"] (spD K EW0 F_led) := z81 T
 refine z8D (m := z2V t) T.F_law sc_law rfl (by decide) rfl (fun cdv A outer s H E => ?_) (fun cdv A outer s H E hr => ?_) tells
 ·exact z1o (i := 1) sc_law.nd rfl (by first | exact Or.inl rfl | exact Or.inr rfl) (z3E pa_nil)
 ·have hu := zm hr
  unfold z2V
  exact (zB (zi (i := 2) sc_law.nd rfl (by first | exact Or.inl rfl | exact Or.inr rfl) (zH (E := E0) G_q27 (fun _ _ z => z.elim) (hr.mono (by decide)) (by rfl) T.m_q27 T.k_q27 T.d_q27 zU (z4 (zA (pv 0)) (z4 (zA (pv 1)) (z4 z9 (z4 z9 zE))))))
   (zB (zi (i := 3) sc_law.nd rfl (by first | exact Or.inl rfl | exact Or.inr rfl) (zH (E := E0) G_q29 (fun _ _ z => z.elim) (hr.mono (by decide)) (by rfl) T.m_q29 T.k_q29 T.d_q29 zU (z4 (zA (pv 0)) (z4 (zA (pv 1)) (z4 (zA (pv 2)) zE)))))
   (zB (zi (i := 4) sc_law.nd rfl (by first | exact Or.inl rfl | exact Or.inr rfl) (zH (E := E0) G_q28 (fun _ _ z => z.elim) (hr.mono (by decide)) (by rfl) T.m_q28 T.k_q28 T.d_q28 zU (z4 (zA (pv 0)) (z4 (zA (pv 1)) (z4 (zV hu (z8 (pv 2)) (DE.w z9) (fun _ _ => rfl)) zE)))))
   (zB (zi (i := 5) sc_law.nd rfl (by first | exact Or.inl rfl | exact Or.inr rfl) (zH (E := E0) G_q21 (fun _ _ z => z.elim) (hr.mono (by decide)) (by rfl) T.m_q21 T.k_q21 T.d_q21 zU (z4 (zA (pv 2)) (z4 (zA (pv 3)) (z4 (zA (pv 4)) zE)))))
   (zB (zi (i := 6) sc_law.nd rfl (by first | exact Or.inl rfl | exact Or.inr rfl) (zH (E := E0) G_q31 (fun _ _ z => z.elim) (hr.mono (by decide)) (by rfl) T.m_q31 T.k_q31 T.d_q31 zU (z4 (zA (pv 2)) (z4 (zA (pv 3)) (z4 (zA (pv 4)) zE)))))
   (zB (z1y (i := 7) (N := ["_law_script", "_law_town", "_law_house_here", "_law_costs_here", "_law_places_here", "_law_made", "_law_best_here", "_law_some"]) (sc := (z3 xI)) (N' := ["_law_script", "_law_town", "_law_house_here", "_law_costs_here", "_law_places_here", "_law_made", "_law_best_here", "_law_some", "_law_here"]) rfl rfl rfl (by decide +kernel) sc_law.nd rfl rfl (fun _ _ _ z => z) (zA (pv 6)) (fun _ _ _ _ => z28 (zg (yP hr.units) (DE.w (zM y8 (by rfl) T.b_len Bt.b_len (zD (z8 (pv 8)) zJ))) (DE.w z9) (zb _))) (fun _ _ _ _ => (zV hu (z8 (pv 6)) (z8 (pv 8)) (fun _ _ => rfl))))
   (zB (yx (zg z5x (z8 (pv 5)) (DE.w x3) (zb _)) (zK (zQ (DE.w (xC (DE.w (xp (yP hr.units) (z8 (pv 7)) (DE.w (DF.de (wu zE))) (zb _))) (xT (xp z5x (DE.w (zH (E := E0) G_q18 (fun _ _ z => z.elim) (hr.mono (by decide)) (by rfl) T.m_q18 T.k_q18 T.d_q18 zU (z4 (zA (pv 2)) (z4 (zA (pv 4)) zE)))) (DE.w x3) (zb _))))))) yH)
   (zB (yx (DPW.dt (z1B (zg (yP hr.units) (z8 (pv 7)) (DE.w (DF.de (wu zE))) (zb _)) (wZ (zg (z2E hr.units) (z8 (pv 5)) (DE.w (yS (z4 (zV hu (DE.w (zM (z1f rfl hr.units) (by rfl) T.b_min Bt.b_min (zD (z8 (pv 7)) zJ))) (DE.w z9) (fun _ _ => rfl)) (z4 (zV hu (DE.w (zM (z1f rfl hr.units) (by rfl) T.b_min Bt.b_min (zD (z8 (pv 7)) zJ))) (DE.w z9) (fun _ _ => rfl)) zE)))) (zb _))))) (zK (zQ (DE.w z1l))) yH)
   (zK (zQ (DE.w (xC (DE.w (xp (yP hr.units) (DE.w (zM y8 (by rfl) T.b_len Bt.b_len (zD (DE.w (zH (E := E0) G_led (fun _ _ z => z.elim) (hr.mono (by decide)) (by rfl) T.m_led T.k_led T.d_led zU (z4 (zA (pv 2)) (z4 (zA (pv 4)) (z4 (zV hu (z8 (pv 5)) (DE.w z9) (fun _ _ => rfl)) zE))))) zJ))) (DE.w z9) (zb _))) (xT (xp (yP hr.units) (DE.w (zV hu (z8 (pv 5)) (DE.w z9) (fun _ _ => rfl))) (DE.w (zM (z8f rfl) (by rfl) T.b_sum Bt.b_sum (zD (DE.w (DF.de (yW (N := ["_law_script", "_law_town", "_law_house_here", "_law_costs_here", "_law_places_here", "_law_made", "_law_best_here", "_law_some"]) (sc := (z3 xI)) (N' := ["_law_script", "_law_town", "_law_house_here", "_law_costs_here", "_law_places_here", "_law_made", "_law_best_here", "_law_some", "_law_door_here"]) rfl rfl rfl (by decide +kernel) yL (u6 (DE.w (zV hu (z8 (pv 5)) (DE.w z9) (fun _ _ => rfl)))) (fun _ _ _ _ => ww) (fun _ _ _ _ => (zV hu (z8 (pv 3)) (z8 (pv 8)) (fun _ _ => rfl)))))) zJ))) (zb _)))))))))))))))
end
end Gw
namespace Gw
open PySem L2
theorem z6a {ns : List Int} {k : Int} {n : Nat} {P : D → Nat → Prop} (hk : 0 ≤ k) (h : ∀ c : Int, P (.p (.int c)) n) : Ok (F_q22 [.scr ns, .p (.int k)]) n P := by
 unfold F_q22
 simp only [if_pos hk, zh]
 exact h _
theorem z5B {ns : List Int} {k m : Int} {n : Nat} {P : D → Nat → Prop} (hk : 0 ≤ k) (hk2 : k < 2 ^ 64) (hm : 0 < m) (h : ∀ r : Int, 0 ≤ r → r < m → P (.p (.int r)) n) : Ok (F_q23 [.scr ns, .p (.int k), .p (.int m)]) n P := by
 unfold F_q23 z58
 refine t_fn rfl ?_
 walk_at "es"
 refine z6a hk fun c => ?_
 walk_at "es"
 rw [z8e (by decide)]
 walk_at "es"
 rw [z7f (by decide)]
 walk_at "es"
 rw [yt (by decide)]
 walk_at "es"
 generalize hq : (c * 1103515245 + 7919 * k + 12345) % 2147483647 = q
 have q0 : 0 ≤ q ∧ q < 2147483647 := by omega
 rw [z5H ⟨by decide, by decide, by omega⟩]
 walk_at "es"
 rw [yt (by decide)]
 walk_at "es"
 rw [yt (by decide)]
 walk_at "es"
 rw [yt hm]
 walk_at "es"
 exact h _ (Int.emod_nonneg _ (by omega)) (Int.emod_lt_of_pos _ hm)
theorem yF {ns : List Int} {m : Int} {n : Nat} {P : D → Nat → Prop} (hn : n < 100000) (hm : 0 < m) (h : ∀ r : Int, 0 ≤ r → r < m → P (.p (.int r)) (n + 1)) : Ok (F_q24 [.scr ns, .town, .p (.int m)]) n P := by
 unfold F_q24 z52
 refine t_fn rfl ?_
 walk_at "es"
 refine z6X rfl (by unfold lim; omega) ?_
 walk_at "es"
 refine z6S rfl ?_
 walk_at "es"
 exact z5B (by omega) (by omega) hm h
noncomputable abbrev plD (pl : List Int) : PyData := .tuple (pl.map PyData.int)
structure PlOk (m : Int) (pl : List Int) : Prop where
 ne : pl ≠ []
 inr : ∀ p ∈ pl, 0 ≤ p ∧ p < m
 srt : pl.Pairwise (· < ·)
 len : pl.length ≤ 8
noncomputable def zo (m : Int) (ds : List (List Int)) : PyData := .tuple [.int m, .tuple (ds.map plD)]
structure DoorOk (m : Int) (d : List Int) : Prop where
 len : (d.length : Int) = m
 inr : ∀ x ∈ d, 0 ≤ x ∧ x < m
structure HouseOk (m : Int) (ds : List (List Int)) : Prop where
 lo : 1 ≤ m
 hi : m ≤ 8
 some : 1 ≤ ds.length
 few : ds.length ≤ 3
 doors : ∀ d ∈ ds, DoorOk m d
theorem z6Y {ns : List Int} {m : Int} {n : Nat} {P : D → Nat → Prop} (hm : 1 ≤ m) (hm8 : m ≤ 8) (hn : n < 5000) (h : ∀ d n', DoorOk m d → n' ≤ n + 10 → P (.p (plD d)) n') : Ok (F_q26 [.scr ns, .town, .p (.int m)]) n P := by
 have emod : ∀ x : Int, 0 ≤ (x + 1) % m ∧ (x + 1) % m < m := fun x => ⟨Int.emod_nonneg _ (by omega), Int.emod_lt_of_pos _ (by omega)⟩
 have fin : ∀ (l : List Int) (n' : Nat), l.length = ((upto m.toNat).map PyData.int).length → (∀ x ∈ l, 0 ≤ x ∧ x < m) → n' ≤ n + 10 → P (.p (plD l)) n' := fun l n' e hq hn' => by
  rw [List.length_map, zN] at e
  exact h l n' ⟨by omega, hq⟩ hn'
 have lenU : ((upto m.toNat).map PyData.int).length ≤ 8 := by rw [List.length_map, zN]; omega
 unfold F_q26 z5M
 refine t_fn rfl ?_
 walk_at "es"
 refine yF (by omega) (by decide) fun way w0 w1 => ?_
 walk_at "es"
 by_cases c0 : way = 0
 ·rw [if_pos (decide_eq_true c0)]
  walk_at "es"
  rw [y4 (by omega), zv m (by omega)]
  walk_at "es"
  refine xL PyData.int (fun x => 0 ≤ x ∧ x < m) 0 (fun d hd n' hn' => ?_) (fun l n' e hq hn' => ?_)
  ·obtain ⟨x, _, rfl⟩ := List.mem_map.mp hd
   walk_at "es"
   rw [yt (by omega)]
   walk_at "es"
   exact ⟨_, rfl, emod x, by omega⟩
  ·try walk_at "es"
   exact fin l n' e hq (by omega)
 ·rw [if_neg (by simpa using c0)]
  walk_at "es"
  by_cases c1 : way = 1
  ·rw [if_pos (decide_eq_true c1)]
   walk_at "es"
   refine yF (by omega) (by omega) fun gone g0 g1 => ?_
   walk_at "es"
   rw [y4 (by omega), zv m (by omega)]
   walk_at "es"
   refine xL PyData.int (fun x => 0 ≤ x ∧ x < m) 0 (fun d hd n' hn' => ?_) (fun l n' e hq hn' => ?_)
   ·obtain ⟨x, hx, rfl⟩ := List.mem_map.mp hd
    have hx := mem_upto.mp hx
    walk_at "es"
    by_cases c2 : x = gone
    ·rw [if_pos (decide_eq_true c2)]
     walk_at "es"
     rw [yt (by omega)]
     walk_at "es"
     exact ⟨_, rfl, emod x, by omega⟩
    ·rw [if_neg (by simpa using c2)]
     walk_at "es"
     exact ⟨_, rfl, by omega, by omega⟩
   ·try walk_at "es"
    exact fin l n' e hq (by omega)
  ·rw [if_neg (by simpa using c1)]
   walk_at "es"
   refine yF (by omega) (by omega) fun few f0 f1 => ?_
   walk_at "es"
   rw [y4 (by omega), zv m (by omega)]
   walk_at "es"
   refine xL PyData.int (fun x => 0 ≤ x ∧ x < m) 1 (fun d hd n' hn' => ?_) (fun l n' e hq hn' => ?_)
   ·obtain ⟨x, hx, rfl⟩ := List.mem_map.mp hd
    have hx := mem_upto.mp hx
    walk_at "es"
    by_cases c2 : way = 2
    ·rw [if_pos (decide_eq_true c2)]
     walk_at "es"
     refine yF (by omega) (by omega) fun r r0 r1 => ⟨_, rfl, by omega, by omega⟩
    ·rw [if_neg (by simpa using c2)]
     walk_at "es"
     refine yF (by omega) (by omega) fun r r0 r1 => ⟨_, rfl, by omega, by omega⟩
   ·try walk_at "es"
    exact fin l n' e hq (by omega)
theorem z4w {ns : List Int} {lo hi : Int} {n : Nat} {P : D → Nat → Prop} (h1 : 1 ≤ lo) (h2 : lo ≤ hi) (h8 : hi ≤ 8) (hn : n < 4000) (h : ∀ m ds n', HouseOk m ds → lo ≤ m → m ≤ hi → n' ≤ n + 32 → P (.p (zo m ds)) n') : Ok (F_q27 [.scr ns, .town, .p (.int lo), .p (.int hi)]) n P := by
 unfold F_q27 z51
 refine t_fn rfl ?_
 walk_at "es"
 refine yF (by omega) (by decide) fun times t0 t1 => ?_
 walk_at "es"
 refine yF (by omega) (by omega) fun many m0 m1 => ?_
 walk_at "es"
 rw [y4 (by omega), zv (1 + times) (by omega)]
 walk_at "es"
 have lenU : ((upto (1 + times).toNat).map PyData.int).length ≤ 3 := by rw [List.length_map, zN]; omega
 refine xL plD (DoorOk (lo + many)) 10 (fun d hd n' hn' => ?_) (fun l n' e hq hn' => ?_)
 ·walk_at "es"
  exact z6Y (by omega) (by omega) (by omega) fun d n2 hd hn2 => ⟨d, rfl, hd, by omega⟩
 ·try walk_at "es"
  rw [List.length_map, zN] at e
  exact h (lo + many) l n' ⟨by omega, by omega, by omega, by omega, hq⟩ (by omega) (by omega) (by omega)
theorem z3z {ns : List Int} {m : Int} {n : Nat} {P : D → Nat → Prop} (hm : 1 ≤ m) (hm8 : m ≤ 8) (hn : n < 5000) (h : ∀ pl n', PlOk m pl → n' ≤ n + 10 → P (.p (plD pl)) n') : Ok (F_q28 [.scr ns, .town, .p (.int m)]) n P := by
 unfold F_q28 z4V
 refine t_fn rfl ?_
 walk_at "es"
 refine yF (by omega) (by decide) fun r r0 r1 => ?_
 walk_at "es"
 by_cases c : r = 0
 ·rw [if_pos (decide_eq_true c)]
  walk_at "es"
  simp only [fRg1]
  rw [y4 (by omega), zv m (by omega)]
  try walk_at "es"
  refine h (upto m.toNat) (n + 1) ⟨fun e => ?_, fun p hp => by have := mem_upto.mp hp; omega, w4 _, by rw [zN]; omega⟩ (by omega)
  have := congrArg List.length e
  rw [zN] at this
  simp at this; omega
 ·rw [if_neg (by simpa using c)]
  walk_at "es"
  rw [y4 (by omega), zv m (by omega)]
  walk_at "es"
  refine xZ (I := fun k acc n' => n' ≤ n + 1 + k ∧ ∃ l : List Int, acc = l.map PyData.int ∧ (∀ x ∈ l, 0 ≤ x ∧ x < (k : Int)) ∧ l.Pairwise (· < ·) ∧ l.length ≤ k) (fun k acc n' hk hI => ?_) (fun acc n' hI => ?_) ⟨by omega, [], rfl, by simp, .nil, by simp⟩
  ·obtain ⟨hn', l, rfl, hl, hs, hc⟩ := hI
   have hk' : k < m.toNat := by simpa [zN] using hk
   have ek : (upto m.toNat)[k]'(by rw [zN]; exact hk') = (k : Int) := by simp [upto]
   rw [List.getElem_map, ek]
   walk_at "es"
   refine yF (by omega) (by decide) fun r2 r20 r21 => ?_
   walk_at "es"
   refine ⟨fun _ => ?_, fun _ => ⟨by omega, l, rfl, fun x hx => by have := hl x hx; omega, hs, by omega⟩⟩
   walk_at "es"
   refine ⟨_, rfl, by omega, l ++ [(k : Int)], by simp, fun x hx => ?_, ?_, by simp; omega⟩
   ·rcases List.mem_append.mp hx with hx | hx
    ·have := hl x hx; omega
    ·rw [List.mem_singleton.mp hx]; omega
   ·rw [List.pairwise_append]
    exact ⟨hs, by simp, fun a ha b hb => by rw [List.mem_singleton.mp hb]; exact (hl a ha).2⟩
  ·obtain ⟨hn', l, rfl, hl, hs, hc⟩ := hI
   rw [List.length_map, zN] at hn' hl hc
   try walk_at "es"
   rw [z6c]
   walk_at "es"
   cases l with
   | nil =>
    simp only [List.isEmpty_nil, Bool.not_true]
    walk_at "es"
    refine yF (by omega) (by omega) fun r3 r30 r31 => ?_
    walk_at "es"
    exact h [r3] _ ⟨by simp, fun p hp => by rw [List.mem_singleton.mp hp]; omega, by simp, by simp⟩ (by omega)
   | cons x l =>
    simp only [List.isEmpty_cons, Bool.not_false]
    walk_at "es"
    refine h (x :: l) n' ⟨by simp, fun p hp => by have := hl p hp; omega, hs, by omega⟩ (by omega)
end Gw
namespace Gw
open PySem L2
theorem wS {x a b : Int} {n : Nat} {P : D → Nat → Prop} (h : P (.p (.bool (decide (a ≤ x) && decide (x ≤ b)))) n) : Ok (F_q0 [.p (.int x), .p (.int a), .p (.int b)]) n P := by
 unfold F_q0 b_q0
 refine t_fn rfl ?_
 walk_at "es"
 by_cases c : a ≤ x
 ·simp only [c, decide_true, if_true, Bool.true_and] at h ⊢
  try walk_at "es"
  exact h
 ·simp only [c, decide_false, Bool.false_and, if_false, Bool.false_eq_true] at h ⊢
  try walk_at "es"
  exact h
theorem yI {l : List Int} {a b : Int} {n : Nat} {P : D → Nat → Prop} (hl : l.length < 10000) (hr : ∀ x ∈ l, a ≤ x ∧ x ≤ b) (h : P (.p (.bool true)) n) : Ok (F_q1 [.p (.tuple (l.map PyData.int)), .p (.int a), .p (.int b)]) n P := by
 unfold F_q1 b_q1
 refine t_fn rfl ?_
 walk_at "es"
 try unfold yV
 walk_at "es"
 rw [z1E (by simpa using hl)]
 walk_at "es"
 refine ym (J' := PyData.bool) (f := fun _ => true) (fun x hx => ?_) ?_
 ·walk_at "es"
  refine wS ⟨?_, rfl⟩
  have := hr x hx
  simp [this]
 ·try walk_at "es"
  simp only [xR]
  rw [show ((l.map fun _ => true).map PyData.bool) = (l.map fun _ => true).map (fun b => PyData.bool (id b)) from rfl, yd]
  walk_at "es"
  rw [show (((l.map fun _ => true).map id).all id) = true by simp]
  exact h
theorem z1F {l : List PyData} {n : Nat} {P : D → Nat → Prop} (hl : l.length < 10000) (hr : ∀ (i : Nat) x y, l[i]? = some x → l[i + 1]? = some y → fLt x y = some (.bool true)) (h : P (.p (.bool true)) n) : Ok (F_q2 [.p (.tuple l)]) n P := by
 unfold F_q2 b_q2
 refine t_fn rfl ?_
 walk_at "es"
 try unfold yV
 walk_at "es"
 rw [y4 (by omega)]
 walk_at "es"
 refine z4f (f := fun _ => .bool true) (fun d hd => ?_) ?_
 ·obtain ⟨k, hk, rfl⟩ := List.mem_iff_getElem.mp hd
  rw [z5P] at hk
  rw [z4j]
  walk_at "es"
  have e1 : fIx (.tuple l) (.int (0 + (k : Int))) = some (l[k]'(by omega)) := uZ (by omega) (by rw [show (0 + (k : Int)).toNat = k by omega]; exact List.getElem?_eq_getElem (by omega))
  have e2 : fIx (.tuple l) (.int (0 + (k : Int) + 1)) = some (l[k + 1]'(by omega)) := uZ (by omega) (by rw [show (0 + (k : Int) + 1).toNat = k + 1 by omega]; exact List.getElem?_eq_getElem (by omega))
  rw [e1]
  walk_at "es"
  rw [e2]
  walk_at "es"
  rw [hr k _ _ (List.getElem?_eq_getElem (by omega)) (List.getElem?_eq_getElem (by omega))]
  walk_at "es"
  exact ⟨by first | rfl | trivial, by first | rfl | trivial⟩
 ·try walk_at "es"
  simp only [xR]
  rw [show (rngD 0 ((l.length : Int) - 1)).map (fun _ => PyData.bool true) = (rngD 0 ((l.length : Int) - 1)).map (fun x => PyData.bool ((fun _ => true) x)) from rfl, yd]
  walk_at "es"
  rw [show (((rngD 0 ((l.length : Int) - 1)).map fun _ => true).all id) = true by simp]
  exact h
theorem z0Q {m : Int} {pl : List Int} {n : Nat} {P : D → Nat → Prop} (hne : pl ≠ []) (hin : ∀ p ∈ pl, 0 ≤ p ∧ p < m) (hs : pl.Pairwise (· < ·)) (hl : pl.length < 100) (h : P (.p (.bool true)) n) : Ok (F_q3 [.p (plD pl), .p (.int m)]) n P := by
 unfold F_q3 b_q3
 refine t_fn rfl ?_
 walk_at "es"
 refine yI (by omega) (fun x hx => by have := hin x hx; omega) ?_
 walk_at "es"
 have h0 : 0 < pl.length := List.length_pos_iff.mpr hne
 rw [show decide ((1 : Int) ≤ ((pl.map PyData.int).length : Int)) = true by simp; omega]
 walk_at "es"
 refine z1F (by simp; omega) (fun i x y e1 e2 => ?_) h
 rw [List.getElem?_map] at e1 e2
 obtain ⟨a, ea, rfl⟩ := Option.map_eq_some_iff.mp e1
 obtain ⟨b, eb, rfl⟩ := Option.map_eq_some_iff.mp e2
 rw [fLt_int, decide_eq_true (z6Q hs ea eb)]
theorem z6x {m : Int} {ts : List PyData} {n : Nat} {P : D → Nat → Prop} (h1 : 1 ≤ m) (h2 : m ≤ 8) (h : P (.p (.bool true)) n) : Ok (F_q5 [.p (.tuple [.int m, .tuple ts])]) n P := by
 unfold F_q5 b_q5
 refine t_fn rfl ?_
 walk_at "es"
 try simp
 walk_at "es"
 refine wS ?_
 rw [show (decide ((1 : Int) ≤ m) && decide (m ≤ z6G)) = true by unfold z6G; simp; omega]
 walk_at "es"
 exact h
theorem uu {m : Int} {pl : List Int} {n : Nat} {P : D → Nat → Prop} (L : PlOk m pl) (h : P (.p .none) n) : Ok (F_q10 [.p (plD pl), .p (.int m)]) n P := by
 have := L.len
 unfold F_q10 z5d
 refine t_fn rfl ?_
 walk_at "es"
 refine z0Q L.ne L.inr L.srt (by omega) ?_
 walk_at "es"
 exact h
theorem z3T {m : Int} {d : List Int} {n : Nat} {P : D → Nat → Prop} (hm : m ≤ 8) (d1 : DoorOk m d) (h : P (.p (.bool true)) n) : Ok (F_q4 [.p (plD d), .p (.int m)]) n P := by
 have := d1.len
 unfold F_q4 b_q4
 refine t_fn rfl ?_
 walk_at "es"
 refine yI (by omega) (fun x hx => by have := d1.inr x hx; omega) ?_
 walk_at "es"
 rw [List.length_map, decide_eq_true d1.len]
 exact h
theorem zT (m : Int) (ds : List (List Int)) : zo m ds = .tuple [.int m, .tuple (ds.map plD)] := rfl
theorem z2f {m : Int} {ds : List (List Int)} {n : Nat} {P : D → Nat → Prop} (H : HouseOk m ds) (h : P (.p (.bool true)) n) : Ok (F_q6 [.p (zo m ds)]) n P := by
 have h1 := H.some
 have h2 := H.few
 unfold F_q6 b_q6
 refine t_fn rfl ?_
 rw [zT]
 walk_at "es"
 refine z6x H.lo H.hi ?_
 walk_at "es"
 rw [List.length_map, decide_eq_true (show (1 : Int) ≤ (ds.length : Int) by omega)]
 walk_at "es"
 rw [decide_eq_true (show (ds.length : Int) ≤ z6n by unfold z6n; omega)]
 exact h
theorem z2e {m : Int} {ds : List (List Int)} {n : Nat} {P : D → Nat → Prop} (H : HouseOk m ds) (h : P (.p (.bool true)) n) : Ok (F_q7 [.p (zo m ds)]) n P := by
 have h2 := H.few
 unfold F_q7 b_q7
 refine t_fn rfl ?_
 walk_at "es"
 refine z2f H ?_
 rw [zT]
 walk_at "es"
 rw [z1E (by simp; omega)]
 walk_at "es"
 refine ym (J := plD) (J' := PyData.bool) (f := fun _ => true) (fun d hd => ?_) ?_
 ·walk_at "es"
  exact z3T H.hi (H.doors d hd) ⟨rfl, rfl⟩
 ·try walk_at "es"
  simp only [xR]
  rw [show ((ds.map fun _ => true).map PyData.bool) = (ds.map fun _ => true).map (fun b => PyData.bool (id b)) from rfl, yd]
  walk_at "es"
  rw [show (((ds.map fun _ => true).map id).all id) = true by simp]
  exact h
theorem z0R {m : Int} {ds : List (List Int)} {n : Nat} {P : D → Nat → Prop} (H : HouseOk m ds) (h : P (.p .none) n) : Ok (F_q9 [.p (zo m ds)]) n P := by
 unfold F_q9 b_q9
 refine t_fn rfl ?_
 walk_at "es"
 refine z2e H ?_
 walk_at "es"
 exact h
theorem wb {m : Int} {ds : List (List Int)} {pl : List Int} {n : Nat} {P : D → Nat → Prop} (H : HouseOk m ds) (L : PlOk m pl) (h : P (.p .none) n) : Ok (F_q12 [.p (zo m ds), .p (plD pl)]) n P := by
 unfold F_q12 z4g
 refine t_fn rfl ?_
 walk_at "es"
 refine z0R H ?_
 rw [zT]
 try walk_at "es"
 refine uu L ?_
 exact h
end Gw
namespace Gw
open PySem L2
noncomputable def thr (d st : List Int) : List Int := (upto 8).filter fun x => st.any fun y => decide (d.getD y.toNat 0 = x)
structure StOk (m : Int) (st : List Int) : Prop where
 inr : ∀ p ∈ st, 0 ≤ p ∧ p < m
 srt : st.Pairwise (· < ·)
 len : st.length ≤ 8
theorem z1J {m : Int} {d st : List Int} (hm : m ≤ 8) (d1 : DoorOk m d) (S : StOk m st) (x : Int) : x ∈ thr d st ↔ ∃ y ∈ st, d.getD y.toNat 0 = x := by
 unfold thr
 rw [List.mem_filter, List.any_eq_true]
 constructor
 ·rintro ⟨_, y, hy, e⟩
  exact ⟨y, hy, by simpa using e⟩
 ·rintro ⟨y, hy, e⟩
  have h1 := S.inr y hy
  have h2 := d1.inr _ (yG (l := d) (i := y.toNat) (d := 0) (by have := d1.len; omega))
  exact ⟨mem_upto.mpr (by omega), y, hy, by simpa using e⟩
theorem z1w {m : Int} {d st : List Int} (hm : m ≤ 8) (d1 : DoorOk m d) (S : StOk m st) : StOk m (thr d st) := by
 refine ⟨fun x hx => ?_, (w4 8).filter _, ?_⟩
 ·obtain ⟨y, hy, rfl⟩ := (z1J hm d1 S x).mp hx
  have h1 := S.inr y hy
  exact d1.inr _ (yG (by have := d1.len; omega))
 ·have := List.length_filter_le (fun x => st.any fun y => decide (d.getD y.toNat 0 = x)) (upto 8)
  rw [zN] at this
  exact this
theorem z64 {m : Int} {d st r : List Int} (hm : m ≤ 8) (d1 : DoorOk m d) (S : StOk m st) (h : r.Pairwise (· < ·)) (hr : ∀ x, x ∈ r ↔ x ∈ st.map fun y => d.getD y.toNat 0) : r = thr d st :=
 wA h (z1w hm d1 S).srt fun x => by rw [hr x, z1J hm d1 S x, List.mem_map]
theorem z8A {m : Int} {d st : List Int} (hm : m ≤ 8) (d1 : DoorOk m d) (S : StOk m st) : ∀ x ∈ st.map fun y => d.getD y.toNat 0, 0 ≤ x ∧ x < 8 := fun x hx => by
 obtain ⟨y, hy, rfl⟩ := List.mem_map.mp hx
 have h1 := S.inr y hy
 have := d1.inr _ (yG (l := d) (i := y.toNat) (d := 0) (by have := d1.len; omega))
 omega
theorem xa {m : Int} {d st : List Int} {n : Nat} {P : D → Nat → Prop} (hm : m ≤ 8) (d1 : DoorOk m d) (S : StOk m st) (h : P (.p (plD (thr d st))) n) : Ok (F_q13 [.p (plD d), .p (plD st)]) n P := by
 have hd := d1.len
 have hl := S.len
 unfold F_q13 z4p
 refine t_fn rfl ?_
 walk_at "es"
 rw [z1E (by simp; omega)]
 walk_at "es"
 refine ym (J' := PyData.int) (f := fun y => d.getD y.toNat 0) (fun y hy => ?_) ?_
 ·have := S.inr y hy
  walk_at "es"
  rw [xM (by omega) (by omega)]
  walk_at "es"
  exact ⟨by first | rfl | trivial, by first | rfl | trivial⟩
 ·try walk_at "es"
  rw [z1q]
  walk_at "es"
  obtain ⟨r, e1, e2, e3⟩ := z3y (z8A hm d1 S)
  rw [e1]
  walk_at "es"
  rw [z64 hm d1 S e2 e3]
  exact h
theorem StOk.rise {m : Int} {st : List Int} (hm : m ≤ 8) (S : StOk m st) : st.Pairwise (· < ·) ∧ ∀ x ∈ st, 0 ≤ x ∧ x < 8 := ⟨S.srt, fun x hx => by have := S.inr x hx; omega⟩
noncomputable def one (st : List Int) : Bool := decide (st.length = 1)
theorem z22 {mk : Env' → Mx D} {mc : Env' → Mx Bool} {me : Env' → Mx D} {ρ : Env'} {n : Nat} {P : PyData → Nat → Prop} {kvs : List (PyData × PyData)} (hk : Ok (mk ρ) n fun d n' => d = .p (.dict kvs) ∧ n' = n) (hl : kvs.length < 10000) (h : Ok (zP mc me ρ (kvs.map (·.1)) []) n fun l n' => P (.list l) n') : Ok (xo mk mc me ρ) n P := by
 unfold xo
 rw [zr]
 refine hk.imp fun d n' ⟨e1, e2⟩ => ?_
 subst e1 e2
 rw [zr, z3F]
 simp only [z6D]
 rw [if_pos (by unfold lim; omega), yN, zr]
 obtain ⟨l, n2, e, p⟩ := h
 refine ⟨l, n2, ?_, (zh _ _).mpr p⟩
 unfold Mx.sure
 rw [e]
end Gw
namespace Gw
open PySem L2
noncomputable def fH (ds : List (List Int)) : Int → List Int → Option (List Int) := fun d st => some (thr (ds.getD d.toNat []) st)
theorem z4A {i j : Nat} {ρ : Env'} {n : Nat} {P : Out → Nat → Prop} {x : PyData} {l : List PyData} (hl : ownL ρ j = some (x :: l)) (hij : i ≠ j) (h : P (.nx ((ρ.set j (some (Sl.own (.list l)))).set i (some (Sl.val (.p x))))) n) : Ok (z1r i j (mC (.int 0)) ρ) n P := by
 unfold z1r mC
 simp only [hl, zr, yN, zh, z3F, Option.bind_some]
 rw [if_pos ⟨by decide, by decide, hij⟩]
 have e : seqIndex? 0 (x :: l).length = some 0 := by simp [seqIndex?]
 rw [e]
 simp only [Option.bind_some, List.getElem?_cons_zero, Option.map_some, yN, List.eraseIdx_zero, List.tail_cons]
 exact h
theorem z92 (l : List PyData) : fIs true (.tuple l) .none = some (.bool true) := rfl
theorem z0s {a : List Int} {c : Int} (h : a.length < 1000) : fAdd (tupI a) (.tuple [.int c]) = some (tupI (a ++ [c])) := by
 simp only [fAdd]
 rw [if_pos (by unfold lim; simp; omega)]
 simp
theorem z1O {m : Int} {ds : List (List Int)} {pl : List Int} {l : List (List Int × List Int)} {k c : Nat} (hm : m ≤ 8) (B : Bfs (fH ds) ds.length pl l k c) (hS : ∀ q ∈ l, StOk m q.1) : l.length ≤ 256 := by
 have := z3j B.nd fun st hst => by
  obtain ⟨q, h, rfl⟩ := List.mem_map.mp hst
  exact (hS q h).rise hm
 simpa using this
theorem z1Z {t : Adr} {m : Int} {ds : List (List Int)} {pl : List Int} {n : Nat} {P : D → Nat → Prop} (H : HouseOk m ds) (S : StOk m pl)
  (h : ∀ l, Bfs (fH ds) ds.length pl l l.length 0 → BfsL (fH ds) ds.length l l.length 0 → (∀ q ∈ l, StOk m q.1) → P (.p (.dict (gP l))) n) : Ok (F_q15 t [.p (plD pl), .p (.tuple (ds.map plD)), .fn t.f_q13]) n P := by
 have hm := H.hi
 have hf := H.few
 unfold F_q15 z5a
 refine t_fn rfl ?_
 walk_at "es"
 unfold mD1
 walk_at "es"
 rw [if_pos (show zj [] (plD pl) = true from wN [] pl)]
 walk_at "es"
 unfold xn
 refine uy (fun μ ρ n' => n' = n ∧ ∃ (l : List (List Int × List Int)) (k : Nat) (x5 x6 x7 : Option Sl), ρ = [some (Sl.val (.p (plD pl))), some (Sl.val (.p (.tuple (ds.map plD)))), some (Sl.val (.fn t.f_q13)), some (Sl.own (.dict (gP l))), some (Sl.own (.list ((l.drop k).map fun q => plD q.1))), x5, x6, x7] ∧ Bfs (fH ds) ds.length pl l k 0 ∧ BfsL (fH ds) ds.length l k 0 ∧ (∀ q ∈ l, StOk m q.1) ∧ k ≤ l.length ∧ μ = 256 - k) (fun μ ρ n' hI => ?_) (μ := 256) (by decide) ⟨rfl, [(pl, [])], 0, none, none, none, rfl, Bfs.init, BfsL.init, fun q hq => by rw [List.mem_singleton.mp hq]; exact S, by simp, rfl⟩
 obtain ⟨rfl, l, k, x5, x6, x7, rfl, B, BL, hS, hkl, rfl⟩ := hI
 have hl := z1O hm B hS
 walk_at "es"
 cases hw : l.drop k with
 | nil =>
  simp only [List.map_nil]
  refine ⟨fun z => by simp at z, fun _ => ?_⟩
  try walk_at "es"
  have e : k = l.length := by
   have := congrArg List.length hw
   rw [List.length_drop, List.length_nil] at this
   omega
  subst e
  exact h l B BL hS
 | cons q w =>
  simp only [List.map_cons]
  have hk : k < l.length := by
   have := congrArg List.length hw
   rw [List.length_drop, List.length_cons] at this
   omega
  have hq : l[k]? = some q := by
   rw [List.drop_eq_getElem_cons hk] at hw
   rw [List.getElem?_eq_getElem hk, (List.cons.inj hw).1]
  have hw2 : l.drop (k + 1) = w := by
   rw [List.drop_eq_getElem_cons hk] at hw
   exact (List.cons.inj hw).2
  refine ⟨fun _ => ⟨256 - (k + 1), by omega, ?_⟩, fun z => by simp at z⟩
  try walk_at "es"
  refine z4A rfl (by decide) ?_
  try unfold sFor
  walk_at "es"
  rw [y4 (by simp; omega), List.length_map, zv _ (by omega), ← hw2]
  walk_at "es"
  refine z0P (fun c ρ n2 => n2 = n' ∧ c ≤ ds.length ∧ ∃ (l' : List (List Int × List Int)) (x6 x7 : Option Sl), ρ = [some (Sl.val (.p (plD pl))), some (Sl.val (.p (.tuple (ds.map plD)))), some (Sl.val (.fn t.f_q13)), some (Sl.own (.dict (gP l'))), some (Sl.own (.list ((l'.drop (k + 1)).map fun q => plD q.1))), some (Sl.val (.p (plD q.1))), x6, x7] ∧ Bfs (fH ds) ds.length pl l' k c ∧ BfsL (fH ds) ds.length l' k c ∧ l'[k]? = some q ∧ ∀ q ∈ l', StOk m q.1) (fun c ρ n2 hc hI => ?_) (fun ρ n2 hI => ?_) ⟨by first | rfl | trivial, Nat.zero_le _, l, x6, x7, rfl, B, BL, hq, hS⟩
  ·obtain ⟨rfl, hcl, l', x6', x7', rfl, B', BL', hq', hS'⟩ := hI
   have hc' : c < ds.length := by simpa [zN] using hc
   have ek : (upto (ds.length : Int).toNat)[c]'(by rw [zN]; omega) = (c : Int) := by simp [upto]
   have hl' := z1O hm B' hS'
   have hqm : q ∈ l' := List.mem_of_getElem? hq'
   have hkl' : k < l'.length := (List.getElem?_eq_some_iff.mp hq').1
   have d1 := H.doors _ (yG (l := ds) (i := c) (d := []) hc')
   have hne : l' ≠ [] := fun z => by rw [z] at hqm; cases hqm
   rw [List.getElem_map, ek]
   refine ⟨_, rfl, ?_⟩
   walk_at "es"
   unfold z2P
   rw [if_pos (by simp [isFn])]
   walk_at "es"
   rw [z0I (J := plD) (d := []) (by omega) (by omega)]
   walk_at "es"
   rw [show (c : Int).toNat = c by omega]
   refine xa hm d1 (hS' q hqm) ?_
   walk_at "es"
   rw [z92]
   walk_at "es"
   rw [show fIn true (.tuple ((thr (ds.getD c []) q.1).map PyData.int)) (.dict (gP l')) = _ from z7i hne true (thr (ds.getD c []) q.1)]
   walk_at "es"
   have efH : fH ds (c : Int) q.1 = some (thr (ds.getD c []) q.1) := by unfold fH; rw [show (c : Int).toNat = c by omega]
   cases hany : l'.any fun p => decide (p.1 = thr (ds.getD c []) q.1) with
   | true =>
    simp only [Bool.not_true]
    walk_at "es"
    have hsk : ∀ s', fH ds (c : Int) q.1 = some s' → ∃ p ∈ l', p.1 = s' := fun s' hs => by
     rw [efH] at hs; cases hs
     obtain ⟨p, hp, e⟩ := List.any_eq_true.mp hany
     exact ⟨p, hp, of_decide_eq_true e⟩
    exact ⟨by first | rfl | trivial, hc', l', _, _, rfl, B'.skip hq' hsk, BL'.skip hq' hsk, hq', hS'⟩
   | false =>
    have hn : ∀ p ∈ l', p.1 ≠ thr (ds.getD c []) q.1 := fun p hp => by
     have := List.any_eq_false.mp hany p hp
     simpa using this
    have hdp := B'.deep k q hq'
    simp only [Bool.not_false]
    walk_at "es"
    unfold xt
    walk_at "es"
    rw [show fIx (.dict (gP l')) (plD q.1) = some (tupI q.2) from z5m B'.nd hqm]
    walk_at "es"
    rw [z0s (by omega)]
    walk_at "es"
    rw [show ownD _ 3 = some (gP l') from rfl]
    walk_at "es"
    rw [show putD (gP l') (plD (thr (ds.getD c []) q.1)) (tupI (q.2 ++ [(c : Int)])) = _ from z6y (by omega) hn (q.2 ++ [(c : Int)])]
    walk_at "es"
    refine z5s rfl ?_
    walk_at "es"
    refine ⟨_, rfl, by simp; omega, by first | rfl | trivial, hc', l' ++ [(thr (ds.getD c []) q.1, q.2 ++ [(c : Int)])], some (Sl.val (.p (.int c))), some (Sl.val (.p (plD (thr (ds.getD c []) q.1)))), ?_, B'.add hq' hc' efH hn, BL'.add hq' efH, ?_, fun p hp => ?_⟩
    ·rw [List.drop_append_of_le_length (by omega), List.map_append]
     rfl
    ·rw [List.getElem?_append_left hkl']; exact hq'
    ·rcases List.mem_append.mp hp with hp | hp
     ·exact hS' p hp
     ·rw [List.mem_singleton.mp hp]; exact z1w hm d1 (hS' q hqm)
  ·obtain ⟨rfl, hcl, l', x6', x7', rfl, B', BL', hq', hS'⟩ := hI
   rw [List.length_map, zN, show (ds.length : Int).toNat = ds.length by omega] at B' BL'
   have hkl' : k < l'.length := (List.getElem?_eq_some_iff.mp hq').1
   refine ⟨256 - (k + 1), Nat.le_refl _, by first | rfl | trivial, l', k + 1, _, _, _, rfl, B'.next, BL'.next, hS', hkl', rfl⟩
end Gw
namespace Gw
open PySem L2
noncomputable def z6T (ds : List (List Int)) (row : List Int) : Prop := ∀ d ∈ row, 0 ≤ d ∧ d < (ds.length : Int)
structure Best (ds : List (List Int)) (pl : List Int) (o : Option (List Int)) : Prop where
 no : o = none → ∀ row, z6T ds row → ∀ st, xW (fH ds) pl row = some st → st.length ≠ 1
 yes : ∀ r, o = some r → z6T ds r ∧ (∃ st, xW (fH ds) pl r = some st ∧ st.length = 1) ∧ ∀ row, z6T ds row → ∀ st, xW (fH ds) pl row = some st → st.length = 1 → wLe w0 r row
noncomputable def rowO : Option (List Int) → PyData
 | none => .none
 | some r => tupI r
theorem z1d {t : Adr} {m : Int} {ds : List (List Int)} {pl : List Int} {n : Nat} {P : D → Nat → Prop} (H : HouseOk m ds) (L : PlOk m pl)
  (h : ∀ o, Best ds pl o → P (.p (rowO o)) n) : Ok (F_q17 t [.p (zo m ds), .p (plD pl), .p (.int 1)]) n P := by
 have S : StOk m pl := ⟨L.inr, L.srt, L.len⟩
 unfold F_q17 z4W
 refine t_fn rfl ?_
 walk_at "es"
 unfold F_q16 z4u
 refine t_fn rfl ?_
 rw [zT]
 unfold mFnV
 walk_at "es"
 refine z1Z H S fun l B BL hS => ?_
 have hl := z1O H.hi B hS
 try walk_at "es"
 refine z22 (kvs := gP l) ?_ (by simp [gP]; omega) ?_
 ·try walk_at "es"
  first | exact ⟨rfl, by first | rfl | trivial⟩ | exact ⟨by first | rfl | trivial, by first | rfl | trivial⟩ | trivial
 ·rw [show (gP l).map (·.1) = (l.map (·.1)).map tupI by simp [gP, Function.comp_def]]
  refine z0W (J := tupI) (f := one) (fun st hst => ?_) (fun st hst _ => ?_) ?_
  ·walk_at "es"
   rw [List.length_map]
   refine ⟨?_, by first | rfl | trivial⟩
   unfold one
   rw [decide_eq_decide]; omega
  ·walk_at "es"
   exact ⟨by first | rfl | trivial, by first | rfl | trivial⟩
  ·try walk_at "es"
   cases hfl : (l.map (·.1)).filter one with
   | nil =>
    simp only [List.map_nil]
    simp only [List.isEmpty_nil, Bool.not_true, Bool.false_eq_true, if_false]
    try walk_at "es"
    refine h none ⟨fun _ row hr st hst e1 => ?_, fun r z => (nomatch z)⟩
    obtain ⟨p, hp, e2, _⟩ := B.all row hr st hst
    have : st ∈ (l.map (·.1)).filter one := List.mem_filter.mpr ⟨List.mem_map.mpr ⟨p, hp, e2⟩, decide_eq_true e1⟩
    rw [hfl] at this; cases this
   | cons st0 rest =>
    simp only [List.map_cons]
    simp only [List.isEmpty_cons, Bool.not_false, if_true]
    try walk_at "es"
    rw [show fIx (.list (tupI st0 :: rest.map tupI)) (.int 0) = some (tupI st0) from z7I _ _]
    walk_at "es"
    have hm0 : st0 ∈ (l.map (·.1)).filter one := by rw [hfl]; exact List.mem_cons_self
    obtain ⟨hm1, ho⟩ := List.mem_filter.mp hm0
    obtain ⟨q, hq, e⟩ := List.mem_map.mp hm1
    subst e
    rw [z5m B.nd hq]
    walk_at "es"
    refine h (some q.2) ⟨fun z => (nomatch z), fun r z => ?_⟩
    cases z
    refine ⟨B.doors q hq, ⟨q.1, B.sound q hq, of_decide_eq_true ho⟩, fun row hr st hst e1 => ?_⟩
    obtain ⟨p, hp, e2, e3⟩ := BL.all B row hr st hst
    have hpone : one p.1 = true := by unfold one; rw [e2]; exact decide_eq_true e1
    have hff : l.filter (fun q => one q.1) = q :: (l.filter (fun q => one q.1)).tail := by
     rw [List.filter_map] at hfl
     cases hc : l.filter (one ∘ fun x => x.1) with
     | nil => rw [hc] at hfl; cases hfl
     | cons a r =>
      rw [hc, List.map_cons] at hfl
      have ea : a.1 = q.1 := (List.cons.inj hfl).1
      have hal : a ∈ l := (List.mem_filter.mp (by rw [hc]; exact List.mem_cons_self : a ∈ l.filter (one ∘ fun x => x.1))).1
      have : a = q := by
       have h1 := wI B.nd hal
       rw [ea, wI B.nd hq] at h1
       cases h1; rfl
      subst this
      show l.filter (one ∘ fun x => x.1) = _
      rw [show (fun q : List Int × List Int => one q.1) = one ∘ fun x => x.1 from rfl, hc]
      rfl
    exact (z36 BL.ris one q _ hff p hp hpone).trans e3
theorem z3x {t : Adr} {m : Int} {ds : List (List Int)} {pl : List Int} {n : Nat} {P : D → Nat → Prop} (H : HouseOk m ds) (L : PlOk m pl)
  (h : ∀ o, Best ds pl o → P (.p (rowO o)) n) : Ok (F_q18 t [.p (zo m ds), .p (plD pl)]) n P := by
 unfold F_q18 z5E
 refine t_fn rfl ?_
 walk_at "es"
 refine wb H L ?_
 try walk_at "es"
 exact z1d H L h
end Gw
namespace Gw
open PySem L2
theorem z1D {α β : Type} (f : α → β) : ∀ (l : List α) (i : Nat), (l.map f).eraseIdx i = (l.eraseIdx i).map f
 | [], _ => rfl
 | _ :: _, 0 => rfl
 | x :: l, i + 1 => by rw [List.map_cons, List.eraseIdx_cons_succ, z1D f l i, List.eraseIdx_cons_succ, List.map_cons]
noncomputable def gH (ds : List (List Int)) : Int → List Int → List Int := fun d st => thr (ds.getD d.toNat []) st
theorem z6p (ds : List (List Int)) (pl : List Int) : ∀ r : List Int, xW (fH ds) pl r = some (zI (gH ds) pl r) := by
 intro r
 have gen : ∀ (n : Nat) (r : List Int), r.length = n → xW (fH ds) pl r = some (zI (gH ds) pl r) := by
  intro n
  induction n with
  | zero =>
   intro r hr
   have : r = [] := List.length_eq_zero_iff.mp hr
   subst this; rfl
  | succ n ih =>
   intro r hr
   have hne : r ≠ [] := fun z => by rw [z] at hr; simp at hr
   obtain ⟨r0, d, e⟩ : ∃ r0 d, r = r0 ++ [d] := ⟨r.dropLast, r.getLast hne, (List.dropLast_concat_getLast hne).symm⟩
   subst e
   rw [yp, ih r0 (by simpa using hr), zc]; rfl
 exact gen r.length r rfl
theorem u5 {m : Int} {ds : List (List Int)} {pl : List Int} (H : HouseOk m ds) (S : StOk m pl) : ∀ {r : List Int}, DoorsIn ds.length r → StOk m (zI (gH ds) pl r) := by
 intro r
 have gen : ∀ (n : Nat) (r : List Int), r.length = n → DoorsIn ds.length r → StOk m (zI (gH ds) pl r) := by
  intro n
  induction n with
  | zero =>
   intro r hr _
   have : r = [] := List.length_eq_zero_iff.mp hr
   subst this; exact S
  | succ n ih =>
   intro r hr hd
   have hne : r ≠ [] := fun z => by rw [z] at hr; simp at hr
   obtain ⟨r0, d, e⟩ : ∃ r0 d, r = r0 ++ [d] := ⟨r.dropLast, r.getLast hne, (List.dropLast_concat_getLast hne).symm⟩
   subst e
   rw [zc]
   have hdd := hd d (List.mem_append_right _ (List.mem_singleton.mpr rfl))
   exact z1w H.hi (H.doors _ (yG (by omega))) (ih r0 (by simpa using hr) fun x hx => hd x (List.mem_append_left _ hx))
 exact gen r.length r rfl
theorem z66 {m : Int} {d st : List Int} (hm : m ≤ 8) (d1 : DoorOk m d) (S : StOk m st) (h : st ≠ []) : thr d st ≠ [] := by
 obtain ⟨y, r, rfl⟩ := List.exists_cons_of_ne_nil h
 have : d.getD y.toNat 0 ∈ thr d (y :: r) := (z1J hm d1 S _).mpr ⟨y, List.mem_cons_self, rfl⟩
 exact List.ne_nil_of_mem this
theorem z31 {m : Int} {ds : List (List Int)} {pl : List Int} (H : HouseOk m ds) (S : StOk m pl) (hp : pl ≠ []) : ∀ {r : List Int}, DoorsIn ds.length r → zI (gH ds) pl r ≠ [] := by
 intro r
 have gen : ∀ (n : Nat) (r : List Int), r.length = n → DoorsIn ds.length r → zI (gH ds) pl r ≠ [] := by
  intro n
  induction n with
  | zero =>
   intro r hr _
   have : r = [] := List.length_eq_zero_iff.mp hr
   subst this; exact hp
  | succ n ih =>
   intro r hr hd
   have hne : r ≠ [] := fun z => by rw [z] at hr; simp at hr
   obtain ⟨r0, d, e⟩ : ∃ r0 d, r = r0 ++ [d] := ⟨r.dropLast, r.getLast hne, (List.dropLast_concat_getLast hne).symm⟩
   subst e
   rw [zc]
   have hdd := hd d (List.mem_append_right _ (List.mem_singleton.mpr rfl))
   exact z66 H.hi (H.doors _ (yG (by omega))) (u5 H S fun x hx => hd x (List.mem_append_left _ hx)) (ih r0 (by simpa using hr) fun x hx => hd x (List.mem_append_left _ hx))
 exact gen r.length r rfl
structure CostOk (ds : List (List Int)) (cs : List Int) : Prop where
 len : cs.length = ds.length
 inr : ∀ c ∈ cs, 0 ≤ c ∧ c ≤ 99
noncomputable def wC (cs : List Int) : Int → Int := fun d => cs.getD d.toNat 0
theorem CostOk.pos {ds : List (List Int)} {cs : List Int} (C : CostOk ds cs) (d : Int) : 0 ≤ wC cs d := by
 unfold wC
 by_cases h : d.toNat < cs.length
 ·exact (C.inr _ (yG h)).1
 ·rw [List.getD_eq_getElem?_getD, List.getElem?_eq_none (by omega)]; decide
theorem z0y {m : Int} {ds : List (List Int)} {cs : List Int} {n : Nat} {P : D → Nat → Prop} (H : HouseOk m ds) (C : CostOk ds cs) (h : P (.p .none) n) : Ok (F_q19 [.p (plD cs), .p (zo m ds)]) n P := by
 have hf := H.few
 have hl := C.len
 unfold F_q19 z4l
 refine t_fn rfl ?_
 rw [zT]
 walk_at "es"
 refine yI (by omega) (fun x hx => C.inr x hx) ?_
 walk_at "es"
 rw [List.length_map, List.length_map, hl, decide_eq_true (show (ds.length : Int) = (ds.length : Int) from rfl)]
 walk_at "es"
 exact h
noncomputable def tail (ds : List (List Int)) (pl : List Int) (r : List Int) : List PyData := [tupI (zI (gH ds) pl r)]
theorem z0G (ds : List (List Int)) (pl : List Int) : WayOk (tail ds pl) := by
 refine ⟨fun r => ?_, fun r => ?_, fun r => z49 _, fun r => ?_⟩
 ·unfold tail; simp only [PyData.canLayAll0, PyData.canLay0, xU, Bool.and_self]
 ·unfold tail; simp only [PyData.depthAll, PyData.depth]; have := xx (zI (gH ds) pl r); omega
 ·unfold tail; simp only [PyData.eqvAll, y3, decide_true, Bool.and_self]
noncomputable abbrev wayD (ds : List (List Int)) (cs pl r : List Int) : PyData := wayT (wC cs) r (tail ds pl r)
theorem z45 (w : Int → Int) (r : List Int) (t : List PyData) : fIx (wayT w r t) (.int 0) = some (.int (zf w r)) := fIx_t0 _ _
theorem z7K (w : Int → Int) (r : List Int) (t : List PyData) : fIx (wayT w r t) (.int 1) = some (.int r.length) := fIx_t1 _ _ _
theorem z3S (w : Int → Int) (r : List Int) (t : List PyData) : fIx (wayT w r t) (.int 2) = some (tupI r) := uZ (i := 2) (by decide) rfl
theorem z0S (w : Int → Int) (ds : List (List Int)) (pl r : List Int) : fIx (wayT w r (tail ds pl r)) (.int 3) = some (plD (zI (gH ds) pl r)) := uZ (i := 3) (by decide) rfl
theorem z2x {m : Int} {ds : List (List Int)} {cs pl x : List Int} {n : Nat} {P : D → Nat → Prop} (H : HouseOk m ds) (C : CostOk ds cs) (S : StOk m pl) (hx : DoorsIn ds.length x) (hxl : x.length < 1000)
  (h : P (.p (.list ((upto ds.length).map fun d => wayD ds cs pl (x ++ [d])))) n) : Ok (F_q20 [.p (zo m ds), .p (plD cs), .p (wayD ds cs pl x)]) n P := by
 have hm := H.hi
 have hf := H.few
 have hcl := C.len
 unfold F_q20 z4s
 refine t_fn rfl ?_
 rw [zT]
 walk_at "es"
 try unfold sFor
 walk_at "es"
 rw [y4 (by simp; omega), List.length_map, zv _ (by omega)]
 walk_at "es"
 refine z0P (fun c ρ n2 => n2 = n ∧ c ≤ ds.length ∧ ∃ (x4 x5 : Option Sl), ρ = [some (Sl.val (.p (.tuple [.int m, .tuple (ds.map plD)]))), some (Sl.val (.p (plD cs))), some (Sl.val (.p (wayD ds cs pl x))), some (Sl.own (.list ((upto c).map fun d => wayD ds cs pl (x ++ [d])))), x4, x5]) (fun c ρ n2 hc hI => ?_) (fun ρ n2 hI => ?_) ⟨by first | rfl | trivial, Nat.zero_le _, none, none, rfl⟩
 ·obtain ⟨rfl, hcl, x4, x5, rfl⟩ := hI
  have hc' : c < ds.length := by simpa [zN] using hc
  have ek : (upto (ds.length : Int).toNat)[c]'(by rw [zN]; omega) = (c : Int) := by simp [upto]
  have d1 := H.doors _ (yG (l := ds) (i := c) (d := []) hc')
  rw [List.getElem_map, ek]
  refine ⟨_, rfl, ?_⟩
  walk_at "es"
  rw [z0I (J := plD) (d := []) (by omega) (by omega)]
  walk_at "es"
  rw [show (c : Int).toNat = c by omega, z0S]
  walk_at "es"
  refine xa hm d1 (u5 H S hx) ?_
  walk_at "es"
  refine z5s rfl ?_
  walk_at "es"
  rw [z45]
  walk_at "es"
  rw [xM (by omega) (by omega)]
  walk_at "es"
  rw [z7K]
  walk_at "es"
  rw [z3S]
  walk_at "es"
  rw [z0s (by omega)]
  walk_at "es"
  rw [show (c : Int).toNat = c by omega]
  refine ⟨_, rfl, by rw [List.length_map, zN]; omega, by first | rfl | trivial, hc', some (Sl.val (.p (.int c))), some (Sl.val (.p (plD (thr (ds.getD c []) (zI (gH ds) pl x))))), ?_⟩
  have e : wayD ds cs pl (x ++ [(c : Int)]) = .tuple [.int (zf (wC cs) x + cs.getD c 0), .int ((x.length : Int) + 1), tupI (x ++ [(c : Int)]), plD (thr (ds.getD c []) (zI (gH ds) pl x))] := by
   unfold wayD wayT tail
   rw [yq, zc, List.length_append, List.length_singleton]
   unfold wC gH
   rw [show (c : Int).toNat = c by omega]
   rfl
  rw [show upto (c + 1) = upto c ++ [(c : Int)] from by simp [upto, List.range_succ], List.map_append, List.map_singleton, e]
 ·obtain ⟨rfl, hcl, x4, x5, rfl⟩ := hI
  rw [List.length_map, zN, show (ds.length : Int).toNat = ds.length by omega]
  walk_at "es"
  exact h
end Gw
namespace Gw
open PySem L2
structure Cheap (ds : List (List Int)) (w : Int → Int) (pl : List Int) (o : Option (List Int)) : Prop where
 no : o = none → ∀ r, DoorsIn ds.length r → one (zI (gH ds) pl r) = false
 yes : ∀ r, o = some r → DoorsIn ds.length r ∧ one (zI (gH ds) pl r) = true ∧ ∀ r', DoorsIn ds.length r' → one (zI (gH ds) pl r') = true → wLe w r r'
noncomputable def z0E (w : Int → Int) : Option (List Int) → PyData
 | none => .none
 | some r => .tuple [.int (zf w r), tupI r]
noncomputable def z83 (dn : List (List Int × List Int)) : PyData := .dict (gJ (fun _ => PyData.bool true) dn)
theorem z7R {i : Nat} {m : Env' → Mx D} {ρ : Env'} {n : Nat} {P : Out → Nat → Prop} {l : List PyData} (hl : ownL ρ i = some l) (h : Ok (m ρ) n fun d n' => ∃ z j, d = .p z ∧ z42 l z = some j ∧ P (.nx (ρ.set i (some (Sl.own (.list (l.eraseIdx j)))))) n') : Ok (z07 i m ρ) n P := by
 unfold z07
 simp only [hl, zr, yN]
 refine h.imp fun d n' hz => ?_
 obtain ⟨z, j, rfl, e, p⟩ := hz
 rw [z3F, e, Option.map_some]
 exact t_some p
theorem z1R {m : Int} {ds : List (List Int)} {cs pl : List Int} {n : Nat} {P : D → Nat → Prop} (H : HouseOk m ds) (C : CostOk ds cs) (L : PlOk m pl)
  (h6 : m ≤ 6) (h : ∀ o, Cheap ds (wC cs) pl o → (∀ r, o = some r → r.length ≤ 57) → P (.p (z0E (wC cs) o)) n) : Ok (F_q21 [.p (zo m ds), .p (plD cs), .p (plD pl)]) n P := by
 have S : StOk m pl := ⟨L.inr, L.srt, L.len⟩
 have hm := H.hi
 have hf := H.few
 have T := z0G ds pl
 unfold F_q21 z5K
 refine t_fn rfl ?_
 walk_at "es"
 refine wb H L ?_
 walk_at "es"
 refine z0y H C ?_
 walk_at "es"
 unfold xn
 refine uy (fun μ ρ n' => n' = n ∧ ∃ (dn : List (List Int × List Int)) (wt : List (List Int)) (x5 : Option Sl), ρ = [some (Sl.val (.p (zo m ds))), some (Sl.val (.p (plD cs))), some (Sl.val (.p (plD pl))), some (Sl.own (z83 dn)), some (Sl.own (.list (wt.map (wayD ds cs pl)))), x5] ∧ Dij (gH ds) (wC cs) ds.length one pl dn wt ∧ (∀ q ∈ dn, StOk m q.1 ∧ q.1 ≠ []) ∧ wt.length ≤ 1 + 3 * dn.length ∧ μ = 4 * (256 - dn.length) + wt.length) (fun μ ρ n' hI => ?_) (μ := 1025) (by decide) ⟨rfl, [], [[]], none, rfl, Dij.init, fun q h => (nomatch h), by simp, rfl⟩
 obtain ⟨rfl, dn, wt, x5, rfl, B, hS, hwl, rfl⟩ := hI
 have hdn : dn.length ≤ 256 := by
  have := z3j B.nd fun st hst => by
   obtain ⟨q, h, rfl⟩ := List.mem_map.mp hst
   exact (hS q h).1.rise hm
  simpa using this
 walk_at "es"
 cases hw : wt with
 | nil =>
  subst hw
  simp only [List.map_nil]
  refine ⟨fun z => by simp at z, fun _ => ?_⟩
  try walk_at "es"
  exact h none ⟨fun _ r hr => B.never C.pos hr, fun r z => (nomatch z)⟩ fun r z => (nomatch z)
 | cons y0 ys =>
  rw [← hw]
  have hne : wt ≠ [] := fun z => by rw [hw] at z; cases z
  obtain ⟨x, hx, emin, hmin⟩ := ul T (wC cs) hne
  obtain ⟨j, erem, hj⟩ := z3a T (wC cs) hx
  have hjl : j < wt.length := (List.getElem?_eq_some_iff.mp hj).1
  have hxd := B.rowd x hx
  have hxl := B.len x hx
  have Sx := u5 H S hxd
  refine ⟨fun _ => ⟨4 * (256 - dn.length) + wt.length - 1, by omega, ?_⟩, fun z => by rw [hw] at z; simp at z⟩
  refine t_seq ?_
  walk_at "es"
  rw [show z0Z [.list (wt.map (wayD ds cs pl))] = _ from emin]
  walk_at "es"
  refine z7R rfl ?_
  walk_at "es"
  refine ⟨_, j, rfl, erem, ?_⟩
  walk_at "es"
  rw [z0S]
  walk_at "es"
  rw [List.length_map]
  cases hone : one (zI (gH ds) pl x) with
  | true =>
   have h1 : (zI (gH ds) pl x).length = 1 := of_decide_eq_true hone
   rw [h1]
   rw [decide_eq_true (show ((1 : Nat) : Int) = 1 from rfl)]
   walk_at "es"
   rw [z45]
   walk_at "es"
   rw [z3S]
   walk_at "es"
   exact h (some x) ⟨fun z => (nomatch z), fun r z => by cases z; exact ⟨hxd, hone, fun r' hr' h1 => B.found C.pos hmin hr' h1⟩⟩ fun r z => by
    cases z
    have := z8n B.nd fun st hst => by
     obtain ⟨q, hq, rfl⟩ := List.mem_map.mp hst
     obtain ⟨s1, s2⟩ := hS q hq
     exact ⟨s1.srt, fun y hy => by have := s1.inr y hy; omega, s2, of_decide_eq_false (B.no q hq)⟩
    rw [List.length_map] at this
    omega
  | false =>
   have h1 : (zI (gH ds) pl x).length ≠ 1 := of_decide_eq_false hone
   rw [decide_eq_false (show ¬ ((zI (gH ds) pl x).length : Int) = 1 by omega)]
   walk_at "es"
   rw [z0S]
   walk_at "es"
   unfold z83
   rw [show fInE true (plD (zI (gH ds) pl x)) (.dict (gJ (fun _ => PyData.bool true) dn)) = _ from z3v dn true (zI (gH ds) pl x)]
   walk_at "es"
   rw [z1D]
   cases hany : dn.any fun p => decide (p.1 = zI (gH ds) pl x) with
   | true =>
    walk_at "es"
    have hel : (wt.eraseIdx j).length = wt.length - 1 := List.length_eraseIdx_of_lt hjl
    refine ⟨4 * (256 - dn.length) + (wt.eraseIdx j).length, by omega, by first | rfl | trivial, dn, wt.eraseIdx j, _, rfl, B.old hx ?_ (fun r hr => List.mem_of_mem_eraseIdx hr) (fun r hr => z0e hj hr), hS, by omega, rfl⟩
    obtain ⟨p, hp, e⟩ := List.any_eq_true.mp hany
    exact ⟨p, hp, of_decide_eq_true e⟩
   | false =>
    walk_at "es"
    have hn : ∀ p ∈ dn, p.1 ≠ zI (gH ds) pl x := fun p hp => by
     have := List.any_eq_false.mp hany p hp
     simpa using this
    have hS' : ∀ q ∈ dn ++ [(zI (gH ds) pl x, x)], StOk m q.1 ∧ q.1 ≠ [] := fun q hq => by
     rcases List.mem_append.mp hq with hq | hq
     ·exact hS q hq
     ·rw [List.mem_singleton.mp hq]; exact ⟨Sx, z31 H S L.ne hxd⟩
    have hnd' : ((dn ++ [(zI (gH ds) pl x, x)]).map (·.1)).Nodup := by
     rw [List.map_append]
     refine List.nodup_append.mpr ⟨B.nd, by simp, fun a ha b hb => ?_⟩
     obtain ⟨p, hp, rfl⟩ := List.mem_map.mp ha
     have : b = zI (gH ds) pl x := by simpa using hb
     rw [this]; exact hn p hp
    have hdn' : (dn ++ [(zI (gH ds) pl x, x)]).length ≤ 256 := by
     have := z3j hnd' fun st hst => by
      obtain ⟨q, h, rfl⟩ := List.mem_map.mp hst
      exact (hS' q h).1.rise hm
     simpa using this
    have hdl : (dn ++ [(zI (gH ds) pl x, x)]).length = dn.length + 1 := by simp
    unfold xt
    walk_at "es"
    rw [show ownD _ 3 = some (gJ (fun _ => PyData.bool true) dn) from rfl]
    walk_at "es"
    rw [z0S]
    walk_at "es"
    rw [show putD (gJ (fun _ => PyData.bool true) dn) (plD (zI (gH ds) pl x)) (.bool true) = _ from z6q (J := fun _ : List Int => PyData.bool true) (by omega) hn x]
    walk_at "es"
    refine z7N rfl ?_
    walk_at "es"
    refine z2x H C S hxd (by omega) ?_
    walk_at "es"
    rw [z8F (by rw [List.length_map, zN]; omega)]
    walk_at "es"
    refine z0W (J := fun d => wayD ds cs pl (x ++ [d])) (f := fun d => !((dn ++ [(zI (gH ds) pl x, x)]).any fun p => decide (p.1 = zI (gH ds) pl (x ++ [d])))) (fun d hd => ?_) (fun d hd _ => ?_) ?_
    ·walk_at "es"
     rw [z0S]
     walk_at "es"
     rw [show fInE true (plD (zI (gH ds) pl (x ++ [d]))) (.dict (gJ (fun _ => PyData.bool true) (dn ++ [(zI (gH ds) pl x, x)]))) = _ from z3v _ true (zI (gH ds) pl (x ++ [d]))]
     walk_at "es"
     exact ⟨by first | rfl | trivial, by first | rfl | trivial⟩
    ·walk_at "es"
     exact ⟨by first | rfl | trivial, by first | rfl | trivial⟩
    ·try walk_at "es"
     have hel : (wt.eraseIdx j).length = wt.length - 1 := List.length_eraseIdx_of_lt hjl
     generalize hnews : (upto ds.length).filter (fun d => !((dn ++ [(zI (gH ds) pl x, x)]).any fun p => decide (p.1 = zI (gH ds) pl (x ++ [d])))) = news
     have hnl : news.length ≤ ds.length := by
      rw [← hnews]
      have := List.length_filter_le (fun d => !((dn ++ [(zI (gH ds) pl x, x)]).any fun p => decide (p.1 = zI (gH ds) pl (x ++ [d])))) (upto ds.length)
      rwa [zN] at this
     refine ⟨_, rfl, by simp only [List.length_map]; omega, 4 * (256 - (dn ++ [(zI (gH ds) pl x, x)]).length) + (wt.eraseIdx j ++ news.map fun d => x ++ [d]).length, by simp only [List.length_append, List.length_map, List.length_singleton]; omega, by first | rfl | trivial, dn ++ [(zI (gH ds) pl x, x)], wt.eraseIdx j ++ news.map (fun d => x ++ [d]), some (Sl.val (.p (wayD ds cs pl x))), ?_, B.new C.pos hx hmin hone hn (fun r hr => ?_) (fun r hr => ?_) (fun d hd => ?_), hS', by simp only [List.length_append, List.length_map, List.length_singleton]; omega, rfl⟩
     ·rw [List.map_append, List.map_map]
      rfl
     ·rcases List.mem_append.mp hr with hr | hr
      ·exact .inl (List.mem_of_mem_eraseIdx hr)
      ·obtain ⟨d, hd, rfl⟩ := List.mem_map.mp hr
       rw [← hnews] at hd
       have := mem_upto.mp (List.mem_filter.mp hd).1
       exact .inr ⟨d.toNat, by omega, by rw [show ((d.toNat : Nat) : Int) = d by omega]⟩
     ·rcases z0e hj hr with e | hr
      ·exact .inl e
      ·exact .inr (List.mem_append_left _ hr)
     ·cases hc : (dn ++ [(zI (gH ds) pl x, x)]).any fun p => decide (p.1 = zI (gH ds) pl (x ++ [(d : Int)])) with
      | true =>
       obtain ⟨p, hp, e⟩ := List.any_eq_true.mp hc
       exact .inl ⟨p, hp, by rw [of_decide_eq_true e, zc]⟩
      | false =>
       refine .inr (List.mem_append_right _ (List.mem_map.mpr ⟨(d : Int), ?_, rfl⟩))
       rw [← hnews]
       exact List.mem_filter.mpr ⟨mem_upto.mpr (by omega), by rw [hc]; rfl⟩
end Gw
namespace Gw
open PySem L2
theorem z4K (neg : Bool) (w : Int → Int) (o : Option (List Int)) : fEq neg (z0E w o) (z0E w o) = some (.bool (!neg)) := by
 cases o with
 | none => cases neg <;> rfl
 | some r =>
  unfold fEq z0E
  rw [if_pos ⟨by simp only [PyData.canLay0, PyData.canLayAll0, xU, Bool.and_self], by simp only [PyData.canLay0, PyData.canLayAll0, xU, Bool.and_self], by
   simp only [PyData.depth, PyData.depthAll]
   have := xx r
   omega⟩]
  have : PyData.eqv (.tuple [.int (zf w r), tupI r]) (.tuple [.int (zf w r), tupI r]) = true := by
   simp only [PyData.eqv, PyData.eqvAll]
   rw [show PyData.eqvAll (r.map PyData.int) (r.map PyData.int) = true from by have := y3 r r; simpa only [PyData.eqv, decide_true] using this]
   simp
  rw [this]
  cases neg <;> rfl
theorem z4h {ns : List Int} {m : Int} {ds : List (List Int)} {n : Nat} {P : D → Nat → Prop} (H : HouseOk m ds) (hn : n < 4000) (h : ∀ cs n', CostOk ds cs → n' ≤ n + 5 → P (.p (plD cs)) n') : Ok (F_q29 [.scr ns, .town, .p (zo m ds)]) n P := by
 have hf := H.few
 unfold F_q29 z59
 refine t_fn rfl ?_
 rw [zT]
 walk_at "es"
 refine xO (a := PyData.list [.int 1, .int 2, .int 4, .int 10, .int 100]) (by show (if 5 ≤ lim then some _ else none) = _; rw [if_pos (by unfold lim; decide)]) ?_
 walk_at "es"
 unfold F_q25 z4Z
 refine t_fn rfl ?_
 walk_at "es"
 refine yF (by omega) (by decide) fun q q0 q1 => ?_
 walk_at "es"
 obtain ⟨w, ew, w1, w2⟩ : ∃ w : Int, fIx (.list [.int 1, .int 2, .int 4, .int 10, .int 100]) (.int q) = some (.int w) ∧ 1 ≤ w ∧ w ≤ 100 := by
  have h5 : q < 5 := q1
  rcases (by omega : q = 0 ∨ q = 1 ∨ q = 2 ∨ q = 3 ∨ q = 4) with rfl | rfl | rfl | rfl | rfl
  ·exact ⟨1, rfl, by decide, by decide⟩
  ·exact ⟨2, rfl, by decide, by decide⟩
  ·exact ⟨4, rfl, by decide, by decide⟩
  ·exact ⟨10, rfl, by decide, by decide⟩
  ·exact ⟨100, rfl, by decide, by decide⟩
 rw [ew]
 walk_at "es"
 rw [z1E (by simp; omega)]
 walk_at "es"
 refine xL PyData.int (fun z => 0 ≤ z ∧ z ≤ 99) 1 (fun d hd n' hn' => ?_) fun l n' hl hq hn' => ?_
 ·walk_at "es"
  refine yF (by rw [List.length_map] at hn'; omega) (by omega) fun z z0 z1 => ?_
  exact ⟨z, rfl, ⟨z0, by omega⟩, by omega⟩
 ·try walk_at "es"
  rw [List.length_map] at hl hn'
  exact h l _ ⟨by simpa using hl, hq⟩ (by omega)
end Gw
namespace Gw
open PySem L2
theorem z5C {m : Int} {ds : List (List Int)} {st : List Int} {c : Nat} {n : Nat} {P : D → Nat → Prop} (H : HouseOk m ds) (S : StOk m st) (hc : c < ds.length) (h : P (.p (plD (thr (ds.getD c []) st))) n) : Ok (F_q30 [.p (zo m ds), .p (plD st), .p (.int c)]) n P := by
 have hm := H.hi
 have d1 := H.doors _ (yG (l := ds) (i := c) (d := []) hc)
 have hd := d1.len
 have hl := S.len
 unfold F_q30 z4m
 refine t_fn rfl ?_
 rw [zT]
 walk_at "es"
 rw [z1E (by simp; omega)]
 walk_at "es"
 refine ym (J' := PyData.int) (f := fun y => (ds.getD c []).getD y.toNat 0) (fun y hy => ?_) ?_
 ·have := S.inr y hy
  walk_at "es"
  rw [z0I (J := plD) (d := []) (by omega) (by omega)]
  walk_at "es"
  rw [show (c : Int).toNat = c by omega, xM (by omega) (by omega)]
  walk_at "es"
  exact ⟨by first | rfl | trivial, by first | rfl | trivial⟩
 ·try walk_at "es"
  rw [z1q]
  walk_at "es"
  obtain ⟨r, e1, e2, e3⟩ := z3y (z8A hm d1 S)
  rw [e1]
  walk_at "es"
  rw [z64 hm d1 S e2 e3]
  exact h
noncomputable def z0K (cs : List Int) (T : List (List Int × List Int)) : PyData := .dict (gJ (fun r => wayT (wC cs) r []) T)
theorem uW : WayOk (fun _ => []) := ⟨fun _ => rfl, fun _ => by simp [PyData.depthAll], fun _ => rfl, fun _ => rfl⟩
structure TOk (m : Int) (ds : List (List Int)) (pl : List Int) (T : List (List Int × List Int)) : Prop where
 tab : Tab (gH ds) ds.length pl T
 st : ∀ q ∈ T, StOk m q.1 ∧ q.1 ≠ []
theorem TOk.few {m : Int} {ds : List (List Int)} {pl : List Int} {T : List (List Int × List Int)} (h6 : m ≤ 6) (B : TOk m ds pl T) : T.length ≤ 63 := by
 have := z8T B.tab.nd fun st hst => by
  obtain ⟨q, hq, rfl⟩ := List.mem_map.mp hst
  obtain ⟨s1, s2⟩ := B.st q hq
  exact ⟨s1.srt, fun y hy => by have := s1.inr y hy; omega, s2⟩
 simpa using this
theorem TOk.put {m : Int} {ds : List (List Int)} {pl r st : List Int} {T : List (List Int × List Int)} (B : TOk m ds pl T) (h1 : zI (gH ds) pl r = st) (h2 : DoorsIn ds.length r) (h3 : StOk m st ∧ st ≠ []) : TOk m ds pl (putT T st r) :=
 ⟨B.tab.put h1 h2, fun q hq => by
  rcases (yb q).mp hq with rfl | ⟨h, _⟩
  ·exact h3
  ·exact B.st q h⟩
theorem z86 {m : Int} {ds : List (List Int)} {pl : List Int} (h6 : m ≤ 6) (H : HouseOk m ds) (S : StOk m pl) (hp : pl ≠ []) : ∀ l : List (List Int), (l.map (zI (gH ds) pl)).Nodup → (∀ r ∈ l, DoorsIn ds.length r) → l.length ≤ 63 := fun l nd hl => by
 have := z8T nd fun st hst => by
  obtain ⟨r, hr, rfl⟩ := List.mem_map.mp hst
  have s1 := u5 H S (hl r hr)
  exact ⟨s1.srt, fun y hy => by have := s1.inr y hy; omega, z31 H S hp (hl r hr)⟩
 simpa using this
theorem z5O {T : List (List Int × List Int)} {s : List Int} (h : (T.any fun p => decide (p.1 = s)) = true) : ∃ q ∈ T, q.1 = s := by
 obtain ⟨q, hq, e⟩ := List.any_eq_true.mp h
 exact ⟨q, hq, of_decide_eq_true e⟩
theorem z3B {T : List (List Int × List Int)} {s : List Int} (h : (T.any fun p => decide (p.1 = s)) = false) : ∀ q ∈ T, q.1 ≠ s := fun q hq => by
 have := List.any_eq_false.mp h q hq
 simpa using this
theorem z5t {T : List (List Int × List Int)} (nd : (T.map (·.1)).Nodup) {p q : List Int × List Int} (hp : p ∈ T) (hq : q ∈ T) (e : p.1 = q.1) : p = q := by
 have h1 := wI nd hp
 rw [e, wI nd hq] at h1
 cases h1; rfl
theorem z2Y {m : Int} {ds : List (List Int)} {cs pl : List Int} {n : Nat} {P : D → Nat → Prop} (h6 : m ≤ 6) (H : HouseOk m ds) (C : CostOk ds cs) (L : PlOk m pl)
  (h : ∀ T, TOk m ds pl T → (∀ r, DoorsIn ds.length r → ∃ q ∈ T, q.1 = zI (gH ds) pl r ∧ wLe (wC cs) q.2 r) → P (.p (z0K cs T)) n) : Ok (F_q31 [.p (zo m ds), .p (plD cs), .p (plD pl)]) n P := by
 have S : StOk m pl := ⟨L.inr, L.srt, L.len⟩
 have hm := H.hi
 have hf := H.few
 have hcl := C.len
 unfold F_q31 z5U
 refine t_fn rfl ?_
 walk_at "es"
 unfold mD1
 walk_at "es"
 rw [if_pos (show zj [] (plD pl) = true from wN [] pl)]
 walk_at "es"
 unfold xn
 refine uy (fun μ ρ n' => n' = n ∧ ∃ (T : List (List Int × List Int)) (k : Nat) (c : Bool) (x5 x6 x7 x8 x9 x10 x11 : Option Sl), ρ = [some (Sl.val (.p (zo m ds))), some (Sl.val (.p (plD cs))), some (Sl.val (.p (plD pl))), some (Sl.own (z0K cs T)), some (Sl.val (.p (.bool c))), x5, x6, x7, x8, x9, x10, x11] ∧ TOk m ds pl T ∧ Dom (gH ds) (wC cs) ds.length pl T k ∧ (c = false → ∀ q ∈ T, Gone (gH ds) (wC cs) ds.length T q ds.length) ∧ (c = true → k ≤ 62) ∧ (∀ q ∈ T, q.2.length ≤ 189 * k) ∧ μ = if c then 63 - k else 0) (fun μ ρ n' hI => ?_) (μ := 63) (by decide) ⟨rfl, [(pl, [])], 0, true, none, none, none, none, none, none, none, rfl, ⟨Tab.init, fun q hq => by rw [List.mem_singleton.mp hq]; exact ⟨S, L.ne⟩⟩, fun r _ hr => ⟨(pl, []), List.mem_singleton.mpr rfl, by rw [List.length_eq_zero_iff.mp (Nat.le_zero.mp hr)]; rfl, by rw [List.length_eq_zero_iff.mp (Nat.le_zero.mp hr)]; exact wLe.refl _ _⟩, fun z => (nomatch z), fun _ => by omega, fun q hq => by rw [List.mem_singleton.mp hq]; simp, rfl⟩
 obtain ⟨rfl, T0, k, c0, x5, x6, x7, x8, x9, x10, x11, rfl, B0, hD, hG, hk, hlen, rfl⟩ := hI
 have hT0 := B0.few h6
 walk_at "es"
 cases c0 with
 | false =>
  refine ⟨fun z => (nomatch z), fun _ => ?_⟩
  try walk_at "es"
  refine h T0 B0 fun r hr => ?_
  have hD0 : Dom (gH ds) (wC cs) ds.length pl T0 0 := fun r hr hl => hD r hr (by omega)
  exact Dom.all hD0 (hG rfl) r.length r hr (Nat.le_refl _)
 | true =>
  have hk := hk rfl
  refine ⟨fun _ => ⟨63 - k - 1, by simp only [if_true]; omega, ?_⟩, fun z => (nomatch z)⟩
  refine t_seq ?_
  walk_at "es"
  unfold z4P
  walk_at "es"
  rw [show z3L [z0K cs T0] = some ((T0.map (·.1)).map tupI) from by
   show some ((gJ (fun r => wayT (wC cs) r []) T0).map (·.1)) = _
   unfold gJ
   rw [List.map_map, List.map_map]; rfl]
  walk_at "es"
  obtain ⟨us, eus, pus, _⟩ := z1Y (ts := T0.map (·.1)) (fun t ht => by
   obtain ⟨q, hq, rfl⟩ := List.mem_map.mp ht
   exact (B0.st q hq).2) (by rw [List.length_map]; omega)
  rw [eus]
  walk_at "es"
  have husl := pus.length_eq
  rw [List.length_map] at husl
  rw [z8F (by rw [List.length_map]; omega)]
  walk_at "es"
  refine z0P (fun i ρ n2 => n2 = n' ∧ ∃ (T : List (List Int × List Int)) (c : Bool) (x5 x6 x7 x8 x9 x10 x11 : Option Sl), ρ = [some (Sl.val (.p (zo m ds))), some (Sl.val (.p (plD cs))), some (Sl.val (.p (plD pl))), some (Sl.own (z0K cs T)), some (Sl.val (.p (.bool c))), x5, x6, x7, x8, x9, x10, x11] ∧ TOk m ds pl T ∧ Low (wC cs) T0 T ∧ (c = false → T = T0) ∧ (c = true → k ≤ 61) ∧ (∀ q ∈ T, q.2.length ≤ 189 * k + 3 * i) ∧ ∀ q ∈ T0, q.1 ∈ us.take i → Gone (gH ds) (wC cs) ds.length T q ds.length) (fun i ρ n2 hi hI => ?_) (fun ρ n2 hI => ?_) ⟨by first | rfl | trivial, T0, false, x5, x6, x7, x8, x9, x10, x11, rfl, B0, Low.refl _, fun _ => rfl, fun z => (nomatch z), hlen, fun q _ hq => by simp at hq⟩
  ·obtain ⟨rfl, T, c, x5, x6, x7, x8, x9, x10, x11, rfl, B, hL, hc0, hc1, hln, hGo⟩ := hI
   have hi' : i < us.length := by simpa using hi
   rw [List.getElem_map]
   refine ⟨_, rfl, ?_⟩
   obtain ⟨q0, hq0, eq0⟩ : ∃ q0 ∈ T0, q0.1 = us[i] := by
    obtain ⟨q, hq, e⟩ := List.mem_map.mp (pus.mem_iff.mp (List.getElem_mem hi'))
    exact ⟨q, hq, e⟩
   obtain ⟨p, hp, ep, lp⟩ := hL q0 hq0
   have ep' : us[i] = p.1 := by rw [ep, eq0]
   rw [ep']
   have Sp := B.st p hp
   have hpd := B.tab.rd p hp
   have hpl := hln p hp
   refine t_seq ?_
   unfold sAsg
   walk_at "es"
   rw [show fIx (z0K cs T) (tupI p.1) = some (wayT (wC cs) p.2 []) from z3s (J := fun r => wayT (wC cs) r []) B.tab.nd hp]
   walk_at "es"
   unfold wayT
   refine xO rfl ?_
   refine t_nx ?_
   refine t_for ?_
   walk_at "es"
   rw [zT]
   walk_at "es"
   rw [y4 (by simp; omega), List.length_map, zv _ (by omega)]
   walk_at "es"
   rw [← zT]
   refine z0P (fun d ρ n3 => n3 = n2 ∧ d ≤ ds.length ∧ ∃ (T' : List (List Int × List Int)) (c : Bool) (x9 x10 x11 : Option Sl), ρ = [some (Sl.val (.p (zo m ds))), some (Sl.val (.p (plD cs))), some (Sl.val (.p (plD pl))), some (Sl.own (z0K cs T')), some (Sl.val (.p (.bool c))), some (Sl.val (.p (tupI p.1))), some (Sl.val (.p (.int (zf (wC cs) p.2)))), some (Sl.val (.p (.int p.2.length))), some (Sl.val (.p (tupI p.2))), x9, x10, x11] ∧ TOk m ds pl T' ∧ Low (wC cs) T T' ∧ (c = false → T' = T0) ∧ (c = true → k ≤ 61) ∧ (∀ q ∈ T', q.2.length ≤ 189 * k + 3 * i + d) ∧ Gone (gH ds) (wC cs) ds.length T' p d) (fun d ρ n3 hd hI => ?_) (fun ρ n3 hI => ?_) ⟨by first | rfl | trivial, Nat.zero_le _, T, c, x9, x10, x11, rfl, B, Low.refl _, hc0, hc1, hln, fun d hd => absurd hd (by omega)⟩
   ·obtain ⟨rfl, hdl, T', c, x9, x10, x11, rfl, B', hL', hc0, hc1, hln', hGo'⟩ := hI
    have hd' : d < ds.length := by simpa [zN] using hd
    have ek : (upto (ds.length : Int).toNat)[d]'(by rw [zN]; omega) = (d : Int) := by simp [upto]
    have hT' := B'.few h6
    have d1 := H.doors _ (yG (l := ds) (i := d) (d := []) hd')
    have eL : zI (gH ds) pl (p.2 ++ [(d : Int)]) = thr (ds.getD d []) p.1 := by
     rw [zc, B.tab.sd p hp]
     unfold gH
     rw [show (d : Int).toNat = d by omega]
    have eN : PyData.tuple [.int (zf (wC cs) p.2 + cs.getD d 0), .int ((p.2.length : Int) + 1), tupI (p.2 ++ [(d : Int)])] = wayT (wC cs) (p.2 ++ [(d : Int)]) [] := by
     unfold wayT
     rw [yq, List.length_append, List.length_singleton]
     unfold wC
     rw [show (d : Int).toNat = d by omega]
     rfl
    rw [List.getElem_map, ek]
    refine ⟨_, rfl, ?_⟩
    walk_at "es"
    refine z5C H Sp.1 hd' ?_
    walk_at "es"
    rw [xM (by omega) (by omega), show (d : Int).toNat = d by omega]
    walk_at "es"
    rw [show fAdd (tupI p.2) (.tuple [.int d]) = some (tupI (p.2 ++ [(d : Int)])) from by
     simp only [fAdd]
     rw [if_pos (by unfold lim; simp; omega)]
     simp]
    walk_at "es"
    rw [eN]
    rw [show fIn true (plD (thr (ds.getD d []) p.1)) (z0K cs T') = _ from z5q (J := fun r => wayT (wC cs) r []) (l := T') (fun z => by
     obtain ⟨p', hp', _⟩ := hL' p hp
     rw [z] at hp'; cases hp') true (thr (ds.getD d []) p.1)]
    walk_at "es"
    have hrow : DoorsIn ds.length (p.2 ++ [(d : Int)]) := hpd.snoc hd'
    have put : (∀ q ∈ T', q.1 = thr (ds.getD d []) p.1 → wLe (wC cs) (p.2 ++ [(d : Int)]) q.2 ∧ ¬ wLe (wC cs) q.2 (p.2 ++ [(d : Int)])) → TOk m ds pl (putT T' (thr (ds.getD d []) p.1) (p.2 ++ [(d : Int)])) ∧ Low (wC cs) T (putT T' (thr (ds.getD d []) p.1) (p.2 ++ [(d : Int)])) ∧ k ≤ 61 ∧ (∀ q ∈ putT T' (thr (ds.getD d []) p.1) (p.2 ++ [(d : Int)]), q.2.length ≤ 189 * k + 3 * i + (d + 1)) ∧ Gone (gH ds) (wC cs) ds.length (putT T' (thr (ds.getD d []) p.1) (p.2 ++ [(d : Int)])) p (d + 1) := fun hlt => by
     have low : Low (wC cs) T' (putT T' (thr (ds.getD d []) p.1) (p.2 ++ [(d : Int)])) := Low.put fun q hq e => (hlt q hq e).1
     refine ⟨B'.put eL hrow ⟨z1w hm d1 Sp.1, z66 hm d1 Sp.1 Sp.2⟩, hL'.trans low, ?_, fun q hq => ?_, fun e he => ?_⟩
     ·refine Nat.le_of_not_lt fun hk2 => ?_
      obtain ⟨q, hq, e1, e2⟩ := Dom.full C.pos (z86 h6 H S L.ne) (hD.low (hL.trans hL')) (by omega) _ hrow
      exact (hlt q hq (by rw [e1, eL])).2 e2
     ·rcases (yb q).mp hq with rfl | ⟨hq, _⟩
      ·simp; omega
      ·have := hln' q hq; omega
     ·by_cases ed : e = d
      ·subst ed
       refine ⟨_, (yb _).mpr (.inl rfl), ?_, wLe.refl _ _⟩
       show thr _ _ = _
       unfold gH
       rw [show (e : Int).toNat = e by omega]
      ·exact (hGo'.low low) e (by omega)
    cases hany : T'.any fun q => decide (q.1 = thr (ds.getD d []) p.1) with
    | false =>
     walk_at "es"
     obtain ⟨g1, g2, g3, g4, g5⟩ := put fun q hq e => absurd e (z3B hany q hq)
     unfold xt
     walk_at "es"
     rw [show ownD _ 3 = some (gJ (fun r => wayT (wC cs) r []) T') from rfl]
     walk_at "es"
     rw [show putD (gJ (fun r => wayT (wC cs) r []) T') (plD (thr (ds.getD d []) p.1)) (wayT (wC cs) (p.2 ++ [(d : Int)]) []) = _ from z5o (β := Unit) (J := fun r => wayT (wC cs) r []) T' (by omega) (thr (ds.getD d []) p.1) (p.2 ++ [(d : Int)])]
     walk_at "es"
     exact ⟨by first | rfl | trivial, hd', _, true, _, _, _, rfl, g1, g2, fun z => (nomatch z), fun _ => g3, g4, g5⟩
    | true =>
     obtain ⟨q, hq, eq⟩ := z5O hany
     walk_at "es"
     rw [show fIx (z0K cs T') (plD (thr (ds.getD d []) p.1)) = some (wayT (wC cs) q.2 []) from by rw [← eq]; exact z3s (J := fun r => wayT (wC cs) r []) B'.tab.nd hq]
     walk_at "es"
     rw [show fLtN (wayT (wC cs) (p.2 ++ [(d : Int)]) []) (wayT (wC cs) q.2 []) = some (.bool (HT.lexLt (wKey (wC cs) (p.2 ++ [(d : Int)])) (wKey (wC cs) q.2))) from by
      unfold fLtN
      rw [if_pos ⟨xj uW (wC cs) _, xj uW (wC cs) _, by have := z1W uW (wC cs) (p.2 ++ [(d : Int)]); omega⟩, z44 uW (wC cs)]
      rfl]
     walk_at "es"
     cases hlt : HT.lexLt (wKey (wC cs) (p.2 ++ [(d : Int)])) (wKey (wC cs) q.2) with
     | true =>
      walk_at "es"
      obtain ⟨g1, g2, g3, g4, g5⟩ := put fun q' hq' e => by
       have : q' = q := z5t B'.tab.nd hq' hq (by rw [e, eq])
       subst this
       refine ⟨z05 hlt, fun z => ?_⟩
       unfold wLe at z
       rw [hlt] at z; cases z
      unfold xt
      walk_at "es"
      rw [show ownD _ 3 = some (gJ (fun r => wayT (wC cs) r []) T') from rfl]
      walk_at "es"
      rw [show putD (gJ (fun r => wayT (wC cs) r []) T') (plD (thr (ds.getD d []) p.1)) (wayT (wC cs) (p.2 ++ [(d : Int)]) []) = _ from z5o (β := Unit) (J := fun r => wayT (wC cs) r []) T' (by omega) (thr (ds.getD d []) p.1) (p.2 ++ [(d : Int)])]
      walk_at "es"
      exact ⟨by first | rfl | trivial, hd', _, true, _, _, _, rfl, g1, g2, fun z => (nomatch z), fun _ => g3, g4, g5⟩
     | false =>
      walk_at "es"
      refine ⟨by first | rfl | trivial, hd', T', c, _, _, _, rfl, B', hL', hc0, hc1, fun q hq => by have := hln' q hq; omega, fun e he => ?_⟩
      by_cases ed : e = d
      ·subst ed
       refine ⟨q, hq, ?_, hlt⟩
       rw [eq]
       unfold gH
       rw [show (e : Int).toNat = e by omega]
      ·exact hGo' e (by omega)
   ·obtain ⟨rfl, hdl, T', c, x9, x10, x11, rfl, B', hL', hc0, hc1, hln', hGo'⟩ := hI
    rw [List.length_map, zN, show (ds.length : Int).toNat = ds.length by omega] at hGo' hln'
    refine ⟨by first | rfl | trivial, T', c, _, _, _, _, _, _, _, rfl, B', hL.trans hL', hc0, hc1, fun q hq => by have := hln' q hq; omega, fun q hq hqi => ?_⟩
    rw [List.take_add_one, List.getElem?_eq_getElem hi', Option.toList_some, List.mem_append, List.mem_singleton] at hqi
    rcases hqi with hqi | hqi
    ·exact (hGo q hq hqi).low hL'
    ·have : q = q0 := z5t B0.tab.nd hq hq0 (by rw [hqi, eq0])
     subst this
     intro d hd
     obtain ⟨p', hp', e1, e2⟩ := hGo' d hd
     exact ⟨p', hp', by rw [e1, ep], e2.trans (lp.snoc _)⟩
  ·obtain ⟨rfl, T, c, x5, x6, x7, x8, x9, x10, x11, rfl, B, hL, hc0, hc1, hln, hGo⟩ := hI
   rw [List.length_map] at hln hGo
   rw [List.take_length] at hGo
   have gone : ∀ q ∈ T0, Gone (gH ds) (wC cs) ds.length T q ds.length := fun q hq => hGo q hq (pus.mem_iff.mpr (List.mem_map.mpr ⟨q, hq, rfl⟩))
   refine ⟨if c then 63 - (k + 1) else 0, by cases c <;> simp <;> omega, by first | rfl | trivial, T, k + 1, c, _, _, _, _, _, _, _, rfl, B, hD.next hL gone, fun z => ?_, fun z => by have := hc1 z; omega, fun q hq => by have := hln q hq; omega, rfl⟩
   have := hc0 z
   subst this
   exact gone
end Gw
namespace Gw
open PySem L2
theorem z2i {m : Int} {ds : List (List Int)} {row : List Int} {n : Nat} {P : D → Nat → Prop} (H : HouseOk m ds) (hr : DoorsIn ds.length row) (hl : row.length ≤ 60) (h : P (.p .none) n) : Ok (F_q11 [.p (plD row), .p (zo m ds)]) n P := by
 have hf := H.few
 unfold F_q11 z4c
 refine t_fn rfl ?_
 walk_at "es"
 unfold F_q8 b_q8
 refine t_fn rfl ?_
 rw [zT]
 walk_at "es"
 rw [List.length_map]
 refine yI (by omega) (fun x hx => by have := hr x hx; omega) ?_
 walk_at "es"
 rw [List.length_map]
 rw [show decide ((row.length : Int) ≤ z6d) = true from decide_eq_true (by unfold z6d; omega)]
 walk_at "es"
 exact h
theorem z4D {m : Int} {ds : List (List Int)} {st row : List Int} {n : Nat} {P : D → Nat → Prop} (H : HouseOk m ds) (S : StOk m st) (hr : DoorsIn ds.length row) (hl : row.length ≤ 60) (h : P (.p (plD (zI (gH ds) st row))) n) : Ok (F_q14 [.p (zo m ds), .p (plD st), .p (plD row)]) n P := by
 have hf := H.few
 unfold F_q14 z4y
 refine t_fn rfl ?_
 walk_at "es"
 rw [z1E (by rw [List.length_map]; omega)]
 walk_at "es"
 refine z0P (fun k ρ n' => n' = n ∧ ∃ x4 : Option Sl, ρ = [some (Sl.val (.p (zo m ds))), some (Sl.val (.p (plD st))), some (Sl.val (.p (plD row))), some (Sl.val (.p (plD (zI (gH ds) st (row.take k))))), x4]) (fun k ρ n' hk hI => ?_) (fun ρ n' hI => ?_) ⟨rfl, _, rfl⟩
 ·obtain ⟨rfl, x4, rfl⟩ := hI
  have hk' : k < row.length := by simpa using hk
  have hd := hr _ (List.getElem_mem hk')
  have St := u5 H S (r := row.take k) fun x hx => hr x (List.mem_of_mem_take hx)
  rw [List.getElem_map]
  refine ⟨_, rfl, ?_⟩
  rw [zT]
  walk_at "es"
  rw [show fIs true (.tuple ((zI (gH ds) st (row.take k)).map PyData.int)) .none = some (.bool true) from rfl]
  walk_at "es"
  rw [z0I (J := plD) (d := []) (by omega) (by omega)]
  walk_at "es"
  refine xa H.hi (H.doors _ (yG (by omega))) St ?_
  walk_at "es"
  refine ⟨rfl, some (Sl.val (.p (.int row[k]))), ?_⟩
  rw [show zI (gH ds) st (row.take (k + 1)) = thr (ds.getD row[k].toNat []) (zI (gH ds) st (row.take k)) by rw [List.take_succ_eq_append_getElem hk', zc]; rfl]
 ·obtain ⟨rfl, x4, rfl⟩ := hI
  rw [List.length_map, List.take_length]
  walk_at "es"
  exact h
theorem z7x {m : Int} {ds : List (List Int)} {st row : List Int} {n : Nat} {P : D → Nat → Prop} (H : HouseOk m ds) (L : PlOk m st) (hr : DoorsIn ds.length row) (hl : row.length ≤ 60) (h : P (.p (plD (zI (gH ds) st row))) n) : Ok (F_led [.p (zo m ds), .p (plD st), .p (plD row)]) n P := by
 unfold F_led z5Y
 refine t_fn rfl ?_
 walk_at "es"
 refine wb H L ?_
 walk_at "es"
 refine z2i H hr hl ?_
 walk_at "es"
 refine z4D H ⟨L.inr, L.srt, L.len⟩ hr hl ?_
 walk_at "es"
 exact h
end Gw
namespace Gw
open PySem L2
theorem z7Q (w : Int → Int) (r : List Int) : fIx (z0E w (some r)) (.int 0) = some (.int (zf w r)) := fIx_t0 _ _
theorem z5h (w : Int → Int) (r : List Int) : fIx (z0E w (some r)) (.int 1) = some (tupI r) := fIx_t1 _ _ _
theorem z4i {ds : List (List Int)} {cs r : List Int} (C : CostOk ds cs) (hr : r.length ≤ 60) : fSum [.list ((r.map fun d => cs.getD d.toNat 0).map PyData.int)] = some (.int (zf (wC cs) r)) := by
 simp only [fSum]
 rw [ye]
 simp only [Option.bind_some]
 rw [if_pos ⟨by rw [List.length_map]; omega, by
  rw [List.all_eq_true]
  intro x hx
  obtain ⟨d, hd, rfl⟩ := List.mem_map.mp hx
  have h0 := C.pos d
  unfold wC at h0
  refine decide_eq_true ⟨h0, ?_⟩
  by_cases h : d.toNat < cs.length
  ·have := C.inr _ (yG (l := cs) (i := d.toNat) (d := 0) h); omega
  ·rw [List.getD_eq_getElem?_getD, List.getElem?_eq_none (by omega)]; decide⟩]
 rfl
theorem z56 {α β : Type} {c : Env' → Mx Bool} {e : Env' → Mx D} {ρ : Env'} {n : Nat} {J : α → PyData} {J' : β → PyData} {l : List α} {P : List PyData → Nat → Prop} (f : α → Bool) (g : α → β) (hc : ∀ a ∈ l, Ok (c (ρ ++ [some (Sl.val (.p (J a)))])) n fun t n2 => t = f a ∧ n2 = n) (he : ∀ a ∈ l, f a = true → Ok (e (ρ ++ [some (Sl.val (.p (J a)))])) n fun y n2 => y = .p (J' (g a)) ∧ n2 = n) (h : P (((l.filter f).map g).map J') n) : Ok (zP c e ρ (l.map J) []) n P := by
 refine xZ (I := fun k acc n' => n' = n ∧ acc = (((l.take k).filter f).map g).map J') (fun k acc n' hk hI => ?_) (fun acc n' hI => ?_) ⟨rfl, by simp⟩
 ·obtain ⟨rfl, rfl⟩ := hI
  have hk' : k < l.length := by simpa using hk
  rw [List.getElem_map]
  refine (hc _ (List.getElem_mem hk')).imp fun t n2 ⟨e1, e2⟩ => ?_
  subst e1 e2
  refine ⟨fun ht => (he _ (List.getElem_mem hk') ht).imp fun y n3 ⟨e3, e4⟩ => ⟨_, e3, e4, ?_⟩, fun ht => ⟨rfl, ?_⟩⟩
  ·rw [xK hk', List.filter_append, List.map_append, List.map_append]
   simp only [List.filter_cons, ht, List.filter_nil, if_true, List.map_cons, List.map_nil]
  ·rw [xK hk', List.filter_append, List.map_append, List.map_append]
   simp only [List.filter_cons, ht, List.filter_nil, Bool.false_eq_true, if_false, List.map_nil, List.append_nil]
 ·obtain ⟨rfl, rfl⟩ := hI
  rw [List.length_map, List.take_length]
  exact h
theorem z3W {ds : List (List Int)} {pl : List Int} {o : Option (List Int)} {w : Int → Int} (B : Best ds pl o) (C : Cheap ds w pl none) : o = none := by
 cases o with
 | none => rfl
 | some r =>
  obtain ⟨b1, ⟨st, b2, b3⟩, b4⟩ := B.yes r rfl
  rw [z6p] at b2
  cases b2
  have := C.no rfl r b1
  rw [show one (zI (gH ds) pl r) = true from decide_eq_true b3] at this; cases this
theorem z24 (w : Int → Int) (W : List (List Int)) : fEq false (.list (W.map fun r => wayT w r [])) (.list []) = some (.bool W.isEmpty) := by
 unfold fEq
 rw [if_pos ⟨by simp only [PyData.canLay0]; exact z2C (J := fun r => wayT w r []) (xj uW w) W, rfl, by simp only [PyData.depth, PyData.depthAll]; omega⟩]
 cases W with
 | nil => rfl
 | cons x r => simp [PyData.eqv, PyData.eqvAll]
theorem z3m (t : Adr) : z6O 8 (z2V t) := by
 intro ns hns
 suffices h : Ok (z2V t (xq 8 ns)) 0 (fun o n' => o = .rt (.p (.bool true))) by
  obtain ⟨o, n', e, rfl⟩ := h
  exact ⟨n', e⟩
 unfold z2V xq
 walk_at "es"
 refine z4w (by decide) (by decide) (by decide) (by omega) fun m ds n1 H _ h6 hn1 => ?_
 have hlo := H.lo
 have h8 := H.hi
 have hf := H.few
 have hsm := H.some
 walk_at "es"
 refine z4h H (by omega) fun cs n2 C hn2 => ?_
 have hcl := C.len
 rw [zT]
 walk_at "es"
 refine z3z hlo h8 (by omega) fun pl n3 L hn3 => ?_
 have S : StOk m pl := ⟨L.inr, L.srt, L.len⟩
 rw [← zT]
 walk_at "es"
 refine z1R H C L h6 fun o K hK => ?_
 walk_at "es"
 refine z2Y h6 H C L fun T B hT => ?_
 have hTl := B.few h6
 walk_at "es"
 have ek : (gJ (fun r => wayT (wC cs) r []) T).map (·.1) = (T.map (·.1)).map tupI := by
  unfold gJ
  rw [List.map_map, List.map_map]; rfl
 refine z22 (kvs := gJ (fun r => wayT (wC cs) r []) T) ?_ (by simp [gJ]; omega) ?_
 ·try walk_at "es"
  first | exact ⟨rfl, by first | rfl | trivial⟩ | exact ⟨by first | rfl | trivial, by first | rfl | trivial⟩ | trivial
 ·rw [show (gJ (fun r => wayT (wC cs) r []) T).map (·.1) = T.map (fun q => tupI q.1) from by unfold gJ; rw [List.map_map]; rfl]
  refine z56 (J := fun q : List Int × List Int => tupI q.1) (J' := fun r => wayT (wC cs) r []) (f := fun q => one q.1) (g := fun q => q.2) (fun q hq => ?_) (fun q hq _ => ?_) ?_
  ·walk_at "es"
   rw [List.length_map]
   refine ⟨?_, by first | rfl | trivial⟩
   unfold one
   rw [decide_eq_decide]; omega
  ·walk_at "es"
   rw [show fIx (z0K cs T) (tupI q.1) = some (wayT (wC cs) q.2 []) from z3s (J := fun r => wayT (wC cs) r []) B.tab.nd hq]
   walk_at "es"
   exact ⟨by first | rfl | trivial, by first | rfl | trivial⟩
  ·try walk_at "es"
   have hW : ∀ x ∈ (T.filter fun q => one q.1).map (fun q => q.2), DoorsIn ds.length x ∧ one (zI (gH ds) pl x) = true := fun x hx => by
    obtain ⟨q, hq, rfl⟩ := List.mem_map.mp hx
    obtain ⟨h1, h2⟩ := List.mem_filter.mp hq
    exact ⟨B.tab.rd q h1, by rw [B.tab.sd q h1]; exact h2⟩
   have hW2 : ∀ r, DoorsIn ds.length r → one (zI (gH ds) pl r) = true → ∃ x ∈ (T.filter fun q => one q.1).map (fun q => q.2), wLe (wC cs) x r := fun r hr h1 => by
    obtain ⟨q, hq, e1, e2⟩ := hT r hr
    exact ⟨q.2, List.mem_map.mpr ⟨q, List.mem_filter.mpr ⟨hq, by rw [e1]; exact h1⟩, rfl⟩, e2⟩
   generalize (T.filter fun q => one q.1).map (fun q => q.2) = W at hW hW2
   cases o with
   | none =>
    rw [show fIs false (z0E (wC cs) none) .none = some (.bool true) from rfl]
    walk_at "es"
    have : W = [] := by
     cases W with
     | nil => rfl
     | cons x r =>
      obtain ⟨h1, h2⟩ := hW x List.mem_cons_self
      have := K.no rfl x h1
      rw [h2] at this; cases this
    subst this
    rw [show fEq false (.list (([] : List (List Int)).map fun r => wayT (wC cs) r [])) (.list []) = _ from z24 (wC cs) []]
    walk_at "es"
    refine z3x H L fun o' B' => ?_
    have := z3W B' K
    subst this
    walk_at "es"
    rw [show fIs false (rowO none) .none = some (.bool true) from rfl]
    walk_at "es"
   | some r =>
    obtain ⟨k1, k2, k3⟩ := K.yes r rfl
    have hrl := hK r rfl
    rw [show fIs false (z0E (wC cs) (some r)) .none = some (.bool false) from rfl]
    walk_at "es"
    have hne : W ≠ [] := fun z => by
     obtain ⟨x, hx, _⟩ := hW2 r k1 k2
     rw [z] at hx; cases hx
    rw [z24, show W.isEmpty = false from by cases W with | nil => exact absurd rfl hne | cons => rfl]
    walk_at "es"
    obtain ⟨x, hx, emin, hmin⟩ := ul uW (wC cs) hne
    have ex : x = r := by
     obtain ⟨y, hy, le1⟩ := hW2 r k1 k2
     exact wLe.antisymm ((hmin y hy).trans le1) (k3 x (hW x hx).1 (hW x hx).2)
    subst ex
    rw [emin]
    walk_at "es"
    rw [z45]
    walk_at "es"
    rw [emin]
    walk_at "es"
    rw [z3S]
    walk_at "es"
    rw [show (PyData.tuple [.int (zf (wC cs) x), tupI x]) = z0E (wC cs) (some x) from rfl, z4K]
    walk_at "es"
    rw [z5h]
    walk_at "es"
    refine z7x H L k1 (by omega) ?_
    walk_at "es"
    rw [List.length_map]
    rw [show decide (((zI (gH ds) pl x).length : Int) = 1) = true from decide_eq_true (by have : (zI (gH ds) pl x).length = 1 := of_decide_eq_true k2; omega)]
    walk_at "es"
    rw [z7Q]
    walk_at "es"
    rw [z5h]
    walk_at "es"
    rw [z1E (by rw [List.length_map]; omega)]
    walk_at "es"
    refine ym (J := PyData.int) (J' := PyData.int) (f := fun d => cs.getD d.toNat 0) (fun d hd => ?_) ?_
    ·have := k1 d hd
     walk_at "es"
     rw [xM (by omega) (by omega)]
     walk_at "es"
     exact ⟨by first | rfl | trivial, by first | rfl | trivial⟩
    ·try walk_at "es"
     rw [z4i C (by omega)]
     walk_at "es"
     rw [decide_eq_true (show zf (wC cs) x = zf (wC cs) x from rfl)]
     try rfl
end Gw
namespace Gw
open PySem L2
theorem all_mk {l : W.OpenLaw} {w : World} {K : W.Frag} {h : Heap} {mg : Str → Option Value} {fa : Addr} {f_q0 f_q1 f_q2 f_q3 f_q4 f_q5 f_q6 f_q7 f_q8 f_q9 f_q10 f_q11 f_q12 f_q13 f_q14 f_led f_q15 f_q16 f_q17 f_q18 f_q19 f_q20 f_q21 f_q22 f_q23 f_q24 f_q25 f_q26 f_q27 f_q28 f_q29 f_q30 f_q31 f_law : Addr} (X : K.In h) (G : h.Ns mainGlobals mg) (hfa : mg "law" = some (.ref fa))
  {od_q0 an_q0 od_q1 an_q1 od_q2 an_q2 od_q3 an_q3 od_q4 an_q4 od_q5 an_q5 od_q6 an_q6 od_q7 an_q7 od_q8 an_q8 od_q9 an_q9 od_q10 an_q10 od_q11 an_q11 od_q12 an_q12 od_q13 an_q13 od_q14 an_q14 od_led an_led od_q15 an_q15 od_q16 an_q16 od_q17 an_q17 od_q18 an_q18 od_q19 an_q19 od_q20 an_q20 od_q21 an_q21 od_q22 an_q22 od_q23 an_q23 od_q24 an_q24 od_q25 an_q25 od_q26 an_q26 od_q27 an_q27 od_q28 an_q28 od_q29 an_q29 od_q30 an_q30 od_q31 an_q31 od_law an_law : Option Addr} {sl_q0 sl_q1 sl_q2 sl_q3 sl_q4 sl_q5 sl_q6 sl_q7 sl_q8 sl_q9 sl_q10 sl_q11 sl_q12 sl_q13 sl_q14 sl_led sl_q15 sl_q16 sl_q17 sl_q18 sl_q19 sl_q20 sl_q21 sl_q22 sl_q23 sl_q24 sl_q25 sl_q26 sl_q27 sl_q28 sl_q29 sl_q30 sl_q31 sl_law : Array (Option Value)} {oc_q0 kV_q0 dc_q0 pm_q0 cd_q0 ct_q0 oc_q1 kV_q1 dc_q1 pm_q1 cd_q1 ct_q1 oc_q2 kV_q2 dc_q2 pm_q2 cd_q2 ct_q2 oc_q3 kV_q3 dc_q3 pm_q3 cd_q3 ct_q3 oc_q4 kV_q4 dc_q4 pm_q4 cd_q4 ct_q4 oc_q5 kV_q5 dc_q5 pm_q5 cd_q5 ct_q5 oc_q6 kV_q6 dc_q6 pm_q6 cd_q6 ct_q6 oc_q7 kV_q7 dc_q7 pm_q7 cd_q7 ct_q7 oc_q8 kV_q8 dc_q8 pm_q8 cd_q8 ct_q8 oc_q9 kV_q9 dc_q9 pm_q9 cd_q9 ct_q9 oc_q10 kV_q10 dc_q10 pm_q10 cd_q10 ct_q10 oc_q11 kV_q11 dc_q11 pm_q11 cd_q11 ct_q11 oc_q12 kV_q12 dc_q12 pm_q12 cd_q12 ct_q12 oc_q13 kV_q13 dc_q13 pm_q13 cd_q13 ct_q13 oc_q14 kV_q14 dc_q14 pm_q14 cd_q14 ct_q14 oc_led kV_led dc_led pm_led cd_led ct_led oc_q15 kV_q15 dc_q15 pm_q15 cd_q15 ct_q15 oc_q16 kV_q16 dc_q16 pm_q16 cd_q16 ct_q16 oc_q17 kV_q17 dc_q17 pm_q17 cd_q17 ct_q17 oc_q18 kV_q18 dc_q18 pm_q18 cd_q18 ct_q18 oc_q19 kV_q19 dc_q19 pm_q19 cd_q19 ct_q19 oc_q20 kV_q20 dc_q20 pm_q20 cd_q20 ct_q20 oc_q21 kV_q21 dc_q21 pm_q21 cd_q21 ct_q21 oc_q22 kV_q22 dc_q22 pm_q22 cd_q22 ct_q22 oc_q23 kV_q23 dc_q23 pm_q23 cd_q23 ct_q23 oc_q24 kV_q24 dc_q24 pm_q24 cd_q24 ct_q24 oc_q25 kV_q25 dc_q25 pm_q25 cd_q25 ct_q25 oc_q26 kV_q26 dc_q26 pm_q26 cd_q26 ct_q26 oc_q27 kV_q27 dc_q27 pm_q27 cd_q27 ct_q27 oc_q28 kV_q28 dc_q28 pm_q28 cd_q28 ct_q28 oc_q29 kV_q29 dc_q29 pm_q29 cd_q29 ct_q29 oc_q30 kV_q30 dc_q30 pm_q30 cd_q30 ct_q30 oc_q31 kV_q31 dc_q31 pm_q31 cd_q31 ct_q31 oc_law kV_law dc_law pm_law cd_law ct_law : Value} {tk_q34 tk_q35 tk_q36 tk_q39 : Tok}
  (a_q0 : W.nsIn K mainGlobals "is_number" = some (some (.ref f_q0))) (l_q0 : K.lookup f_q0 = some ⟨oc_q0, od_q0, .func (W.fnOf "is_number" "is_number" (z7 s_q0) (z6 s_q0) (z3 s_q0) .none kV_q0 dc_q0 pm_q0 an_q0 cd_q0 ct_q0), sl_q0⟩) (c_q0 : W.codeIn K cd_q0 "is_number" = true) (k_q0 : W.keepIn K (.ref f_q0) = true)
  (a_q1 : W.nsIn K mainGlobals "are_numbers" = some (some (.ref f_q1))) (l_q1 : K.lookup f_q1 = some ⟨oc_q1, od_q1, .func (W.fnOf "are_numbers" "are_numbers" (z7 s_q1) (z6 s_q1) (z3 s_q1) .none kV_q1 dc_q1 pm_q1 an_q1 cd_q1 ct_q1), sl_q1⟩) (c_q1 : W.codeIn K cd_q1 "are_numbers" = true) (k_q1 : W.keepIn K (.ref f_q1) = true)
  (a_q2 : W.nsIn K mainGlobals "is_rising" = some (some (.ref f_q2))) (l_q2 : K.lookup f_q2 = some ⟨oc_q2, od_q2, .func (W.fnOf "is_rising" "is_rising" (z7 s_q2) (z6 s_q2) (z3 s_q2) .none kV_q2 dc_q2 pm_q2 an_q2 cd_q2 ct_q2), sl_q2⟩) (c_q2 : W.codeIn K cd_q2 "is_rising" = true) (k_q2 : W.keepIn K (.ref f_q2) = true)
  (a_q3 : W.nsIn K mainGlobals "are_places" = some (some (.ref f_q3))) (l_q3 : K.lookup f_q3 = some ⟨oc_q3, od_q3, .func (W.fnOf "are_places" "are_places" (z7 s_q3) (z6 s_q3) (z3 s_q3) .none kV_q3 dc_q3 pm_q3 an_q3 cd_q3 ct_q3), sl_q3⟩) (c_q3 : W.codeIn K cd_q3 "are_places" = true) (k_q3 : W.keepIn K (.ref f_q3) = true)
  (a_q4 : W.nsIn K mainGlobals "is_door" = some (some (.ref f_q4))) (l_q4 : K.lookup f_q4 = some ⟨oc_q4, od_q4, .func (W.fnOf "is_door" "is_door" (z7 s_q4) (z6 s_q4) (z3 s_q4) .none kV_q4 dc_q4 pm_q4 an_q4 cd_q4 ct_q4), sl_q4⟩) (c_q4 : W.codeIn K cd_q4 "is_door" = true) (k_q4 : W.keepIn K (.ref f_q4) = true)
  (a_q5 : W.nsIn K mainGlobals "is_number_and_tuple" = some (some (.ref f_q5))) (l_q5 : K.lookup f_q5 = some ⟨oc_q5, od_q5, .func (W.fnOf "is_number_and_tuple" "is_number_and_tuple" (z7 s_q5) (z6 s_q5) (z3 s_q5) .none kV_q5 dc_q5 pm_q5 an_q5 cd_q5 ct_q5), sl_q5⟩) (c_q5 : W.codeIn K cd_q5 "is_number_and_tuple" = true) (k_q5 : W.keepIn K (.ref f_q5) = true)
  (a_q6 : W.nsIn K mainGlobals "may_hold_doors" = some (some (.ref f_q6))) (l_q6 : K.lookup f_q6 = some ⟨oc_q6, od_q6, .func (W.fnOf "may_hold_doors" "may_hold_doors" (z7 s_q6) (z6 s_q6) (z3 s_q6) .none kV_q6 dc_q6 pm_q6 an_q6 cd_q6 ct_q6), sl_q6⟩) (c_q6 : W.codeIn K cd_q6 "may_hold_doors" = true) (k_q6 : W.keepIn K (.ref f_q6) = true)
  (a_q7 : W.nsIn K mainGlobals "is_house" = some (some (.ref f_q7))) (l_q7 : K.lookup f_q7 = some ⟨oc_q7, od_q7, .func (W.fnOf "is_house" "is_house" (z7 s_q7) (z6 s_q7) (z3 s_q7) .none kV_q7 dc_q7 pm_q7 an_q7 cd_q7 ct_q7), sl_q7⟩) (c_q7 : W.codeIn K cd_q7 "is_house" = true) (k_q7 : W.keepIn K (.ref f_q7) = true)
  (a_q8 : W.nsIn K mainGlobals "is_row" = some (some (.ref f_q8))) (l_q8 : K.lookup f_q8 = some ⟨oc_q8, od_q8, .func (W.fnOf "is_row" "is_row" (z7 s_q8) (z6 s_q8) (z3 s_q8) .none kV_q8 dc_q8 pm_q8 an_q8 cd_q8 ct_q8), sl_q8⟩) (c_q8 : W.codeIn K cd_q8 "is_row" = true) (k_q8 : W.keepIn K (.ref f_q8) = true)
  (a_q9 : W.nsIn K mainGlobals "need_house" = some (some (.ref f_q9))) (l_q9 : K.lookup f_q9 = some ⟨oc_q9, od_q9, .func (W.fnOf "need_house" "need_house" (z7 s_q9) (z6 s_q9) (z3 s_q9) .none kV_q9 dc_q9 pm_q9 an_q9 cd_q9 ct_q9), sl_q9⟩) (c_q9 : W.codeIn K cd_q9 "need_house" = true) (k_q9 : W.keepIn K (.ref f_q9) = true)
  (a_q10 : W.nsIn K mainGlobals "need_places" = some (some (.ref f_q10))) (l_q10 : K.lookup f_q10 = some ⟨oc_q10, od_q10, .func (W.fnOf "need_places" "need_places" (z7 uA) (z6 uA) (z3 uA) .none kV_q10 dc_q10 pm_q10 an_q10 cd_q10 ct_q10), sl_q10⟩) (c_q10 : W.codeIn K cd_q10 "need_places" = true) (k_q10 : W.keepIn K (.ref f_q10) = true)
  (a_q11 : W.nsIn K mainGlobals "need_row" = some (some (.ref f_q11))) (l_q11 : K.lookup f_q11 = some ⟨oc_q11, od_q11, .func (W.fnOf "need_row" "need_row" (z7 u8) (z6 u8) (z3 u8) .none kV_q11 dc_q11 pm_q11 an_q11 cd_q11 ct_q11), sl_q11⟩) (c_q11 : W.codeIn K cd_q11 "need_row" = true) (k_q11 : W.keepIn K (.ref f_q11) = true)
  (a_q12 : W.nsIn K mainGlobals "need_house_and_places" = some (some (.ref f_q12))) (l_q12 : K.lookup f_q12 = some ⟨oc_q12, od_q12, .func (W.fnOf "need_house_and_places" "need_house_and_places" (z7 uI) (z6 uI) (z3 uI) .none kV_q12 dc_q12 pm_q12 an_q12 cd_q12 ct_q12), sl_q12⟩) (c_q12 : W.codeIn K cd_q12 "need_house_and_places" = true) (k_q12 : W.keepIn K (.ref f_q12) = true)
  (a_q13 : W.nsIn K mainGlobals "through" = some (some (.ref f_q13))) (l_q13 : K.lookup f_q13 = some ⟨oc_q13, od_q13, .func (W.fnOf "through" "through" (z7 wf) (z6 wf) (z3 wf) .none kV_q13 dc_q13 pm_q13 an_q13 cd_q13 ct_q13), sl_q13⟩) (c_q13 : W.codeIn K cd_q13 "through" = true) (k_q13 : W.keepIn K (.ref f_q13) = true)
  (a_q14 : W.nsIn K mainGlobals "behind_row" = some (some (.ref f_q14))) (l_q14 : K.lookup f_q14 = some ⟨oc_q14, od_q14, .func (W.fnOf "behind_row" "behind_row" (z7 uK) (z6 uK) (z3 uK) .none kV_q14 dc_q14 pm_q14 an_q14 cd_q14 ct_q14), sl_q14⟩) (c_q14 : W.codeIn K cd_q14 "behind_row" = true) (k_q14 : W.keepIn K (.ref f_q14) = true)
  (a_led : W.nsIn K mainGlobals "led" = some (some (.ref f_led))) (l_led : K.lookup f_led = some ⟨oc_led, od_led, .func (W.fnOf "led" "led" (z7 u7) (z6 u7) (z3 u7) .none kV_led dc_led pm_led an_led cd_led ct_led), sl_led⟩) (c_led : W.codeIn K cd_led "led" = true) (k_led : W.keepIn K (.ref f_led) = true)
  (a_q15 : W.nsIn K mainGlobals "rows_from" = some (some (.ref f_q15))) (l_q15 : K.lookup f_q15 = some ⟨oc_q15, od_q15, .func (W.fnOf "rows_from" "rows_from" (z7 uJ) (z6 uJ) (z3 uJ) .none kV_q15 dc_q15 pm_q15 an_q15 cd_q15 ct_q15), sl_q15⟩) (c_q15 : W.codeIn K cd_q15 "rows_from" = true) (k_q15 : W.keepIn K (.ref f_q15) = true)
  (a_q16 : W.nsIn K mainGlobals "shortest_rows" = some (some (.ref f_q16))) (l_q16 : K.lookup f_q16 = some ⟨oc_q16, od_q16, .func (W.fnOf "shortest_rows" "shortest_rows" (z7 u9) (z6 u9) (z3 u9) .none kV_q16 dc_q16 pm_q16 an_q16 cd_q16 ct_q16), sl_q16⟩) (c_q16 : W.codeIn K cd_q16 "shortest_rows" = true) (k_q16 : W.keepIn K (.ref f_q16) = true)
  (a_q17 : W.nsIn K mainGlobals "row_to_so_few" = some (some (.ref f_q17))) (l_q17 : K.lookup f_q17 = some ⟨oc_q17, od_q17, .func (W.fnOf "row_to_so_few" "row_to_so_few" (z7 u0) (z6 u0) (z3 u0) .none kV_q17 dc_q17 pm_q17 an_q17 cd_q17 ct_q17), sl_q17⟩) (c_q17 : W.codeIn K cd_q17 "row_to_so_few" = true) (k_q17 : W.keepIn K (.ref f_q17) = true)
  (a_q18 : W.nsIn K mainGlobals "gather" = some (some (.ref f_q18))) (l_q18 : K.lookup f_q18 = some ⟨oc_q18, od_q18, .func (W.fnOf "gather" "gather" (z7 uC) (z6 uC) (z3 uC) .none kV_q18 dc_q18 pm_q18 an_q18 cd_q18 ct_q18), sl_q18⟩) (c_q18 : W.codeIn K cd_q18 "gather" = true) (k_q18 : W.keepIn K (.ref f_q18) = true)
  (a_q19 : W.nsIn K mainGlobals "need_costs" = some (some (.ref f_q19))) (l_q19 : K.lookup f_q19 = some ⟨oc_q19, od_q19, .func (W.fnOf "need_costs" "need_costs" (z7 uD) (z6 uD) (z3 uD) .none kV_q19 dc_q19 pm_q19 an_q19 cd_q19 ct_q19), sl_q19⟩) (c_q19 : W.codeIn K cd_q19 "need_costs" = true) (k_q19 : W.keepIn K (.ref f_q19) = true)
  (a_q20 : W.nsIn K mainGlobals "ways_on" = some (some (.ref f_q20))) (l_q20 : K.lookup f_q20 = some ⟨oc_q20, od_q20, .func (W.fnOf "ways_on" "ways_on" (z7 uG) (z6 uG) (z3 uG) .none kV_q20 dc_q20 pm_q20 an_q20 cd_q20 ct_q20), sl_q20⟩) (c_q20 : W.codeIn K cd_q20 "ways_on" = true) (k_q20 : W.keepIn K (.ref f_q20) = true)
  (a_q21 : W.nsIn K mainGlobals "cheapest" = some (some (.ref f_q21))) (l_q21 : K.lookup f_q21 = some ⟨oc_q21, od_q21, .func (W.fnOf "cheapest" "cheapest" (z7 wR) (z6 wR) (z3 wR) .none kV_q21 dc_q21 pm_q21 an_q21 cd_q21 ct_q21), sl_q21⟩) (c_q21 : W.codeIn K cd_q21 "cheapest" = true) (k_q21 : W.keepIn K (.ref f_q21) = true)
  (a_q22 : W.nsIn K mainGlobals "_law_cell_at" = some (some (.ref f_q22))) (l_q22 : K.lookup f_q22 = some ⟨oc_q22, od_q22, .func (W.fnOf "_law_cell_at" "_law_cell_at" (z7 uB) (z6 uB) (z3 uB) .none kV_q22 dc_q22 pm_q22 an_q22 cd_q22 ct_q22), sl_q22⟩) (c_q22 : W.codeIn K cd_q22 "_law_cell_at" = true) (k_q22 : W.keepIn K (.ref f_q22) = true)
  (a_q23 : W.nsIn K mainGlobals "_law_mixed" = some (some (.ref f_q23))) (l_q23 : K.lookup f_q23 = some ⟨oc_q23, od_q23, .func (W.fnOf "_law_mixed" "_law_mixed" (z7 uN) (z6 uN) (z3 uN) .none kV_q23 dc_q23 pm_q23 an_q23 cd_q23 ct_q23), sl_q23⟩) (c_q23 : W.codeIn K cd_q23 "_law_mixed" = true) (k_q23 : W.keepIn K (.ref f_q23) = true)
  (a_q24 : W.nsIn K mainGlobals "_law_draw" = some (some (.ref f_q24))) (l_q24 : K.lookup f_q24 = some ⟨oc_q24, od_q24, .func (W.fnOf "_law_draw" "_law_draw" (z7 uH) (z6 uH) (z3 uH) .none kV_q24 dc_q24 pm_q24 an_q24 cd_q24 ct_q24), sl_q24⟩) (c_q24 : W.codeIn K cd_q24 "_law_draw" = true) (k_q24 : W.keepIn K (.ref f_q24) = true)
  (a_q25 : W.nsIn K mainGlobals "_law_pick" = some (some (.ref f_q25))) (l_q25 : K.lookup f_q25 = some ⟨oc_q25, od_q25, .func (W.fnOf "_law_pick" "_law_pick" (z7 uF) (z6 uF) (z3 uF) .none kV_q25 dc_q25 pm_q25 an_q25 cd_q25 ct_q25), sl_q25⟩) (c_q25 : W.codeIn K cd_q25 "_law_pick" = true) (k_q25 : W.keepIn K (.ref f_q25) = true)
  (a_q26 : W.nsIn K mainGlobals "_law_door" = some (some (.ref f_q26))) (l_q26 : K.lookup f_q26 = some ⟨oc_q26, od_q26, .func (W.fnOf "_law_door" "_law_door" (z7 xh) (z6 xh) (z3 xh) .none kV_q26 dc_q26 pm_q26 an_q26 cd_q26 ct_q26), sl_q26⟩) (c_q26 : W.codeIn K cd_q26 "_law_door" = true) (k_q26 : W.keepIn K (.ref f_q26) = true)
  (a_q27 : W.nsIn K mainGlobals "_law_house" = some (some (.ref f_q27))) (l_q27 : K.lookup f_q27 = some ⟨oc_q27, od_q27, .func (W.fnOf "_law_house" "_law_house" (z7 wK) (z6 wK) (z3 wK) .none kV_q27 dc_q27 pm_q27 an_q27 cd_q27 ct_q27), sl_q27⟩) (c_q27 : W.codeIn K cd_q27 "_law_house" = true) (k_q27 : W.keepIn K (.ref f_q27) = true)
  (a_q28 : W.nsIn K mainGlobals "_law_places" = some (some (.ref f_q28))) (l_q28 : K.lookup f_q28 = some ⟨oc_q28, od_q28, .func (W.fnOf "_law_places" "_law_places" (z7 wq) (z6 wq) (z3 wq) .none kV_q28 dc_q28 pm_q28 an_q28 cd_q28 ct_q28), sl_q28⟩) (c_q28 : W.codeIn K cd_q28 "_law_places" = true) (k_q28 : W.keepIn K (.ref f_q28) = true)
  (a_q29 : W.nsIn K mainGlobals "_law_costs" = some (some (.ref f_q29))) (l_q29 : K.lookup f_q29 = some ⟨oc_q29, od_q29, .func (W.fnOf "_law_costs" "_law_costs" (z7 wy) (z6 wy) (z3 wy) .none kV_q29 dc_q29 pm_q29 an_q29 cd_q29 ct_q29), sl_q29⟩) (c_q29 : W.codeIn K cd_q29 "_law_costs" = true) (k_q29 : W.keepIn K (.ref f_q29) = true)
  (a_q30 : W.nsIn K mainGlobals "_law_go" = some (some (.ref f_q30))) (l_q30 : K.lookup f_q30 = some ⟨oc_q30, od_q30, .func (W.fnOf "_law_go" "_law_go" (z7 wd) (z6 wd) (z3 wd) .none kV_q30 dc_q30 pm_q30 an_q30 cd_q30 ct_q30), sl_q30⟩) (c_q30 : W.codeIn K cd_q30 "_law_go" = true) (k_q30 : W.keepIn K (.ref f_q30) = true)
  (a_q31 : W.nsIn K mainGlobals "_law_best" = some (some (.ref f_q31))) (l_q31 : K.lookup f_q31 = some ⟨oc_q31, od_q31, .func (W.fnOf "_law_best" "_law_best" (z7 uR) (z6 uR) (z3 uR) .none kV_q31 dc_q31 pm_q31 an_q31 cd_q31 ct_q31), sl_q31⟩) (c_q31 : W.codeIn K cd_q31 "_law_best" = true) (k_q31 : W.keepIn K (.ref f_q31) = true)
  (a_law : W.nsIn K mainGlobals "law" = some (some (.ref f_law))) (l_law : K.lookup f_law = some ⟨oc_law, od_law, .func (W.fnOf "law" "law" (z7 xI) (z6 xI) (z3 xI) .none kV_law dc_law pm_law an_law cd_law ct_law), sl_law⟩) (c_law : W.codeIn K cd_law "law" = true) (k_law : W.keepIn K (.ref f_law) = true)
  (z_isinstance : W.nsIn K mainGlobals "isinstance" = some none)
  (z_bool : W.nsIn K mainGlobals "bool" = some none)
  (z_int : W.nsIn K mainGlobals "int" = some none)
  (z_tuple : W.nsIn K mainGlobals "tuple" = some none)
  (z_list : W.nsIn K mainGlobals "list" = some none)
  (z_all : W.nsIn K mainGlobals "all" = some none)
  (z_range : W.nsIn K mainGlobals "range" = some none)
  (z_len : W.nsIn K mainGlobals "len" = some none)
  (z_sum : W.nsIn K mainGlobals "sum" = some none)
  (z_sorted : W.nsIn K mainGlobals "sorted" = some none)
  (z_min : W.nsIn K mainGlobals "min" = some none)
  (z_set : W.nsIn K mainGlobals "set" = some none)
  (v_q34 : W.nsIn K mainGlobals "MOST_PLACES" = some (some (.int 8 tk_q34)))
  (v_q35 : W.nsIn K mainGlobals "MOST_DOORS" = some (some (.int 3 tk_q35)))
  (v_q36 : W.nsIn K mainGlobals "MOST_IN_ROW" = some (some (.int 60 tk_q36)))
  (v_q39 : W.nsIn K mainGlobals "MOST_COST" = some (some (.int 99 tk_q39))) :
  ∃ fd : FuncData, (∀ (s : Shared) (v : Value), BindsTo s fd ⟨[v], []⟩ [("_law_script", v)]) ∧ ∀ base : Heap, K.In base → base.Ns mainGlobals mg → FnOk l.prog w K mg base CX0 8 fa fd ["_law_script"] (z3U K) := by
 have e := hfa.symm.trans (W.mg_of X G a_law)
 cases e
 have T : Txt K mg ⟨f_q0, (W.fnOf "is_number" "is_number" (z7 s_q0) (z6 s_q0) (z3 s_q0) .none kV_q0 dc_q0 pm_q0 an_q0 cd_q0 ct_q0), f_q1, (W.fnOf "are_numbers" "are_numbers" (z7 s_q1) (z6 s_q1) (z3 s_q1) .none kV_q1 dc_q1 pm_q1 an_q1 cd_q1 ct_q1), f_q2, (W.fnOf "is_rising" "is_rising" (z7 s_q2) (z6 s_q2) (z3 s_q2) .none kV_q2 dc_q2 pm_q2 an_q2 cd_q2 ct_q2), f_q3, (W.fnOf "are_places" "are_places" (z7 s_q3) (z6 s_q3) (z3 s_q3) .none kV_q3 dc_q3 pm_q3 an_q3 cd_q3 ct_q3), f_q4, (W.fnOf "is_door" "is_door" (z7 s_q4) (z6 s_q4) (z3 s_q4) .none kV_q4 dc_q4 pm_q4 an_q4 cd_q4 ct_q4), f_q5, (W.fnOf "is_number_and_tuple" "is_number_and_tuple" (z7 s_q5) (z6 s_q5) (z3 s_q5) .none kV_q5 dc_q5 pm_q5 an_q5 cd_q5 ct_q5), f_q6, (W.fnOf "may_hold_doors" "may_hold_doors" (z7 s_q6) (z6 s_q6) (z3 s_q6) .none kV_q6 dc_q6 pm_q6 an_q6 cd_q6 ct_q6), f_q7, (W.fnOf "is_house" "is_house" (z7 s_q7) (z6 s_q7) (z3 s_q7) .none kV_q7 dc_q7 pm_q7 an_q7 cd_q7 ct_q7), f_q8, (W.fnOf "is_row" "is_row" (z7 s_q8) (z6 s_q8) (z3 s_q8) .none kV_q8 dc_q8 pm_q8 an_q8 cd_q8 ct_q8), f_q9, (W.fnOf "need_house" "need_house" (z7 s_q9) (z6 s_q9) (z3 s_q9) .none kV_q9 dc_q9 pm_q9 an_q9 cd_q9 ct_q9), f_q10, (W.fnOf "need_places" "need_places" (z7 uA) (z6 uA) (z3 uA) .none kV_q10 dc_q10 pm_q10 an_q10 cd_q10 ct_q10), f_q11, (W.fnOf "need_row" "need_row" (z7 u8) (z6 u8) (z3 u8) .none kV_q11 dc_q11 pm_q11 an_q11 cd_q11 ct_q11), f_q12, (W.fnOf "need_house_and_places" "need_house_and_places" (z7 uI) (z6 uI) (z3 uI) .none kV_q12 dc_q12 pm_q12 an_q12 cd_q12 ct_q12), f_q13, (W.fnOf "through" "through" (z7 wf) (z6 wf) (z3 wf) .none kV_q13 dc_q13 pm_q13 an_q13 cd_q13 ct_q13), f_q14, (W.fnOf "behind_row" "behind_row" (z7 uK) (z6 uK) (z3 uK) .none kV_q14 dc_q14 pm_q14 an_q14 cd_q14 ct_q14), f_led, (W.fnOf "led" "led" (z7 u7) (z6 u7) (z3 u7) .none kV_led dc_led pm_led an_led cd_led ct_led), f_q15, (W.fnOf "rows_from" "rows_from" (z7 uJ) (z6 uJ) (z3 uJ) .none kV_q15 dc_q15 pm_q15 an_q15 cd_q15 ct_q15), f_q16, (W.fnOf "shortest_rows" "shortest_rows" (z7 u9) (z6 u9) (z3 u9) .none kV_q16 dc_q16 pm_q16 an_q16 cd_q16 ct_q16), f_q17, (W.fnOf "row_to_so_few" "row_to_so_few" (z7 u0) (z6 u0) (z3 u0) .none kV_q17 dc_q17 pm_q17 an_q17 cd_q17 ct_q17), f_q18, (W.fnOf "gather" "gather" (z7 uC) (z6 uC) (z3 uC) .none kV_q18 dc_q18 pm_q18 an_q18 cd_q18 ct_q18), f_q19, (W.fnOf "need_costs" "need_costs" (z7 uD) (z6 uD) (z3 uD) .none kV_q19 dc_q19 pm_q19 an_q19 cd_q19 ct_q19), f_q20, (W.fnOf "ways_on" "ways_on" (z7 uG) (z6 uG) (z3 uG) .none kV_q20 dc_q20 pm_q20 an_q20 cd_q20 ct_q20), f_q21, (W.fnOf "cheapest" "cheapest" (z7 wR) (z6 wR) (z3 wR) .none kV_q21 dc_q21 pm_q21 an_q21 cd_q21 ct_q21), f_q22, (W.fnOf "_law_cell_at" "_law_cell_at" (z7 uB) (z6 uB) (z3 uB) .none kV_q22 dc_q22 pm_q22 an_q22 cd_q22 ct_q22), f_q23, (W.fnOf "_law_mixed" "_law_mixed" (z7 uN) (z6 uN) (z3 uN) .none kV_q23 dc_q23 pm_q23 an_q23 cd_q23 ct_q23), f_q24, (W.fnOf "_law_draw" "_law_draw" (z7 uH) (z6 uH) (z3 uH) .none kV_q24 dc_q24 pm_q24 an_q24 cd_q24 ct_q24), f_q25, (W.fnOf "_law_pick" "_law_pick" (z7 uF) (z6 uF) (z3 uF) .none kV_q25 dc_q25 pm_q25 an_q25 cd_q25 ct_q25), f_q26, (W.fnOf "_law_door" "_law_door" (z7 xh) (z6 xh) (z3 xh) .none kV_q26 dc_q26 pm_q26 an_q26 cd_q26 ct_q26), f_q27, (W.fnOf "_law_house" "_law_house" (z7 wK) (z6 wK) (z3 wK) .none kV_q27 dc_q27 pm_q27 an_q27 cd_q27 ct_q27), f_q28, (W.fnOf "_law_places" "_law_places" (z7 wq) (z6 wq) (z3 wq) .none kV_q28 dc_q28 pm_q28 an_q28 cd_q28 ct_q28), f_q29, (W.fnOf "_law_costs" "_law_costs" (z7 wy) (z6 wy) (z3 wy) .none kV_q29 dc_q29 pm_q29 an_q29 cd_q29 ct_q29), f_q30, (W.fnOf "_law_go" "_law_go" (z7 wd) (z6 wd) (z3 wd) .none kV_q30 dc_q30 pm_q30 an_q30 cd_q30 ct_q30), f_q31, (W.fnOf "_law_best" "_law_best" (z7 uR) (z6 uR) (z3 uR) .none kV_q31 dc_q31 pm_q31 an_q31 cd_q31 ct_q31), fa, (W.fnOf "law" "law" (z7 xI) (z6 xI) (z3 xI) .none kV_law dc_law pm_law an_law cd_law ct_law)⟩ := {
  F_q0 := zG (st := s_q0) l_q0 c_q0 k_q0
  m_q0 := W.mg_of X G a_q0
  k_q0 := k_q0
  d_q0 := (zG (st := s_q0) l_q0 c_q0 k_q0).binds (ps := ["thing", "least", "most"]) fun _ _ _ _ _ _ us hl => by obtain ⟨_, _, _, rfl⟩ := len3 hl; rfl
  F_q1 := zG (st := s_q1) l_q1 c_q1 k_q1
  m_q1 := W.mg_of X G a_q1
  k_q1 := k_q1
  d_q1 := (zG (st := s_q1) l_q1 c_q1 k_q1).binds (ps := ["thing", "least", "most"]) fun _ _ _ _ _ _ us hl => by obtain ⟨_, _, _, rfl⟩ := len3 hl; rfl
  F_q2 := zG (st := s_q2) l_q2 c_q2 k_q2
  m_q2 := W.mg_of X G a_q2
  k_q2 := k_q2
  d_q2 := (zG (st := s_q2) l_q2 c_q2 k_q2).binds (ps := ["things"]) fun _ _ _ _ _ _ us hl => by obtain ⟨_, rfl⟩ := len1 hl; rfl
  F_q3 := zG (st := s_q3) l_q3 c_q3 k_q3
  m_q3 := W.mg_of X G a_q3
  k_q3 := k_q3
  d_q3 := (zG (st := s_q3) l_q3 c_q3 k_q3).binds (ps := ["thing", "many"]) fun _ _ _ _ _ _ us hl => by obtain ⟨_, _, rfl⟩ := len2 hl; rfl
  F_q4 := zG (st := s_q4) l_q4 c_q4 k_q4
  m_q4 := W.mg_of X G a_q4
  k_q4 := k_q4
  d_q4 := (zG (st := s_q4) l_q4 c_q4 k_q4).binds (ps := ["thing", "many"]) fun _ _ _ _ _ _ us hl => by obtain ⟨_, _, rfl⟩ := len2 hl; rfl
  F_q5 := zG (st := s_q5) l_q5 c_q5 k_q5
  m_q5 := W.mg_of X G a_q5
  k_q5 := k_q5
  d_q5 := (zG (st := s_q5) l_q5 c_q5 k_q5).binds (ps := ["thing"]) fun _ _ _ _ _ _ us hl => by obtain ⟨_, rfl⟩ := len1 hl; rfl
  F_q6 := zG (st := s_q6) l_q6 c_q6 k_q6
  m_q6 := W.mg_of X G a_q6
  k_q6 := k_q6
  d_q6 := (zG (st := s_q6) l_q6 c_q6 k_q6).binds (ps := ["thing"]) fun _ _ _ _ _ _ us hl => by obtain ⟨_, rfl⟩ := len1 hl; rfl
  F_q7 := zG (st := s_q7) l_q7 c_q7 k_q7
  m_q7 := W.mg_of X G a_q7
  k_q7 := k_q7
  d_q7 := (zG (st := s_q7) l_q7 c_q7 k_q7).binds (ps := ["thing"]) fun _ _ _ _ _ _ us hl => by obtain ⟨_, rfl⟩ := len1 hl; rfl
  F_q8 := zG (st := s_q8) l_q8 c_q8 k_q8
  m_q8 := W.mg_of X G a_q8
  k_q8 := k_q8
  d_q8 := (zG (st := s_q8) l_q8 c_q8 k_q8).binds (ps := ["thing", "house"]) fun _ _ _ _ _ _ us hl => by obtain ⟨_, _, rfl⟩ := len2 hl; rfl
  F_q9 := zG (st := s_q9) l_q9 c_q9 k_q9
  m_q9 := W.mg_of X G a_q9
  k_q9 := k_q9
  d_q9 := (zG (st := s_q9) l_q9 c_q9 k_q9).binds (ps := ["house"]) fun _ _ _ _ _ _ us hl => by obtain ⟨_, rfl⟩ := len1 hl; rfl
  F_q10 := zG (st := uA) l_q10 c_q10 k_q10
  m_q10 := W.mg_of X G a_q10
  k_q10 := k_q10
  d_q10 := (zG (st := uA) l_q10 c_q10 k_q10).binds (ps := ["places", "many"]) fun _ _ _ _ _ _ us hl => by obtain ⟨_, _, rfl⟩ := len2 hl; rfl
  F_q11 := zG (st := u8) l_q11 c_q11 k_q11
  m_q11 := W.mg_of X G a_q11
  k_q11 := k_q11
  d_q11 := (zG (st := u8) l_q11 c_q11 k_q11).binds (ps := ["row", "house"]) fun _ _ _ _ _ _ us hl => by obtain ⟨_, _, rfl⟩ := len2 hl; rfl
  F_q12 := zG (st := uI) l_q12 c_q12 k_q12
  m_q12 := W.mg_of X G a_q12
  k_q12 := k_q12
  d_q12 := (zG (st := uI) l_q12 c_q12 k_q12).binds (ps := ["house", "places"]) fun _ _ _ _ _ _ us hl => by obtain ⟨_, _, rfl⟩ := len2 hl; rfl
  F_q13 := zG (st := wf) l_q13 c_q13 k_q13
  m_q13 := W.mg_of X G a_q13
  k_q13 := k_q13
  d_q13 := (zG (st := wf) l_q13 c_q13 k_q13).binds (ps := ["door", "standing"]) fun _ _ _ _ _ _ us hl => by obtain ⟨_, _, rfl⟩ := len2 hl; rfl
  F_q14 := zG (st := uK) l_q14 c_q14 k_q14
  m_q14 := W.mg_of X G a_q14
  k_q14 := k_q14
  d_q14 := (zG (st := uK) l_q14 c_q14 k_q14).binds (ps := ["house", "places", "row"]) fun _ _ _ _ _ _ us hl => by obtain ⟨_, _, _, rfl⟩ := len3 hl; rfl
  F_led := zG (st := u7) l_led c_led k_led
  m_led := W.mg_of X G a_led
  k_led := k_led
  d_led := (zG (st := u7) l_led c_led k_led).binds (ps := ["house", "places", "row"]) fun _ _ _ _ _ _ us hl => by obtain ⟨_, _, _, rfl⟩ := len3 hl; rfl
  F_q15 := zG (st := uJ) l_q15 c_q15 k_q15
  m_q15 := W.mg_of X G a_q15
  k_q15 := k_q15
  d_q15 := (zG (st := uJ) l_q15 c_q15 k_q15).binds (ps := ["start", "doors", "behind"]) fun _ _ _ _ _ _ us hl => by obtain ⟨_, _, _, rfl⟩ := len3 hl; rfl
  F_q16 := zG (st := u9) l_q16 c_q16 k_q16
  m_q16 := W.mg_of X G a_q16
  k_q16 := k_q16
  d_q16 := (zG (st := u9) l_q16 c_q16 k_q16).binds (ps := ["house", "places"]) fun _ _ _ _ _ _ us hl => by obtain ⟨_, _, rfl⟩ := len2 hl; rfl
  F_q17 := zG (st := u0) l_q17 c_q17 k_q17
  m_q17 := W.mg_of X G a_q17
  k_q17 := k_q17
  d_q17 := (zG (st := u0) l_q17 c_q17 k_q17).binds (ps := ["house", "places", "few"]) fun _ _ _ _ _ _ us hl => by obtain ⟨_, _, _, rfl⟩ := len3 hl; rfl
  F_q18 := zG (st := uC) l_q18 c_q18 k_q18
  m_q18 := W.mg_of X G a_q18
  k_q18 := k_q18
  d_q18 := (zG (st := uC) l_q18 c_q18 k_q18).binds (ps := ["house", "places"]) fun _ _ _ _ _ _ us hl => by obtain ⟨_, _, rfl⟩ := len2 hl; rfl
  F_q19 := zG (st := uD) l_q19 c_q19 k_q19
  m_q19 := W.mg_of X G a_q19
  k_q19 := k_q19
  d_q19 := (zG (st := uD) l_q19 c_q19 k_q19).binds (ps := ["costs", "house"]) fun _ _ _ _ _ _ us hl => by obtain ⟨_, _, rfl⟩ := len2 hl; rfl
  F_q20 := zG (st := uG) l_q20 c_q20 k_q20
  m_q20 := W.mg_of X G a_q20
  k_q20 := k_q20
  d_q20 := (zG (st := uG) l_q20 c_q20 k_q20).binds (ps := ["house", "costs", "way"]) fun _ _ _ _ _ _ us hl => by obtain ⟨_, _, _, rfl⟩ := len3 hl; rfl
  F_q21 := zG (st := wR) l_q21 c_q21 k_q21
  m_q21 := W.mg_of X G a_q21
  k_q21 := k_q21
  d_q21 := (zG (st := wR) l_q21 c_q21 k_q21).binds (ps := ["house", "costs", "places"]) fun _ _ _ _ _ _ us hl => by obtain ⟨_, _, _, rfl⟩ := len3 hl; rfl
  F_q22 := zG (st := uB) l_q22 c_q22 k_q22
  m_q22 := W.mg_of X G a_q22
  k_q22 := k_q22
  d_q22 := (zG (st := uB) l_q22 c_q22 k_q22).binds (ps := ["_law_script", "_law_k"]) fun _ _ _ _ _ _ us hl => by obtain ⟨_, _, rfl⟩ := len2 hl; rfl
  F_q23 := zG (st := uN) l_q23 c_q23 k_q23
  m_q23 := W.mg_of X G a_q23
  k_q23 := k_q23
  d_q23 := (zG (st := uN) l_q23 c_q23 k_q23).binds (ps := ["_law_script", "_law_k", "_law_many"]) fun _ _ _ _ _ _ us hl => by obtain ⟨_, _, _, rfl⟩ := len3 hl; rfl
  F_q24 := zG (st := uH) l_q24 c_q24 k_q24
  m_q24 := W.mg_of X G a_q24
  k_q24 := k_q24
  d_q24 := (zG (st := uH) l_q24 c_q24 k_q24).binds (ps := ["_law_script", "_law_town", "_law_many"]) fun _ _ _ _ _ _ us hl => by obtain ⟨_, _, _, rfl⟩ := len3 hl; rfl
  F_q25 := zG (st := uF) l_q25 c_q25 k_q25
  m_q25 := W.mg_of X G a_q25
  k_q25 := k_q25
  d_q25 := (zG (st := uF) l_q25 c_q25 k_q25).binds (ps := ["_law_script", "_law_town", "_law_some"]) fun _ _ _ _ _ _ us hl => by obtain ⟨_, _, _, rfl⟩ := len3 hl; rfl
  F_q26 := zG (st := xh) l_q26 c_q26 k_q26
  m_q26 := W.mg_of X G a_q26
  k_q26 := k_q26
  d_q26 := (zG (st := xh) l_q26 c_q26 k_q26).binds (ps := ["_law_script", "_law_town", "_law_many"]) fun _ _ _ _ _ _ us hl => by obtain ⟨_, _, _, rfl⟩ := len3 hl; rfl
  F_q27 := zG (st := wK) l_q27 c_q27 k_q27
  m_q27 := W.mg_of X G a_q27
  k_q27 := k_q27
  d_q27 := (zG (st := wK) l_q27 c_q27 k_q27).binds (ps := ["_law_script", "_law_town", "_law_low", "_law_most"]) fun _ _ _ _ _ _ us hl => by obtain ⟨_, _, _, _, rfl⟩ := len4 hl; rfl
  F_q28 := zG (st := wq) l_q28 c_q28 k_q28
  m_q28 := W.mg_of X G a_q28
  k_q28 := k_q28
  d_q28 := (zG (st := wq) l_q28 c_q28 k_q28).binds (ps := ["_law_script", "_law_town", "_law_many"]) fun _ _ _ _ _ _ us hl => by obtain ⟨_, _, _, rfl⟩ := len3 hl; rfl
  F_q29 := zG (st := wy) l_q29 c_q29 k_q29
  m_q29 := W.mg_of X G a_q29
  k_q29 := k_q29
  d_q29 := (zG (st := wy) l_q29 c_q29 k_q29).binds (ps := ["_law_script", "_law_town", "_law_house_here"]) fun _ _ _ _ _ _ us hl => by obtain ⟨_, _, _, rfl⟩ := len3 hl; rfl
  F_q30 := zG (st := wd) l_q30 c_q30 k_q30
  m_q30 := W.mg_of X G a_q30
  k_q30 := k_q30
  d_q30 := (zG (st := wd) l_q30 c_q30 k_q30).binds (ps := ["_law_house_here", "_law_places_here", "_law_door_here"]) fun _ _ _ _ _ _ us hl => by obtain ⟨_, _, _, rfl⟩ := len3 hl; rfl
  F_q31 := zG (st := uR) l_q31 c_q31 k_q31
  m_q31 := W.mg_of X G a_q31
  k_q31 := k_q31
  d_q31 := (zG (st := uR) l_q31 c_q31 k_q31).binds (ps := ["_law_house_here", "_law_costs_here", "_law_places_here"]) fun _ _ _ _ _ _ us hl => by obtain ⟨_, _, _, rfl⟩ := len3 hl; rfl
  F_law := zG (st := xI) l_law c_law k_law
  m_law := W.mg_of X G a_law
  k_law := k_law
  d_law := (zG (st := xI) l_law c_law k_law).binds (ps := ["_law_script"]) fun _ _ _ _ _ _ us hl => by obtain ⟨_, rfl⟩ := len1 hl; rfl
  b_isinstance := W.mg_none_of X G z_isinstance
  b_bool := W.mg_none_of X G z_bool
  b_int := W.mg_none_of X G z_int
  b_tuple := W.mg_none_of X G z_tuple
  b_list := W.mg_none_of X G z_list
  b_all := W.mg_none_of X G z_all
  b_range := W.mg_none_of X G z_range
  b_len := W.mg_none_of X G z_len
  b_sum := W.mg_none_of X G z_sum
  b_sorted := W.mg_none_of X G z_sorted
  b_min := W.mg_none_of X G z_min
  b_set := W.mg_none_of X G z_set
  g_q34 := ⟨_, W.mg_of X G v_q34, ⟨_, rfl⟩⟩
  g_q35 := ⟨_, W.mg_of X G v_q35, ⟨_, rfl⟩⟩
  g_q36 := ⟨_, W.mg_of X G v_q36, ⟨_, rfl⟩⟩
  g_q39 := ⟨_, W.mg_of X G v_q39, ⟨_, rfl⟩⟩ }
 exact ⟨(W.fnOf "law" "law" (z7 xI) (z6 xI) (z3 xI) .none kV_law dc_law pm_law an_law cd_law ct_law), fun s v => .of_eq rfl, fun base _ _ => z7X T (z3m _)⟩
theorem walk {l : W.OpenLaw} {q : Program} {loose : List Str} {XP : (Str → Option Value) → Heap → Prop} {YP : World → Heap → Prop} {d : DefRec} {K : Params → W.Frag} (hn : l.most = some 63) (hdf : d.params.defaults = [])
  (hY : ∀ (w : World) (h : Heap), YP w h → (K w.params).In h)
  (F : ∀ (w : World) (mg : Str → Option Value) (fa : Addr) (h : Heap), (K w.params).In h → h.Ns mainGlobals mg → mg d.name = some (.ref fa) →
   ∃ fd : FuncData, (∀ (s : Shared) (u : Value), BindsTo s fd ⟨[u], []⟩ [("_law_script", u)]) ∧ ∀ base : Heap, (K w.params).In base → base.Ns mainGlobals mg → FnOk l.prog w (K w.params) mg base CX0 8 fa fd ["_law_script"] (z3U (K w.params))) :
  W.WalkO q loose XP YP l.row.toRowW d [] (fun f vs => PySem.call f vs) :=
 L2.walk_of (n := 63) (k := 8) (x := "_law_script") (CX := fun _ => CX0) (sp := fun w => z3U (K w.params)) hn (by decide) hdf ⟨rfl, by decide, by decide⟩ hY F (fun _ _ a ns hl _ hS => ⟨a, ns, rfl, hS, hl, fun _ => rfl⟩) fun _ _ _ _ _ z => z
end Gw
open PySem PySem.W PyProof.Rows
theorem PySem.W.Fast.tw18060062922526679215 : True := trivial
theorem PySem.W.Fast.tw15506448628637125549 : True := trivial
theorem PySem.W.Fast.tw7208688211356283815 : True := trivial
theorem PySem.W.Fast.tw4052104709529017515 : True := trivial
theorem PySem.W.Fast.tw17599270080486412181 : True := trivial
theorem PySem.W.Fast.tw5747679927409930868 : True := trivial
theorem PySem.W.Fast.tw16785246314459745873 : True := trivial
theorem PySem.W.Fast.tw4535796561888364865 : True := trivial
theorem PySem.W.Fast.tw9995999760800463156 : True := trivial
theorem PySem.W.Fast.tw8301210049979736587 : True := trivial
theorem PySem.W.Fast.tw11510279966814674127 : True := trivial
theorem PySem.W.Fast.tw12217213814780153772 : True := trivial
theorem PySem.W.Fast.tw6451818516924922998 : True := trivial
set_option maxRecDepth 100000 in
set_option maxHeartbeats 0 in
theorem PySem.Challenge.cw_gatherall_k26_whole_cheapest_holds : PySem.Challenge.rw_gatherall_k26_whole_cheapest.Holds := by
 w_on; o_law; k_head; (case hw => w_witness2)
 k_fill
 refine Gw.walk (l := PySem.Challenge.rw_gatherall_k26_whole_cheapest) rfl rfl (fun w h Y => PySem.W.kIn_of Y) ?F
 case F =>
  intro w mg fa h KX G hmg
  refine' Gw.all_mk KX G hmg ?a_q0 ?l_q0 ?c_q0 ?k_q0 ?a_q1 ?l_q1 ?c_q1 ?k_q1 ?a_q2 ?l_q2 ?c_q2 ?k_q2 ?a_q3 ?l_q3 ?c_q3 ?k_q3 ?a_q4 ?l_q4 ?c_q4 ?k_q4 ?a_q5 ?l_q5 ?c_q5 ?k_q5 ?a_q6 ?l_q6 ?c_q6 ?k_q6 ?a_q7 ?l_q7 ?c_q7 ?k_q7 ?a_q8 ?l_q8 ?c_q8 ?k_q8 ?a_q9 ?l_q9 ?c_q9 ?k_q9 ?a_q10 ?l_q10 ?c_q10 ?k_q10 ?a_q11 ?l_q11 ?c_q11 ?k_q11 ?a_q12 ?l_q12 ?c_q12 ?k_q12 ?a_q13 ?l_q13 ?c_q13 ?k_q13 ?a_q14 ?l_q14 ?c_q14 ?k_q14 ?a_led ?l_led ?c_led ?k_led ?a_q15 ?l_q15 ?c_q15 ?k_q15 ?a_q16 ?l_q16 ?c_q16 ?k_q16 ?a_q17 ?l_q17 ?c_q17 ?k_q17 ?a_q18 ?l_q18 ?c_q18 ?k_q18 ?a_q19 ?l_q19 ?c_q19 ?k_q19 ?a_q20 ?l_q20 ?c_q20 ?k_q20 ?a_q21 ?l_q21 ?c_q21 ?k_q21 ?a_q22 ?l_q22 ?c_q22 ?k_q22 ?a_q23 ?l_q23 ?c_q23 ?k_q23 ?a_q24 ?l_q24 ?c_q24 ?k_q24 ?a_q25 ?l_q25 ?c_q25 ?k_q25 ?a_q26 ?l_q26 ?c_q26 ?k_q26 ?a_q27 ?l_q27 ?c_q27 ?k_q27 ?a_q28 ?l_q28 ?c_q28 ?k_q28 ?a_q29 ?l_q29 ?c_q29 ?k_q29 ?a_q30 ?l_q30 ?c_q30 ?k_q30 ?a_q31 ?l_q31 ?c_q31 ?k_q31 ?a_law ?l_law ?c_law ?k_law ?z_isinstance ?z_bool ?z_int ?z_tuple ?z_list ?z_all ?z_range ?z_len ?z_sum ?z_sorted ?z_min ?z_set ?v_q34 ?v_q35 ?v_q36 ?v_q39
  (case a_q0 => k_is)
  (case l_q0 => k_is)
  (case c_q0 => k_is)
  (case k_q0 => k_is)
  (case a_q1 => k_is)
  (case l_q1 => k_is)
  (case c_q1 => k_is)
  (case k_q1 => k_is)
  (case a_q2 => k_is)
  (case l_q2 => k_is)
  (case c_q2 => k_is)
  (case k_q2 => k_is)
  (case a_q3 => k_is)
  (case l_q3 => k_is)
  (case c_q3 => k_is)
  (case k_q3 => k_is)
  (case a_q4 => k_is)
  (case l_q4 => k_is)
  (case c_q4 => k_is)
  (case k_q4 => k_is)
  (case a_q5 => k_is)
  (case l_q5 => k_is)
  (case c_q5 => k_is)
  (case k_q5 => k_is)
  (case a_q6 => k_is)
  (case l_q6 => k_is)
  (case c_q6 => k_is)
  (case k_q6 => k_is)
  (case a_q7 => k_is)
  (case l_q7 => k_is)
  (case c_q7 => k_is)
  (case k_q7 => k_is)
  (case a_q8 => k_is)
  (case l_q8 => k_is)
  (case c_q8 => k_is)
  (case k_q8 => k_is)
  (case a_q9 => k_is)
  (case l_q9 => k_is)
  (case c_q9 => k_is)
  (case k_q9 => k_is)
  (case a_q10 => k_is)
  (case l_q10 => k_is)
  (case c_q10 => k_is)
  (case k_q10 => k_is)
  (case a_q11 => k_is)
  (case l_q11 => k_is)
  (case c_q11 => k_is)
  (case k_q11 => k_is)
  (case a_q12 => k_is)
  (case l_q12 => k_is)
  (case c_q12 => k_is)
  (case k_q12 => k_is)
  (case a_q13 => k_is)
  (case l_q13 => k_is)
  (case c_q13 => k_is)
  (case k_q13 => k_is)
  (case a_q14 => k_is)
  (case l_q14 => k_is)
  (case c_q14 => k_is)
  (case k_q14 => k_is)
  (case a_led => k_is)
  (case l_led => k_is)
  (case c_led => k_is)
  (case k_led => k_is)
  (case a_q15 => k_is)
  (case l_q15 => k_is)
  (case c_q15 => k_is)
  (case k_q15 => k_is)
  (case a_q16 => k_is)
  (case l_q16 => k_is)
  (case c_q16 => k_is)
  (case k_q16 => k_is)
  (case a_q17 => k_is)
  (case l_q17 => k_is)
  (case c_q17 => k_is)
  (case k_q17 => k_is)
  (case a_q18 => k_is)
  (case l_q18 => k_is)
  (case c_q18 => k_is)
  (case k_q18 => k_is)
  (case a_q19 => k_is)
  (case l_q19 => k_is)
  (case c_q19 => k_is)
  (case k_q19 => k_is)
  (case a_q20 => k_is)
  (case l_q20 => k_is)
  (case c_q20 => k_is)
  (case k_q20 => k_is)
  (case a_q21 => k_is)
  (case l_q21 => k_is)
  (case c_q21 => k_is)
  (case k_q21 => k_is)
  (case a_q22 => k_is)
  (case l_q22 => k_is)
  (case c_q22 => k_is)
  (case k_q22 => k_is)
  (case a_q23 => k_is)
  (case l_q23 => k_is)
  (case c_q23 => k_is)
  (case k_q23 => k_is)
  (case a_q24 => k_is)
  (case l_q24 => k_is)
  (case c_q24 => k_is)
  (case k_q24 => k_is)
  (case a_q25 => k_is)
  (case l_q25 => k_is)
  (case c_q25 => k_is)
  (case k_q25 => k_is)
  (case a_q26 => k_is)
  (case l_q26 => k_is)
  (case c_q26 => k_is)
  (case k_q26 => k_is)
  (case a_q27 => k_is)
  (case l_q27 => k_is)
  (case c_q27 => k_is)
  (case k_q27 => k_is)
  (case a_q28 => k_is)
  (case l_q28 => k_is)
  (case c_q28 => k_is)
  (case k_q28 => k_is)
  (case a_q29 => k_is)
  (case l_q29 => k_is)
  (case c_q29 => k_is)
  (case k_q29 => k_is)
  (case a_q30 => k_is)
  (case l_q30 => k_is)
  (case c_q30 => k_is)
  (case k_q30 => k_is)
  (case a_q31 => k_is)
  (case l_q31 => k_is)
  (case c_q31 => k_is)
  (case k_q31 => k_is)
  (case a_law => k_is)
  (case l_law => k_is)
  (case c_law => k_is)
  (case k_law => k_is)
  (case z_isinstance => k_is)
  (case z_bool => k_is)
  (case z_int => k_is)
  (case z_tuple => k_is)
  (case z_list => k_is)
  (case z_all => k_is)
  (case z_range => k_is)
  (case z_len => k_is)
  (case z_sum => k_is)
  (case z_sorted => k_is)
  (case z_min => k_is)
  (case z_set => k_is)
  (case v_q34 => k_is)
  (case v_q35 => k_is)
  (case v_q36 => k_is)
  (case v_q39 => k_is)
#print axioms PySem.Challenge.cw_gatherall_k26_whole_cheapest_holds
