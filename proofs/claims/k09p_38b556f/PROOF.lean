import PyProof.Rows.All
import Wide.All
import OpenK.AllK
import Wide.FinOn
import Lean
import PyProof.EqAt
import PyProof.EqKinds
import PyProof.TupleCall
import KE.KSortTup
import KE.KRevSl
import PyProof.Rows.MinMaxN
import KE.KMinBuiltin
import PyProof.DictWalks
import PyProof.IsiH_list
import PyProof.Rows.Range3
import PyProof.DictValues
import PyProof.SumAny
import PyProof.ExcAttrAll.ValueError
import PyProof.P3Eq
import PySem.Challenge.RW_gatherall_k09_whole_formulas
set_option Elab.async false
set_option linter.all false
set_option maxRecDepth 100000
namespace L2
open PySem PySem.Spec PyProof.Rows
noncomputable abbrev Key:=Sum Int Str
noncomputable def z3g:Key->Value->Bool
 | .inl k,v=>Value.isInt k v
 | .inr x,v=>Value.isStrOf x v
noncomputable def keyH(w:World):Key->Int
 | .inl k=>hashInt k
 | .inr x=>hashStr w x
theorem zj:∀{k:Key} {v:Value},z3g k v=true->(∃i t,k=Sum.inl i/\v=Value.int i t)\/(∃x t,k=Sum.inr x/\v=Value.str x t)
 | .inl i,v,h=>by
  obtain⟨t,e⟩:=Value.isInt_shape (k:=i) (v:=v) h;exact .inl ⟨i,t,rfl,e⟩
 | .inr x,v,h=>by
  obtain⟨t,e⟩:=Value.isStrOf_shape (x:=x) (v:=v) h;exact .inr ⟨x,t,rfl,e⟩
theorem z56(i:Int)(t:Tok):z3g (.inl i) (.int i t)=true:=by simp[z3g,Value.isInt]
theorem z4O(x:Str)(t:Tok):z3g (.inr x) (.str x t)=true:=by simp[z3g,Value.isStrOf]
theorem zBF(a b:Int):decide ((Sum.inl a:Key)=Sum.inl b)=(a == b):=by
 by_cases e:a=b
 ·subst e;simp
 ·have h:¬(Sum.inl a:Key)=Sum.inl b:=fun q=>e (Sum.inl.inj q);rw[decide_eq_false h];exact(beq_eq_false_iff_ne.mpr e).symm
theorem z9o(a b:Str):decide ((Sum.inr a:Key)=Sum.inr b)=decide (a=b):=by
 by_cases e:a=b
 ·subst e;simp
 ·have h:¬(Sum.inr a:Key)=Sum.inr b:=fun q=>e (Sum.inr.inj q);rw[decide_eq_false h,decide_eq_false e]
theorem z9x(a:Int)(b:Str):decide ((Sum.inl a:Key)=Sum.inr b)=false:=decide_eq_false (fun q=>nomatch q)
theorem zAw(a:Str)(b:Int):decide ((Sum.inr a:Key)=Sum.inl b)=false:=decide_eq_false (fun q=>nomatch q)
noncomputable def zn(prog:Program)(w:World):PySem.KeyKind prog w Key where
 is:=z3g
 hash:=keyH w
 inj:=fun v a b ha hb=>by
  rcases zj ha with ⟨i,t,rfl,rfl⟩ | ⟨x,t,rfl,rfl⟩
  ·rcases zj hb with ⟨j,u,rfl,e⟩ | ⟨y,u,rfl,e⟩
   ·injection e with e1 _;rw[e1]
   ·exact nomatch e
  ·rcases zj hb with ⟨j,u,rfl,e⟩ | ⟨y,u,rfl,e⟩
   ·exact nomatch e
   ·injection e with e1 _;rw[e1]
 byValue:=fun k v h=>by
  rcases zj h with ⟨i,t,rfl,rfl⟩ | ⟨x,t,rfl,rfl⟩<;>rfl
 pyHash:=fun hv h=>by
  rcases zj hv with ⟨i,t,rfl,rfl⟩ | ⟨x,t,rfl,rfl⟩
  ·exact wpAny_pyHash_int h
  ·exact wpAny_pyHash_str h
 eqBool:=fun hu hv h=>by
  rcases zj hu with ⟨i,t,rfl,rfl⟩ | ⟨x,t,rfl,rfl⟩
  ·rcases zj hv with ⟨j,u,rfl,rfl⟩ | ⟨y,u,rfl,rfl⟩
   ·rw[zBF]at h;exact wpAny_eqBool_int h
   ·rw[z9x]at h;exact SeqAt.EqAt.int_str i t y u _ _ _ _ h
  ·rcases zj hv with ⟨j,u,rfl,rfl⟩ | ⟨y,u,rfl,rfl⟩
   ·rw[zAw]at h;exact SeqAt.EqAt.str_int x t j u _ _ _ _ h
   ·rw[z9o]at h;exact wpAny_eqBool_str h
 «strs»:=fun k x t v h=>by
  rcases zj h with ⟨i,u,rfl,e⟩ | ⟨y,u,rfl,e⟩
  ·exact nomatch e
  ·injection e with e1 _
   subst e1;cases v<;>rfl
theorem z2D(prog:Program)(w:World)(i:Int)(t:Tok):(zn prog w).is (.inl i) (.int i t)=true:=z56 i t
theorem z2R(prog:Program)(w:World)(x:Str)(t:Tok):(zn prog w).is (.inr x) (.str x t)=true:=z4O x t
inductive V where
 | non | bl (b:Bool) | int (i:Int) | str (x:Str) | byt (b:Array UInt8) | flt (b:UInt64) | ref (a:Addr) | ty (n:String)
 deriving DecidableEq
noncomputable def RelV:V->Value->Prop
 | .non,u=>u=Value.none
 | .bl b,u=>u=Value.bool b
 | .int i,u=>∃t,u=Value.int i t
 | .str x,u=>∃t,u=Value.str x t
 | .byt b,u=>∃t,u=Value.bytes b t
 | .flt b,u=>∃t,u=Value.float b t
 | .ref a,u=>u=Value.ref a
 | .ty n,u=>u=Value.type n
noncomputable abbrev Vals:List V->List Value->Prop:=Paired RelV
theorem Vals.length{xs:List V}{us:List Value}(r:Vals xs us):xs.length=us.length:=Paired.length r
theorem Vals.get:∀{xs:List V} {us:List Value} {i:Nat} {x:V},Vals xs us->xs[i]?=some x->∃u,us[i]?=some u/\RelV x u
 | _,_,_,_,.nil,e=>by simp at e
 | _,_,0,_,.cons r _,e=>by simp at e;subst e;exact⟨_,rfl,r⟩
 | _,_,i+1,x,.cons _ t,e=>by
  obtain⟨u,h1,h2⟩:=Vals.get (i:=i) (x:=x) t (by simpa using e);exact⟨u,by simpa using h1,h2⟩
theorem Vals.set{x:V}{u:Value}(r:RelV x u):∀{xs:List V} {us:List Value} (i:Nat),Vals xs us->Vals (xs.set i x) (us.set i u)
 | _,_,_,.nil=>.nil
 | _,_,0,.cons _ t=>.cons r t
 | _,_,i+1,.cons q t=>.cons q (Vals.set r i t)
theorem Vals.append:∀{xs ys:List V} {us ws:List Value},Vals xs us->Vals ys ws->Vals (xs++ys) (us++ws)
 | _,_,_,_,.nil,s=>s
 | _,_,_,_,.cons r t,s=>.cons r (Vals.append t s)
theorem Vals.take:∀{xs:List V} {us:List Value} (n:Nat),Vals xs us->Vals (xs.take n) (us.take n)
 | _,_,0,_=>.nil
 | _,_,_+1,.nil=>.nil
 | _,_,n+1,.cons r t=>.cons r (Vals.take n t)
theorem Vals.drop:∀{xs:List V} {us:List Value} (n:Nat),Vals xs us->Vals (xs.drop n) (us.drop n)
 | _,_,0,r=>r
 | _,_,_+1,.nil=>.nil
 | _,_,n+1,.cons _ t=>Vals.drop n t
noncomputable def RelO:Option V->Option Value->Prop
 | some v,some u=>RelV v u
 | none,none=>True
 | _,_=>False
noncomputable def KV{κ:Type}:List (κ×V)->List (κ×Value)->Prop:=Paired fun(p:κ×V) (q:κ×Value)=>p.1=q.1/\RelV p.2 q.2
noncomputable def kV:Key->V
 | .inl i=>.int i
 | .inr x=>.str x
inductive HO where
 | lst (xs:List V)
 | tup (xs:List V)
 | dK (kvs:List (Key×V)) | dT (kvs:List (List Key×V))
 | set (S:Int->Bool) (n:Nat)
 | ins (C dx:Addr) (fs:List (Str×V))
 | own (x:Addr)
 | xd (fs:List (Str×V))
 | met (f x:Addr)
 | rng (lo hi:Int)
 | frz (o:Obj) (u:HO)
 | tbl (ps:Array Value)
 | ext (φ:Heap->Prop)
noncomputable abbrev Hp:=Addr->Option HO
noncomputable def upd(H:Hp)(a:Addr)(o:HO):Hp:=fun b=>if b=a then some o else H b
theorem z7{H:Hp}{a:Addr}{o:HO}:upd H a o a=some o:=by unfold upd;rw[if_pos rfl]
theorem zB{H:Hp}{a b:Addr}{o:HO}(h:b≠a):upd H a o b=H b:=by unfold upd;rw[if_neg h]
theorem uM{H:Hp}{a:Addr}{o u:HO}:upd (upd H a o) a u=upd H a u:=by
 funext b;unfold upd;split<;>rfl
theorem z3x{H:Hp}{a b:Addr}{o u:HO}(h:H a=some o)(h':H b=some u)(d:o≠u):a≠b:=by
 intro e;subst e;rw[h]at h';exact d (Option.some.inj h')
theorem zM{H:Hp}{a b:Addr}{o:HO}(h:H a=some o)(h':H b=none):a≠b:=by
 intro e;subst e;rw[h]at h';cases h'
section
variable(P:Program)(w:World)
noncomputable def ObjOk(H:Hp)(h:Heap)(a:Addr):HO->Prop
 | .lst xs=>xs.length<=sizeLine/\∃(its:List Value) (n:Nat),Vals xs its/\h.get? a=some { cls:=.type "list",data:=.seq its.toArray n }
 | .tup xs=>(xs.length<=sizeLine/\∃o,h.get? a=some o/\o.dict=none)/\∃its:List Value,Vals xs its/\IsTup h a its.toArray
 | .dK kvs=>kvs.length<=sizeLine/\(a == sysModules)=false/\∃vs,KV kvs vs/\h.DictOf (zn P w) a vs
 | .dT kvs=>kvs.length<=sizeLine/\(a == sysModules)=false/\∃xs:List (List Key×Addr×Value),
   Paired (fun(p:List Key×V) (q:List Key×Addr×Value)=>p.1=q.1/\H q.2.1=some (.tup (p.1.map kV))/\RelV p.2 q.2.2) kvs xs/\
   ∃o es ep,h.get? a=some o/\o.ExactDict/\o.data=.dict es ep/\es.toList=xs.map (entryOfKey (tupleKind (zn P w)))/\(xs.map (·.1)).Nodup
 | .set S n=>h.SetOf (intKind P w) a S n
 | .ins C dx fs=>H dx=some (.own a)/\fs.length<=1000/\dx≠a/\h.get? a=some (W.instObj C dx)/\
   ∃mA,h.Ns1 dx mA/\(∀f,RelO (fs.lookup f) (mA f))/\PySem.Within mA (fs.map (·.1))
 | .own _=>∃o,h.get? a=some o
 | .xd fs=>∃mA,h.Ns1 a mA/\∀f,RelO (fs.lookup f) (mA f)
 | .rng lo hi=>∃t u v,h.get? a=some { cls:=.type "range",data:=.fields #[.int lo t,.int hi u,.int 1 v] }
 | .frz o u=>h.get? a=some o/\ObjOk H h a u
 | .tbl ps=>h.get? a=some { cls:=.none,data:=.fields ps }
 | .met f x=>h.get? a=some (W.methodObj (.ref f) (.ref x))
 | .ext φ=>φ h/\(∃o,h.get? a=some o)/\∀h1 h2:Heap,φ h1->(∀o,h1.get? a=some o->h2.get? a=some o)->φ h2
def HOk(H:Hp)(h:Heap):Prop:=∀a o,H a=some o->ObjOk P w H h a o
end
section
variable{P:Program}{w:World}{H H':Hp}{h h':Heap}{a:Addr}{o:HO}
theorem ObjOk.lt(x:ObjOk P w H h a o):a<h.objs.size:=by
 cases o with
 | lst xs=>obtain⟨_,_,_,_,e⟩:=x;exact Heap.lt_size e
 | tup xs=>obtain⟨_,_,_,p⟩:=x;exact p.lt
 | dK kvs=>obtain⟨_,_,_,_,o,_,_,e,_⟩:=x;exact Heap.lt_size e
 | dT kvs=>obtain⟨_,_,_,_,o,_,_,e,_⟩:=x;exact Heap.lt_size e
 | set S n=>obtain⟨o,_,_,_,e,_⟩:=x;exact Heap.lt_size e
 | ins C dx fs=>obtain⟨_,_,_,e,_⟩:=x;exact Heap.lt_size e
 | own y=>obtain⟨_,e⟩:=x;exact Heap.lt_size e
 | xd fs=>obtain⟨_,⟨_,_,_,e,_⟩,_⟩:=x;exact Heap.lt_size e
 | rng lo hi=>obtain⟨_,_,_,e⟩:=x;exact Heap.lt_size e
 | frz ob u=>obtain⟨e,_⟩:=x;exact Heap.lt_size e
 | tbl ps=>exact Heap.lt_size (show h.get? a=some _ from x)
 | met f y=>exact Heap.lt_size (show h.get? a=some _ from x)
 | ext φ=>obtain⟨_,⟨_,e⟩,_⟩:=x;exact Heap.lt_size e
theorem Paired.mapP{α β:Type}{F G:α->β->Prop}:∀{l₁:List α} {l₂:List β},Paired F l₁ l₂->(∀a b,F a b->G a b)->Paired G l₁ l₂
 | _,_,.nil,_=>.nil
 | _,_,.cons r t,f=>.cons (f _ _ r) (Paired.mapP t f)
theorem ObjOk.stay(x:ObjOk P w H h a o)(k:∀b u,(b=a\/H b=some (.own a))->h.get? b=some u->h'.get? b=some u)
  (ho:∀b,H b=some (.own a)->H' b=some (.own a)) (ht:∀b xs,H b=some (.tup xs)->H' b=some (.tup xs)):ObjOk P w H' h' a o:=by
 induction o with
 | lst xs=>obtain⟨z,its,n,r,e⟩:=x;exact⟨z,its,n,r,k _ _ (.inl rfl) e⟩
 | tup xs=>obtain⟨⟨z,o2,e2,c2⟩,its,r,ob,e,c⟩:=x;exact⟨⟨z,o2,k _ _ (.inl rfl) e2,c2⟩,its,r,ob,k _ _ (.inl rfl) e,c⟩
 | dK kvs=>obtain⟨z,y,vs,r,ob,es,ep,e,c⟩:=x;exact⟨z,y,vs,r,ob,es,ep,k _ _ (.inl rfl) e,c⟩
 | dT kvs=>
  obtain⟨z,y,xs,r,ob,es,ep,e,c⟩:=x;exact⟨z,y,xs,Paired.mapP r fun p q z=>⟨z.1,ht _ _ z.2.1,z.2.2⟩,ob,es,ep,k _ _ (.inl rfl) e,c⟩
 | set S n=>obtain⟨ob,es,ep,t,e,c⟩:=x;exact⟨ob,es,ep,t,k _ _ (.inl rfl) e,c⟩
 | ins C dx fs=>
  obtain⟨d,z,ne,e,mA,⟨od,es,ep,e2,c⟩,r⟩:=x;exact⟨ho _ d,z,ne,k _ _ (.inl rfl) e,mA,⟨od,es,ep,k _ _ (.inr d) e2,c⟩,r⟩
 | own y=>obtain⟨ob,e⟩:=x;exact⟨ob,k _ _ (.inl rfl) e⟩
 | xd fs=>obtain⟨mA,⟨od,es,ep,e,c⟩,r⟩:=x;exact⟨mA,⟨od,es,ep,k _ _ (.inl rfl) e,c⟩,r⟩
 | rng lo hi=>obtain⟨t,u,v,e⟩:=x;exact⟨t,u,v,k _ _ (.inl rfl) e⟩
 | frz ob u ih=>obtain⟨e,q⟩:=x;exact⟨k _ _ (.inl rfl) e,ih q⟩
 | tbl ps=>
  have e:h.get? a=some { cls:=.none,data:=.fields ps }:=x;show h'.get? a=some { cls:=.none,data:=.fields ps };exact k a _ (.inl rfl) e
 | met f y=>
  have e:h.get? a=some (W.methodObj (.ref f) (.ref y)):=x;show h'.get? a=some (W.methodObj (.ref f) (.ref y));exact k a _ (.inl rfl) e
 | ext φ=>obtain⟨p,⟨o,e⟩,st⟩:=x;exact⟨st _ _ p fun o q=>k _ _ (.inl rfl) q,⟨o,k _ _ (.inl rfl) e⟩,st⟩
theorem HOk.lt(x:HOk P w H h)(e:H a=some o):a<h.objs.size:=(x a o e).lt
theorem HOk.fresh(x:HOk P w H h)(e:h.objs.size<=a):H a=none:=by
 cases q:H a with
 | none=>rfl
 | some u=>exact absurd (Nat.lt_of_lt_of_le (x.lt q) e) (Nat.lt_irrefl _)
theorem HOk.kept(x:HOk P w H h)(k:∀b u,h.get? b=some u->h'.get? b=some u):HOk P w H h':=fun a o e=>
 (x a o e).stay (fun b u _ q=>k b u q) (fun _ q=>q) fun _ _ q=>q
theorem HOk.laid(x:HOk P w H h)(k:∀b u,h.get? b=some u->h'.get? b=some u)(hp:h.objs.size<=a)(new:ObjOk P w (upd H a o) h' a o):HOk P w (upd H a o) h':=fun b u e=>by
 have hn:=x.fresh hp;by_cases hb:b=a
 ·subst hb;rw[z7]at e;cases e;exact new
 ·rw[zB hb]at e;exact(x b u e).stay (fun c v _ q=>k c v q) (fun c q=>by rw[zB (zM q hn)];exact q) fun c xs q=>by rw[zB (zM q hn)];exact q
end
def Rd(H:Hp)(a:Addr)(u:HO):Prop:=H a=some u\/∃o,H a=some (.frz o u)
theorem Rd.ok{P:Program}{w:World}{H:Hp}{h:Heap}{a:Addr}{u:HO}(r:Rd H a u)(x:HOk P w H h):ObjOk P w H h a u:=by
 rcases r with r | ⟨o,r⟩
 ·exact x a u r
 ·obtain⟨_,q⟩:=x a _ r;exact q
noncomputable def Mut:Option HO->Prop
 | some (.lst _)=>True
 | some (.dK _)=>True
 | some (.dT _)=>True
 | some (.set _ _)=>True
 | some (.ins _ _ _)=>True
 | some (.ext _)=>True
 | _=>False
section
variable{P:Program}{w:World}{H:Hp}{h h':Heap}{x e:Addr}{o':HO}
theorem HOk.write(ok:HOk P w H h)(mu:Mut (H x))(he:e=x\/H e=some (.own x))(k:∀b u,b≠e->h.get? b=some u->h'.get? b=some u)(heo:∃u,h'.get? e=some u)
  (new:ObjOk P w (upd H x o') h' x o'):HOk P w (upd H x o') h':=fun b u q=>by
 have nown:∀c y,H c=some (.own y)->c≠x:=fun c y r z=>by subst z;rw[r]at mu;exact mu
 have ntup:∀c xs,H c=some (.tup xs)->c≠x:=fun c xs r z=>by subst z;rw[r]at mu;exact mu
 by_cases hb:b=x
 ·subst hb;rw[z7]at q;cases q;exact new
 ·rw[zB hb]at q;by_cases hbe:b=e
  ·have q':H b=some (.own x):=by
    rcases he with z | z
    ·exact absurd (hbe.trans z) hb
    ·rw[hbe];exact z
   rw[q]at q';cases q';obtain⟨v,hv⟩:=heo;exact⟨v,by rw[hbe];exact hv⟩
  ·refine(ok b u q).stay (fun c v hc r=>k c v ?_ r) (fun c r=>by rw[zB (nown c b r)];exact r) fun c xs r=>by rw[zB (ntup c xs r)];exact r
   rcases hc with rfl | hc
   ·exact hbe
   ·rintro rfl;rcases he with z | z
    ·exact nown c b hc z
    ·rw[hc]at z;cases z;exact hb rfl
end
structure Un(fs ex:List Addr)(H H':Hp)(h h':Heap):Prop where
 keep:∀b o,h.get? b=some o->H b=none->b∉fs->b∉ex->h'.get? b=some o
 slot:∀b o,h.get? b=some o->H b=none->b∈fs->b∉ex->∃sl,h'.get? b=some { o with slots:=sl }
 free:∀b o,h.get? b=some o->H b=none->b∉ex->H' b=none
 there:∀b o,h.get? b=some o->b∉ex->∃o',h'.get? b=some o'
 tups:∀b xs,H b=some (.tup xs)->H' b=some (.tup xs)
 frzs:∀b o u,H b=some (.frz o u)->H' b=some (.frz o u)
 tbls:∀b ps,H b=some (.tbl ps)->∃more,H' b=some (.tbl (ps++more))
section
variable{fs fs' ex ex':List Addr}{H H1 H2:Hp}{h h1 h2 h':Heap}{a x e:Addr}{o:HO}
theorem Un.any(u:Un fs ex H H1 h h1){b:Addr}{ob:Obj}(q:h.get? b=some ob)(n:H b=none)(hx:b∉ex):∃sl,h1.get? b=some { ob with slots:=sl }:=by
 by_cases hb:b∈fs
 ·exact u.slot b ob q n hb hx
 ·exact⟨ob.slots,u.keep b ob q n hb hx⟩
theorem Un.kept(k:∀b u,h.get? b=some u->h'.get? b=some u):Un fs ex H H h h':=
 ⟨fun b ob q _ _ _=>k b ob q,fun b ob q _ _ _=>⟨ob.slots,k b ob q⟩,fun _ _ _ n _=>n,fun b ob q _=>⟨ob,k b ob q⟩,fun _ _ q=>q,fun _ _ _ q=>q,fun _ ps q=>⟨#[],by rw[q];simp⟩⟩
theorem Un.refl:Un fs ex H H h h:=Un.kept fun _ _ q=>q
theorem Un.laid(k:∀b u,h.get? b=some u->h'.get? b=some u)(hp:h.objs.size<=a)(hn:H a=none):Un fs ex H (upd H a o) h h' where
 keep:=fun b u q _ _ _=>k b u q
 slot:=fun b u q _ _ _=>⟨u.slots,k b u q⟩
 free:=fun b u q n _=>by rw[zB (Nat.ne_of_lt (Nat.lt_of_lt_of_le (Heap.lt_size q) hp))];exact n
 there:=fun b u q _=>⟨u,k b u q⟩
 tups:=fun b xs q=>by rw[zB (zM q hn)];exact q
 frzs:=fun b u xs q=>by rw[zB (zM q hn)];exact q
 tbls:=fun b ps q=>⟨#[],by rw[zB (zM q hn),q];simp⟩
theorem Un.write(mu:Mut (H x))(he:e=x\/H e=some (.own x))(k:∀b u,b≠e->h.get? b=some u->h'.get? b=some u)(heo:∃u,h'.get? e=some u):Un fs ex H (upd H x o) h h':=by
 have hx:∀b,H b=none->b≠x:=fun b n z=>by subst z;rw[n]at mu;exact mu
 have hb:∀b,H b=none->b≠e:=fun b n z=>by
  subst z;rcases he with r | r
  ·exact hx b n r
  ·rw[n]at r;cases r
 have hm:∀b u,H b=some u->¬Mut (some u)->b≠x:=fun b u q nm z=>by subst z;rw[q]at mu;exact nm mu
 refine⟨fun b u q n _ _=>k b u (hb b n) q,fun b u q n _ _=>⟨u.slots,k b u (hb b n) q⟩,fun b u q n _=>by rw[zB (hx b n)];exact n,fun b u q _=>?_,
  fun b xs q=>by rw[zB (hm b _ q fun z=>z)];exact q,fun b u xs q=>by rw[zB (hm b _ q fun z=>z)];exact q,fun b ps q=>⟨#[],by rw[zB (hm b _ q fun z=>z),q];simp⟩⟩
 by_cases hbe:b=e
 ·subst hbe;exact heo
 ·exact⟨u,k b u hbe q⟩
end
noncomputable def trk(h:Heap)(H:Hp):List Addr:=(List.range h.objs.size).filter fun a=>(H a).isSome
noncomputable def hidT(h:Heap)(H:Hp):Heap:=W.hideAll h (trk h H)
theorem z5x(h:Heap)(H:Hp):(hidT h H).objs.size=h.objs.size:=W.hideAll_size _ _
theorem z6E{h:Heap}{H:Hp}{b:Addr}{o:Obj}(e:h.get? b=some o)(n:H b=none):(hidT h H).get? b=some o:=
 W.hideAll_get _ e fun hm=>by
  have q:(H b).isSome=true:=(List.mem_filter.mp hm).2;rw[n]at q;simp at q
theorem z9W{h:Heap}{H:Hp}{b:Addr}{o:Obj}(e:(hidT h H).get? b=some o):h.get? b=some o/\H b=none:=by
 have e':h.get? b=some o:=W.of_hideAll (trk h H) e;refine⟨e',?_⟩;cases q:H b with
 | none=>rfl
 | some x=>
  have hm:b∈trk h H:=List.mem_filter.mpr ⟨List.mem_range.mpr (Heap.lt_size e'),by simp[q]⟩;have z:(hidT h H).get? b=none:=W.hideAll_none (trk h H) hm;rw[z]at e;cases e
noncomputable def z8Y(g h:Heap)(L:Addr):List (Addr×Obj):=(List.range h.objs.size).filterMap fun a=>if a=L\/(g.get? a).isSome=true then none else(h.get? a).map fun o=>(a,o)
noncomputable def rest(g h:Heap)(L d:Addr):List (Addr×Obj):=(z8Y g h L).filter fun p=>decide (p.1≠d)
structure Mod(K:W.Frag)(mg:Str->Option Value)(base:Heap):Prop where
 kin:K.In base
 glob:base.Ns mainGlobals mg
 blt:∃mb,base.Ns builtinsNs mb/\∀x:Str,x≠"__name__"->mb x=bootBuiltins x
 nolimit:base.NoLimit
structure Cx where
 prog:Program
 w:World
 K:W.Frag
 mg:Str->Option Value
 base:Heap
 A:Around
 N:List Str
 s₀:Shared
 H₀:Hp
 env:Env
 outer:List Env
 stack:List Env
 ex:List Addr
 fn:Str->Bool
 calm:Bool
 pn:List (Addr×Obj)
 xe:Value->Shared->Prop
noncomputable def frs(l:List Env):List Addr:=l.filterMap (·.frame)
noncomputable abbrev Cx.fs(X:Cx):List Addr:=frs X.outer
def Vis(sc:Scope)(x:Str):Prop:=sc.names.lookup x=some .local\/sc.names.lookup x=some .cell\/sc.names.lookup x=some .free
def Loc(sc:Scope)(x:Str):Prop:=sc.names.lookup x=some .local\/sc.names.lookup x=some .cell
def Look(env:Env)(h:Heap)(m:Str->Option Value)(x:Str)(u:Value):Prop:=
 (env.kindOf x=some .local/\m x=some u)\/((env.kindOf x=some .cell\/env.kindOf x=some .free)/\∃c,env.cells.lookup x=some c/\h.IsCell c (some u))
structure Cx.Ok(X:Cx):Prop where
 mod:Mod X.K X.mg X.base
 kind:X.env.scope.kind=.function
 glob:X.env.globals=mainGlobals
 blt:X.env.builtins=builtinsNs
 above:X.s₀.heap.objs.size<=X.env.locals
 inj:∀x y c,X.env.cells.lookup x=some c->X.env.cells.lookup y=some c->x=y
 has:∀x,(X.env.kindOf x=some .cell\/X.env.kindOf x=some .free)->∃c,X.env.cells.lookup x=some c
 cab:∀x c,X.fn x=true->X.env.cells.lookup x=some c->X.s₀.heap.objs.size<=c
 hd:X.calm=true->X.A.handled=none
 frames:X.A.frames=some X.stack
 stk:X.stack=X.outer\/(X.stack=X.env::X.outer/\X.env.frame=some X.env.locals)
 exf:∀b∈X.ex,b≠X.env.locals/\∀x c,X.env.cells.lookup x=some c->c≠b
 bs:∀b o,X.base.get? b=some o->X.s₀.heap.get? b=some o/\X.H₀ b=none
 bsz:X.base.objs.size<=X.s₀.heap.objs.size
 noex:∀b o,X.base.get? b=some o->b∉X.ex
 exfs:∀b∈X.ex,b∉X.fs
 funs:X.s₀.heap.FunFrames X.base X.outer
 frf:∀b∈X.fs,X.H₀ b=none
structure Inv(X:Cx)(pins:List (Addr×Obj))(σ:List (Option V))(H:Hp)(s:Shared):Prop where
 ok:X.Ok
 os:s.os=X.s₀.os
 bare:AllBare s.gens
 base:Un X.fs X.ex X.H₀ H X.s₀.heap s.heap
 loc:∃m,s.heap.Ns X.env.locals m/\∀(i:Nat) (x:Str) (v:V),X.N[i]?=some x->σ[i]?=some (some v)->Vis X.env.scope x->∃u,RelV v u/\Look X.env s.heap m x u
 cell:∀x c,X.env.cells.lookup x=some c->∃v,s.heap.IsCell c v
 free:H X.env.locals=none
 freeC:∀x c,X.env.cells.lookup x=some c->H c=none
 pin:∀p∈X.pn++pins,s.heap.get? p.1=some p.2/\H p.1=none/\p.1≠X.env.locals/\p.1∉X.fs/\∀v,p.2.data≠.cell v
 hok:HOk X.prog X.w H s.heap
 len:σ.length=X.N.length
section
variable{X:Cx}{pins:List (Addr×Obj)}{σ:List (Option V)}{H H':Hp}{s:Shared}{h':Heap}
theorem Cx.Ok.nofr(ok:X.Ok){b:Addr}{o:Obj}(e:X.base.get? b=some o):b∉X.fs:=fun hb=>by
 have:=(ok.funs.mem hb).1;rw[e]at this;cases this
theorem Inv.bs(I:Inv X pins σ H s):∀b o,X.base.get? b=some o->s.heap.get? b=some o/\H b=none:=fun b o e=>
 ⟨I.base.keep b o (I.ok.bs b o e).1 (I.ok.bs b o e).2 (I.ok.nofr e) (I.ok.noex b o e),I.base.free b o (I.ok.bs b o e).1 (I.ok.bs b o e).2 (I.ok.noex b o e)⟩
theorem Inv.bk(I:Inv X pins σ H s):∀b o,X.base.get? b=some o->s.heap.get? b=some o:=fun b o e=>(I.bs b o e).1
theorem Inv.mod(I:Inv X pins σ H s):Mod X.K X.mg X.base:=I.ok.mod
theorem Inv.kIn(I:Inv X pins σ H s):X.K.In s.heap:=I.ok.mod.kin.keeps I.bk
theorem Inv.lt(I:Inv X pins σ H s):X.env.locals<s.heap.objs.size:=let⟨_,hn,_⟩:=I.loc;hn.lt
theorem Inv.sz(I:Inv X pins σ H s):X.s₀.heap.objs.size<=s.heap.objs.size:=Nat.le_trans I.ok.above (Nat.le_of_lt I.lt)
theorem Inv.nofs(I:Inv X pins σ H s){a:Addr}(h:s.heap.objs.size<=a):a∉X.fs:=fun hb=>by
 obtain⟨_,o,ho,_⟩:=I.ok.funs.mem hb;exact absurd (Nat.lt_of_lt_of_le (Heap.lt_size ho) (Nat.le_trans I.sz h)) (Nat.lt_irrefl _)
theorem Inv.cne(I:Inv X pins σ H s):∀x c,X.env.cells.lookup x=some c->c≠X.env.locals:=fun x c e z=>by
 obtain⟨v,o,ho,hd⟩:=I.cell x c e;obtain⟨m,⟨o',es,ep,ho',hd',_⟩,_⟩:=I.loc;rw[z,ho']at ho;cases ho;rw[hd']at hd;cases hd
theorem Inv.funs(I:Inv X pins σ H s):s.heap.FunFrames X.base X.outer:=by
 have all:∀(l:List Env),(∀b∈frs l,b∈X.fs)->X.s₀.heap.FunFrames X.base l->s.heap.FunFrames X.base l:=by
  intro l
  induction l with
  | nil=>intro _ _;trivial
  | cons env r ih=>
   intro hs hl;obtain⟨hk,⟨L,o,hf,hn,ho,hd⟩,hr⟩:=hl;have hL:L∈X.fs:=hs L (by unfold frs;rw[List.filterMap_cons,hf];exact List.mem_cons_self);obtain⟨sl,e⟩:=I.base.slot L o ho (I.ok.frf L hL) hL fun z=>I.ok.exfs L z hL;exact⟨hk,⟨L,_,hf,hn,e,hd⟩,ih (fun b hb=>hs b (by unfold frs;rw[List.filterMap_cons,hf];exact List.mem_cons_of_mem _ hb)) hr⟩
 exact all X.outer (fun _ hb=>hb) I.ok.funs
theorem Inv.stack(I:Inv X pins σ H s):s.heap.FunFrames X.base X.stack:=by
 rcases I.ok.stk with e | ⟨e,hf⟩
 ·rw[e];exact I.funs
 ·rw[e];obtain⟨m,hn,_⟩:=I.loc;refine .cons (by rw[I.ok.kind];decide) hf hn ?_ I.funs;exact Heap.get?_none_of_le (Nat.le_trans I.ok.bsz I.ok.above)
theorem Inv.stkSub(I:Inv X pins σ H s):∀b∈frs X.stack,b∈X.env.locals::X.fs:=fun b hb=>by
 rcases I.ok.stk with e | ⟨e,hf⟩
 ·rw[e]at hb;exact List.mem_cons_of_mem _ hb
 ·rw[e]at hb;unfold frs at hb;rw[List.filterMap_cons,hf]at hb;exact hb
theorem Inv.stkFree(I:Inv X pins σ H s):∀b∈frs X.stack,H b=none:=fun b hb=>by
 rcases List.mem_cons.mp (I.stkSub b hb)with e | hb
 ·rw[e];exact I.free
 ·obtain⟨_,o,ho,_⟩:=I.ok.funs.mem hb;exact I.base.free b o ho (I.ok.frf b hb) fun z=>I.ok.exfs b z hb
theorem Inv.step{g':Array GenState}{t':Nat}{d':Drawn}{ch:List Addr}(I:Inv X pins σ H s)
  (hch:∀b∈ch,(b∈X.ex\/X.s₀.heap.objs.size<=b)/\b≠X.env.locals/\(∀x c,X.env.cells.lookup x=some c->c≠b)/\∀p∈X.pn++pins,p.1≠b)
  (keep:∀b o,b≠X.env.locals->b∉X.fs->b∉ch->s.heap.get? b=some o->H b=none->h'.get? b=some o)
  (slot:∀b o,b≠X.env.locals->b∈X.fs->b∉ch->s.heap.get? b=some o->H b=none->∃sl,h'.get? b=some { o with slots:=sl }) (free:∀b o,b∉ch->s.heap.get? b=some o->H b=none->H' b=none)
  (there:∀b o,b∉ch->s.heap.get? b=some o->∃o',h'.get? b=some o')
  (tups:∀b xs,H b=some (.tup xs)->H' b=some (.tup xs)) (frzs:∀b o u,H b=some (.frz o u)->H' b=some (.frz o u)) (tbls:∀b ps,H b=some (.tbl ps)->∃more,H' b=some (.tbl (ps++more)))
  (ns:∀m,s.heap.Ns X.env.locals m->h'.Ns X.env.locals m) (hok:HOk X.prog X.w H' h') (hg:AllBare g') :
  Inv X pins σ H' { s with heap:=h',gens:=g',drawn:=d',toks:=t' }:=by
 have neL:∀b o,X.s₀.heap.get? b=some o->b≠X.env.locals:=fun b o e=>Nat.ne_of_lt (Nat.lt_of_lt_of_le (Heap.lt_size e) I.ok.above);have neC:∀b o,X.s₀.heap.get? b=some o->b∉X.ex->b∉ch:=fun b o e hx hb=>by
  rcases(hch b hb).1 with z | z
  ·exact hx z
  ·exact absurd (Nat.lt_of_lt_of_le (Heap.lt_size e) z) (Nat.lt_irrefl _)
 have cellK:∀x c,X.env.cells.lookup x=some c->∀v,s.heap.IsCell c v->h'.IsCell c v:=fun x c e v ⟨o,ho,hd⟩=>by
  have nch:c∉ch:=fun z=>(hch c z).2.2.1 x c e rfl;by_cases hc:c∈X.fs
  ·obtain⟨sl,q⟩:=slot c o (I.cne x c e) hc nch ho (I.freeC x c e);exact⟨_,q,hd⟩
  ·exact⟨o,keep c o (I.cne x c e) hc nch ho (I.freeC x c e),hd⟩
 refine⟨I.ok,I.os,hg,⟨fun b o e n hb hx=>?_,fun b o e n hb hx=>?_,fun b o e n hx=>?_,fun b o e hx=>?_,fun b xs e=>tups b xs (I.base.tups b xs e),fun b o xs e=>frzs b o xs (I.base.frzs b o xs e),fun b ps e=>?_⟩,?_,fun x c e=>?_,?_,fun x c e=>?_,fun p hp=>?_,hok,I.len⟩
 ·exact keep b o (neL b o e) hb (neC b o e hx) (I.base.keep b o e n hb hx) (I.base.free b o e n hx)
 ·obtain⟨sl,e1⟩:=I.base.slot b o e n hb hx;obtain⟨sl',e2⟩:=slot b _ (neL b o e) hb (neC b o e hx) e1 (I.base.free b o e n hx);exact⟨sl',e2⟩
 ·obtain⟨o',e1⟩:=I.base.there b o e hx;exact free b o' (neC b o e hx) e1 (I.base.free b o e n hx)
 ·obtain⟨o',e1⟩:=I.base.there b o e hx;exact there b o' (neC b o e hx) e1
 ·obtain⟨m1,e1⟩:=I.base.tbls b ps e;obtain⟨m2,e2⟩:=tbls b _ e1;exact⟨m1++m2,by rw[e2,Array.append_assoc]⟩
 ·obtain⟨m,hn,hl⟩:=I.loc;refine⟨m,ns m hn,fun i x v e1 e2 e3=>?_⟩;obtain⟨u,r,l⟩:=hl i x v e1 e2 e3;refine⟨u,r,?_⟩;rcases l with l | ⟨k,c,e,z⟩
  ·exact .inl l
  ·exact .inr ⟨k,c,e,cellK x c e _ z⟩
 ·obtain⟨v,z⟩:=I.cell x c e;exact⟨v,cellK x c e v z⟩
 ·obtain⟨m,⟨o,_,_,ho,_⟩,_⟩:=I.loc;exact free _ o (fun z=>(hch _ z).2.1 rfl) ho I.free
 ·obtain⟨v,o,ho,hd⟩:=I.cell x c e;exact free c o (fun z=>(hch c z).2.2.1 x c e rfl) ho (I.freeC x c e)
 ·obtain⟨e,n,ne,nf,d⟩:=I.pin p hp;have nch:p.1∉ch:=fun z=>(hch p.1 z).2.2.2 p hp rfl;exact⟨keep p.1 p.2 ne nf nch e n,free p.1 p.2 nch e n,ne,nf,d⟩
theorem Inv.un{t':Nat}(I:Inv X pins σ H s)(u:Un X.fs [] H H' s.heap h')(hok:HOk X.prog X.w H' h'):Inv X pins σ H' { s with heap:=h',toks:=t' }:=by
 obtain⟨m,⟨o,es,ep,ho,r⟩,_⟩:=id I.loc;obtain⟨sl,hL⟩:=u.any ho I.free (by simp);exact I.step (g':=s.gens) (d':=s.drawn) (ch:=[]) (fun _ z=>nomatch z) (fun b o _ hb _ e n=>u.keep b o e n hb (by simp)) (fun b o _ hb _ e n=>u.slot b o e n hb (by simp)) (fun b o _ e n=>u.free b o e n (by simp)) (fun b o _ e=>u.there b o e (by simp)) u.tups u.frzs u.tbls (fun m' hm=>by
  obtain⟨o',es',ep',ho',r'⟩:=hm;rw[ho]at ho';cases ho';exact⟨_,es',ep',hL,r'⟩) hok I.bare
theorem Inv.call{g':Array GenState}{t':Nat}{d':Drawn}{ch:List Addr}(I:Inv X pins σ H s)(u:Un (frs X.stack) ch H H' s.heap h')(hok:HOk X.prog X.w H' h')(hg:AllBare g')
  (hch:∀b∈ch,(b∈X.ex\/X.s₀.heap.objs.size<=b)/\b≠X.env.locals/\(∀x c,X.env.cells.lookup x=some c->c≠b)/\∀p∈X.pn++pins,p.1≠b) :
  Inv X pins σ H' { s with heap:=h',gens:=g',drawn:=d',toks:=t' }:=by
 obtain⟨m,⟨o,es,ep,ho,r⟩,_⟩:=id I.loc;obtain⟨sl,hL⟩:=u.any ho I.free fun z=>(hch _ z).2.1 rfl;exact I.step (ch:=ch) hch (fun b o hL hb hc e n=>u.keep b o e n (fun z=>(List.mem_cons.mp (I.stkSub b z)).elim hL hb) hc) (fun b o _ _ hc e n=>u.any e n hc) (fun b o hc e n=>u.free b o e n hc) (fun b o hc e=>u.there b o e hc) u.tups u.frzs u.tbls (fun m' hm=>by
  obtain⟨o',es',ep',ho',r'⟩:=hm;rw[ho]at ho';cases ho';exact⟨_,es',ep',hL,r'⟩) hok hg
theorem Inv.turned{t':Nat}{it:Addr}(I:Inv X pins σ H s)(k:∀b o,b≠it->s.heap.get? b=some o->h'.get? b=some o)(hn:H it=none)(hL:it≠X.env.locals)
  (h1:it∈X.ex\/X.s₀.heap.objs.size<=it) (h2:∀x c,X.env.cells.lookup x=some c->c≠it) (h3:∀p∈X.pn++pins,p.1≠it):Inv X pins σ H { s with heap:=h',toks:=t' }:=by
 have nit:∀b u,H b=some u->b≠it:=fun b u e z=>by rw[z,hn]at e;cases e
 refine I.step (g':=s.gens) (d':=s.drawn) (ch:=[it]) (fun b hb=>?_) (fun b o _ _ hc e _=>k b o (fun z=>hc (by simp[z])) e) (fun b o _ _ hc e _=>⟨o.slots,k b o (fun z=>hc (by simp[z])) e⟩) (fun _ _ _ _ n=>n)
  (fun b o hc e=>⟨o,k b o (fun z=>hc (by simp[z])) e⟩) (fun _ _ e=>e) (fun _ _ _ e=>e) (fun b ps e=>⟨#[],by rw[e];simp⟩) (fun m hm=>?_) (fun b u e=>?_) I.bare
 ·have e:b=it:=by simpa using hb
  subst e;exact⟨h1,hL,h2,h3⟩
 ·obtain⟨o,es,ep,ho,r⟩:=hm;exact⟨o,es,ep,k _ o (Ne.symm hL) ho,r⟩
 ·refine(I.hok b u e).stay (fun c v hc q=>k c v ?_ q) (fun _ q=>q) fun _ _ q=>q;rcases hc with z | z
  ·rw[z];exact nit b u e
  ·exact nit c _ z
theorem Inv.tok(I:Inv X pins σ H s)(t:Nat):Inv X pins σ H { s with toks:=t }:=I.un (h':=s.heap) (t':=t) Un.refl I.hok
theorem Inv.kept{t':Nat}(I:Inv X pins σ H s)(k:∀b u,s.heap.get? b=some u->h'.get? b=some u):Inv X pins σ H { s with heap:=h',toks:=t' }:=I.un (Un.kept k) (I.hok.kept k)
theorem Inv.laid{a:Addr}{o:HO}{t':Nat}(I:Inv X pins σ H s)(k:∀b u,s.heap.get? b=some u->h'.get? b=some u)(hp:s.heap.objs.size<=a)(new:ObjOk X.prog X.w (upd H a o) h' a o):
  Inv X pins σ (upd H a o) { s with heap:=h',toks:=t' }:=I.un (Un.laid k hp (I.hok.fresh hp)) (I.hok.laid k hp new)
theorem Inv.write{x e:Addr}{o:HO}{t':Nat}(I:Inv X pins σ H s)(mu:Mut (H x))(he:e=x\/H e=some (.own x))(k:∀b u,b≠e->s.heap.get? b=some u->h'.get? b=some u)(heo:∃u,h'.get? e=some u)
  (new:ObjOk X.prog X.w (upd H x o) h' x o):Inv X pins σ (upd H x o) { s with heap:=h',toks:=t' }:=I.un (Un.write mu he k heo) (I.hok.write mu he k heo new)
theorem Inv.weak{σ':List (Option V)}(I:Inv X pins σ H s)(hl:σ'.length=σ.length)(w:∀(i:Nat) v,σ'[i]?=some (some v)->σ[i]?=some (some v)):Inv X pins σ' H s:=
 ⟨I.ok,I.os,I.bare,I.base,let⟨m,hn,hl'⟩:=I.loc;⟨m,hn,fun i x v e1 e2 e3=>hl' i x v e1 (w i v e2) e3⟩,I.cell,I.free,I.freeC,I.pin,I.hok,hl.trans I.len⟩
theorem Inv.pins_of{pins':List (Addr×Obj)}(I:Inv X pins σ H s)(h:∀p∈pins',s.heap.get? p.1=some p.2/\H p.1=none/\p.1≠X.env.locals/\p.1∉X.fs/\∀v,p.2.data≠.cell v):Inv X pins' σ H s:=
 ⟨I.ok,I.os,I.bare,I.base,I.loc,I.cell,I.free,I.freeC,fun p hp=>(List.mem_append.mp hp).elim (fun z=>I.pin p (List.mem_append_left _ z)) (h p),I.hok,I.len⟩
theorem z32{N:List Str}(hN:N.Nodup){i j:Nat}{x:Str}(a:N[i]?=some x)(b:N[j]?=some x):i=j:=by
 obtain⟨h1,e1⟩:=List.getElem?_eq_some_iff.mp a;obtain⟨h2,e2⟩:=List.getElem?_eq_some_iff.mp b;exact(List.getElem_inj hN).mp (e1.trans e2.symm)
theorem z1u{M:Model}{A:Around}{E:Value->Shared->Prop}{i:Nat}{x:Str}{v:V}{u:Value}{Q:Unit->Shared->Prop}(I:Inv X pins σ H s)(hN:X.N.Nodup)(hi:X.N[i]?=some x)(hx:Loc X.env.scope x)(r:RelV v u)
  (h:∀s',Inv X pins (σ.set i (some v)) H s'->(∃a,Heap.SameBut a s.heap s'.heap/\(a=X.env.locals\/X.env.cells.lookup x=some a))->Q () s') (hf:X.fn x=true\/X.env.scope.names.lookup x=some .local:=by first | exact .inl rfl | exact .inr rfl | assumption):wpAny M A (storeName X.env x u) Q E s:=by
 obtain⟨m,hn,hl⟩:=id I.loc;have hcls:(X.env.scope.kind == .class || (X.env.scope.kind == .module && X.env.locals != X.env.globals))=false:=by rw[I.ok.kind];rfl
 have hiσ:i<σ.length:=by rw[I.len];exact(List.getElem?_eq_some_iff.mp hi).1
 have cne:=I.cne;have tracked:∀{a:Addr} {h':Heap},(∃o,s.heap.get? a=some o/\H a=none)->Heap.SameBut a s.heap h'->HOk X.prog X.w H h':=fun{a h'} ha hs b ob e=>by
  obtain⟨_,_,hfree⟩:=ha;refine(I.hok b ob e).stay (fun c w' hc q=>(hs.2 c ?_).trans q) (fun _ q=>q) fun _ _ q=>q;rintro rfl;rcases hc with rfl | hc
  ·rw[hfree]at e;cases e
  ·rw[hfree]at hc;cases hc
 rcases hx with hk | hk
 ·refine wpAny_storeName_local hk hn (fun h' hn' hs=>?_) hcls;obtain⟨oL,_,_,hoL,_⟩:=id hn;refine h _ ⟨I.ok,I.os,I.bare,⟨fun b o e n hb hx=>?_,fun b o e n hb hx=>?_,I.base.free,fun b o e hx=>?_,I.base.tups,I.base.frzs,I.base.tbls⟩,⟨_,hn',fun j y v' e1 e2 e3=>?_⟩,fun y c e=>?_,I.free,I.freeC,fun p hp=>?_,tracked ⟨oL,hoL,I.free⟩ hs,by simpa using I.len⟩ ⟨_,hs,.inl rfl⟩
  ·exact(hs.2 b (Nat.ne_of_lt (Nat.lt_of_lt_of_le (Heap.lt_size e) I.ok.above))).trans (I.base.keep b o e n hb hx)
  ·obtain⟨sl,e1⟩:=I.base.slot b o e n hb hx;exact⟨sl,(hs.2 b (Nat.ne_of_lt (Nat.lt_of_lt_of_le (Heap.lt_size e) I.ok.above))).trans e1⟩
  ·obtain⟨o',e1⟩:=I.base.there b o e hx;exact⟨o',(hs.2 b (Nat.ne_of_lt (Nat.lt_of_lt_of_le (Heap.lt_size e) I.ok.above))).trans e1⟩
  ·by_cases hj:j=i
   ·subst hj;rw[hi]at e1;cases e1;rw[List.getElem?_set_self hiσ]at e2;cases e2;exact⟨u,r,.inl ⟨hk,by simp⟩⟩
   ·rw[List.getElem?_set_ne (Ne.symm hj)]at e2;obtain⟨u',r',q⟩:=hl j y v' e1 e2 e3;refine⟨u',r',?_⟩;rcases q with ⟨k,e⟩ | ⟨k,c,e,z⟩
    ·refine .inl ⟨k,?_⟩
     have:y≠x:=fun e=>hj (z32 hN e1 (e▸hi));simp[this,e]
    ·exact .inr ⟨k,c,e,z.sameBut hs (cne y c e)⟩
  ·obtain⟨w',z⟩:=I.cell y c e;exact⟨w',z.sameBut hs (cne y c e)⟩
  ·obtain⟨e,n,ne,nf,d⟩:=I.pin p hp;exact⟨(hs.2 p.1 ne).trans e,n,ne,nf,d⟩
 ·have hfn:X.fn x=true:=by
   rcases hf with z | z
   ·exact z
   ·rw[z]at hk;cases hk
  obtain⟨c,hc⟩:=I.ok.has x (.inl hk);obtain⟨w',z⟩:=I.cell x c hc;refine wpAny_storeName_cell I.ok.kind hk hc z (fun h' hc' hs=>?_);obtain⟨oc,hoc,hocd⟩:=id z;refine h { s with heap:=h' } ⟨I.ok,I.os,I.bare,⟨fun b o e n hb hx=>?_,fun b o e n hb hx=>?_,I.base.free,fun b o e hx=>?_,I.base.tups,I.base.frzs,I.base.tbls⟩,⟨m,hn.sameBut hs (Ne.symm (cne x c hc)),fun j y v' e1 e2 e3=>?_⟩,fun y c' e=>?_,I.free,I.freeC,fun p hp=>?_,tracked ⟨oc,hoc,I.freeC x c hc⟩ hs,by simpa using I.len⟩ ⟨c,hs,.inr hc⟩
  ·exact(hs.2 b (Nat.ne_of_lt (Nat.lt_of_lt_of_le (Heap.lt_size e) (I.ok.cab x c hfn hc)))).trans (I.base.keep b o e n hb hx)
  ·obtain⟨sl,e1⟩:=I.base.slot b o e n hb hx;exact⟨sl,(hs.2 b (Nat.ne_of_lt (Nat.lt_of_lt_of_le (Heap.lt_size e) (I.ok.cab x c hfn hc)))).trans e1⟩
  ·obtain⟨o',e1⟩:=I.base.there b o e hx;exact⟨o',(hs.2 b (Nat.ne_of_lt (Nat.lt_of_lt_of_le (Heap.lt_size e) (I.ok.cab x c hfn hc)))).trans e1⟩
  ·by_cases hj:j=i
   ·subst hj;rw[hi]at e1;cases e1;rw[List.getElem?_set_self hiσ]at e2;cases e2;exact⟨u,r,.inr ⟨.inl hk,c,hc,hc'⟩⟩
   ·rw[List.getElem?_set_ne (Ne.symm hj)]at e2;obtain⟨u',r',q⟩:=hl j y v' e1 e2 e3;refine⟨u',r',?_⟩;rcases q with q | ⟨k,c',e,z'⟩
    ·exact .inl q
    ·refine .inr ⟨k,c',e,z'.sameBut hs ?_⟩;rintro rfl;exact hj (z32 hN e1 (I.ok.inj _ _ _ e hc▸hi))
  ·by_cases hcc:c'=c
   ·subst hcc;exact⟨_,hc'⟩
   ·obtain⟨w2,z2⟩:=I.cell y c' e;exact⟨w2,z2.sameBut hs hcc⟩
  ·obtain⟨e,n,ne,nf,d⟩:=I.pin p hp;refine⟨(hs.2 p.1 ?_).trans e,n,ne,nf,d⟩;intro q;rw[q,hoc]at e;have q':oc=p.2:=Option.some.inj e;exact d w' (by rw[<-q'];exact hocd)
theorem u3{M:Model}{A:Around}{E:Value->Shared->Prop}{i:Nat}{x:Str}{v:V}{u:Value}{Q:Unit->Shared->Prop}(I:Inv X pins σ H s)(hN:X.N.Nodup)(hi:X.N[i]?=some x)(hx:Loc X.env.scope x)(r:RelV v u)
  (h:∀s',Inv X pins (σ.set i (some v)) H s'->Q () s') (hf:X.fn x=true\/X.env.scope.names.lookup x=some .local:=by first | exact .inl rfl | exact .inr rfl | assumption):wpAny M A (storeName X.env x u) Q E s:=
 z1u I hN hi hx r (fun s' I' _=>h s' I') hf
theorem Inv.call'{s':Shared}{ch:List Addr}(I:Inv X pins σ H s)(ho:s'.os=s.os)(u:Un (frs X.stack) ch H H' s.heap s'.heap)(hok:HOk X.prog X.w H' s'.heap)(hg:AllBare s'.gens)
  (hch:∀b∈ch,(b∈X.ex\/X.s₀.heap.objs.size<=b)/\b≠X.env.locals/\(∀x c,X.env.cells.lookup x=some c->c≠b)/\∀p∈X.pn++pins,p.1≠b):Inv X pins σ H' s':=by
 obtain⟨h',g',d',t',o'⟩:=s';have e:o'=s.os:=ho;subst e;exact I.call (g':=g') (t':=t') (d':=d') u hok hg hch
end
noncomputable abbrev XK:=Value->Option Addr->Hp->Prop
noncomputable abbrev St:=List (Option V)
noncomputable abbrev VK:=V->Hp->Prop
noncomputable abbrev TE:=St->Hp->VK->Prop
noncomputable abbrev TT:=St->Hp->(Bool->Hp->Prop)->Prop
noncomputable abbrev TA:=St->Hp->(List V->Hp->Prop)->Prop
structure Ends where
 nx:St->Hp->Prop
 rt:VK
 bk:St->Hp->Prop:=fun _ _=>False
 ct:St->Hp->Prop:=fun _ _=>False
noncomputable abbrev TS:=Ends->St->Hp->Prop
def EP(X:Cx)(pins:List (Addr×Obj))(σ:St)(Q:VK)(u:Value)(s':Shared):Prop:=∃v H',Inv X pins σ H' s'/\RelV v u/\Q v H'
def TP(X:Cx)(pins:List (Addr×Obj))(σ:St)(Q:Bool->Hp->Prop)(b:Bool)(s':Shared):Prop:=∃H',Inv X pins σ H' s'/\Q b H'
def AP(X:Cx)(pins:List (Addr×Obj))(σ:St)(Q:List V->Hp->Prop)(us:List Value)(s':Shared):Prop:=∃vs H',Inv X pins σ H' s'/\Vals vs us/\Q vs H'
def SP(X:Cx)(pins:List (Addr×Obj))(D:Ends)(f:Flow)(s':Shared):Prop:=
 match f with
 | .next=>∃σ' H',Inv X pins σ' H' s'/\D.nx σ' H'
 | .brk=>∃σ' H',Inv X pins σ' H' s'/\D.bk σ' H'
 | .cont=>∃σ' H',Inv X pins σ' H' s'/\D.ct σ' H'
 | .ret u=>∃v σ' H',Inv X pins σ' H' s'/\RelV v u/\D.rt v H'
def PE(X:Cx)(e:Expr)(t:TE):Prop:=
 ∀(pins:List (Addr×Obj)) (s:Shared) (σ:St) (H:Hp) (Q:VK),Inv X pins σ H s->t σ H Q->wpAny (model X.prog X.w) X.A (eval e X.env) (EP X pins σ Q) X.xe s
def PT(X:Cx)(e:Expr)(t:TT):Prop:=
 ∀(pins:List (Addr×Obj)) (s:Shared) (σ:St) (H:Hp) (Q:Bool->Hp->Prop),Inv X pins σ H s->t σ H Q->wpAny (model X.prog X.w) X.A (isTrue e X.env (eval e X.env)) (TP X pins σ Q) X.xe s
def PW(X:Cx)(e:Expr)(t:TT):Prop:=
 ∀(whole:Sem Value) (pins:List (Addr×Obj)) (s:Shared) (σ:St) (H:Hp) (Q:Bool->Hp->Prop),Inv X pins σ H s->t σ H Q->wpAny (model X.prog X.w) X.A (isTrue e X.env whole) (TP X pins σ Q) X.xe s
theorem PW.pt{X:Cx}{e:Expr}{t:TT}(h:PW X e t):PT X e t:=h _
def PA(X:Cx)(es:List Expr)(t:TA):Prop:=
 ∀(pos:Pos) (pins:List (Addr×Obj)) (s:Shared) (σ:St) (H:Hp) (Q:List V->Hp->Prop),Inv X pins σ H s->t σ H Q->wpAny (model X.prog X.w) X.A (spliced (backTo pos (starEach es X.env))) (AP X pins σ Q) X.xe s
def PS(X:Cx)(st:Stmt)(t:TS):Prop:=
 ∀(pins:List (Addr×Obj)) (s:Shared) (σ:St) (H:Hp) (D:Ends),Inv X pins σ H s->t D σ H->wpAny (model X.prog X.w) X.A (exec st X.env) (SP X pins D) X.xe s
def PSs(X:Cx)(st:List Stmt)(t:TS):Prop:=
 ∀(pins:List (Addr×Obj)) (s:Shared) (σ:St) (H:Hp) (D:Ends),Inv X pins σ H s->t D σ H->wpAny (model X.prog X.w) X.A (execs st X.env) (SP X pins D) X.xe s
theorem thn{α:Type}{t:Sem α}{Q Q':α->Shared->Prop}{M:Model}{A:Around}{E:Value->Shared->Prop}{s:Shared}(h:wpAny M A t Q E s)(hQ:∀a s,Q a s->Q' a s):wpAny M A t Q' E s:=wpAny_mono h hQ fun _ _ x=>x
section
variable{X:Cx}
noncomputable def tVar(i:Nat):TE:=fun σ H Q=>∃v,σ[i]?=some (some v)/\Q v H
noncomputable def tC(v:V):TE:=fun _ H Q=>Q v H
theorem zA1{i:Nat}{x:Str}{pos:Pos}(hN:X.N[i]?=some x)(hv:Vis X.env.scope x)(hd:(x == ("__debug__":Str))=false:=by decide)(hcd:(x == ("__classdict__":Str))=false:=by decide):PE X (.Name x pos) (tVar i):=by
 intro pins s σ H Q I h;obtain⟨v,e,h⟩:=h;obtain⟨m,hn,hl⟩:=I.loc;obtain⟨u,r,l⟩:=hl i x v hN e hv;have fin:EP X pins σ Q u s:=⟨v,H,I,r,h⟩;rcases l with ⟨hk,hm⟩ | ⟨hk,c,hc,hcell⟩
 ·exact wpAny_Name (wpAny_loadName_local I.ok.kind hk hn hm fin) hd
 ·rcases hk with hk | hk
  ·exact wpAny_Name (wpAny_loadName_cell I.ok.kind hk hc hcell fin) hd
  ·exact wpAny_Name (wpAny_loadName_free I.ok.kind hk hc hcell fin hcd) hd
theorem xh{i j pos}:PE X (.Constant (.int i) j pos) (tC (.int i)):=fun _ _ _ H _ I h=>wpAny_Constant_int ⟨.int i,H,I.tok _,⟨_,rfl⟩,h⟩
theorem zBb{b j pos}:PE X (.Constant (.bool b) j pos) (tC (.bl b)):=fun _ _ _ H _ I h=>Constant_bool ⟨.bl b,H,I,rfl,h⟩
theorem z9z{j pos}:PE X (.Constant .none j pos) (tC .non):=fun _ _ _ H _ I h=>Constant_none ⟨.non,H,I,rfl,h⟩
def Gl(X:Cx)(x:Str):Prop:=X.env.kindOf x=some .globalImplicit
theorem z4A{E:Value->Shared->Prop}{pins:List (Addr×Obj)}{s:Shared}{σ:St}{H:Hp}{x:Str}{u:Value}{pos:Pos}{Q:Value->Shared->Prop}(I:Inv X pins σ H s)(hg:Gl X x)(hm:X.mg x=some u)(h:Q u s)
  (hd:(x == ("__debug__":Str))=false:=by decide):wpAny (model X.prog X.w) X.A (eval (.Name x pos) X.env) Q E s:=
 Calls.Name_function_global I.ok.kind hg (Calls.loadGlobal_global (by rw[I.ok.glob];exact I.mod.glob.keeps I.bk) hm h) hd
theorem wb{E:Value->Shared->Prop}{pins:List (Addr×Obj)}{s:Shared}{σ:St}{H:Hp}{x:Str}{u:Value}{pos:Pos}{Q:Value->Shared->Prop}(I:Inv X pins σ H s)(hg:Gl X x)(hm:X.mg x=none)(hv:bootBuiltins x=some u)(h:Q u s)
  (hn:x≠"__name__":=by decide) (hd:(x == ("__debug__":Str))=false:=by decide):wpAny (model X.prog X.w) X.A (eval (.Name x pos) X.env) Q E s:=by
 obtain⟨mb,h1,h2⟩:=I.mod.blt;exact Calls.Name_function_global I.ok.kind hg (Calls.loadGlobal_builtin (by rw[I.ok.glob];exact I.mod.glob.keeps I.bk) hm (by rw[I.ok.blt];exact h1.keeps I.bk) ((h2 x hn).trans hv) h) hd
theorem z0i{x:Str}{v:V}{u:Value}{pos:Pos}(hg:Gl X x)(hm:X.mg x=some u)(r:RelV v u)(hd:(x == ("__debug__":Str))=false:=by decide):PE X (.Name x pos) (tC v):=
 fun _ _ _ H _ I h=>z4A I hg hm ⟨v,H,I,r,h⟩ hd
theorem ub{x:Str}{v:V}{u:Value}{pos:Pos}(hg:Gl X x)(hm:X.mg x=none)(hv:bootBuiltins x=some u)(r:RelV v u)(hn:x≠"__name__":=by decide)(hd:(x == ("__debug__":Str))=false:=by decide):PE X (.Name x pos) (tC v):=
 fun _ _ _ H _ I h=>wb I hg hm hv ⟨v,H,I,r,h⟩ hn hd
variable{a b:Expr}{ta tb:TE}{pos:Pos}
variable{tA tB':TT}{rest:List Expr}
noncomputable def tAnd(t u:TT):TT:=fun σ H Q=>t σ H fun c H1=>if c=true then u σ H1 Q else Q false H1
noncomputable def tOr(t u:TT):TT:=fun σ H Q=>t σ H fun c H1=>if c=true then Q true H1 else u σ H1 Q
noncomputable def tNot(t:TT):TT:=fun σ H Q=>t σ H fun c H1=>Q (!c) H1
theorem z91(ha:PT X a tA):PW X (.BoolOp .And [a] pos) tA:=by
 intro wh pins s σ H Q I h;refine isTrue_and (thn (ha pins s σ H Q I h) fun c s1 e=>?_);cases c with
 | true=>exact isTrue_and_nil e
 | false=>exact e
theorem zAJ(ha:PT X a tA):PW X (.BoolOp .Or [a] pos) tA:=by
 intro wh pins s σ H Q I h;refine isTrue_or (thn (ha pins s σ H Q I h) fun c s1 e=>?_);cases c with
 | false=>exact isTrue_or_nil e
 | true=>exact e
theorem zAM(ha:PT X a tA)(hb:PW X (.BoolOp .And (b::rest) pos) tB'):PW X (.BoolOp .And (a::b::rest) pos) (tAnd tA tB'):=by
 intro wh pins s σ H Q I h;refine isTrue_and (thn (ha pins s σ H _ I h) fun c s1 ⟨H1,I1,q1⟩=>?_);cases c with
 | true=>exact hb wh pins s1 σ H1 Q I1 q1
 | false=>exact⟨H1,I1,q1⟩
theorem zBe(ha:PT X a tA)(hb:PW X (.BoolOp .Or (b::rest) pos) tB'):PW X (.BoolOp .Or (a::b::rest) pos) (tOr tA tB'):=by
 intro wh pins s σ H Q I h;refine isTrue_or (thn (ha pins s σ H _ I h) fun c s1 ⟨H1,I1,q1⟩=>?_);cases c with
 | true=>exact⟨H1,I1,q1⟩
 | false=>exact hb wh pins s1 σ H1 Q I1 q1
theorem z9i(ha:PT X a tA):PT X (.UnaryOp .Not a pos) (tNot tA):=by
 intro pins s σ H Q I h;exact isTrue_not (ha pins s σ H (fun c H1=>Q (!c) H1) I h)
noncomputable def zCH(ta tb:TE):TE:=fun σ H Q=>ta σ H fun x H1=>∃c,x=.bl c/\if c=true then tb σ H1 Q else Q (.bl false) H1
theorem zAK{op}{t:TE}(h:PE X a t):PE X (.BoolOp op [a] pos) t:=fun pins s σ H Q I hw=>BoolOp_one (h pins s σ H Q I hw)
theorem zAU(ha:PE X a ta)(hb:PE X (.BoolOp .And (b::rest) pos) tb):PE X (.BoolOp .And (a::b::rest) pos) (zCH ta tb):=by
 intro pins s σ H Q I h;refine BoolOp_and (thn (ha pins s σ H _ I h) fun v s1 ⟨x,H1,I1,r1,q1⟩=>?_);obtain⟨c,rfl,q1⟩:=q1;cases r1;refine wpAny_truthy_bool ?_;cases c with
 | true=>exact hb pins s1 σ H1 Q I1 q1
 | false=>exact⟨.bl false,H1,I1,rfl,q1⟩
noncomputable def tIf(t:TT)(ta tb:TE):TE:=fun σ H Q=>t σ H fun c H1=>if c=true then ta σ H1 Q else tb σ H1 Q
theorem z36{c:Expr}(hc:PT X c tA)(ha:PE X a ta)(hb:PE X b tb):PE X (.IfExp c a b pos) (tIf tA ta tb):=by
 intro pins s σ H Q I h;refine wpAny_IfExp (thn (hc pins s σ H _ I h) fun d s1 ⟨H1,I1,q1⟩=>?_);cases d with
 | true=>exact ha pins s1 σ H1 Q I1 q1
 | false=>exact hb pins s1 σ H1 Q I1 q1
end
def SqL(K:W.Frag)(H:Hp)(a:Addr)(xs:List V):Prop:=
 Rd H a (.lst xs)\/
  ∃(o:Obj) (its:Array Value) (n:Nat),K.lookup a=some o/\o.cls=.type "list"/\o.dict=none/\o.data=.seq its n/\its.size<=sizeLine/\Vals xs its.toList
def SqT(K:W.Frag)(H:Hp)(a:Addr)(xs:List V):Prop:=
 Rd H a (.tup xs)\/
  ∃(o:Obj) (its:Array Value) (n:Nat),K.lookup a=some o/\o.cls=.type "tuple"/\o.data=.seq its n/\its.size<=sizeLine/\Vals xs its.toList
noncomputable def absV:Value->Option V
 | .none=>some .non
 | .bool b=>some (.bl b)
 | .int i _=>some (.int i)
 | .str x _=>some (.str x)
 | .bytes b _=>some (.byt b)
 | .float b _=>some (.flt b)
 | .ref a=>some (.ref a)
 | .type n=>some (.ty n)
 | _=>none
theorem RelV.abs{x:V}{u:Value}(r:RelV x u):absV u=some x:=by
 cases x with
 | non=>cases r;rfl
 | bl _=>cases r;rfl
 | int _=>obtain⟨t,rfl⟩:=r;rfl
 | str _=>obtain⟨t,rfl⟩:=r;rfl
 | byt _=>obtain⟨t,rfl⟩:=r;rfl
 | flt _=>obtain⟨t,rfl⟩:=r;rfl
 | ref _=>cases r;rfl
 | ty _=>cases r;rfl
theorem RelV.inj{x y:V}{u:Value}(r:RelV x u)(q:RelV y u):x=y:=Option.some.inj (r.abs.symm.trans q.abs)
theorem Vals.inj:∀{xs ys:List V} {us:List Value},Vals xs us->Vals ys us->xs=ys
 | _,_,_,.nil,.nil=>rfl
 | _,_,_,.cons r t,.cons r' t'=>by rw[r.inj r',Vals.inj t t']
section
variable{X:Cx}{pins:List (Addr×Obj)}{σ:St}{H:Hp}{s:Shared}{a:Addr}{xs ys:List V}
theorem SqL.of{K:W.Frag}(h:H a=some (.lst xs)):SqL K H a xs:=.inl (.inl h)
theorem SqT.of{K:W.Frag}(h:H a=some (.tup xs)):SqT K H a xs:=.inl (.inl h)
theorem Inv.list(I:Inv X pins σ H s)(h:SqL X.K H a xs):∃its:List Value,Vals xs its/\PlainL s.heap a its.toArray/\xs.length<=sizeLine:=by
 rcases h with h | ⟨o,its,n,hk,hc,hd,hs,hz,r⟩
 ·obtain⟨z,its,n,r,e⟩:=h.ok I.hok;exact⟨its,r,⟨_,n,e,rfl,rfl,rfl⟩,z⟩
 ·refine⟨its.toList,r,⟨o,n,I.kIn a o hk,hc,hd,by simpa using hs⟩,?_⟩;have e:=r.length;simp only[Array.length_toList]at e;omega
theorem Inv.tuple(I:Inv X pins σ H s)(h:SqT X.K H a xs):∃its:List Value,Vals xs its/\IsTup s.heap a its.toArray/\xs.length<=sizeLine:=by
 rcases h with h | ⟨o,its,n,hk,hc,hs,hz,r⟩
 ·obtain⟨⟨z,_⟩,its,r,p⟩:=h.ok I.hok;exact⟨its,r,p,z⟩
 ·refine⟨its.toList,r,⟨o,I.kIn a o hk,hc,n,by simpa using hs⟩,?_⟩;have e:=r.length;simp only[Array.length_toList]at e;omega
theorem Inv.list_inj(I:Inv X pins σ H s)(h:SqL X.K H a xs)(h':SqL X.K H a ys):xs=ys:=by
 obtain⟨its,r,⟨o,n,e,_,_,d⟩,_⟩:=I.list h;obtain⟨its',r',⟨o',n',e',_,_,d'⟩,_⟩:=I.list h';rw[e]at e';cases e';rw[d]at d';injection d' with d1 _
 have:its=its':=by simpa using congrArg Array.toList d1
 subst this;exact r.inj r'
theorem Inv.tuple_inj(I:Inv X pins σ H s)(h:SqT X.K H a xs)(h':SqT X.K H a ys):xs=ys:=by
 obtain⟨its,r,⟨o,e,_,n,d⟩,_⟩:=I.tuple h;obtain⟨its',r',⟨o',e',_,n',d'⟩,_⟩:=I.tuple h';rw[e]at e';cases e';rw[d]at d';injection d' with d1 _
 have:its=its':=by simpa using congrArg Array.toList d1
 subst this;exact r.inj r'
end
noncomputable abbrev Cx.wish(X:Cx)(E:Value->Shared->Prop):Cx:={ X with xe:=E }
noncomputable abbrev Cx.nox(X:Cx):Cx:=X.wish fun _ _=>False
theorem Cx.Ok.wish{X:Cx}(ok:X.Ok)(E:Value->Shared->Prop):(X.wish E).Ok:=
 ⟨ok.mod,ok.kind,ok.glob,ok.blt,ok.above,ok.inj,ok.has,ok.cab,ok.hd,ok.frames,ok.stk,ok.exf,ok.bs,ok.bsz,ok.noex,ok.exfs,ok.funs,ok.frf⟩
theorem Cx.Ok.unwish{X:Cx}{E:Value->Shared->Prop}(ok:(X.wish E).Ok):X.Ok:=
 ⟨ok.mod,ok.kind,ok.glob,ok.blt,ok.above,ok.inj,ok.has,ok.cab,ok.hd,ok.frames,ok.stk,ok.exf,ok.bs,ok.bsz,ok.noex,ok.exfs,ok.funs,ok.frf⟩
section
variable{X:Cx}{pins:List (Addr×Obj)}{σ:St}{H:Hp}{s:Shared}{E:Value->Shared->Prop}
theorem Inv.wish(I:Inv X pins σ H s)(E:Value->Shared->Prop):Inv (X.wish E) pins σ H s:=⟨I.ok.wish E,I.os,I.bare,I.base,I.loc,I.cell,I.free,I.freeC,I.pin,I.hok,I.len⟩
theorem Inv.unwish(I:Inv (X.wish E) pins σ H s):Inv X pins σ H s:=⟨I.ok.unwish,I.os,I.bare,I.base,I.loc,I.cell,I.free,I.freeC,I.pin,I.hok,I.len⟩
theorem SP.unwish{D:Ends}{f:Flow}{s':Shared}(h:SP (X.wish E) pins D f s'):SP X pins D f s':=by
 cases f with
 | next=>obtain⟨σ',H',I,q⟩:=h;exact⟨σ',H',I.unwish,q⟩
 | brk=>obtain⟨σ',H',I,q⟩:=h;exact⟨σ',H',I.unwish,q⟩
 | cont=>obtain⟨σ',H',I,q⟩:=h;exact⟨σ',H',I.unwish,q⟩
 | ret u=>obtain⟨v,σ',H',I,r,q⟩:=h;exact⟨v,σ',H',I.unwish,r,q⟩
theorem PSs.nox{st:List Stmt}{t:TS}(h:PSs X.nox st t):PSs X st t:=fun pins s σ H D I hw=>
 wpAny_mono (h pins s σ H D (I.wish _) hw) (fun _ _ q=>q.unwish) fun _ _ z=>False.elim z
end
section
variable{X:Cx}{st:Stmt}{rest:List Stmt}{t u:TS}{e:Expr}{te:TE}{pos:Pos}
noncomputable def zBd:TS:=fun D σ H=>D.nx σ H
noncomputable def tSeq(t u:TS):TS:=fun D σ H=>t { D with nx:=u D } σ H
theorem pss_nil:PSs X [] zBd:=fun _ _ σ H _ I h=>wpAny_execs_nil ⟨σ,H,I,h⟩
theorem xC(h1:PS X st t)(h2:PSs X rest u):PSs X (st::rest) (tSeq t u):=by
 intro pins s σ H D I h;refine wpAny_execs_cons (thn (h1 pins s σ H { D with nx:=u D } I h) fun f s1 q=>?_);cases f with
 | next=>
  obtain⟨σ',H',I',q⟩:=q;exact h2 pins s1 σ' H' D I' q
 | ret v=>exact q
 | brk=>exact q
 | cont=>exact q
theorem wT(h1:PS X st t):PSs X [st] t:=by
 intro pins s σ H D I h;refine wpAny_execs_cons (thn (h1 pins s σ H D I h) fun f s1 q=>?_);cases f with
 | next=>exact wpAny_execs_nil q
 | ret v=>exact q
 | brk=>exact q
 | cont=>exact q
theorem Inv.quiet{pins:List (Addr×Obj)}{σ:St}{H:Hp}{s:Shared}(I:Inv X pins σ H s):interactive X.env=false:=by simp[interactive,I.ok.kind]
noncomputable def zBi(te:TE):TS:=fun D σ H=>te σ H fun _ H1=>D.nx σ H1
theorem xK(he:PE X e te)(hs:swapsWith e none pos.line X.env=pure false:=by rfl):PS X (.Expr e pos) (zBi te):=by
 intro pins s σ H D I h;exact wpAny_Expr_any (thn (he pins s σ H _ I h) fun v s1 ⟨x,H1,I1,r1,q1⟩=>⟨σ,H1,I1,q1⟩) I.quiet hs
noncomputable def tRet(te:TE):TS:=fun D σ H=>te σ H D.rt
theorem z1C(he:PE X e te):PS X (.Return (some e) pos) (tRet te):=by
 intro pins s σ H D I h;exact wpAny_Return_some (thn (he pins s σ H _ I h) fun v s1 ⟨x,H1,I1,r1,q1⟩=>⟨x,σ,H1,I1,r1,q1⟩)
noncomputable def tIfS(c:TT)(t u:TS):TS:=fun D σ H=>c σ H fun b H1=>if b=true then t D σ H1 else u D σ H1
theorem z9Y{c:Expr}{a b:List Stmt}{tc:TT}(hc:PT X c tc)(ha:PSs X a t)(hb:PSs X b u):PS X (.If c a b pos) (tIfS tc t u):=by
 intro pins s σ H D I h;refine wpAny_If (thn (hc pins s σ H _ I h) fun d s1 ⟨H1,I1,q1⟩=>?_);cases d with
 | true=>exact ha pins s1 σ H1 D I1 q1
 | false=>exact hb pins s1 σ H1 D I1 q1
noncomputable def zAS:TS:=fun _ _ _=>False
theorem ps_never:PS X st zAS:=fun _ _ _ _ _ _ h=>h.elim
end
noncomputable abbrev TG:=V->St->Hp->(St->Hp->Prop)->Prop
noncomputable abbrev TGs:=List V->St->Hp->(St->Hp->Prop)->Prop
def PG(X:Cx)(target:Expr)(t:TG):Prop:=
 ∀(pins:List (Addr×Obj)) (s:Shared) (σ:St) (H:Hp) (v:V) (u:Value) (Q:St->Hp->Prop),Inv X pins σ H s->RelV v u->t v σ H Q->
  wpAny (model X.prog X.w) X.A (assign target X.env u) (fun _ s'=>∃σ' H',Inv X pins σ' H' s'/\Q σ' H') X.xe s
noncomputable abbrev TSet:=V->V->V->Hp->(Hp->Prop)->Prop
def PSet(X:Cx)(t:TSet):Prop:=
 ∀(pins:List (Addr×Obj)) (s:Shared) (σ:St) (H:Hp) (o i v:V) (ov iv u:Value) (Q:Hp->Prop),Inv X pins σ H s->RelV o ov->RelV i iv->RelV v u->t o i v H Q->
  wpAny (model X.prog X.w) X.A (setItem ov iv u) (fun _ s'=>∃H',Inv X pins σ H' s'/\Q H') X.xe s
section
variable{X:Cx}{pos:Pos}
noncomputable def z12(i:Nat):TG:=fun v σ H Q=>Q (σ.set i (some v)) H
theorem yB{i:Nat}{x:Str}(hN:X.N.Nodup)(hi:X.N[i]?=some x)(hx:Loc X.env.scope x)(hf:X.fn x=true\/X.env.scope.names.lookup x=some .local:=by first | exact .inl rfl | exact .inr rfl | assumption):PG X (.Name x pos) (z12 i):=by
 intro pins s σ H v u Q I r h;exact wpAny_assign_Name (u3 I hN hi hx r (fun s' I'=>⟨_,H,I',h⟩) hf)
noncomputable def gNil:TGs:=fun vs σ H Q=>vs=[]/\Q σ H
noncomputable def zA8(t:TG)(u:TGs):TGs:=fun vs σ H Q=>∃v r,vs=v::r/\t v σ H fun σ' H'=>u r σ' H' Q
noncomputable def gTup(K:W.Frag)(n:Nat)(t:TGs):TG:=fun v σ H Q=>∃a xs,v=.ref a/\SqT K H a xs/\xs.length=n/\t xs σ H Q
noncomputable def gSub(to ti:TE)(t:TSet):TG:=fun v σ H Q=>to σ H fun o H1=>ti σ H1 fun i H2=>t o i v H2 fun H3=>Q σ H3
theorem z9y{o i:Expr}{to ti:TE}{t:TSet}(ho:PE X o to)(hi:PE X i ti)(hs:PSet X t)
  (ha:∀v,assign (.Subscript o i pos) X.env v=(do
   let ov<-holding [v] (eval o X.env)
   let iv<-holding [v,ov] (eval i X.env)
   standAt pos
   holding [v,ov,iv] (setItem ov iv v)
   release [v,ov,iv] []):=by intro _;rfl):PG X (.Subscript o i pos) (gSub to ti t):=by
 intro pins s σ H v u Q I r h;rw[ha];refine wpAny_bind (wpAny_holding (thn (ho pins s σ H _ I h) fun ov s1 ⟨x,H1,I1,r1,q1⟩=>?_));refine wpAny_bind (wpAny_holding (thn (hi pins s1 σ H1 _ I1 q1) fun iv s2 ⟨y,H2,I2,r2,q2⟩=>?_));refine wpAny_bind (wpAny_standAt (wpAny_bind (wpAny_holding (thn (hs pins s2 σ H2 x y v ov iv u _ I2 r1 r2 r q2) fun _ s3 ⟨H3,I3,q3⟩=>?_))));exact wpAny_release ⟨σ,H3,I3,q3⟩
noncomputable def tAsg(te:TE)(g:TG):TS:=fun D σ H=>te σ H fun x H1=>g x σ H1 D.nx
theorem zBY{tg e:Expr}{te:TE}{g:TG}(he:PE X e te)(hg:PG X tg g)(hs:swapsWithSole [tg] e pos.line X.env=pure false:=by rfl)(hw:swappedStores [tg] e X.env=pure none:=by rfl)
  (h1:(assignEach [tg] X.env).map (·.2)=[assign tg X.env]:=by rfl):PS X (.Assign [tg] e pos) (tAsg te g):=by
 intro pins s σ H D I h;refine wpAny_Assign_stores (thn (he pins s σ H _ I h) fun v s1 ⟨x,H1,I1,r1,q1⟩=>?_) hs hw;rw[h1];exact thn (hg pins s1 σ H1 x v _ I1 r1 q1) fun _ s2 q=>q
theorem z06{i:Nat}{x:Str}{e:Expr}{te:TE}{pos':Pos}(hN:X.N.Nodup)(hi:X.N[i]?=some x)(hx:Loc X.env.scope x)(he:PE X e te)(hs:swapsWith e (some (.Name x pos')) pos.line X.env=pure false:=by rfl)(hf:X.fn x=true\/X.env.scope.names.lookup x=some .local:=by first | exact .inl rfl | exact .inr rfl | assumption):
  PS X (.Assign [.Name x pos'] e pos) (tAsg te (z12 i)):=by
 intro pins s σ H D I h;refine wpAny_Assign_Name (thn (he pins s σ H _ I h) fun v s1 ⟨y,H1,I1,r1,q1⟩=>?_) hs;exact u3 I1 hN hi hx r1 (fun s2 I2=>⟨_,H1,I2,q1⟩) hf
noncomputable def tPar(i j:Nat)(ta:TA):TS:=fun D σ H=>ta σ H fun vs H1=>∃v w,vs=[v,w]/\D.nx ((σ.set i (some v)).set j (some w)) H1
theorem zAg{i j:Nat}{x y:Str}{a b:Expr}{ta:TA}{px py pt:Pos}{kt k2 pt2}(hc:X.calm=true)(hN:X.N.Nodup)(hi:X.N[i]?=some x)(hj:X.N[j]?=some y)(hij:i≠j)
  (hx:X.env.scope.names.lookup x=some .local) (hy:X.env.scope.names.lookup y=some .local) (ha:PA X [a,b] ta)
  (hw:swappedStores [.Tuple [.Name x px,.Name y py] kt pt] (.Tuple [a,b] k2 pt2) X.env=pure (some [x,y]))
  (hs:swapsWithSole [.Tuple [.Name x px,.Name y py] kt pt] (.Tuple [a,b] k2 pt2) pos.line X.env=pure false:=by rfl) :
  PS X (.Assign [.Tuple [.Name x px,.Name y py] kt pt] (.Tuple [a,b] k2 pt2) pos) (tPar i j ta):=by
 intro pins s σ H D I h;rw[exec_Assign_arm];refine wpAny_bind (wpAny_standAt ?_);rw[hs];refine wpAny_bind (wpAny_pure ?_);rw[if_neg (by decide)];refine wpAny_bind (Tuple_ (thn (ha _ pins s σ H _ I h) fun us s1 ⟨vs,H1,I1,r1,q1⟩=>?_));obtain⟨v,w,e1,q1⟩:=q1;subst e1;obtain⟨u1,u2,rfl,rv,rw'⟩:∃u1 u2,us=[u1,u2]/\RelV v u1/\RelV w u2:=by
  cases r1 with
  | cons p q=>
   cases q with
   | cons p' q'=>
    cases q';exact⟨_,_,rfl,p,p'⟩
 refine wpAny_newObj_type ?_ (by show 2<=sizeLine;decide);have I2:Inv X pins σ H1 { s1 with heap:=s1.heap.push { cls:=.type "tuple",data:=.seq [u1,u2].toArray } }:=I1.kept (t':=s1.toks) fun b o e=>Heap.get?_push_of_some _ e;rw[hw];refine wpAny_bind (wpAny_pure ?_);show wpAny (model X.prog X.w) X.A (do rule "assign.swapped-stores";let items<-unpackItems (.ref s1.heap.objs.size) 2 none;assignInOrder [fun v=>bindName X.env y v,fun v=>bindName X.env x v] items.reverse;pure Flow.next) _ _ _;refine wpAny_bind (wpAny_rule (wpAny_bind (unpackItems_tuple (items:=#[u1,u2]) (I.ok.hd hc) (IsTup.new s1.heap _) fun h' hx'=>?_)));have I3:=I2.kept (h':=h') (t':=s1.toks) fun b o e=>hx' b o (Nat.ne_of_lt (Heap.lt_size e)) e;show wpAny _ _ (assignInOrder [fun v=>bindName X.env y v,fun v=>bindName X.env x v] [u2,u1] >>= fun _=>pure Flow.next) _ _ _;refine wpAny_bind (assignInOrder_cons (wpAny_bindName (u3 I3 hN hj (.inl hy) rw' (fun s2 I4=>?_) (.inr hy))));refine assignInOrder_cons (wpAny_bindName (u3 I4 hN hi (.inl hx) rv (fun s3 I5=>assignInOrder_nil (wpAny_pure ?_)) (.inr hx)));rw[List.set_comm _ _ (Ne.symm hij)]at I5;exact⟨_,H1,I5,q1⟩
end
section
variable{X:Cx}{pos:Pos}
noncomputable def z88(c:TT)(tb:TS):TS:=fun D σ H=>∃W:Nat->St->Hp->Prop,(∃m,W m σ H)/\∀m σ H,W m σ H->
 c σ H fun b H1=>if b=true then ∃N:St->Hp->Prop,(∀σ' H',N σ' H'->∃m',m'<m/\W m' σ' H')/\tb { D with nx:=N,ct:=N,bk:=D.nx } σ H1 else D.nx σ H1
theorem z7S{c:Expr}{body:List Stmt}{tc:TT}{tb:TS}(hp:PassesOwn (model X.prog X.w) X.A X.env X.xe)(hc:PT X c tc)(hb:PSs X body tb):PS X (.While c body [] pos) (z88 tc tb):=by
 intro pins s σ H D I h;obtain⟨W,⟨m0,w0⟩,turn⟩:=h;refine wpAny_While (codeAny_whileLoop (fun n s'=>∃σ' H',Inv X pins σ' H' s'/\W n σ' H') ?_ m0 ⟨σ,H,I,w0⟩);rintro n s1 ⟨σ1,H1,I1,w1⟩;refine wpAny_passesOwn hp (thn (hc pins s1 σ1 H1 _ I1 (turn n σ1 H1 w1)) fun b s2 ⟨H2,I2,q2⟩=>?_);cases b with
 | true=>
  obtain⟨N,hN,q2⟩:=q2;rw[if_pos rfl];refine wpAny_passesOwn hp (thn (hb pins s2 σ1 H2 _ I2 q2) fun f s3 q3=>?_);cases f with
  | next=>
   obtain⟨σ3,H3,I3,n3⟩:=q3;obtain⟨m',hm,w3⟩:=hN σ3 H3 n3;exact⟨m',hm,σ3,H3,I3,w3⟩
  | cont=>
   obtain⟨σ3,H3,I3,n3⟩:=q3;obtain⟨m',hm,w3⟩:=hN σ3 H3 n3;exact⟨m',hm,σ3,H3,I3,w3⟩
  | brk=>exact q3
  | ret v=>exact q3
 | false=>
  rw[if_neg Bool.false_ne_true];exact wpAny_execs_nil ⟨σ1,H2,I2,q2⟩
end
structure It where
 go:Nat->Hp->Prop
 yld:Nat->Hp->V->Hp->Prop
 stop:Nat->Hp->Prop
def FpOk(X:Cx)(pins:List (Addr×Obj))(H:Hp)(b:Addr):Prop:=
 H b=none/\b≠X.env.locals/\b∉X.fs/\(b∈X.ex\/X.s₀.heap.objs.size<=b)/\(∀x c,X.env.cells.lookup x=some c->c≠b)/\∀p∈X.pn++pins,p.1≠b
theorem Inv.fpOk{X:Cx}{pins:List (Addr×Obj)}{σ:St}{H H':Hp}{s:Shared}{b:Addr}(I:Inv X pins σ H s)(hb:s.heap.objs.size<=b)(hn:H' b=none):FpOk X pins H' b:=by
 refine⟨hn,Nat.ne_of_gt (Nat.lt_of_lt_of_le I.lt hb),I.nofs hb,.inr (Nat.le_trans I.sz hb),fun x c e z=>?_,fun p hp z=>?_⟩
 ·obtain⟨v,q⟩:=I.cell x c e;exact absurd (Nat.lt_of_lt_of_le q.lt (by rw[z];exact hb)) (Nat.lt_irrefl _)
 ·exact absurd (Nat.lt_of_lt_of_le (Heap.lt_size (I.pin p hp).1) (by rw[z];exact hb)) (Nat.lt_irrefl _)
structure Turn(P:Program)(w:World)(K:W.Frag)(tg:Expr)(J:It)(fp:List Addr)(it:Addr)(tn:Nat->Heap->Prop):Prop where
 mem:it∈fp
 obj:∀i h,tn i h->∀b∈fp,∃o,h.get? b=some o/\∀v,o.data≠.cell v
 keep:∀i h h',tn i h->(∀b∈fp,∀o,h.get? b=some o->h'.get? b=some o)->tn i h'
 item:∀(X:Cx),X.prog=P->X.w=w->X.K=K->X.calm=true->∀(i:Nat) (pins:List (Addr×Obj)) (s:Shared) (σ:St) (H:Hp) (E:Value->Shared->Prop),Inv X pins σ H s->(∀b∈fp,FpOk X pins H b)->tn i s.heap->J.go i H->
  wpAny (model P w) X.A (pyNext (.ref it)) (fun r s1=>∃u,r=some u/\
   wpAny (model P w) X.A (letOwnedTupleGo tg (.ref it) u) (fun _ s2=>∃x H',Inv X pins σ H' s2/\RelV x u/\J.yld i H x H'/\tn (i+1) s2.heap/\∀b∈fp,H' b=none) E s1) E s
 done:∀(X:Cx),X.prog=P->X.w=w->X.K=K->X.calm=true->∀(i:Nat) (pins:List (Addr×Obj)) (s:Shared) (σ:St) (H:Hp) (E:Value->Shared->Prop),Inv X pins σ H s->(∀b∈fp,FpOk X pins H b)->tn i s.heap->J.stop i H->
  wpAny (model P w) X.A (pyNext (.ref it)) (fun r s1=>r=none/\Inv X pins σ H s1) E s
 self:∀(A:Around) (i:Nat) (s:Shared) (Q:Value->Shared->Prop) (E:Value->Shared->Prop),tn i s.heap->Q (.ref it) s->wpAny (model P w) A (pyIter (.ref it)) Q E s
noncomputable abbrev TI:=St->Hp->(It->Hp->Prop)->Prop
def PIE(X:Cx)(pins:List (Addr×Obj))(σ:St)(tg:Expr)(R:It->Hp->Prop)(itv:Value)(s2:Shared):Prop:=
 ∃(it:Addr) (fp:List Addr) (tn:Nat->Heap->Prop) (J:It) (H':Hp),itv=.ref it/\Inv X pins σ H' s2/\Turn X.prog X.w X.K tg J fp it tn/\tn 0 s2.heap/\(∀b∈fp,FpOk X pins H' b)/\R J H'
def PI(X:Cx)(tg iter:Expr)(wi:TI):Prop:=
 ∀(pins:List (Addr×Obj)) (s:Shared) (σ:St) (H:Hp) (R:It->Hp->Prop),Inv X pins σ H s->wi σ H R->
  wpAny (model X.prog X.w) X.A (eval iter X.env) (fun v s1=>wpAny (model X.prog X.w) X.A (pyIter v) (PIE X pins σ tg R) X.xe s1) X.xe s
theorem z7H{M:Model}{A:Around}{E:Value->Shared->Prop}{s:Shared}{tg:Expr}{it:Addr}{u:Value}{o:Obj}{n:String}{vs:Array Value}{Q:Unit->Shared->Prop}(ho:s.heap.get? it=some o)(hc:o.cls=.type n)(hd:o.data=.fields vs)
    (hn:["enumerate","zip","dict_itemiterator","dict_reverseitemiterator","odict_iterator","itertools.zip_longest","itertools.pairwise"].contains n=false) (hQ:Q () s):wpAny M A (letOwnedTupleGo tg (.ref it) u) Q E s:=by
  unfold letOwnedTupleGo;cases tg<;>first
    | exact wpAny_pure hQ
    | (cases u <;> first
        | exact wpAny_pure hQ
        | (refine wpAny_bind (wpAny_load ho ?_)
           rw[hc,hd];show wpAny M A (if (["enumerate","zip","dict_itemiterator","dict_reverseitemiterator","odict_iterator","itertools.zip_longest","itertools.pairwise"].contains n && vs[0]? == some (rawInt _))=true then _ else _) Q E s;rw[if_neg (by intro h;rw[hn,Bool.false_and]at h;cases h)];exact wpAny_pure hQ))
noncomputable def Itl(K:W.Frag)(a:Addr):It:=
 ⟨fun i H=>∃xs x,SqL K H a xs/\xs[i]?=some x,fun i H x H'=>H'=H/\∀xs,SqL K H a xs->xs[i]?=some x,fun i H=>∃xs,SqL K H a xs/\xs.length<=i⟩
noncomputable def Itt(K:W.Frag)(a:Addr):It:=
 ⟨fun i H=>∃xs x,SqT K H a xs/\xs[i]?=some x,fun i H x H'=>H'=H/\∀xs,SqT K H a xs->xs[i]?=some x,fun i H=>∃xs,SqT K H a xs/\xs.length<=i⟩
noncomputable def Itr(lo:Int)(n:Nat):It:=⟨fun i _=>i<n,fun i H x H'=>H'=H/\x=.int (lo+i),fun i _=>n<=i⟩
theorem z57{P:Program}{w:World}{K:W.Frag}{tg:Expr}(a it:Addr):Turn P w K tg (Itl K a) [it] it (fun i h=>h.IsListIter it a i) where
 mem:=by simp
 obj:=fun i h st b hb=>by
  have e:b=it:=by simpa using hb
  subst e;obtain⟨o,e,c,d⟩:=st;exact⟨o,e,fun v z=>by rw[d]at z;cases z⟩
 keep:=fun i h h' st k=>st.at fun o e=>k it (by simp) o e
 item:=by
  intro X hP hw hK hc i pins s σ H E I hf st hg;subst hP hw hK;obtain⟨xs,x,hq,hx⟩:=hg;obtain⟨its,rv,p,hz⟩:=I.list hq;obtain⟨u,hu,ru⟩:=rv.get hx;obtain⟨f0,f1,f2,f3,f4,f5⟩:=hf it (by simp);refine wpAny_pyNext_list_item st p.isList (x:=u) (by simpa using hu) fun h' st' sb=>?_;have I1:Inv X pins σ H { s with heap:=h' }:=I.turned (t':=s.toks) (fun b o hb e=>(sb.2 b hb).trans e) f0 f1 f3 f4 f5;obtain⟨o,e,c,d⟩:=id st';exact⟨u,rfl,z7H (s:={ s with heap:=h' }) e c d (by decide) ⟨x,H,I1,ru,⟨rfl,fun ys hy=>by rw[I.list_inj hy hq];exact hx⟩,st',fun b hb=>(hf b hb).1⟩⟩
 done:=by
  intro X hP hw hK hc i pins s σ H E I hf st hg;subst hP hw hK;obtain⟨xs,hq,hx⟩:=hg;obtain⟨its,rv,p,hz⟩:=I.list hq;obtain⟨f0,f1,f2,f3,f4,f5⟩:=hf it (by simp);have hl:=rv.length;exact wpAny_pyNext_list_end (I.ok.hd hc) st p.isList (by simp;omega) fun h' eb=>⟨rfl,I.turned (t':=s.toks) (fun b o hb e=>eb b o hb e) f0 f1 f3 f4 f5⟩
 self:=fun _ _ _ _ _ st h=>wpAny_pyIter_listiter st h
theorem z0C{P:Program}{w:World}{K:W.Frag}{tg:Expr}(a it:Addr):Turn P w K tg (Itt K a) [it] it (fun i h=>h.IsTupleIter it a i) where
 mem:=by simp
 obj:=fun i h st b hb=>by
  have e:b=it:=by simpa using hb
  subst e;obtain⟨o,e,c,d⟩:=st;exact⟨o,e,fun v z=>by rw[d]at z;cases z⟩
 keep:=fun i h h' st k=>st.at fun o e=>k it (by simp) o e
 item:=by
  intro X hP hw hK hc i pins s σ H E I hf st hg;subst hP hw hK;obtain⟨xs,x,hq,hx⟩:=hg;obtain⟨its,rv,p,hz⟩:=I.tuple hq;obtain⟨u,hu,ru⟩:=rv.get hx;obtain⟨f0,f1,f2,f3,f4,f5⟩:=hf it (by simp);refine wpAny_pyNext_tuple_item st (show s.heap.IsTuple a its.toArray from p) (x:=u) (by simpa using hu) fun h' st' sb=>?_;have I1:Inv X pins σ H { s with heap:=h' }:=I.turned (t':=s.toks) (fun b o hb e=>(sb.2 b hb).trans e) f0 f1 f3 f4 f5;obtain⟨o,e,c,d⟩:=id st';exact⟨u,rfl,z7H (s:={ s with heap:=h' }) e c d (by decide) ⟨x,H,I1,ru,⟨rfl,fun ys hy=>by rw[I.tuple_inj hy hq];exact hx⟩,st',fun b hb=>(hf b hb).1⟩⟩
 done:=by
  intro X hP hw hK hc i pins s σ H E I hf st hg;subst hP hw hK;obtain⟨xs,hq,hx⟩:=hg;obtain⟨its,rv,p,hz⟩:=I.tuple hq;obtain⟨f0,f1,f2,f3,f4,f5⟩:=hf it (by simp);have hl:=rv.length;exact wpAny_pyNext_tuple_end (I.ok.hd hc) st (show s.heap.IsTuple a its.toArray from p) (by simp;omega) fun h' eb=>⟨rfl,I.turned (t':=s.toks) (fun b o hb e=>eb b o hb e) f0 f1 f3 f4 f5⟩
 self:=fun _ _ _ _ _ st h=>wpAny_pyIter_tupleiter st h
theorem z3Z{P:Program}{w:World}{K:W.Frag}{tg:Expr}(it:Addr)(lo:Int)(n:Nat):Turn P w K tg (Itr lo n) [it] it (fun i h=>IsRangeIter h it (lo+(i:Nat)*1) ((n:Int) - (i:Nat)) 1) where
 mem:=by simp
 obj:=fun i h st b hb=>by
  have e:b=it:=by simpa using hb
  subst e;exact⟨_,st,fun v z=>by
   have z':Data.fields _=Data.cell v:=z;cases z'⟩
 keep:=fun i h h' st k=>k it (by simp) _ st
 item:=by
  intro X hP hw hK hc i pins s σ H E I hf st hg;subst hP hw hK;obtain⟨f0,f1,f2,f3,f4,f5⟩:=hf it (by simp);have W:=Walks.range (prog:=X.prog) (w:=X.w) (I.ok.hd hc) it lo 1 n;refine W.item i s _ _ hg st fun v h' tk hv st' kk=>?_;obtain⟨t,rfl⟩:=hv;have I1:Inv X pins σ H { s with heap:=h',toks:=tk }:=I.turned (fun b o hb e=>kk b o (by simpa using hb) e) f0 f1 f3 f4 f5;refine⟨_,rfl,z7H (s:={ s with heap:=h',toks:=tk }) (n:="range_iterator") st' rfl rfl (by decide) ⟨.int (lo+i),H,I1,⟨t,?_⟩,⟨rfl,rfl⟩,st',fun b hb=>(hf b hb).1⟩⟩;rw[Int.mul_one]
 done:=by
  intro X hP hw hK hc i pins s σ H E I hf st hg;subst hP hw hK;obtain⟨f0,f1,f2,f3,f4,f5⟩:=hf it (by simp);exact wpAny_pyNext_range_end (I.ok.hd hc) st (by have:n<=i:=hg;omega) fun h' eb=>⟨rfl,I.turned (t':=s.toks) (fun b o hb e=>eb b o hb e) f0 f1 f3 f4 f5⟩
 self:=fun _ _ _ _ _ st h=>wpAny_pyIter_rangeiter st h
section
variable{X:Cx}{tg:Expr}
noncomputable def iTup(K:W.Frag)(tl:TE):TI:=fun σ H R=>tl σ H fun x H1=>∃a,x=.ref a/\(∃xs,SqT K H1 a xs)/\R (Itt K a) H1
theorem zB6{l:Expr}{tl:TE}(hl:PE X l tl):PI X tg l (iTup X.K tl):=by
 intro pins s σ H R I h;refine thn (hl pins s σ H _ I h) fun v s1 ⟨x,H1,I1,r1,q1⟩=>?_;obtain⟨a,e,⟨xs,hq⟩,q⟩:=q1;subst e;cases r1;obtain⟨its,rv,p,hz⟩:=I1.tuple hq;refine wpAny_pyIter_tuple (show s1.heap.IsTuple a its.toArray from p) ?_;refine⟨s1.heap.objs.size,[s1.heap.objs.size],_,_,H1,rfl,I1.kept (t':=s1.toks) fun b o e=>Heap.get?_push_of_some _ e,z0C a _,⟨_,Heap.get?_push_size _ rfl,rfl,rfl⟩,fun b hb=>?_,q⟩;have e:b=s1.heap.objs.size:=by simpa using hb
 subst e;exact I1.fpOk (Nat.le_refl _) (I1.hok.fresh (Nat.le_refl _))
theorem z2v{pins:List (Addr×Obj)}{σ:St}{H:Hp}{s:Shared}{R:It->Hp->Prop}{E:Value->Shared->Prop}{lo hi:Int}{t u v:Tok}{tk:Nat}(I:Inv X pins σ H s)(h1 : -(2 ^ 62)<=lo)(h2:lo<2 ^ 62)(h3 : -(2 ^ 62)<=hi)(h4:hi<2 ^ 62)
  (q:R (Itr lo (hi - lo).toNat) H):wpAny (model X.prog X.w) X.A (pyIter (.ref s.heap.objs.size)) (PIE X pins σ tg R) E { s with heap:=s.heap.push { cls:=.type "range",data:=.fields #[.int lo t,.int hi u,.int 1 v] },toks:=tk }:=by
 refine wpAny_pyIter_range (IsRange.new ..) (small_one h1 h2 h3 h4) ?_;have I1:Inv X pins σ H { s with heap:=s.heap.push { cls:=.type "range",data:=.fields #[.int lo t,.int hi u,.int 1 v] },toks:=tk }:=I.kept fun b o e=>Heap.get?_push_of_some _ e;refine⟨(s.heap.push { cls:=.type "range",data:=.fields #[.int lo t,.int hi u,.int 1 v] }).objs.size,[(s.heap.push { cls:=.type "range",data:=.fields #[.int lo t,.int hi u,.int 1 v] }).objs.size],_,_,H,rfl,
  I1.kept (t':=tk) fun b o e=>Heap.get?_push_of_some _ e,z3Z _ lo (hi - lo).toNat,?_,fun b hb=>?_,q⟩
 ·have e1:lo+((0:Nat):Int)*1=lo:=by simp
  have e2:(((hi - lo).toNat:Nat):Int) - ((0:Nat):Int)=Builtin.Range.rangeSize lo hi 1:=by rw[rangeSize_one];split<;>omega
  show IsRangeIter _ _ (lo+((0:Nat):Int)*1) ((((hi - lo).toNat:Nat):Int) - ((0:Nat):Int)) 1;rw[e1,e2];exact Heap.get?_push_size _ rfl
 ·have e:b=(s.heap.push { cls:=.type "range",data:=.fields #[.int lo t,.int hi u,.int 1 v] }).objs.size:=by simpa using hb
  subst e;exact I1.fpOk (Nat.le_refl _) (I1.hok.fresh (Nat.le_refl _))
noncomputable def zBq(ta:TA):TI:=fun σ H R=>ta σ H fun vs H1=>∃j:Int,vs=[.int j] /\ -(2 ^ 62)<=j/\j<2 ^ 62/\R (Itr 0 j.toNat) H1
noncomputable def zBg(ta:TA):TI:=fun σ H R=>ta σ H fun vs H1=>∃i j:Int,vs=[.int i,.int j]/\(-(2 ^ 62)<=i/\i<2 ^ 62 /\ -(2 ^ 62)<=j/\j<2 ^ 62)/\R (Itr i (j - i).toNat) H1
theorem z1d{a:Expr}{ta:TA}{p pos:Pos}(hg:Gl X "range")(hm:X.mg "range"=none)(ha:PA X [a] ta)(hs:starEach [a] X.env=[(false,eval a X.env)]:=by rfl):PI X tg (.Call (.Name "range" p) [a] [] pos) (zBq ta):=by
 intro pins s σ H R I h;refine Call_ (wb I hg hm boot_range (PyProof.Rows.callWith_type1 (thn (ha pos pins s σ H _ I h) fun us s1 ⟨vs,H1,I1,r1,q1⟩=>?_) hs rfl));obtain⟨j,e,q1,q2,q⟩:=q1;subst e;cases r1 with
 | cons r rr=>
  cases rr;obtain⟨t,rfl⟩:=r;exact call_range_1 (z2v I1 (by omega) (by omega) q1 q2 (by simpa using q))
theorem z5h{a b:Expr}{ta:TA}{p pos:Pos}(hg:Gl X "range")(hm:X.mg "range"=none)(ha:PA X [a,b] ta)(hs:starEach [a,b] X.env=[(false,eval a X.env),(false,eval b X.env)]:=by rfl)(hs2:starEach [b] X.env=[(false,eval b X.env)]:=by rfl):
  PI X tg (.Call (.Name "range" p) [a,b] [] pos) (zBg ta):=by
 intro pins s σ H R I h;refine Call_ (wb I hg hm boot_range (PyProof.Rows.callWith_type1 (thn (ha pos pins s σ H _ I h) fun us s1 ⟨vs,H1,I1,r1,q1⟩=>?_) (by rw[hs,hs2]) (by rw[hs2];rfl)));obtain⟨i,j,e,⟨q1,q2,q3,q4⟩,q⟩:=q1;subst e;cases r1 with
 | cons r rr=>
  cases rr with
  | cons r' rr=>
   cases rr;obtain⟨t,rfl⟩:=r;obtain⟨t',rfl⟩:=r';exact call_range_2 (z2v I1 q1 q2 q3 q4 q)
noncomputable def tFor(wi:TI)(g:TG)(tb:TS):TS:=fun D σ H=>wi σ H fun J H1=>∃W:Nat->Nat->St->Hp->Prop,(∃m,W 0 m σ H1)/\∀i m σ H,W i m σ H->
 (J.stop i H/\D.nx σ H)\/(J.go i H/\∃N:St->Hp->Prop,(∀σ' H',N σ' H'->∃m',m'<m/\W (i+1) m' σ' H')/\∀x H',J.yld i H x H'->g x σ H' fun σ2 H2=>tb { D with nx:=N,ct:=N,bk:=D.nx } σ2 H2)
noncomputable def z0F(fp:List Addr)(h:Heap):List (Addr×Obj):=fp.filterMap fun b=>(h.get? b).map fun o=>(b,o)
theorem xZ{fp:List Addr}{h:Heap}{b:Addr}{o:Obj}(hb:b∈fp)(e:h.get? b=some o):(b,o)∈z0F fp h:=List.mem_filterMap.mpr ⟨b,hb,by rw[e];rfl⟩
theorem z5t{fp:List Addr}{h:Heap}{p:Addr×Obj}(hp:p∈z0F fp h):p.1∈fp/\h.get? p.1=some p.2:=by
 obtain⟨b,hb,e⟩:=List.mem_filterMap.mp hp;cases q:h.get? b with
 | none=>rw[q]at e;cases e
 | some o=>
  rw[q]at e;have e':(b,o)=p:=Option.some.inj e;subst e';exact⟨hb,q⟩
theorem Inv.pinned{pins:List (Addr×Obj)}{σ:St}{H:Hp}{s:Shared}{fp:List Addr}(I:Inv X pins σ H s)(hf:∀b∈fp,FpOk X pins H b)(ho:∀b∈fp,∃o,s.heap.get? b=some o/\∀v,o.data≠.cell v):Inv X (pins++z0F fp s.heap) σ H s:=
 I.pins_of fun p hp=>(List.mem_append.mp hp).elim (fun z=>I.pin p (List.mem_append_right _ z)) fun z=>by
  obtain⟨hb,e⟩:=z5t z;obtain⟨f0,f1,f2,_⟩:=hf p.1 hb;obtain⟨o,e',d⟩:=ho p.1 hb;rw[e]at e';cases e';exact⟨e,f0,f1,f2,d⟩
theorem Inv.unpinned{pins pl:List (Addr×Obj)}{σ:St}{H:Hp}{s:Shared}(I:Inv X (pins++pl) σ H s):Inv X pins σ H s:=I.pins_of fun p hp=>I.pin p (List.mem_append_right _ (List.mem_append_left _ hp))
theorem z7g{iter:Expr}{body:List Stmt}{wi:TI}{g:TG}{tb:TS}{pos:Pos}(hp:PassesOwn (model X.prog X.w) X.A X.env X.xe)(hc:X.calm=true)(hi:PI X tg iter wi)(hg:PG X tg g)(hb:PSs X body tb)
  (hs:∀x,foldedSetIterable iter X.env x=pure x:=by intro _;rfl):PS X (.For tg iter body [] pos) (tFor wi g tb):=by
 intro pins s σ H D I h;refine wpAny_For (thn (hi pins s σ H _ I h) fun v s1 h1=>thn h1 fun itv s2 h2=>?_) hs;obtain⟨it,fp,tn,J,H2,e,I2,T,st2,f2,W,⟨m0,w0⟩,turn⟩:=h2;subst e;have stat:∀{H':Hp},(∀b∈fp,H' b=none)->∀b∈fp,FpOk X pins H' b:=fun hn b hb=>⟨hn b hb,(f2 b hb).2⟩;refine codeAny_forLoop_any (fun n s'=>∃i σ' H',Inv X pins σ' H' s'/\tn i s'.heap/\(∀b∈fp,H' b=none)/\W i n σ' H') ?_ m0 ⟨0,σ,H2,I2,st2,fun b hb=>(f2 b hb).1,w0⟩;rintro n s3 ⟨i,σ3,H3,I3,st3,fr3,w3⟩;rcases turn i n σ3 H3 w3 with ⟨stop,qn⟩ | ⟨go,N,hN,step⟩
 ·refine wpAny_passesOwn hp (thn (T.done X rfl rfl rfl hc i pins s3 σ3 H3 X.xe I3 (stat fr3) st3 stop) fun r s4 ⟨hr,I4⟩=>?_);subst hr;exact wpAny_execs_nil ⟨σ3,H3,I4,qn⟩
 ·refine wpAny_passesOwn hp (thn (T.item X rfl rfl rfl hc i pins s3 σ3 H3 X.xe I3 (stat fr3) st3 go) fun r s4 ⟨u,hr,h4⟩=>?_);subst hr;refine wpAny_passesOwn hp (thn h4 fun _ s5 ⟨x,H5,I5,r5,y5,st5,fr5⟩=>?_);have I5':=I5.pinned (stat fr5) (T.obj _ _ st5);refine wpAny_passesOwn hp (thn (hg _ s5 σ3 H5 x u _ I5' r5 (step x H5 y5)) fun _ s6 ⟨σ6,H6,I6,q6⟩=>?_);refine wpAny_passesOwn hp (thn (hb _ s6 σ6 H6 _ I6 q6) fun f s7 q7=>?_);have again:∀{σ7:St} {H7:Hp},Inv X (pins++z0F fp s5.heap) σ7 H7 s7->N σ7 H7->∃m,m<n/\∃i σ' H',Inv X pins σ' H' s7/\tn i s7.heap/\(∀b∈fp,H' b=none)/\W i m σ' H':=fun{σ7 H7} I7 n7=>by
   obtain⟨m',hm,w7⟩:=hN σ7 H7 n7;refine⟨m',hm,i+1,σ7,H7,I7.unpinned,T.keep _ _ _ st5 fun b hb o e=>(I7.pin (b,o) (List.mem_append_right _ (List.mem_append_right _ (xZ hb e)))).1,fun b hb=>?_,w7⟩;obtain⟨o,e,d⟩:=T.obj _ _ st5 b hb;exact(I7.pin (b,o) (List.mem_append_right _ (List.mem_append_right _ (xZ hb e)))).2.1
  cases f with
  | next=>obtain⟨σ7,H7,I7,n7⟩:=q7;exact again I7 n7
  | cont=>obtain⟨σ7,H7,I7,n7⟩:=q7;exact again I7 n7
  | brk=>obtain⟨σ7,H7,I7,q7⟩:=q7;exact⟨σ7,H7,I7.unpinned,q7⟩
  | ret v=>obtain⟨x7,σ7,H7,I7,r7,q7⟩:=q7;exact⟨x7,σ7,H7,I7.unpinned,r7,q7⟩
end
theorem z8V{K:W.Frag}{a:Addr}{xs:List V}{g:TG}{tb:TS}{D:Ends}{σ:St}{H:Hp}(Pv:Nat->St->Hp->Prop)(h0:Pv 0 σ H)(hl:∀i σ H,i<=xs.length->Pv i σ H->SqT K H a xs)
  (hs:∀i x σ H,xs[i]?=some x->Pv i σ H->g x σ H fun σ2 H2=>tb { D with nx:=Pv (i+1),ct:=Pv (i+1),bk:=D.nx } σ2 H2) (hd:∀σ H,Pv xs.length σ H->D.nx σ H) :
  ∃W:Nat->Nat->St->Hp->Prop,(∃m,W 0 m σ H)/\∀i m σ H,W i m σ H->
   ((Itt K a).stop i H/\D.nx σ H)\/((Itt K a).go i H/\∃N:St->Hp->Prop,(∀σ' H',N σ' H'->∃m',m'<m/\W (i+1) m' σ' H')/\∀x H',(Itt K a).yld i H x H'->g x σ H' fun σ2 H2=>tb { D with nx:=N,ct:=N,bk:=D.nx } σ2 H2):=by
 refine⟨fun i m σ H=>m=xs.length - i/\i<=xs.length/\Pv i σ H,⟨xs.length,by simp,Nat.zero_le _,h0⟩,?_⟩;rintro i m σ H ⟨rfl,hi,p⟩;have q:=hl i σ H hi p;by_cases hlt:i<xs.length
 ·refine .inr ⟨⟨xs,xs[i],q,by simp[hlt]⟩,Pv (i+1),fun σ' H' p'=>⟨xs.length - (i+1),by omega,rfl,hlt,p'⟩,fun x H' y=>?_⟩;obtain⟨e,y⟩:=y;subst e;exact hs i x σ _ (y xs q) p
 ·have e:i=xs.length:=by omega
  subst e;exact .inl ⟨⟨xs,q,Nat.le_refl _⟩,hd σ H p⟩
noncomputable abbrev R2:=V->V->Hp->VK->Prop
def OpR(X:Cx)(f:Value->Value->Sem Value)(r:R2):Prop:=
 ∀(pins:List (Addr×Obj)) (s:Shared) (σ:St) (H:Hp) (x y:V) (v u:Value) (Q:VK),Inv X pins σ H s->RelV x v->RelV y u->r x y H Q->
  wpAny (model X.prog X.w) X.A (f v u) (EP X pins σ Q) X.xe s
def CallR(X:Cx)(f:Value)(r:List V->Hp->VK->Prop):Prop:=
 ∀(pins:List (Addr×Obj)) (s:Shared) (σ:St) (H:Hp) (xs:List V) (us:List Value) (Q:VK),Inv X pins σ H s->Vals xs us->r xs H Q->
  wpAny (model X.prog X.w) X.A (call f us) (EP X pins σ Q) X.xe s
def TruR(X:Cx)(r:V->Hp->(Bool->Hp->Prop)->Prop):Prop:=
 ∀(pins:List (Addr×Obj)) (s:Shared) (σ:St) (H:Hp) (x:V) (v:Value) (Q:Bool->Hp->Prop),Inv X pins σ H s->RelV x v->r x H Q->
  wpAny (model X.prog X.w) X.A (truthy v) (TP X pins σ Q) X.xe s
noncomputable def tOp(r:R2)(ta tb:TE):TE:=fun σ H Q=>ta σ H fun x H1=>tb σ H1 fun y H2=>r x y H2 Q
noncomputable def rI(C:Int->Int->Prop)(g:Int->Int->V):R2:=fun x y H Q=>∃i j,x=.int i/\y=.int j/\C i j/\Q (g i j) H
noncomputable def rI0(g:Int->Int->V):R2:=fun x y H Q=>∃i j,x=.int i/\y=.int j/\Q (g i j) H
section
variable{X:Cx}{a b c:Expr}{ta tb tc:TE}{pos:Pos}
theorem binT(ha:PE X a ta)(hb:PE X b tb){pins:List (Addr×Obj)}{s:Shared}{σ:St}{H:Hp}{R:V->V->Hp->Prop}(I:Inv X pins σ H s)
  (h:ta σ H fun x H1=>tb σ H1 fun y H2=>R x y H2) {Q:Value->Shared->Prop} {f:Value->Value->Sem Value}
  (hf:∀v u s2 x y H2,Inv X pins σ H2 s2->RelV x v->RelV y u->R x y H2->wpAny (model X.prog X.w) X.A (f v u) Q X.xe s2) :
  wpAny (model X.prog X.w) X.A (eval a X.env) (fun v s₁=>wpAny (model X.prog X.w) X.A (eval b X.env) (fun u s₂=>wpAny (model X.prog X.w) X.A (f v u) Q X.xe s₂) X.xe s₁) X.xe s:=by
 refine thn (ha pins s σ H _ I h) fun v s1 ⟨x,H1,I1,r1,q1⟩=>?_;refine thn (hb pins s1 σ H1 _ I1 q1) fun u s2 ⟨y,H2,I2,r2,q2⟩=>?_;exact hf v u s2 x y H2 I2 r1 r2 q2
theorem z58{op:Operator}{r:R2}(ho:OpR X (binaryOp op) r)(ha:PE X a ta)(hb:PE X b tb):PE X (.BinOp a op b pos) (tOp r ta tb):=by
 intro pins s σ H Q I h;exact wpAny_BinOp (binT ha hb I h fun v u s2 x y H2 I2 rx ry q=>ho pins s2 σ H2 x y v u Q I2 rx ry q)
theorem opI{f:Value->Value->Sem Value}{C:Int->Int->Prop}{g:Int->Int->Int}
  (rule:∀(i j:Int) (t u:Tok) (s:Shared) (Q:Value->Shared->Prop) (E:Value->Shared->Prop),C i j->Q (.int (g i j) s.toks) { s with toks:=s.toks+1 }->wpAny (model X.prog X.w) X.A (f (.int i t) (.int j u)) Q E s) :
  OpR X f (rI C fun i j=>.int (g i j)):=by
 intro pins s σ H x y v u Q I rx ry h;obtain⟨i,j,rfl,rfl,hc,q⟩:=h;obtain⟨t,rfl⟩:=rx;obtain⟨t',rfl⟩:=ry;exact rule i j t t' s _ _ hc ⟨.int (g i j),H,I.tok _,⟨_,rfl⟩,q⟩
theorem opI0{f:Value->Value->Sem Value}{g:Int->Int->Int}
  (rule:∀(i j:Int) (t u:Tok) (s:Shared) (Q:Value->Shared->Prop) (E:Value->Shared->Prop),Q (.int (g i j) s.toks) { s with toks:=s.toks+1 }->wpAny (model X.prog X.w) X.A (f (.int i t) (.int j u)) Q E s) :
  OpR X f (rI0 fun i j=>.int (g i j)):=by
 intro pins s σ H x y v u Q I rx ry h;obtain⟨i,j,rfl,rfl,q⟩:=h;obtain⟨t,rfl⟩:=rx;obtain⟨t',rfl⟩:=ry;exact rule i j t t' s _ _ ⟨.int (g i j),H,I.tok _,⟨_,rfl⟩,q⟩
theorem opB0{f:Value->Value->Sem Value}{g:Int->Int->Bool}
  (rule:∀(i j:Int) (t u:Tok) (s:Shared) (Q:Value->Shared->Prop) (E:Value->Shared->Prop),Q (.bool (g i j)) s->wpAny (model X.prog X.w) X.A (f (.int i t) (.int j u)) Q E s) :
  OpR X f (rI0 fun i j=>.bl (g i j)):=by
 intro pins s σ H x y v u Q I rx ry h;obtain⟨i,j,rfl,rfl,q⟩:=h;obtain⟨t,rfl⟩:=rx;obtain⟨t',rfl⟩:=ry;exact rule i j t t' s _ _ ⟨.bl (g i j),H,I,rfl,q⟩
def CDiv(i j:Int):Prop:=0<j/\j<1073741824
def CMul(i j:Int):Prop:=(-(2 ^ 64)<i/\i<2 ^ 64)\/(-(2 ^ 64)<j/\j<2 ^ 64)
theorem CMul.ok{i j:Int}(h:CMul i j):IntMulOk i j:=by
 rcases h with ⟨h1,h2⟩ | ⟨h1,h2⟩
 ·exact .of_left (intBits_le_64 h1 h2)
 ·exact .of_right (intBits_le_64 h1 h2)
theorem op_add:OpR X (binaryOp .Add) (rI0 fun i j=>.int (i+j)):=opI0 fun _ _ _ _ _ _ _ q=>add_int q
theorem op_sub:OpR X (binaryOp .Sub) (rI0 fun i j=>.int (i - j)):=opI0 fun _ _ _ _ _ _ _ q=>sub_int q
theorem op_mul:OpR X (binaryOp .Mult) (rI CMul fun i j=>.int (i*j)):=opI fun _ _ _ _ _ _ _ hc q=>mul_int q hc.ok
theorem op_fdiv:OpR X (binaryOp .FloorDiv) (rI CDiv fun i j=>.int (i / j)):=opI fun i j _ _ _ _ _ hc q=>by
 have h1:(0:Int)<j:=hc.1;have h2:j<1073741824:=hc.2;exact floordiv_int (by omega) (by rw[Int.fdiv_eq_ediv_of_nonneg i (by omega)];exact q) (.inl (PyProof.noPylong_small (by omega)))
theorem op_mod:OpR X (binaryOp .Mod) (rI (fun _ j=>0<j) fun i j=>.int (i % j)):=opI fun i j _ _ _ _ _ hc q=>by
 have h1:(0:Int)<j:=hc;exact mod_int' (by omega) (by rw[Int.fmod_eq_emod_of_nonneg i (by omega)];exact q)
end
section
variable{X:Cx}{a b c:Expr}{ta tb tc:TE}{pos:Pos}
theorem z86{pins:List (Addr×Obj)}{σ:St}{H:Hp}{s:Shared}{Q:VK}{k k':Bool}(I:Inv X pins σ H s)(q:Q (.bl k) H)(e:k=k'):EP X pins σ Q (.bool k') s:=by
 subst e;exact⟨.bl k,H,I,rfl,q⟩
theorem op_lt:OpR X (compareOp .Lt) (rI0 fun i j=>.bl (decide (i<j))):=opB0 fun _ _ _ _ _ _ _ q=>lt_int q
theorem z4o:OpR X (compareOp .LtE) (rI0 fun i j=>.bl (decide (i<=j))):=opB0 fun _ _ _ _ _ _ _ q=>le_int q
theorem zBn:OpR X (compareOp .GtE) (rI0 fun i j=>.bl (decide (j<=i))):=opB0 fun _ _ _ _ _ _ _ q=>ge_int q
theorem op_isN:OpR X (compareOp .Is) (fun x y H Q=>y=.non/\Q (.bl (decide (x=.non))) H):=by
 intro pins s σ H x y v u Q I rx ry h;obtain⟨rfl,q⟩:=h;cases ry;refine is_none_gen (z86 I q ?_);cases x<;>first
  | (cases rx;rfl)
  | (obtain⟨t,rfl⟩:=rx;rfl)
theorem op_notN:OpR X (compareOp .IsNot) (fun x y H Q=>y=.non/\Q (.bl (!decide (x=.non))) H):=by
 intro pins s σ H x y v u Q I rx ry h;obtain⟨rfl,q⟩:=h;cases ry;refine isnot_none_gen (z86 I q ?_);cases x<;>first
  | (cases rx;rfl)
  | (obtain⟨t,rfl⟩:=rx;rfl)
theorem OpR.or{f:Value->Value->Sem Value}{r r':R2}(h:OpR X f r)(h':OpR X f r'):OpR X f (fun x y H Q=>r x y H Q\/r' x y H Q):=by
 intro pins s σ H x y v u Q I rx ry q;rcases q with q | q
 ·exact h pins s σ H x y v u Q I rx ry q
 ·exact h' pins s σ H x y v u Q I rx ry q
theorem zd(b:Expr){op:CmpOp}(h:op≠.In:=by decide)(h2:op≠.NotIn:=by decide):behindInMarks op b=false:=by
 have e1:(op == CmpOp.In)=false:=by cases op<;>first | rfl | exact absurd rfl h
 have e2:(op == CmpOp.NotIn)=false:=by cases op<;>first | rfl | exact absurd rfl h2
 cases b<;>simp[behindInMarks,e1,e2]
theorem z8T{op:CmpOp}{r:R2}(ho:OpR X (compareOp op) r)(ha:PE X a ta)(hb:PE X b tb)(hm:behindInMarks op b=false):PE X (.Compare a [op] [b] pos) (tOp r ta tb):=by
 intro pins s σ H Q I h;exact wpAny_Compare1 (binT ha hb I h fun v u s2 x y H2 I2 rx ry q=>ho pins s2 σ H2 x y v u Q I2 rx ry q) hm
noncomputable def zBy(t:TE):TT:=fun σ H Q=>t σ H fun x H'=>∃k,x=.bl k/\Q k H'
theorem z2N{op:CmpOp}{r:R2}(ho:OpR X (compareOp op) r)(ha:PE X a ta)(hb:PE X b tb)(hm:behindInMarks op b=false):PT X (.Compare a [op] [b] pos) (zBy (tOp r ta tb)):=by
 intro pins s σ H Q I h;refine wpAny_isTrue_Compare1 (thn (ha pins s σ H _ I h) fun v s1 ⟨x,H1,I1,r1,q1⟩=>thn (hb pins s1 σ H1 _ I1 q1) fun u s2 ⟨y,H2,I2,r2,q2⟩=>
  thn (ho pins s2 σ H2 x y v u _ I2 r1 r2 q2) fun c s3 ⟨z,H3,I3,r3,k,e,q3⟩=>?_) hm
 subst e;cases r3;exact wpAny_truthy_bool ⟨H3,I3,q3⟩
noncomputable def z84(r r':R2)(ta tb tc:TE):TE:=fun σ H Q=>ta σ H fun x H1=>tb σ H1 fun y H2=>r x y H2 fun z H3=>∃k,z=.bl k/\
 (if k=true then tc σ H3 fun w' H4=>r' y w' H4 Q else Q (.bl false) H3)
theorem z7b{op op':CmpOp}{r r':R2}(ho:OpR X (compareOp op) r)(ho':OpR X (compareOp op') r')(ha:PE X a ta)(hb:PE X b tb)(hc:PE X c tc)
  (hm:lastMarks [op,op'] [b,c]=false:=by with_unfolding_all rfl):PE X (.Compare a [op,op'] [b,c] pos) (z84 r r' ta tb tc):=by
 intro pins s σ H Q I h;refine Compare_chain (thn (ha pins s σ H _ I h) fun v s1 ⟨x,H1,I1,r1,q1⟩=>chain_link (thn (hb pins s1 σ H1 _ I1 q1) fun u s2 ⟨y,H2,I2,r2,q2⟩=>
  thn (ho pins s2 σ H2 x y v u _ I2 r1 r2 q2) fun d s3 ⟨z,H3,I3,r3,k,e,q3⟩=>?_)) hm
 subst e;cases r3;refine wpAny_truthy_bool ?_;cases k with
 | false=>exact ite_ff ⟨.bl false,H3,I3,rfl,q3⟩
 | true=>exact ite_tt (chain_last (thn (hc pins s3 σ H3 _ I3 q3) fun w' s4 ⟨z',H4,I4,r4,q4⟩=>ho' pins s4 σ H4 y z' u w' Q I4 r2 r4 q4))
def TruV(K:W.Frag)(x:V)(H:Hp)(k:Bool):Prop:=
 match x with
 | .non=>k=false
 | .bl b=>k=b
 | .int i=>k=(i != 0)
 | .str y=>y.length<=sizeLine/\k=((y.length:Int) != 0)
 | .byt y=>y.size<=sizeLine/\k=((y.size:Int) != 0)
 | .ref p=>(∃xs,SqL K H p xs/\k=!xs.isEmpty)\/(∃xs,SqT K H p xs/\k=!xs.isEmpty)\/∃kvs,H p=some (.dK kvs)/\k=!kvs.isEmpty
 | _=>False
theorem z3j{κ:Type}{kvs:List (κ×V)}{vs:List (κ×Value)}(r:KV kvs vs):(!vs.isEmpty)=!kvs.isEmpty:=by
 cases r<;>rfl
theorem ux{xs:List V}{its:List Value}(r:Vals xs its):(!its.toArray.isEmpty)=!xs.isEmpty:=by
 cases r<;>simp
theorem uj:(sizeLine:Nat)<2 ^ 63:=by rw[sizeLine_eq];decide
theorem zBB:TruR X (fun x H Q=>∃k,TruV X.K x H k/\Q k H):=by
 intro pins s σ H x v Q I rx h;obtain⟨k,e,q⟩:=h;have hl:=uj;have hs:sizeLine=16777216:=sizeLine_eq;cases x with
 | non=>
  cases rx;have e':k=false:=e;subst e';exact truthy_none ⟨H,I,q⟩
 | bl b=>
  cases rx;have e':k=b:=e;subst e';exact wpAny_truthy_bool ⟨H,I,q⟩
 | int i=>
  obtain⟨t,rfl⟩:=rx;have e':k=(i != 0):=e;subst e';exact PySem.P.truthy_int ⟨H,I,q⟩
 | str y=>
  obtain⟨t,rfl⟩:=rx;obtain⟨hy,e'⟩:y.length<=sizeLine/\k=((y.length:Int) != 0):=e;subst e';exact PySem.P.truthy_str (by omega) ⟨H,I.tok _,q⟩
 | byt y=>
  obtain⟨t,rfl⟩:=rx;obtain⟨hy,e'⟩:y.size<=sizeLine/\k=((y.size:Int) != 0):=e;subst e';exact W.truthy_bytes (by omega) ⟨H,I.tok _,q⟩
 | ref p=>
  cases rx;have e':(∃xs,SqL X.K H p xs/\k=!xs.isEmpty)\/(∃xs,SqT X.K H p xs/\k=!xs.isEmpty)\/∃kvs,H p=some (.dK kvs)/\k=!kvs.isEmpty:=e;rcases e' with ⟨xs,hx,e'⟩ | ⟨xs,hx,e'⟩ | ⟨kvs,hx,e'⟩
  ·subst e';obtain⟨its,r,pl,hz⟩:=I.list hx;have hlen:=r.length;exact wpAny_truthy_list pl.isList (by simp only[List.size_toArray];omega) ⟨H,I.tok _,by rw[ux r];exact q⟩
  ·subst e';obtain⟨its,r,pl,hz⟩:=I.tuple hx;have hlen:=r.length;exact truthy_tuple pl (by simp only[List.size_toArray];omega) ⟨H,I.tok _,by rw[ux r];exact q⟩
  ·subst e';obtain⟨hz,hS,vs,r,m⟩:kvs.length<=sizeLine/\(p == sysModules)=false/\∃vs,KV kvs vs/\s.heap.DictOf (zn X.prog X.w) p vs:=I.hok p _ hx;have hlen:kvs.length=vs.length:=Paired.length r;exact wpAny_truthy_dict hS m (by omega) ⟨H,I.tok _,by rw[z3j r];exact q⟩
 | _=>exact(show False from e).elim
theorem z7J(ha:PE X a ta)(he:∀whole,isTrue a X.env whole=(do let v<-whole;standAt a.pos;holding [v] (truthy v))):
  PT X a (fun σ H Q=>ta σ H fun x H'=>∃k,TruV X.K x H' k/\Q k H'):=by
 intro pins s σ H Q I h;exact isTrue_plain (thn (ha pins s σ H _ I h) fun v s1 ⟨x,H1,I1,r1,q1⟩=>zBB pins s1 σ H1 x v Q I1 r1 q1) (he _)
theorem z3O:OpR X (binaryOp .Add) (fun x y H Q=>∃i j,x=.str i/\y=.str j/\i.length+j.length<=sizeLine/\Q (.str (i++j)) H):=by
 intro pins s σ H x y v u Q I rx ry h;obtain⟨i,j,rfl,rfl,hz,q⟩:=h;obtain⟨t,rfl⟩:=rx;obtain⟨t',rfl⟩:=ry;exact add_str (fun t' tk=>⟨.str (i++j),H,I.tok _,⟨_,rfl⟩,q⟩) hz
theorem xO{x:V}{us:List Value}(r:Vals [x] us):∃u,us=[u]/\RelV x u:=by
 cases r with
 | cons r1 r2=>cases r2;exact⟨_,rfl,r1⟩
theorem z8p{x y:V}{us:List Value}(r:Vals [x,y] us):∃u w',us=[u,w']/\RelV x u/\RelV y w':=by
 cases r with
 | cons r1 r2=>
  cases r2 with
  | cons r3 r4=>cases r4;exact⟨_,_,rfl,r1,r3⟩
theorem z5X(hc:X.calm=true):CallR X (.builtin "max") (fun xs H Q=>∃i j,xs=[.int i,.int j]/\Q (.int (if j>i then j else i)) H):=by
 intro pins s σ H xs us Q I r h;obtain⟨i,j,rfl,q⟩:=h;obtain⟨u,w',rfl,⟨t,rfl⟩,⟨t',rfl⟩⟩:=z8p r;refine max_two_ints (I.ok.hd hc) fun h' tk k=>⟨_,H,I.kept k,?_,q⟩;by_cases hj:j>i
 ·rw[if_pos hj,if_pos hj];exact⟨_,rfl⟩
 ·rw[if_neg hj,if_neg hj];exact⟨_,rfl⟩
theorem z4y(hc:X.calm=true):CallR X (.builtin "min") (fun xs H Q=>∃i j,xs=[.int i,.int j]/\Q (.int (if j<i then j else i)) H):=by
 intro pins s σ H xs us Q I r h;obtain⟨i,j,rfl,q⟩:=h;obtain⟨u,w',rfl,⟨t,rfl⟩,⟨t',rfl⟩⟩:=z8p r;refine min_two_ints (I.ok.hd hc) fun h' tk k=>⟨_,H,I.kept k,?_,q⟩;by_cases hj:j<i
 ·rw[if_pos hj,if_pos hj];exact⟨_,rfl⟩
 ·rw[if_neg hj,if_neg hj];exact⟨_,rfl⟩
end
structure ObjM(h:Heap)(x dx C:Addr)(mA:Str->Option Value):Prop where
 obj:h.get? x=some (W.instObj C dx)
 ns:h.Ns1 dx mA
 ne:dx≠x
theorem z54{h:Heap}{dx:Addr}{mA:Str->Option Value}(n:h.Ns1 dx mA):∃od,h.get? dx=some od/\∀name,W.lookIn name od=some (mA name):=by
 obtain⟨o,es,ep,ho,hd,hk,_,hm⟩:=n;refine⟨o,ho,fun name=>?_⟩;have e:=hm name;unfold nsFind findBy at e;rw[<-Array.find?_toList]at e;unfold W.lookIn;rw[hd];dsimp only;split
 ·rename_i y q
  rw[q]at e;exact congrArg some e
 ·rename_i q
  rw[q]at e;have a:es.toList.any (·.refKey)=false:=by
   rw[List.any_eq_false];intro y hy;obtain⟨z,t,hkey⟩:=hk y (Array.mem_toList_iff.mp hy);simp[DictEntry.refKey,hkey]
  have a':¬es.toList.any (·.refKey)=true:=by rw[a];exact Bool.false_ne_true
  rw[if_neg a'];exact congrArg some e
theorem ObjM.look{h:Heap}{x dx C:Addr}{mA:Str->Option Value}(I:ObjM h x dx C mA):∃od,W.InstAt h x (W.instObj C dx) C (some od)/\∀name,W.lookIn name od=some (mA name):=
 let⟨od,ho,hl⟩:=z54 I.ns
 ⟨od,⟨I.obj,rfl,rfl,ho⟩,hl⟩
section
variable{prog:Program}{w:World}{A:Around}{E:Value->Shared->Prop}{s:Shared}{K:W.Frag}{x dx C f:Addr}{mA:Str->Option Value}{name:Str}{v:Value}
end
theorem RelO.some_of{v:V}{o:Option Value}(r:RelO (some v) o):∃u,o=some u/\RelV v u:=by
 cases o with
 | none=>exact(show False from r).elim
 | some u=>exact⟨u,rfl,r⟩
section
variable{P:Program}{w:World}{H H':Hp}{h h':Heap}{a C dx:Addr}{fs fs':List (Str×V)}
theorem z9A(hok:HOk P w H h)(e:H a=some (.ins C dx fs)):∃mA,ObjM h a dx C mA/\(∀f,RelO (fs.lookup f) (mA f))/\PySem.Within mA (fs.map (·.1))/\fs.length<=1000/\H dx=some (.own a):=by
 obtain⟨d,z,ne,ob,mA,n,r,q⟩:=(show ObjOk P w H h a (.ins C dx fs) from hok a _ e);exact⟨mA,⟨ob,n,ne⟩,r,q,z,d⟩
end
structure Cls(K:W.Frag)(C:Addr):Prop where
 pg:W.plainGet K C Str.empty=true
 hd:W.hasDictIn K C=true
 po:W.plainOver K C=true
 sa:W.findIn K (.ref C) "__setattr__"=some (some (.builtin "object.__setattr__"))
theorem Cls.get{K:W.Frag}{C:Addr}(c:Cls K C)(f:Str):W.plainGet K C f=true:=c.pg
section
variable{X:Cx}{pins:List (Addr×Obj)}{σ:St}{H:Hp}{s:Shared}{a C dx:Addr}{fs:List (Str×V)}{f:Str}{v:V}{A:Around}{E:Value->Shared->Prop}
end
section
variable{X:Cx}{o e value:Expr}{f:Str}{pos pos' tpos:Pos}{ta tv:TE}
end
section
variable{X:Cx}{pins:List (Addr×Obj)}{σ:St}{H:Hp}{s:Shared}{A:Around}{E:Value->Shared->Prop}{Q:Value->Shared->Prop}{c:Value}{b:Bool}
inductive TyOf(K:W.Frag)(H:Hp):V->Value->Prop where
 | non:TyOf K H .non (.type "NoneType")
 | bl (x:Bool):TyOf K H (.bl x) (.type "bool")
 | int (i:Int):TyOf K H (.int i) (.type "int")
 | str (x:Str):TyOf K H (.str x) (.type "str")
 | flt (x:UInt64):TyOf K H (.flt x) (.type "float")
 | lst {a:Addr} {xs:List V} (e:H a=some (.lst xs)):TyOf K H (.ref a) (.type "list")
 | frz {a:Addr} {o:Obj} {xs:List V} (e:H a=some (.frz o (.lst xs))):TyOf K H (.ref a) (.type "list")
 | tup {a:Addr} {xs:List V} (e:H a=some (.tup xs)):TyOf K H (.ref a) (.type "tuple")
 | dK {a:Addr} {kvs:List (Key×V)} (e:H a=some (.dK kvs)):TyOf K H (.ref a) (.type "dict")
 | dT {a:Addr} {kvs:List (List Key×V)} (e:H a=some (.dT kvs)):TyOf K H (.ref a) (.type "dict")
 | ins {a C dx:Addr} {fs:List (Str×V)} (e:H a=some (.ins C dx fs)) (cl:Cls K C) (ha:W.findIn K (.ref C) "__class__"=some (some (.builtin "object.__class__")))
   (hn:W.specialIn K (.builtin "object.__class__") "__get__"=some (some (.builtin "getset_descriptor.__get__"))) (htk:W.takesIn K (.builtin "object.__class__")=some true)
   (hm:W.mroIn K C (.type "object")=some true):TyOf K H (.ref a) (.ref C)
theorem z53{x:V}{u t:Value}(I:Inv X pins σ H s)(rx:RelV x u)(ty:TyOf X.K H x t)(e:W.kitOne X.K t c=some b)(h:∀tk,Q (.bool b) { s with toks:=tk }):
  wpAny (model X.prog X.w) A (call (.builtin "isinstance") [u,c]) Q E s:=by
 cases ty with
 | non=>cases(show u=Value.none from rx);exact W.kia_one W.kitx_none I.kIn True.intro e (fun z=>nomatch z) h
 | bl y=>cases(show u=Value.bool y from rx);exact W.kia_one W.kitx_bool I.kIn True.intro e (fun z=>nomatch z) h
 | int i=>obtain⟨t,q⟩:=(show ∃t,u=Value.int i t from rx);cases q;exact W.kia_one W.kitx_int I.kIn True.intro e (fun z=>nomatch z) h
 | str y=>obtain⟨t,q⟩:=(show ∃t,u=Value.str y t from rx);cases q;exact W.kia_one W.kitx_str I.kIn True.intro e (fun z=>nomatch z) h
 | flt y=>obtain⟨t,q⟩:=(show ∃t,u=Value.float y t from rx);cases q;exact W.kia_one W.kitx_float I.kIn True.intro e (fun z=>nomatch z) h
 | @lst a xs ea=>
  cases(show u=Value.ref a from rx);obtain⟨_,_,n,_,h1⟩:=(show ObjOk X.prog X.w H s.heap a (.lst xs) from I.hok a _ ea);exact W.kia_one W.kitx_list I.kIn ⟨_,h1,rfl⟩ e (fun z=>nomatch z) h
 | @frz a ob xs ea=>
  cases(show u=Value.ref a from rx);obtain⟨_,_,_,n,_,h1⟩:=(show ObjOk X.prog X.w H s.heap a (.frz ob (.lst xs)) from I.hok a _ ea);exact W.kia_one W.kitx_list I.kIn ⟨_,h1,rfl⟩ e (fun z=>nomatch z) h
 | @tup a xs ea=>
  cases(show u=Value.ref a from rx);obtain⟨_,_,_,p⟩:=(show ObjOk X.prog X.w H s.heap a (.tup xs) from I.hok a _ ea);obtain⟨o,h1,h2,_⟩:=p;exact W.kia_one W.kitx_tuple I.kIn ⟨o,h1,h2⟩ e (fun z=>nomatch z) h
 | @dK a kvs ea=>
  cases(show u=Value.ref a from rx);obtain⟨_,_,vs,_,p⟩:=(show ObjOk X.prog X.w H s.heap a (.dK kvs) from I.hok a _ ea);obtain⟨o,es,ep,h1,h2,_⟩:=p;exact W.kia_one W.kitx_dict I.kIn ⟨o,h1,h2.1⟩ e (fun z=>nomatch z) h
 | @dT a kvs ea=>
  cases(show u=Value.ref a from rx);obtain⟨_,_,xs,_,o,es,ep,h1,h2,_⟩:=(show ObjOk X.prog X.w H s.heap a (.dT kvs) from I.hok a _ ea);exact W.kia_one W.kitx_dict I.kIn ⟨o,h1,h2.1⟩ e (fun z=>nomatch z) h
 | @ins a C dx fs ea cl ha hn htk hm=>
  cases(show u=Value.ref a from rx);obtain⟨mA,O,_⟩:=z9A I.hok ea;obtain⟨od,J,_⟩:=O.look;exact W.kia_one (W.kitx_own (cl.get _) cl.hd ha hn htk hm) I.kIn J e (fun z=>nomatch z) h
end
structure Room(k:Nat)(A:Around):Prop where
 hd:A.handled=none
 dp:A.depth+3*k+5<recursionLimit
 un:A.units+16*k+200<cLine
theorem Room.mono{j k:Nat}{A:Around}(r:Room k A)(h:j<=k):Room j A:=⟨r.hd,by have:=r.dp;omega,by have:=r.un;omega⟩
theorem Room.deeper{k:Nat}{A:Around}(r:Room (k+1) A)(env:Env):Room k (A.deeper env):=
 ⟨r.hd,by have:=r.dp;show A.depth+1+3*k+5<_;omega,by have:=r.un;show A.units+3+16*k+200<_;omega⟩
theorem Room.depth{k:Nat}{A:Around}(r:Room k A):A.depth<recursionLimit:=by have:=r.dp;omega
theorem Room.units{k:Nat}{A:Around}(r:Room k A):A.units+64<cLine:=by have:=r.un;omega
noncomputable def tNil:TA:=fun _ H Q=>Q [] H
noncomputable def ym(ta:TE)(tr:TA):TA:=fun σ H Q=>ta σ H fun x H1=>tr σ H1 fun xs H2=>Q (x::xs) H2
section
variable{X:Cx}{e:Expr}{es:List Expr}{te:TE}{t:TA}{pos:Pos}
theorem pa_nil:PA X [] tNil:=fun _ _ _ _ H Q I h=>Calls.spliced_nil ⟨[],H,I,.nil,h⟩
theorem zI(ha:PE X e te)(hr:PA X es t)(hs:starEach (e::es) X.env=(false,eval e X.env)::starEach es X.env:=by rfl):PA X (e::es) (ym te t):=by
 intro pos pins s σ H Q I h;rw[hs];show wpAny _ _ (spliced ((false,eval e X.env)::backTo pos (starEach es X.env))) _ _ s;refine Calls.spliced_cons (thn (ha pins s σ H _ I h) fun u s1 ⟨x,H1,I1,r1,q1⟩=>?_);exact thn (hr pos pins s1 σ H1 _ I1 q1) fun us s2 ⟨xs,H2,I2,r2,q2⟩=>⟨x::xs,H2,I2,.cons r1 r2,q2⟩
noncomputable def tTup(t:TA):TE:=fun σ H Q=>t σ H fun xs H1=>xs.length<=sizeLine/\∀p,H1 p=none->Q (.ref p) (upd H1 p (.tup xs))
noncomputable def tLst(t:TA):TE:=fun σ H Q=>t σ H fun xs H1=>xs.length<=sizeLine/\∀p,H1 p=none->Q (.ref p) (upd H1 p (.lst xs))
theorem z89{x1}(h:PA X es t):PE X (.Tuple es x1 pos) (tTup t):=by
 intro pins s σ H Q I hq;refine wpAny_Tuple_spliced (thn (h pos pins s σ H _ I hq) fun us s1 ⟨xs,H1,I1,r,z,q⟩=>⟨by rw[<-r.length];exact z,?_⟩);have hf:H1 s1.heap.objs.size=none:=I1.hok.fresh (Nat.le_refl _);refine⟨.ref s1.heap.objs.size,upd H1 s1.heap.objs.size (.tup xs),I1.laid (t':=s1.toks) (fun b u e=>Heap.get?_push_of_some _ e) (Nat.le_refl _) ?_,rfl,q _ hf⟩;exact⟨⟨z,_,Heap.get?_push_size _ rfl,rfl⟩,us,r,⟨_,Heap.get?_push_size _ rfl,rfl,_,rfl⟩⟩
theorem z1f(h:PA X es t):PE X (.List es pos) (tLst t):=by
 intro pins s σ H Q I hq;refine wpAny_List_spliced (thn (h pos pins s σ H _ I hq) fun us s1 ⟨xs,H1,I1,r,z,q⟩=>⟨by rw[<-r.length];exact z,?_⟩);have hf:H1 s1.heap.objs.size=none:=I1.hok.fresh (Nat.le_refl _);refine⟨.ref s1.heap.objs.size,upd H1 s1.heap.objs.size (.lst xs),I1.laid (t':=s1.toks) (fun b u e=>Heap.get?_push_of_some _ e) (Nat.le_refl _) ?_,rfl,q _ hf⟩;exact⟨z,us,0,r,Heap.get?_push_size _ rfl⟩
end
noncomputable abbrev Sp:=List V->Hp->VK->XK->Prop
noncomputable abbrev CXT:=List Env->Hp->Shared->XK->Value->Shared->Prop
structure Env0(P:Program)(w:World)(K:W.Frag)(mg:Str->Option Value)(base:Heap)(A:Around)(outer:List Env)(s:Shared)(H:Hp):Prop where
 frames:A.frames=some outer
 mod:Mod K mg base
 bs:∀b o,base.get? b=some o->s.heap.get? b=some o/\H b=none
 bsz:base.objs.size<=s.heap.objs.size
 funs:s.heap.FunFrames base outer
 frf:∀b∈frs outer,H b=none
 hok:HOk P w H s.heap
 bare:AllBare s.gens
def CE(outer:List Env)(P:Program)(w:World)(H:Hp)(s:Shared)(Q:VK)(u:Value)(s':Shared):Prop:=
 ∃v H',s'.os=s.os/\AllBare s'.gens/\Un (frs outer) [] H H' s.heap s'.heap/\HOk P w H' s'.heap/\RelV v u/\Q v H'
def CR(CX:CXT)(outer:List Env)(P:Program)(w:World)(H:Hp)(s:Shared)(Q:VK)(E:XK)(r:Result)(s':Shared):Prop:=
 match r with
 | .ok (.ret u)=>CE outer P w H s Q u s'
 | .ok _=>False
 | .error e=>CX outer H s E e s'
structure FnOk(P:Program)(w:World)(K:W.Frag)(mg:Str->Option Value)(base:Heap)(CX:CXT)(k:Nat)(f:Addr)(fd:FuncData)(ps:List Str)(sp:Sp):Prop where
 len:∀vs H Q E,sp vs H Q E->vs.length=ps.length
 run:∀(A:Around) (outer:List Env) (s:Shared) (H:Hp) (args:Args) (us:List Value) (vs:List V) (Q:VK) (E:XK),Room k A->Env0 P w K mg base A outer s H->BindsTo s fd args (ps.zip us)->Vals vs us->sp vs H Q E->
  codeAny (model P w) A (.call (.ref f) args) (CR CX outer P w H s Q E) s
section
variable{X:Cx}{pins:List (Addr×Obj)}{σ:St}{H:Hp}{s s':Shared}
theorem Inv.env0(I:Inv X pins σ H s):Env0 X.prog X.w X.K X.mg X.base X.A X.stack s H:=
 ⟨I.ok.frames,I.ok.mod,I.bs,Nat.le_trans I.ok.bsz I.sz,I.stack,I.stkFree,I.hok,I.bare⟩
theorem Inv.after{Q:VK}{u:Value}(I:Inv X pins σ H s)(h:CE X.stack X.prog X.w H s Q u s'):EP X pins σ Q u s':=by
 obtain⟨v,H',os,bare,un,hok,r,q⟩:=h;obtain⟨hh,g,d,t,os'⟩:=s';obtain rfl:os'=s.os:=os;exact⟨v,H',I.call (h':=hh) (g':=g) (d':=d) (t':=t) (ch:=[]) un hok bare (fun b z=>absurd z (by simp)),r,q⟩
end
noncomputable def zAx(sp:Sp)(dvs:List V)(E:XK)(t:TA):TE:=fun σ H Q=>t σ H fun vs H1=>sp (vs++dvs) H1 Q E
def Binds(K:W.Frag)(fd:FuncData)(ps:List Str)(ds:List Value):Prop:=
 ∀(s:Shared) (us:List Value),K.In s.heap->(us++ds).length=ps.length->BindsTo s fd ⟨us,[]⟩ (ps.zip (us++ds))
theorem Binds.all{K:W.Frag}{fd:FuncData}{ps:List Str}(h:∀us:List Value,us.length=ps.length->bindArgs fd ⟨us,[]⟩=pure (ps.zip us)):Binds K fd ps []:=fun s us _ hl=>by
 rw[List.append_nil]at hl |-;exact .of_eq (h us hl)
def ua(CX:CXT)(X:Cx)(E:XK):Prop:=∀(pins:List (Addr×Obj)) (σ:St) (H:Hp) (s:Shared) (e:Value) (s':Shared),Inv X pins σ H s->CX X.stack H s E e s'->X.xe e s'
section
variable{X:Cx}{CX:CXT}{k:Nat}{f C:Addr}{fd:FuncData}{ps:List Str}{sp:Sp}{dvs:List V}{ds:List Value}{E:XK}{x m:Str}{p pos apos:Pos}{e o:Expr}{es:List Expr}{ta:TE}{t:TA}
theorem z7w{pins:List (Addr×Obj)}{σ:St}{H:Hp}{s:Shared}{Q:VK}{us:List Value}{vs:List V}(F:FnOk X.prog X.w X.K X.mg X.base CX k f fd ps sp)(hr:Room k X.A)(hb:Binds X.K fd ps ds)(hd:Vals dvs ds)(hx:ua CX X E)
  (I:Inv X pins σ H s) (r:Vals vs us) (h:sp (vs++dvs) H Q E):wpAny (model X.prog X.w) X.A (call (.ref f) us) (EP X pins σ Q) X.xe s:=by
 have r2:Vals (vs++dvs) (us++ds):=r.append hd;have hl:(us++ds).length=ps.length:=by rw[<-r2.length];exact F.len _ _ _ _ h
 refine wpAny_call (codeAny_mono (F.run X.A X.stack s H ⟨us,[]⟩ (us++ds) (vs++dvs) Q E hr I.env0 (hb s us I.kIn hl) r2 h) fun r s' hq=>?_);cases r with
 | error e=>exact hx pins σ H s e s' I hq
 | ok fl=>
  cases fl with
  | ret u=>exact I.after hq
  | next=>exact False.elim hq
  | brk=>exact False.elim hq
  | cont=>exact False.elim hq
theorem z4C(F:FnOk X.prog X.w X.K X.mg X.base CX k f fd ps sp)(hr:Room k X.A)(hg:Gl X x)(hm:X.mg x=some (.ref f))(hk:W.keepIn X.K (.ref f)=true)(hb:Binds X.K fd ps ds)(hd:Vals dvs ds)(hx:ua CX X E)
  (ha:PA X (e::es) t) (hdb:(x == ("__debug__":Str))=false:=by decide) (he:starEach (e::es) X.env=(false,eval e X.env)::starEach es X.env:=by rfl) (hpl:(backTo pos (starEach es X.env)).any (·.1)=false:=by rfl) :
  PE X (.Call (.Name x p) (e::es) [] pos) (zAx sp dvs E t):=by
 intro pins s σ H Q I h;refine wpAny_Call_Name_kw (z4A I hg hm ?_ hdb);refine W.callWith_K (h₀:=X.base) I.ok.mod.kin hk (thn (ha pos pins s σ H _ I h) fun us s1 ⟨vs,H1,I1,r,q⟩=>⟨I1.kIn,?_⟩) he hpl;exact z7w F hr hb hd hx I1 r q
end
def PK(X:Cx)(kws:List Keyword)(t:TA):Prop:=
 ∀(pos:Pos) (pins:List (Addr×Obj)) (s:Shared) (σ:St) (H:Hp) (Q:List V->Hp->Prop),Inv X pins σ H s->t σ H Q->wpAny (model X.prog X.w) X.A (evalAll ((backToKw pos (keywordEach kws X.env)).map (·.2))) (AP X pins σ Q) X.xe s
section
variable{X:Cx}{CX:CXT}{k:Nat}{f C:Addr}{fd:FuncData}{ps ks:List Str}{sp:Sp}{E:XK}{x m:Str}{p pos apos kpos:Pos}{e o:Expr}{es:List Expr}{kws:List Keyword}{te ta:TE}{t tk:TA}{nm:Option Str}
theorem zBA:PK X [] tNil:=fun _ _ _ _ H Q I h=>wpAny_evalAll_nil ⟨[],H,I,.nil,h⟩
theorem z90(ha:PE X e te)(hr:PK X kws t):PK X (⟨nm,e,kpos⟩::kws) (ym te t):=by
 intro pos pins s σ H Q I h;show wpAny _ _ (evalAll ((do let v<-eval e X.env;standAt pos;pure v)::(backToKw pos (keywordEach kws X.env)).map (·.2))) _ _ s;refine wpAny_evalAll_cons (wpAny_bind (thn (ha pins s σ H _ I h) fun u s1 ⟨x,H1,I1,r1,q1⟩=>wpAny_bind (wpAny_standAt (wpAny_pure ?_))));exact thn (hr pos pins s1 σ H1 _ I1 q1) fun us s2 ⟨xs,H2,I2,r2,q2⟩=>⟨x::xs,H2,I2,.cons r1 r2,q2⟩
variable{g:List Value->List Value->List Value}{gV:List V->List V->List V}
end
structure FnScope(N P:List Str)(sc:Scope):Prop where
 kind:sc.kind=.function
 co:sc.isCoroutine=false
 gen:sc.isGenerator=false
 nd:N.Nodup
 pre:N.take P.length=P
 par:∀x∈P,sc.names.lookup x=some .local\/sc.names.lookup x=some .cell
 nofree:∀y∈sc.names,y.2≠.free
theorem z1M{kindOf:Str->Option NameKind}{x:Str}:∀{binds:List (Str×Value)} {m:Str->Option Value},(∀v,(x,v)∉binds)->bindL kindOf binds m x=m x
 | [],_,_=>rfl
 | (n,v)::r,m,h=>by
  unfold bindL;rw[z1M fun w hw=>h w (List.mem_cons_of_mem _ hw)];split
  ·have:x≠n:=by rintro rfl;exact h v List.mem_cons_self
   simp[this]
  ·rfl
theorem z1I{kindOf:Str->Option NameKind}{x:Str}:∀{binds:List (Str×Value)} {m:Str->Option Value},(∀v,(x,v)∉binds)->bindC kindOf binds m x=m x
 | [],_,_=>rfl
 | (n,v)::r,m,h=>by
  unfold bindC;rw[z1I fun w hw=>h w (List.mem_cons_of_mem _ hw)];split
  ·rfl
  ·have:x≠n:=by rintro rfl;exact h v List.mem_cons_self
   simp[this]
theorem z11{kindOf:Str->Option NameKind}{x:Str}{v:Value}:∀{P:List Str} {vs:List Value} {i:Nat} {m:Str->Option Value},P.Nodup->P[i]?=some x->vs[i]?=some v->kindOf x=some .local->
  bindL kindOf (P.zip vs) m x=some v
 | [],_,_,_,_,h,_,_=>by simp at h
 | _::_,[],_,_,_,_,h,_=>by simp at h
 | p::P,w::vs,0,m,nd,h1,h2,hk=>by
  simp at h1 h2;subst h1;subst h2;show bindL kindOf ((p,w)::P.zip vs) m p=_;unfold bindL;rw[z1M fun v hv=>(List.nodup_cons.mp nd).1 (List.of_mem_zip hv).1,if_pos hk];simp
 | p::P,w::vs,i+1,m,nd,h1,h2,hk=>by
  show bindL kindOf ((p,w)::P.zip vs) m x=_;unfold bindL;exact z11 (i:=i) (List.nodup_cons.mp nd).2 (by simpa using h1) (by simpa using h2) hk
theorem z15{kindOf:Str->Option NameKind}{x:Str}{v:Value}:∀{P:List Str} {vs:List Value} {i:Nat} {m:Str->Option Value},P.Nodup->P[i]?=some x->vs[i]?=some v->kindOf x≠some .local->
  bindC kindOf (P.zip vs) m x=some v
 | [],_,_,_,_,h,_,_=>by simp at h
 | _::_,[],_,_,_,_,h,_=>by simp at h
 | p::P,w::vs,0,m,nd,h1,h2,hk=>by
  simp at h1 h2;subst h1;subst h2;show bindC kindOf ((p,w)::P.zip vs) m p=_;unfold bindC;rw[z1I fun v hv=>(List.nodup_cons.mp nd).1 (List.of_mem_zip hv).1,if_neg hk];simp
 | p::P,w::vs,i+1,m,nd,h1,h2,hk=>by
  show bindC kindOf ((p,w)::P.zip vs) m x=_;unfold bindC;exact z15 (i:=i) (List.nodup_cons.mp nd).2 (by simpa using h1) (by simpa using h2) hk
noncomputable def start(N:List Str)(vs:List V):St:=vs.map some++List.replicate (N.length - vs.length) none
noncomputable def cxOf(CX:CXT)(P:Program)(w:World)(K:W.Frag)(mg:Str->Option Value)(base:Heap)(N:List Str)(qual:Str)(scope:Scope)(f:Addr)(cd:Value)(A:Around)(outer:List Env)(s:Shared)(H:Hp)(E:XK):Cx where
 prog:=P
 w:=w
 K:=K
 mg:=mg
 base:=base
 A:=A.deeper (envOfC qual scope s.heap.objs.size f cd)
 N:=N
 s₀:=s
 H₀:=H
 env:=envOfC qual scope s.heap.objs.size f cd
 outer:=outer
 stack:=envOfC qual scope s.heap.objs.size f cd::outer
 ex:=[]
 calm:=true
 fn:=fun _=>true
 pn:=[]
 xe:=fun e s'=>wpAny (model P w) (A.deeper (envOfC qual scope s.heap.objs.size f cd)) (leaving (envOfC qual scope s.heap.objs.size f cd) e) (fun _ s''=>CX outer H s E e s'') (fun e' s''=>CX outer H s E e' s'') s'
theorem z3D{sc:Scope}{n:Nat}{x:Str}(h:sc.names.lookup x=some .cell):∃c,(cellsFrom n sc.names []).lookup x=some c:=by
 have q:=W.cellsFrom_some sc.names n [] (.inl h);exact Option.isSome_iff_exists.mp q
theorem z5n{CX:CXT}{P:Program}{w:World}{K:W.Frag}{mg:Str->Option Value}{base:Heap}{N ps:List Str}{qual:Str}{scope:Scope}{f:Addr}{cd:Value}{A:Around}{outer:List Env}{s s1:Shared}{H:Hp}{E:XK}{us:List Value}{vs:List V}
  (S:FnScope N ps scope) (hd:A.handled=none) (e0:Env0 P w K mg base A outer s H) (hl:vs.length=ps.length) (r:Vals vs us)
  (x:InCallC s s.heap.objs.size (bindL (envOfC qual scope s.heap.objs.size f cd).kindOf (ps.zip us) fun _=>none) (cellsFrom (s.heap.objs.size+1) scope.names []) (bindC (envOfC qual scope s.heap.objs.size f cd).kindOf (ps.zip us) fun _=>none) s1) :
  Inv (cxOf CX P w K mg base N qual scope f cd A outer s H E) [] (start N vs) H s1:=by
 have hpl:ps.length<=N.length:=by have:=congrArg List.length S.pre;rw[List.length_take]at this;omega
 obtain⟨h1,tk,rfl,hk⟩:=x.done;have noA:∀b:Addr,b∉(cxOf CX P w K mg base N qual scope f cd A outer s H E).ex:=fun b z=>absurd (show b∈([]:List Addr) from z) (by simp);refine⟨⟨e0.mod,S.kind,rfl,rfl,Nat.le_refl _,fun y z c h1 h2=>?_,fun y hy=>?_,fun y c _ h=>?_,fun _=>hd,Around.frames_deeper e0.frames,.inr ⟨rfl,rfl⟩,fun b z=>absurd z (noA b),e0.bs,e0.bsz,fun b _ _=>noA b,fun b z=>absurd z (noA b),e0.funs,e0.frf⟩,
  rfl,e0.bare,Un.kept hk,⟨_,x.toInCall.ns,fun i y v h1 h2 h3=>?_⟩,fun y c h=>⟨_,x.cell y c h⟩,e0.hok.fresh (Nat.le_refl _),fun y c h=>?_,fun p hp=>absurd (show p∈([]:List (Addr×Obj)) from hp) (by simp),e0.hok.kept hk,?_⟩
 ·exact name_of_addr x.apart (PySem.mem_of_lookup h1) (PySem.mem_of_lookup h2)
 ·have hy:scope.names.lookup y=some .cell\/scope.names.lookup y=some .free:=hy;rcases hy with hy | hy
  ·exact z3D hy
  ·exact absurd rfl (S.nofree _ (PySem.mem_of_lookup hy))
 ·exact Nat.le_of_lt (x.above y c (PySem.mem_of_lookup h))
 ·have hi:i<vs.length:=by
   unfold start at h2;by_cases hi:i<vs.length
   ·exact hi
   ·rw[List.getElem?_append_right (by simpa using hi)]at h2;rw[List.getElem?_replicate]at h2;split at h2<;>cases h2
  have ha:vs[i]?=some v:=by
   unfold start at h2;rw[List.getElem?_append_left (by simpa using hi),List.getElem?_map]at h2;cases e:vs[i]? with
   | none=>rw[e]at h2;cases h2
   | some a=>rw[e]at h2;cases h2;rfl
  obtain⟨u,hu,rv⟩:=r.get ha;have hp:ps[i]?=some y:=by
   rw[<-S.pre,List.getElem?_take_of_lt (by omega)];exact h1
  have ndP:ps.Nodup:=by rw[<-S.pre];exact S.nd.sublist (List.take_sublist _ _)
  refine⟨u,rv,?_⟩;rcases S.par y (List.mem_of_getElem? hp)with k | k
  ·exact .inl ⟨k,z11 ndP hp hu k⟩
  ·obtain⟨c,e⟩:=z3D (n:=s.heap.objs.size+1) k;refine .inr ⟨.inl k,c,e,?_⟩;have q:=x.cell y c e;rw[z15 ndP hp hu (by show scope.names.lookup y≠_;rw[k];decide)]at q;exact q
 ·exact e0.hok.fresh (Nat.le_of_lt (x.above y c (PySem.mem_of_lookup h)))
 ·unfold start;show _=N.length;rw[List.length_append,List.length_map,List.length_replicate];omega
theorem zBl{CX:CXT}{P:Program}{w:World}{K:W.Frag}{mg:Str->Option Value}{base:Heap}{k:Nat}{f:Addr}{name qual:Str}{params:Arguments}{body:List Stmt}{scope:Scope}{dV kV doc pm cdv ct oc:Value}{an od:Option Addr}
  {osl:Array (Option Value)} {N ps:List Str} {sp:Sp} (lk:K.lookup f=some ⟨oc,od,.func (W.fnOf name qual params body scope dV kV doc pm an cdv ct),osl⟩) (hcd:W.codeIn K cdv qual=true) (S:FnScope N ps scope)
  (len:∀vs H Q E,sp vs H Q E->vs.length=ps.length)
  (hbody:∀(A:Around) (outer:List Env) (s:Shared) (H:Hp) (vs:List V) (Q:VK) (E:XK),Room k (A.deeper (envOfC qual scope s.heap.objs.size f cdv))->sp vs H Q E->
   ∃t,PSs (cxOf CX P w K mg base N qual scope f cdv A outer s H E) body t/\t { nx:=fun _ H'=>Q .non H',rt:=Q } (start N vs) H) :
  FnOk P w K mg base CX (k+1) f (W.fnOf name qual params body scope dV kV doc pm an cdv ct) ps sp:=by
 refine⟨len,fun A outer s H args us vs Q E hr e0 hb r hsp=>?_⟩;have hl:=len _ _ _ _ hsp;have KX:K.In s.heap:=e0.mod.kin.keeps fun b o e=>(e0.bs b o e).1;have lim:s.heap.NoLimit:=e0.mod.nolimit.keeps fun b o e=>(e0.bs b o e).1;have hkind:∀y∈ps.zip us,scope.names.lookup y.1=some .local\/(scope.names.lookup y.1=some .cell/\((cellsFrom (s.heap.objs.size+1) scope.names []).lookup y.1).isSome=true):=fun⟨n,v⟩ hy=>by
  rcases S.par n (List.of_mem_zip hy).1 with q | q
  ·exact .inl q
  ·exact .inr ⟨q,W.cellsFrom_some _ _ _ (.inl q)⟩
 refine codeAny_call_function hr.depth (KX _ _ lk) rfl S.co S.gen rfl (W.codeRec_of KX hcd) (hb _ _ _ _ ?_);refine wpAny_newFunctionEnv_cells S.kind hkind fun env he s1 x=>?_;subst he;refine⟨lim.keeps x.toInCall.keep,codeAny_func ?_⟩;obtain⟨t,ht,hq⟩:=hbody A outer s H vs Q E (hr.deeper _) hsp;have I:Inv (cxOf CX P w K mg base N qual scope f cdv A outer s H E) [] (start N vs) H s1:=z5n S hr.hd e0 hl r x;refine wpAny_mono (ht [] s1 (start N vs) H _ I hq) (fun fl s' hs=>?_) fun e s' hs=>hs;have fin:∀{σ':St} {H':Hp} {v:V} {u:Value},Inv (cxOf CX P w K mg base N qual scope f cdv A outer s H E) [] σ' H' s'->RelV v u->Q v H'->CE outer P w H s Q u s':=
  fun{σ' H' v u} J rv q=>⟨v,H',J.os,J.bare,J.base,J.hok,rv,q⟩
 cases fl with
 | ret u=>
  obtain⟨v,σ',H',J,rv,q⟩:=hs;exact fin J rv q
 | next=>
  obtain⟨σ',H',J,q⟩:=hs;exact fin (v:=V.non) (u:=Value.none) J rfl q
 | brk=>
  obtain⟨_,_,_,q⟩:=hs;exact False.elim q
 | cont=>
  obtain⟨_,_,_,q⟩:=hs;exact False.elim q
section
variable{X:Cx}{x:Str}{p pos:Pos}{e:Expr}{es:List Expr}{t:TA}{id T:String}{r:List V->Hp->VK->Prop}
noncomputable def tCB(r:List V->Hp->VK->Prop)(t:TA):TE:=fun σ H Q=>t σ H fun vs H1=>r vs H1 Q
theorem yK(hc:CallR X (.builtin id) r)(hg:Gl X x)(hm:X.mg x=none)(hv:bootBuiltins x=some (.builtin id))(ha:PA X (e::es) t)(hn:x≠"__name__":=by decide)(hdb:(x == ("__debug__":Str))=false:=by decide)
  (he:starEach (e::es) X.env=(false,eval e X.env)::starEach es X.env:=by rfl) (hpl:(backTo pos (starEach es X.env)).any (·.1)=false:=by rfl):PE X (.Call (.Name x p) (e::es) [] pos) (tCB r t):=by
 intro pins s σ H Q I h;refine wpAny_Call_Name_kw (wb I hg hm hv ?_ hn hdb);exact PyProof.Rows.callWith_builtin1 (thn (ha pos pins s σ H _ I h) fun us s1 ⟨vs,H1,I1,r1,q1⟩=>hc pins s1 σ H1 vs us Q I1 r1 q1) he hpl
theorem zz(hc:CallR X (.type T) r)(hg:Gl X x)(hm:X.mg x=none)(hv:bootBuiltins x=some (.type T))(ha:PA X (e::es) t)(hn:x≠"__name__":=by decide)(hdb:(x == ("__debug__":Str))=false:=by decide)
  (he:starEach (e::es) X.env=(false,eval e X.env)::starEach es X.env:=by rfl) (hpl:(backTo pos (starEach es X.env)).any (·.1)=false:=by rfl):PE X (.Call (.Name x p) (e::es) [] pos) (tCB r t):=by
 intro pins s σ H Q I h;refine wpAny_Call_Name_kw (wb I hg hm hv ?_ hn hdb);exact PyProof.Rows.callWith_type1 (thn (ha pos pins s σ H _ I h) fun us s1 ⟨vs,H1,I1,r1,q1⟩=>hc pins s1 σ H1 vs us Q I1 r1 q1) he hpl
end
end L2
namespace HT
open PySem PyProof.Rows
noncomputable def lexLt:List Int->List Int->Bool
 | [],[]=>false
 | [],_::_=>true
 | _::_,[]=>false
 | x::xs,y::ys=>if x=y then lexLt xs ys else decide (x<y)
theorem lexLt_cons(x y:Int)(xs ys:List Int):lexLt (x::xs) (y::ys)=if x=y then lexLt xs ys else decide (x<y):=rfl
theorem lexLt_nil_nil:lexLt [] []=false:=rfl
theorem ui(y:Int)(ys:List Int):lexLt [] (y::ys)=true:=rfl
theorem ue(x:Int)(xs:List Int):lexLt (x::xs) []=false:=rfl
theorem z6I(A:Around)(s:Shared)(a:Int)(t:Tok)(c:Int)(u:Tok):∃e,SeqAt.EqAt A s (.int a t) (.int c u) e/\(e=true↔a=c):=
 ⟨(a == c),SeqAt.EqAt.int_int a t c u,by simp⟩
theorem rcLt_int(A:Around)(s:Shared)(a:Int)(t:Tok)(c:Int)(u:Tok)(prog:Program)(w:World)(E:Value->Shared->Prop)(Q:Value->Shared->Prop)(h:Q (.bool (decide (a<c))) s):
  wpAny (model prog w) A (richCompare .Lt (.int a t) (.int c u)) Q E s:=
 (PyProof.Rows.lt_int h:wpAny (model prog w) A (compareOp .Lt (.int a t) (.int c u)) Q E s)
section
open PySem.SeqAt
open PySem.AutoSeq1 (wpAny_loadPart')
open PySem.MeetsSeq PySem.MeetsSeq2 PySem.MeetsSeq3
theorem z0T(l b:Addr)(items items2:Array Value)(n n2:Nat)(dd dd2:Option Addr)(sl sl2:Array (Option Value))(ns ms:List Int)(hi:IntsAre items.toList ns)(hj:IntsAre items2.toList ms):
  Meets (Builtin.«tuple.__lt__» ⟨[.ref l,.ref b],[]⟩)
   (fun _ R s=>s.heap.get? l=some { cls:=.type "tuple",dict:=dd,data:=.seq items n,slots:=sl }/\s.heap.get? b=some { cls:=.type "tuple",dict:=dd2,data:=.seq items2 n2,slots:=sl2 }/\
    R (.ok (.ret (.bool (lexLt ns ms)))) s):=
 .of_wp fun prog w A R s h=>by
  obtain⟨hp,g,d,tk,os⟩:=s;obtain⟨hl,hb,h⟩:=h;have f2:=AutoSeq1.sub_tuple_tuple;have z1:items.size=ns.length:=by rw[<-hi.length];simp
  have z2:items2.size=ms.length:=by rw[<-hj.length];simp
  wp_walk using wpAny_loadPart' hl,wpAny_loadPart' hb,wpAny_forIn_list _ (fun rest b s'=>b.1=none/\s'=⟨hp,g,d,tk,os⟩/\∃(vs ws:List Value) (ns' ms':List Int),rest=vs.zip ws/\
   IntsAre vs ns'/\IntsAre ws ms'/\ns'.length+items2.size=ms'.length+items.size/\R (.ok (.ret (.bool (lexLt ns' ms')))) ⟨hp,g,d,tk,os⟩) _
  case turn=>
   rintro⟨y,x⟩ rest b s' ⟨hb',rfl,vs,ws,ns',ms',hz,hvi,hwi,hlen,hR⟩;cases hvi with
   | nil=>rw[List.zip_nil_left]at hz;cases hz
   | cons a t hvi'=>
    cases hwi with
    | nil=>rw[List.zip_nil_right]at hz;cases hz
    | cons c u hwi'=>
     rw[List.zip_cons_cons]at hz;injection hz with hyx hrest
     injection hyx with hy hx
     subst hy hx;rw[lexLt_cons]at hR;simp only[List.length_cons]at hlen;obtain⟨e,he,hiff⟩:=z6I A.in1 ⟨hp,g,d,tk,os⟩ a t c u;refine wpAny_bind (he prog w _ _ ?_);cases e with
     | true=>
      rw[if_pos (hiff.mp rfl)]at hR
      wp_walk
      exact⟨rfl,rfl,_,_,_,_,hrest,hvi',hwi',by omega,hR⟩
     | false=>
      rw[if_neg (fun q=>absurd (hiff.mpr q) Bool.false_ne_true)]at hR;have hri:=rcLt_int A.in1 ⟨hp,g,d,tk,os⟩ a t c u prog w
      wp_walk using hri
      exact⟨_,rfl,by simpa using hR⟩
  case fin=>
   rintro⟨b1,b2⟩ s' ⟨hb',rfl,vs,ws,ns',ms',hz,hvi,hwi,hlen,hR⟩;simp only at hb';subst hb';have hv:lexLt ns' ms'=decide (items.size<items2.size):=by
    cases hvi with
    | nil=>
     cases hwi with
     | nil=>
      simp only[List.length_nil]at hlen;rw[lexLt_nil_nil];exact(decide_eq_false (by omega)).symm
     | cons c u hw=>
      simp only[List.length_nil,List.length_cons]at hlen;rw[ui];exact(decide_eq_true (by omega)).symm
    | cons a t hv=>
     cases hwi with
     | nil=>
      simp only[List.length_nil,List.length_cons]at hlen;rw[ue];exact(decide_eq_false (by omega)).symm
     | cons c u hw=>
      rw[List.zip_cons_cons]at hz;cases hz
   rw[hv]at hR
   wp_walk
   exact⟨_,rfl,by simpa[Builtin.Tuple.tupleCompareSizes]using hR⟩
  case h=>
   exact⟨rfl,rfl,items.toList,items2.toList,ns,ms,rfl,hi,hj,by omega,h⟩
end
section
variable{prog:Program}{w:World}{A:Around}{E:Value->Shared->Prop}{s:Shared}
theorem lt_tupInts{l b:Addr}{items items2:Array Value}{ns ms:List Int}{Q:Value->Shared->Prop}(hl:IsTup s.heap l items)(hb:IsTup s.heap b items2)(hi:IntsAre items.toList ns)(hj:IntsAre items2.toList ms)
  (hu:A.units<cLine) (h:Q (.bool (lexLt ns ms)) s):wpAny (model prog w) A (compareOp .Lt (.ref l) (.ref b)) Q E s:=by
 obtain⟨⟨cls,dd,data,sl⟩,ho,hc,n,hd⟩:=id hl;obtain⟨⟨cls2,dd2,data2,sl2⟩,ho2,hc2,n2,hd2⟩:=id hb;simp only at hc hd hc2 hd2;subst hc hd hc2 hd2;exact richCompare_meets_room (op:=.Lt) ⟨_,ho,rfl⟩ ⟨_,ho2,rfl⟩ PySem.F.slot_tuple_lt PySem.F.entry_tuple_lt (PySem.F.args_tuple_lt_2 _ _) (z0T l b items items2 n n2 dd dd2 sl sl2 ns ms hi hj)
  ⟨ho,ho2,show Value.bool (lexLt ns ms)≠Value.notImplemented/\Q (.bool (lexLt ns ms)) s from⟨(fun x=>nomatch x),h⟩⟩ hu
theorem cat_tup{t b:Addr}{vs ws:List Value}{Q:Value->Shared->Prop}(ht:IsTup s.heap t vs.toArray)(hb:IsTup s.heap b ws.toArray)(hv:vs≠[])
  (h1:ws=[]->Q (.ref t) s) (h2:ws≠[]->Q (.ref s.heap.objs.size) { s with heap:=s.heap.push { cls:=.type "tuple",data:=.seq (vs++ws).toArray } })
  (hsz:vs.length+ws.length<=sizeLine):wpAny (model prog w) A (binaryOp .Add (.ref t) (.ref b)) Q E s:=by
 obtain⟨⟨cls,dd,data,sl⟩,ho,hc,n,hd⟩:=id ht;obtain⟨⟨cls2,dd2,data2,sl2⟩,ho2,hc2,n2,hd2⟩:=id hb;simp only at hc hd hc2 hd2;subst hc hd hc2 hd2;have e:vs.toArray++ws.toArray=(vs++ws).toArray:=by simp
 by_cases hw:ws=[]
 ·exact concat_meets ⟨_,ho,rfl⟩ ⟨_,ho2,rfl⟩ noFill_tuple_add seq_tuple_add PySem.F.slot_tuple_add PySem.F.entry_tuple_add (PySem.F.args_tuple_add_2 _ _)
   (tuple_addW1 t b vs.toArray ws.toArray n n2 dd dd2 sl sl2 (by simpa using hv) (by simp[hw])) ⟨ho,ho2,h1 hw⟩
 ·refine concat_meets ⟨_,ho,rfl⟩ ⟨_,ho2,rfl⟩ noFill_tuple_add seq_tuple_add PySem.F.slot_tuple_add PySem.F.entry_tuple_add (PySem.F.args_tuple_add_2 _ _)
   (tuple_addW2 t b vs.toArray ws.toArray n n2 dd dd2 sl sl2 (by simpa using hv) (by simpa using hw) (by rw[List.size_toArray,List.size_toArray];exact hsz)) ⟨ho,ho2,?_⟩
  rw[e];exact h2 hw
noncomputable def sIx(n d:Nat):Option Int->Nat
 | none=>d
 | some v=>if v<0 then(v+(n:Int)).toNat else min v.toNat n
theorem zB7(n d:Nat)(hd:d<=n)(o:Option Int):sIx n d o<=n:=by
 cases o with
 | none=>exact hd
 | some v=>
  show(if v<0 then(v+(n:Int)).toNat else min v.toNat n)<=n;by_cases hv:v<0
  ·rw[if_pos hv];omega
  ·rw[if_neg hv];exact Nat.min_le_right _ _
theorem z5M(v:Int)(n d:Nat):(if v<0 then max (v+(n:Int)) 0 else min v (n:Int))=((sIx n d (some v):Nat):Int):=by
 show(if v<0 then max (v+(n:Int)) 0 else min v (n:Int))=(((if v<0 then(v+(n:Int)).toNat else min v.toNat n):Nat):Int);by_cases hv:v<0
 ·simp only[if_pos hv];omega
 ·simp only[if_neg hv];omega
theorem z3K(lo hi:Option Int)(n:Nat):Builtin.Slice.sliceAdjust lo hi 1 (n:Int)=(((sIx n 0 lo:Nat):Int),((sIx n n hi:Nat):Int)):=by
 have h1:¬((1:Int)<0):=by omega
 unfold Builtin.Slice.sliceAdjust;simp only[h1,if_false];refine Prod.ext ?_ ?_
 ·cases lo with
  | none=>rfl
  | some v=>exact z5M v n 0
 ·cases hi with
  | none=>rfl
  | some v=>exact z5M v n n
theorem z3S(i j:Nat):Builtin.Slice.slicePlaces (i:Int) (j:Int) 1=j - i:=by
 unfold Builtin.Slice.slicePlaces;have h1:(1:Int)>0:=by omega
 simp only[h1,if_true,Int.ediv_one];split<;>omega
theorem uo{v:Value}{o:Option Int}{Q:Option Int->Shared->Prop}(p:IsPart v o)(h:Q o s):wpAny (model prog w) A (Builtin.Slice.slicePartIndex v) Q E s:=by
 cases p with
 | none=>exact slicePart_none h
 | int i t=>exact slicePart_int h
theorem sliceApplied_gen{sl:Addr}{vl vu:Value}{lo hi:Option Int}{n:Nat}{Q:Int×Int×Nat->Shared->Prop}(hs:s.heap.IsSliceOf sl vl vu .none)(pl:IsPart vl lo)(pu:IsPart vu hi)
  (h:Q (((sIx n 0 lo:Nat):Int),1,sIx n n hi - sIx n 0 lo) s):wpAny (model prog w) A (Builtin.Slice.sliceApplied (.ref sl) (pure (n:Int))) Q E s:=by
 obtain⟨os,hos,hcs,hds⟩:=id hs;unfold Builtin.Slice.sliceApplied Builtin.Slice.sliceFields;refine wpAny_bind (wpAny_bind (wpAny_field hos hds (x:=vl) rfl (wpAny_bind (wpAny_field hos hds (x:=vu) rfl (wpAny_bind (wpAny_field hos hds (x:=.none) rfl (wpAny_pure ?_)))))));refine wpAny_bind (slicePart_none ?_);show wpAny _ _ (if ((1:Int) == 0)=true then _ else _) _ _ s;rw[if_neg (by decide)];refine wpAny_bind (uo pl (wpAny_bind (uo pu (wpAny_bind (wpAny_pure ?_)))));show wpAny _ _ (match Builtin.Slice.sliceAdjust lo hi 1 (n:Int)with | (lo,hi)=>pure (lo,(1:Int),Builtin.Slice.slicePlaces lo hi 1)) _ _ s;rw[z3K lo hi n];show wpAny _ _ (pure (((sIx n 0 lo:Nat):Int),(1:Int),Builtin.Slice.slicePlaces ((sIx n 0 lo:Nat):Int) ((sIx n n hi:Nat):Int) 1)) _ _ s;rw[z3S];exact wpAny_pure h
theorem z6h(xs:Array Value)(i k:Nat):((List.range k).filterMap fun(m:Nat)=>xs[((i:Int)+(m:Int)*1).toNat]?).toArray=((xs.toList.drop i).take k).toArray:=by
 have e:(fun(m:Nat)=>xs[((i:Int)+(m:Int)*1).toNat]?)=fun m=>xs[i+m]?:=by
  funext m
  have:((i:Int)+(m:Int)*1).toNat=i+m:=by omega
  rw[this]
 rw[e]
 have:=pick_run xs i k;rw[List.filterMap_map]at this;have e2:((fun x=>xs[x]?)∘fun x=>i+x)=fun m=>xs[i+m]?:=rfl;rw[e2]at this;rw[this]
theorem getItem_tuple_cut{t sl:Addr}{items:Array Value}{vl vu:Value}{lo hi:Option Int}{Q:Value->Shared->Prop}(ht:IsTup s.heap t items)(hs:s.heap.IsSliceOf sl vl vu .none)(pl:IsPart vl lo)(pu:IsPart vu hi)
  (hw:¬(sIx items.size 0 lo=0/\sIx items.size items.size hi=items.size))
  (h:Q (.ref s.heap.objs.size) { s with heap:=s.heap.push { cls:=.type "tuple",data:=.seq ((items.toList.drop (sIx items.size 0 lo)).take (sIx items.size items.size hi - sIx items.size 0 lo)).toArray } })
  (hsz:items.size<=sizeLine):wpAny (model prog w) A (getItem (.ref t) (.ref sl)) Q E s:=by
 have htake:sizeOk (.seq ((items.toList.drop (sIx items.size 0 lo)).take (sIx items.size items.size hi - sIx items.size 0 lo)).toArray):=by
  show((items.toList.drop (sIx items.size 0 lo)).take (sIx items.size items.size hi - sIx items.size 0 lo)).toArray.size<=sizeLine;rw[List.size_toArray,List.length_take,List.length_drop,Array.length_toList];omega
 have hj:sIx items.size items.size hi<=items.size:=zB7 _ _ (Nat.le_refl _) hi;obtain⟨os,hos,hcs,hds⟩:=id hs;have hTs:s.TypeIs (.ref sl) "slice":=⟨os,hos,hcs⟩;unfold getItem
 try with_reducible refine wpAny_holding ?_
 first | refine wpAny_bind (wpAny_pure ?_) | skip
 refine wpAny_bind (wpAny_sequenceKey ht.typeIs (by decide) ?_);refine wpAny_bind (wpAny_callSpecial?_slot (name:=Str.ofString "__getitem__") ht.typeIs PyProof.Rows.slot_tuple_getitem
  (wpAny_call_entry PyProof.Rows.slot_tuple_getitem ht.typeIs entry_tuple_getitem ?_ (args_tuple_getitem _ _)))
 show wpAny _ _ (Builtin.Tuple.tupleItemsOf (.ref t) >>= _) _ _ s;refine wpAny_bind (tupleItemsOf_ ht ?_);refine wpAny_bind (wpAny_typeOf hTs ?_);rw[if_pos (by decide)];refine wpAny_bind (sliceApplied_gen hs pl pu ?_);have hno:¬((((sIx items.size 0 lo:Nat):Int) == 0 && (1:Int) == 1 && (sIx items.size items.size hi - sIx items.size 0 lo) == items.size)=true):=by
  intro q;rw[Bool.and_eq_true,Bool.and_eq_true]at q;have q1:((sIx items.size 0 lo:Nat):Int)=0:=eq_of_beq q.1.1;have q2:sIx items.size items.size hi - sIx items.size 0 lo=items.size:=eq_of_beq q.2;exact hw ⟨by omega,by omega⟩
 show wpAny _ _ (if (((sIx items.size 0 lo:Nat):Int) == 0 && (1:Int) == 1 && (sIx items.size items.size hi - sIx items.size 0 lo) == items.size)=true then _ else _) _ _ s;rw[if_neg hno,z6h]
 first
  | exact wpAny_bind (m:=Builtin.Tuple.tupleExact _) (wpAny_newObj_type (wpAny_pure ⟨_,rfl,wpAny_pure h⟩) htake)
  | exact wpAny_bind (m:=Builtin.Tuple.tupleExact _) (wpAny_newObj_type (wpAny_bind (wpAny_pure (wpAny_pure ⟨_,rfl,wpAny_pure h⟩))) htake)
  | exact wpAny_bind (wpAny_bind (m:=Builtin.Tuple.tupleExact _) (wpAny_newObj_type (wpAny_pure (wpAny_pure ⟨_,rfl,wpAny_pure h⟩)) htake))
  | exact wpAny_bind (wpAny_bind (m:=Builtin.Tuple.tupleExact _) (wpAny_newObj_type (wpAny_pure ⟨_,rfl,wpAny_pure h⟩) htake))
end
end HT
namespace L2
open PySem PySem.Spec PyProof.Rows
noncomputable abbrev TO:=St->Hp->(Option Int->Hp->Prop)->Prop
def PO(X:Cx)(e:Option Expr)(t:TO):Prop:=
 ∀(pins:List (Addr×Obj)) (s:Shared) (σ:St) (H:Hp) (Q:Option Int->Hp->Prop),Inv X pins σ H s->t σ H Q->
  wpAny (model X.prog X.w) X.A (evalPart e X.env) (fun u s'=>∃o H',Inv X pins σ H' s'/\IsPart u o/\Q o H') X.xe s
noncomputable def z8M:TO:=fun _ H Q=>Q none H
noncomputable def zCD(t:TE):TO:=fun σ H Q=>t σ H fun x H1=>∃i,x=.int i/\Q (some i) H1
theorem intsAre_of{ns:List Int}:∀{us:List Value},Vals (ns.map V.int) us->IntsAre us ns:=by
 induction ns with
 | nil=>intro us r;rw[List.map_nil]at r;cases r;exact .nil
 | cons n ns ih=>
  intro us r;rw[List.map_cons]at r;cases r with
  | cons r1 r2=>
   obtain⟨t,e⟩:=r1;subst e;exact .cons n t (ih r2)
section
variable{X:Cx}{e:Expr}{te:TE}{lo hi:Option Expr}{tl th:TO}{pos p2:Pos}
theorem po_none:PO X none z8M:=by
 intro pins s σ H Q I h;rw[evalPart_none];exact wpAny_pure ⟨none,H,I,.none,h⟩
theorem z8N(h:PE X e te):PO X (some e) (zCD te):=by
 intro pins s σ H Q I hw;rw[evalPart_some];refine thn (h pins s σ H _ I hw) fun u s1 ⟨x,H1,I1,r1,q1⟩=>?_;obtain⟨i,rfl,q⟩:=q1;obtain⟨t,rfl⟩:=r1;exact⟨some i,H1,I1,.int i t,q⟩
def SlR(X:Cx)(r:V->Option Int->Option Int->Hp->VK->Prop):Prop:=
 ∀(pins:List (Addr×Obj)) (s:Shared) (σ:St) (H:Hp) (x:V) (v vl vu:Value) (lo hi:Option Int) (sl:Addr) (Q:VK),Inv X pins σ H s->RelV x v->s.heap.IsSliceOf sl vl vu .none->IsPart vl lo->IsPart vu hi->r x lo hi H Q->
  ∃T id,typeLookup (.type T) "__getitem__"=pure (some (.builtin id))/\s.TypeIs v T/\wpAny (model X.prog X.w) X.A (getItem v (.ref sl)) (EP X pins σ Q) X.xe s
theorem SlR.or{r r':V->Option Int->Option Int->Hp->VK->Prop}(h:SlR X r)(h':SlR X r'):SlR X (fun x lo hi H Q=>r x lo hi H Q\/r' x lo hi H Q):=by
 intro pins s σ H x v vl vu lo hi sl Q I rx hs pl pu q;rcases q with q | q
 ·exact h pins s σ H x v vl vu lo hi sl Q I rx hs pl pu q
 ·exact h' pins s σ H x v vl vu lo hi sl Q I rx hs pl pu q
noncomputable def tSl(r:V->Option Int->Option Int->Hp->VK->Prop)(te:TE)(tl th:TO):TE:=fun σ H Q=>te σ H fun x H1=>tl σ H1 fun l H2=>th σ H2 fun u H3=>r x l u H3 Q
theorem z6M{r:V->Option Int->Option Int->Hp->VK->Prop}(hr:SlR X r)(he:PE X e te)(hl:PO X lo tl)(hu:PO X hi th):PE X (.Subscript e (.Slice lo hi none p2) pos) (tSl r te tl th):=by
 intro pins s σ H Q I h;refine Subscript_ (thn (he pins s σ H _ I h) fun v s1 ⟨x,H1,I1,r1,q1⟩=>?_);refine wpAny_Slice (thn (hl pins s1 σ H1 _ I1 q1) fun vl s2 ⟨l,H2,I2,pl,q2⟩=>thn (hu pins s2 σ H2 _ I2 q2) fun vu s3 ⟨u,H3,I3,pu,q3⟩=>?_);rw[evalPart_none];refine wpAny_pure ?_;have I4:Inv X pins σ H3 { s3 with heap:=s3.heap.push { cls:=.type "slice",data:=.fields #[vl,vu,.none] } }:=I3.kept (t':=s3.toks) fun b ob q=>Heap.get?_push_of_some _ q;obtain⟨T,id,hT,ht,hg⟩:=hr pins { s3 with heap:=s3.heap.push { cls:=.type "slice",data:=.fields #[vl,vu,.none] } } σ H3 x v vl vu l u s3.heap.objs.size Q I4 r1 (Heap.IsSliceOf.new ..) pl pu q3;show wpAny (model X.prog X.w) X.A (subscriptTail e (.Slice lo hi none p2) v (.ref s3.heap.objs.size)) (EP X pins σ Q) X.xe { s3 with heap:=s3.heap.push { cls:=.type "slice",data:=.fields #[vl,vu,.none] } };exact tail_any (ops:=[.ref s3.heap.objs.size,v]) ht hT hg (by with_unfolding_all rfl)
noncomputable def cutV(xs:List V)(lo hi:Option Int):List V:=(xs.drop (HT.sIx xs.length 0 lo)).take (HT.sIx xs.length xs.length hi - HT.sIx xs.length 0 lo)
theorem uE(xs:List V)(lo hi:Option Int):(cutV xs lo hi).length<=xs.length:=by
 unfold cutV;rw[List.length_take,List.length_drop];omega
noncomputable def rSlT(K:W.Frag):V->Option Int->Option Int->Hp->VK->Prop:=fun x lo hi H Q=>∃a xs,x=.ref a/\SqT K H a xs/\
 ¬(HT.sIx xs.length 0 lo=0/\HT.sIx xs.length xs.length hi=xs.length)/\∀p,H p=none->Q (.ref p) (upd H p (.tup (cutV xs lo hi)))
theorem zAm:SlR X (rSlT X.K):=by
 intro pins s σ H x v vl vu lo hi sl Q I rx hs pl pu h;obtain⟨a,xs,rfl,hx,hw,q⟩:=h;cases rx;obtain⟨its,r,ht,hz⟩:=I.tuple hx;have hlen:its.toArray.size=xs.length:=by rw[List.size_toArray];exact r.length.symm
 refine⟨"tuple",_,PyProof.Rows.slot_tuple_getitem.lookup,ht.typeIs,?_⟩;refine HT.getItem_tuple_cut ht hs pl pu (by rw[hlen];exact hw) ?_ (by rw[hlen];exact hz);rw[hlen];refine⟨.ref s.heap.objs.size,_,I.laid (t':=s.toks) (o:=.tup (cutV xs lo hi)) (fun b ob q=>Heap.get?_push_of_some _ q) (Nat.le_refl _) ?_,rfl,q _ (I.hok.fresh (Nat.le_refl _))⟩;exact⟨⟨Nat.le_trans (uE xs lo hi) hz,_,Heap.get?_push_size _ rfl,rfl⟩,_,(r.drop (HT.sIx xs.length 0 lo)).take (HT.sIx xs.length xs.length hi - HT.sIx xs.length 0 lo),IsTup.new _ _⟩
noncomputable def rLtT(K:W.Frag):R2:=fun x y H Q=>∃a b ns ms,x=.ref a/\y=.ref b/\SqT K H a (ns.map V.int)/\SqT K H b (ms.map V.int)/\Q (.bl (HT.lexLt ns ms)) H
theorem zBD(hu:X.A.units<cLine):OpR X (compareOp .Lt) (rLtT X.K):=by
 intro pins s σ H x y v u Q I rx ry h;obtain⟨a,b,ns,ms,rfl,rfl,ha,hb,q⟩:=h;cases rx;cases ry;obtain⟨its,r1,p1,_⟩:=I.tuple ha;obtain⟨its2,r2,p2,_⟩:=I.tuple hb;have i1:IntsAre its.toArray.toList ns:=intsAre_of r1;have i2:IntsAre its2.toArray.toList ms:=intsAre_of r2;exact HT.lt_tupInts p1 p2 i1 i2 hu ⟨.bl (HT.lexLt ns ms),H,I,rfl,q⟩
noncomputable def zCI(K:W.Frag):R2:=fun x y H Q=>∃a b xs ys,x=.ref a/\y=.ref b/\SqT K H a xs/\SqT K H b ys/\xs≠[]/\xs.length+ys.length<=sizeLine/\
 (ys=[]->Q (.ref a) H)/\(ys≠[]->∀p,H p=none->Q (.ref p) (upd H p (.tup (xs++ys))))
theorem Vals.nil_iff{xs:List V}{us:List Value}(r:Vals xs us):us=[]↔xs=[]:=by
 cases r with
 | nil=>simp
 | cons _ _=>simp
theorem z8K:OpR X (binaryOp .Add) (zCI X.K):=by
 intro pins s σ H x y v u Q I rx ry h;obtain⟨a,b,xs,ys,rfl,rfl,ha,hb,hx,hz,q1,q2⟩:=h;cases rx;cases ry;obtain⟨its,r1,p1,_⟩:=I.tuple ha;obtain⟨its2,r2,p2,_⟩:=I.tuple hb;refine HT.cat_tup p1 p2 (fun z=>hx (r1.nil_iff.mp z)) (fun z=>⟨.ref a,H,I,rfl,q1 (r2.nil_iff.mp z)⟩) (fun z=>?_) (by rw[<-r1.length,<-r2.length];exact hz);refine⟨.ref s.heap.objs.size,_,I.laid (t':=s.toks) (o:=.tup (xs++ys)) (fun b ob q=>Heap.get?_push_of_some _ q) (Nat.le_refl _) ?_,rfl,q2 (fun w=>z (r2.nil_iff.mpr w)) _ (I.hok.fresh (Nat.le_refl _))⟩;exact⟨⟨by rw[List.length_append];exact hz,_,Heap.get?_push_size _ rfl,rfl⟩,_,r1.append r2,IsTup.new _ _⟩
end
noncomputable def ixN(n:Nat)(i:Int):Option Nat:=if 0<=i then(if i<n then some i.toNat else none)else if -(n:Int)<=i then some (i+n).toNat else none
noncomputable def atI{α:Type}(xs:List α)(i:Int):Option α:=(ixN xs.length i).bind fun j=>xs[j]?
theorem z5A{n:Nat}{i:Int}{j:Nat}(h:ixN n i=some j):seqIndex? i n=some j/\j<n /\ -(n:Int)<=i/\i<n:=by
 unfold ixN at h;by_cases h0:0<=i
 ·rw[if_pos h0]at h;by_cases h1:i<n
  ·rw[if_pos h1]at h;have e:i.toNat=j:=Option.some.inj h;exact⟨by rw[seqIndex_of h0 h1,e],by omega,by omega,h1⟩
  ·rw[if_neg h1]at h;cases h
 ·rw[if_neg h0]at h;by_cases h1 : -(n:Int)<=i
  ·rw[if_pos h1]at h;have e:(i+n).toNat=j:=Option.some.inj h;exact⟨by rw[seqIndex_neg (by omega) h1,e],by omega,h1,by omega⟩
  ·rw[if_neg h1]at h;cases h
theorem z44{α:Type}{xs:List α}{i:Int}{v:α}(h:atI xs i=some v):∃j,seqIndex? i xs.length=some j/\xs[j]?=some v/\j<xs.length /\ -(xs.length:Int)<=i/\i<xs.length:=by
 unfold atI at h;cases e:ixN xs.length i with
 | none=>rw[e]at h;cases h
 | some j=>
  rw[e]at h;obtain⟨h1,h2,h3,h4⟩:=z5A e;exact⟨j,h1,h,h2,h3,h4⟩
theorem uZ{α:Type}{xs:List α}{j:Nat}{v:α}(h:xs[j]?=some v):atI xs (j:Int)=some v:=by
 have hj:j<xs.length:=(List.getElem?_eq_some_iff.mp h).1;have e:ixN xs.length (j:Int)=some j:=by
  unfold ixN;rw[if_pos (by omega),if_pos (by omega)];simp
 unfold atI;rw[e];exact h
def z5z(b:Expr):Prop:=∀o i,subscripted b false o i=operate [o,i] (getItem o i)
def IxR(X:Cx)(r:R2):Prop:=
 ∀(value slice:Expr) (pins:List (Addr×Obj)) (s:Shared) (σ:St) (H:Hp) (x y:V) (v u:Value) (Q:VK),Inv X pins σ H s->RelV x v->RelV y u->r x y H Q->
  subscripted slice false v u=operate [v,u] (getItem v u)->wpAny (model X.prog X.w) X.A (subscriptTail value slice v u) (EP X pins σ Q) X.xe s
def MtR(X:Cx)(id:String)(r:V->List V->Hp->VK->Prop):Prop:=
 ∀(pins:List (Addr×Obj)) (s:Shared) (σ:St) (H:Hp) (x:V) (xs:List V) (v:Value) (us:List Value) (Q:VK),Inv X pins σ H s->RelV x v->Vals xs us->r x xs H Q->
  wpAny (model X.prog X.w) X.A (call (.builtin id) (v::us)) (EP X pins σ Q) X.xe s
section
variable{X:Cx}{a b:Expr}{ta tb:TE}{pos:Pos}
theorem IxR.or{r r':R2}(h:IxR X r)(h':IxR X r'):IxR X (fun x y H Q=>r x y H Q\/r' x y H Q):=by
 intro value slice pins s σ H x y v u Q I rx ry q hs;rcases q with q | q
 ·exact h value slice pins s σ H x y v u Q I rx ry q hs
 ·exact h' value slice pins s σ H x y v u Q I rx ry q hs
theorem wq{r:R2}(hr:IxR X r)(ha:PE X a ta)(hb:PE X b tb)(hs:z5z b):PE X (.Subscript a b pos) (tOp r ta tb):=by
 intro pins s σ H Q I h;exact Subscript_ (binT ha hb I h fun v u s2 x y H2 I2 rx ry q=>hr a b pins s2 σ H2 x y v u Q I2 rx ry q (hs _ _))
noncomputable def rIxL(K:W.Frag):R2:=fun x y H Q=>∃p xs i v,x=.ref p/\y=.int i/\SqL K H p xs/\atI xs i=some v/\Q v H
noncomputable def rIxT(K:W.Frag):R2:=fun x y H Q=>∃p xs i v,x=.ref p/\y=.int i/\SqT K H p xs/\atI xs i=some v/\Q v H
theorem ix_list:IxR X (rIxL X.K):=by
 intro value slice pins s σ H x y v u Q I rx ry h hs;obtain⟨p,xs,i,z,rfl,rfl,hq,he,q⟩:=h;cases rx;obtain⟨t,rfl⟩:=ry;obtain⟨its,r,pl,hz⟩:=I.list hq;obtain⟨j,h1,h2,h3,h4,h5⟩:=z44 he;obtain⟨w,ew,rw'⟩:=r.get h2;have hl:=r.length;have hn:=uj;have fin:EP X pins σ Q w s:=⟨z,H,I,rw',q⟩;by_cases h0:0<=i
 ·have hj:i.toNat=j:=by
   rw[seqIndex_of h0 h5]at h1;exact Option.some.inj h1
  exact item_listR pl.isList h0 (by omega) (by rw[hj];simpa using ew) fin hs
 ·have hj:(i+(its.toArray.size:Int)).toNat=j:=by
   rw[seqIndex_neg (by omega) h4]at h1;rw[List.size_toArray,<-hl];exact Option.some.inj h1
  exact subscriptTail_builtinR (x:=w) pl.isList.typeIs slot_list_getitem.lookup
   (wpAny_getItem_list_neg (Q:=fun r s'=>r=w/\EP X pins σ Q r s') pl.isList (by omega) (by rw[List.size_toArray]<;>omega) (by omega) (by rw[hj];simpa using ew) ⟨rfl,fin⟩) hs
theorem ix_tup:IxR X (rIxT X.K):=by
 intro value slice pins s σ H x y v u Q I rx ry h hs;obtain⟨p,xs,i,z,rfl,rfl,hq,he,q⟩:=h;cases rx;obtain⟨t,rfl⟩:=ry;obtain⟨its,r,pl,hz⟩:=I.tuple hq;obtain⟨j,h1,h2,h3,h4,h5⟩:=z44 he;obtain⟨w,ew,rw'⟩:=r.get h2;have hl:=r.length;have hn:=uj;have fin:EP X pins σ Q w s:=⟨z,H,I,rw',q⟩;exact subscriptTail_builtinR (x:=w) pl.typeIs slot_tuple_getitem.lookup
  (getItem_tuple (j:=j) (Q:=fun r s'=>r=w/\EP X pins σ Q r s') pl (by omega) (by omega) (by rw[List.size_toArray,<-hl];exact h1) (by simpa using ew) ⟨rfl,fin⟩) hs
theorem z3k(its:List Value)(n j:Nat)(u:Value):Obj.mapSeq (·.setIfInBounds j u) { cls:=.type "list",data:=.seq its.toArray n }={ cls:=.type "list",data:=.seq (its.set j u).toArray n }:=by
 simp[Obj.mapSeq]
theorem Inv.lst{pins:List (Addr×Obj)}{σ:St}{H:Hp}{s:Shared}{p:Addr}{xs:List V}(I:Inv X pins σ H s)(h:H p=some (.lst xs)):
  ∃(its:List Value) (n:Nat),Vals xs its/\s.heap.get? p=some { cls:=.type "list",data:=.seq its.toArray n }/\xs.length<=sizeLine:=by
 obtain⟨z,its,n,r,e⟩:=I.hok p _ h;exact⟨its,n,r,e,z⟩
theorem Inv.lstUpd{pins:List (Addr×Obj)}{σ:St}{H:Hp}{s:Shared}{p:Addr}{xs ys:List V}{its its':List Value}{n n':Nat}{f:Obj->Obj}(I:Inv X pins σ H s)(h:H p=some (.lst xs))
  (ho:s.heap.get? p=some { cls:=.type "list",data:=.seq its.toArray n }) (hf:f { cls:=.type "list",data:=.seq its.toArray n }={ cls:=.type "list",data:=.seq its'.toArray n' }) (r:Vals ys its') (hz:ys.length<=sizeLine) (t:Nat) :
  Inv X pins σ (upd H p (.lst ys)) { s with heap:=s.heap.update p f,toks:=t }:=by
 have e:(s.heap.update p f).get? p=some { cls:=.type "list",data:=.seq its'.toArray n' }:=by
  rw[Heap.get?_update_self f ho (by rw[hf]<;>rfl),hf]
 refine I.write (x:=p) (e:=p) (by rw[h];trivial) (.inl rfl) (fun b u hb q=>(Heap.get?_update_other _ _ (Ne.symm hb)).trans q) ⟨_,e⟩ ?_;exact⟨hz,its',n',r,e⟩
noncomputable def zBU:V->V->V->Hp->(Hp->Prop)->Prop:=fun o i v H Q=>∃p xs k j,o=.ref p/\i=.int k/\H p=some (.lst xs)/\ixN xs.length k=some j/\Q (upd H p (.lst (xs.set j v)))
theorem z6q:PSet X zBU:=by
 intro pins s σ H o i v ov iv u Q I ro ri rv h;obtain⟨p,xs,k,j,rfl,rfl,hp,hj,q⟩:=h;cases ro;obtain⟨t,rfl⟩:=ri;obtain⟨its,n,r,ho,hz⟩:=I.lst hp;obtain⟨h1,h2,h3,h4⟩:=z5A hj;have hl:=r.length;have hn:=uj;have I':Inv X pins σ (upd H p (.lst (xs.set j v))) { s with heap:=s.heap.update p (Obj.mapSeq (·.setIfInBounds j u)) }:=
  I.lstUpd hp ho (z3k its n j u) (r.set rv j) (by rw[List.length_set];exact hz) s.toks
 by_cases h0:0<=k
 ·have hk:k.toNat=j:=by
   rw[seqIndex_of h0 h4]at h1;exact Option.some.inj h1
  exact W.ki_setAt ho h0 (by omega) (by rw[List.size_toArray,<-hl];exact h4) (by rw[hk];exact⟨_,I',q⟩)
 ·have hk:(k+(its.toArray.size:Int)).toNat=j:=by
   rw[seqIndex_neg (by omega) h3]at h1;rw[List.size_toArray,<-hl];exact Option.some.inj h1
  exact W.ki_setBack ho (by omega) (by rw[List.size_toArray,<-hl];exact h3) (by omega) (by rw[hk];exact⟨_,I',q⟩)
theorem z1w(lo hi:Option Int)(n:Nat):(sliceBounds lo hi none n).1=((HT.sIx n 0 lo:Nat):Int)/\(sliceBounds lo hi none n).2.1=((HT.sIx n n hi:Nat):Int)/\(sliceBounds lo hi none n).2.2=1:=by
 refine⟨?_,?_,rfl⟩
 ·cases lo with
  | none=>simp[sliceBounds,HT.sIx]
  | some i=>
   simp only[sliceBounds,HT.sIx,Option.getD_none,show(1:Int)>0 by decide,if_true];by_cases h:i<0
   ·simp only[h,if_true]<;>omega
   ·simp only[h,if_false]<;>omega
 ·cases hi with
  | none=>simp[sliceBounds,HT.sIx]
  | some i=>
   simp only[sliceBounds,HT.sIx,Option.getD_none,show(1:Int)>0 by decide,if_true];by_cases h:i<0
   ·simp only[h,if_true]<;>omega
   ·simp only[h,if_false]<;>omega
theorem z0Y(its:List Value)(lo hi:Option Int):slicePick its.toArray lo hi none=((its.drop (HT.sIx its.length 0 lo)).take (HT.sIx its.length its.length hi - HT.sIx its.length 0 lo)).toArray:=by
 obtain⟨h1,h2,h3⟩:=z1w lo hi its.toArray.size;unfold slicePick;rw[h1,h2,h3];simp only[sliceRange_one,pick_run,List.size_toArray]<;>rfl
noncomputable def rSlL(K:W.Frag):V->Option Int->Option Int->Hp->VK->Prop:=fun x lo hi H Q=>∃a xs,x=.ref a/\SqL K H a xs/\∀p,H p=none->Q (.ref p) (upd H p (.lst (cutV xs lo hi)))
theorem sl_list:SlR X (rSlL X.K):=by
 intro pins s σ H x v vl vu lo hi sl Q I rx hs pl pu h;obtain⟨a,xs,rfl,hx,q⟩:=h;cases rx;obtain⟨its,r,ht,hz⟩:=I.list hx;have hlen:=r.length;refine⟨"list",_,slot_list_getitem.lookup,ht.isList.typeIs,?_⟩;refine wpAny_getItem_list_slice ht.isList hs pl pu .none (by simp) ?_ (by rw[List.size_toArray]<;>omega);rw[z0Y,<-hlen];refine⟨.ref s.heap.objs.size,_,I.laid (t':=s.toks) (o:=.lst (cutV xs lo hi)) (fun b ob q=>Heap.get?_push_of_some _ q) (Nat.le_refl _) ?_,rfl,q _ (I.hok.fresh (Nat.le_refl _))⟩;exact⟨Nat.le_trans (uE xs lo hi) hz,_,0,(r.drop (HT.sIx xs.length 0 lo)).take (HT.sIx xs.length xs.length hi - HT.sIx xs.length 0 lo),Heap.get?_push_size _ rfl⟩
theorem call_len_seq:CallR X (.builtin "len") (fun xs H Q=>∃p ys,xs=[.ref p]/\(SqL X.K H p ys\/SqT X.K H p ys)/\Q (.int ys.length) H):=by
 intro pins s σ H xs us Q I r h;obtain⟨p,ys,rfl,hq,q⟩:=h;obtain⟨u,rfl,rx⟩:=xO r;cases rx;have hn:=uj;rcases hq with hq | hq
 ·obtain⟨its,r',pl,hz⟩:=I.list hq;have hlen:=r'.length;exact Calls.call_len_list pl.isList (by simp only[List.size_toArray]<;>omega) ⟨.int ys.length,H,I.tok _,⟨s.toks+1,by rw[List.size_toArray,hlen]⟩,q⟩
 ·obtain⟨its,r',pl,hz⟩:=I.tuple hq;have hlen:=r'.length;exact len_tuple pl (by simp only[List.size_toArray]<;>omega) ⟨.int ys.length,H,I.tok _,⟨s.toks+1,by rw[List.size_toArray,hlen]⟩,q⟩
theorem z1N:CallR X (.builtin "len") (fun xs H Q=>∃z,xs=[.str z]/\z.length<=sizeLine/\Q (.int z.length) H):=by
 intro pins s σ H xs us Q I r h;obtain⟨z,rfl,hz,q⟩:=h;obtain⟨u,rfl,t,rfl⟩:=xO r;have hn:=uj;exact len_str (by omega) ⟨.int z.length,H,I.tok _,⟨_,rfl⟩,q⟩
theorem CallR.or{f:Value}{r r':List V->Hp->VK->Prop}(h:CallR X f r)(h':CallR X f r'):CallR X f (fun xs H Q=>r xs H Q\/r' xs H Q):=by
 intro pins s σ H xs us Q I rs q;rcases q with q | q
 ·exact h pins s σ H xs us Q I rs q
 ·exact h' pins s σ H xs us Q I rs q
theorem we:CallR X (.type "list") (fun xs H Q=>∃p ys,xs=[.ref p]/\(SqL X.K H p ys\/SqT X.K H p ys)/\∀l,H l=none->Q (.ref l) (upd H l (.lst ys))):=by
 intro pins s σ H xs us Q I r h;obtain⟨p,ys,rfl,hq,q⟩:=h;obtain⟨u,rfl,rx⟩:=xO r;cases rx;have fin:∀(its:List Value),Vals ys its->ys.length<=sizeLine->∀(h':Heap) (c':Nat),(∀b o',s.heap.get? b=some o'->h'.get? b=some o')->
   h'.get? s.heap.objs.size=some { cls:=.type "list",dict:=none,data:=.seq its.toArray c',slots:=#[] }->EP X pins σ Q (.ref s.heap.objs.size) { s with heap:=h' }:=fun its r' hz h' c' kp e=>
  ⟨.ref s.heap.objs.size,_,I.laid (t':=s.toks) kp (Nat.le_refl _) (show ObjOk X.prog X.w _ h' _ (.lst ys) from⟨hz,its,c',r',e⟩),rfl,q _ (I.hok.fresh (Nat.le_refl _))⟩
 rcases hq with hq | hq
 ·obtain⟨its,r',pl,hz⟩:=I.list hq;have hlen:=r'.length;obtain⟨o,ho,hc,n,hd⟩:=pl.isList;exact call_list_seq p (.inl rfl) ho hc hd (fun h' c' kp e=>fin its r' hz h' c' kp e) (by simp only[List.size_toArray]<;>omega)
 ·obtain⟨its,r',pl,hz⟩:=I.tuple hq;have hlen:=r'.length;obtain⟨o,ho,hc,n,hd⟩:=pl;exact call_list_seq p (.inr rfl) ho hc hd (fun h' c' kp e=>fin its r' hz h' c' kp e) (by simp only[List.size_toArray]<;>omega)
theorem call_tuple_of:CallR X (.type "tuple") (fun xs H Q=>∃p ys,xs=[.ref p]/\((SqL X.K H p ys/\∀l,H l=none->Q (.ref l) (upd H l (.tup ys)))\/(SqT X.K H p ys/\Q (.ref p) H))):=by
 intro pins s σ H xs us Q I r h;obtain⟨p,ys,rfl,h⟩:=h;obtain⟨u,rfl,rx⟩:=xO r;cases rx;rcases h with ⟨hq,q⟩ | ⟨hq,q⟩
 ·obtain⟨its,r',pl,hz⟩:=I.list hq;have hlen:=r'.length;refine call_tuple_list pl.isList (fun h' kp=>?_) (by simp only[List.size_toArray]<;>omega);have I1:Inv X pins σ H { s with heap:=h' }:=I.kept (t':=s.toks) kp;have I2:Inv X pins σ (upd H h'.objs.size (.tup ys)) { s with heap:=h'.push { cls:=.type "tuple",data:=.seq its.toArray } }:=
   I1.laid (t':=s.toks) (fun b o e=>Heap.get?_push_of_some _ e) (Nat.le_refl _) (show ObjOk X.prog X.w _ _ _ (.tup ys) from⟨⟨hz,_,Heap.get?_push_size _ rfl,rfl⟩,its,r',IsTup.new _ _⟩)
  exact⟨.ref h'.objs.size,_,I2,rfl,q _ (I1.hok.fresh (Nat.le_refl _))⟩
 ·obtain⟨its,r',pl,hz⟩:=I.tuple hq;exact call_tuple_same pl ⟨.ref p,H,I,rfl,q⟩
def tyV(K:W.Frag)(T:String)(x:V)(H:Hp):Prop:=match x with
 | .str _=>T="str"
 | .int _=>T="int"
 | .ref p=>(T="list"/\∃xs,SqL K H p xs)\/(T="tuple"/\((∃o,K.lookup p=some o/\o.cls=.type "tuple"/\o.dict=none)\/∃xs,H p=some (.tup xs)))\/
   (T="dict"/\((∃kvs,H p=some (.dK kvs))\/∃kvs,H p=some (.dT kvs)))\/(T="set"/\∃S n,H p=some (.set S n))
 | _=>False
theorem z7q{pins:List (Addr×Obj)}{σ:St}{H:Hp}{s:Shared}{T:String}{x:V}{v:Value}(I:Inv X pins σ H s)(r:RelV x v)(ty:tyV X.K T x H):
  s.TypeIs v T/\∀a,v=.ref a->∃ob,s.heap.get? a=some ob/\ob.dict=none:=by
 cases x with
 | str z=>
  obtain⟨t,rfl⟩:=r;cases(show T="str" from ty);exact⟨typeIs_str s z t,fun _ e=>nomatch e⟩
 | int i=>
  obtain⟨t,rfl⟩:=r;cases(show T="int" from ty);exact⟨typeIs_int s i t,fun _ e=>nomatch e⟩
 | ref p=>
  cases r;rcases ty with ⟨rfl,xs,hq⟩ | ⟨rfl,⟨o,hk,hc,hd⟩ | ⟨xs,hq⟩⟩ | ⟨rfl,hk⟩ | ⟨rfl,S,n,hk⟩
  ·obtain⟨its,_,pl,_⟩:=I.list hq;refine⟨pl.isList.typeIs,fun a e=>?_⟩;cases e;obtain⟨o,n,e,c,hd,_⟩:=pl;exact⟨o,e,hd⟩
  ·refine⟨⟨o,I.kIn p o hk,hc⟩,fun a e=>?_⟩;cases e;exact⟨o,I.kIn _ o hk,hd⟩
  ·obtain⟨⟨_,o2,e2,c2⟩,its,r,ob,e,c,_⟩:=(show ObjOk X.prog X.w H s.heap p (.tup xs) from I.hok p _ hq);refine⟨⟨ob,e,c⟩,fun a e3=>?_⟩;cases e3;exact⟨o2,e2,c2⟩
  ·have z:∃o,s.heap.get? p=some o/\o.ExactDict:=by
    rcases hk with ⟨kvs,hk⟩ | ⟨kvs,hk⟩
    ·obtain⟨_,_,_,_,o,_,_,e,ex,_⟩:=I.hok p _ hk;exact⟨o,e,ex⟩
    ·obtain⟨_,_,_,_,o,_,_,e,ex,_⟩:=I.hok p _ hk;exact⟨o,e,ex⟩
   obtain⟨o,e,ex⟩:=z;refine⟨⟨o,e,ex.1⟩,fun a e2=>?_⟩;cases e2;exact⟨o,e,ex.2.1⟩
  ·obtain⟨o,_,_,_,e,ex,_⟩:=I.hok p _ hk;refine⟨⟨o,e,ex.1⟩,fun a e2=>?_⟩;cases e2;exact⟨o,e,ex.2.1⟩
 | _=>exact False.elim ty
noncomputable def tBM0(K:W.Frag)(T:String)(r:V->List V->Hp->VK->Prop)(to:TE):TE:=fun σ H Q=>to σ H fun x H1=>tyV K T x H1/\r x [] H1 Q
noncomputable def tBM(K:W.Frag)(T:String)(r:V->List V->Hp->VK->Prop)(to:TE)(t:TA):TE:=fun σ H Q=>to σ H fun x H1=>tyV K T x H1/\t σ H1 fun xs H2=>r x xs H2 Q
variable{o e:Expr}{es:List Expr}{to:TE}{t:TA}{name:Str}{apos cpos:Pos}{T id:String}{r:V->List V->Hp->VK->Prop}
theorem zBQ(pa:PlainAttrs T)(slot:Slot T name id)(hty:typeOf (.builtin id)=pure (.type "method_descriptor"))(hm:MtR X id r)(ho:PE X o to)
  (hbase:attributeBase o name X.env (eval o X.env)=eval o X.env:=by rfl) (hline:(apos.endLine == cpos.line)=true:=by rfl):PE X (.Call (.Attribute o name apos) [] [] cpos) (tBM0 X.K T r to):=by
 intro pins s σ H Q I h;refine wpAny_Call_method0_late hbase hline (thn (ho pins s σ H _ I h) fun v s1 ⟨x,H1,I1,r1,ty,q1⟩=>?_);obtain⟨h1,h2⟩:=z7q I1 r1 ty;exact⟨T,id,pa,slot,hty,h1,h2,Calls.callWith_builtin rfl (PySem.evalArgs_none (hm pins s1 σ H1 x [] v [] Q I1 r1 .nil q1))⟩
theorem xt(pa:PlainAttrs T)(slot:Slot T name id)(hty:typeOf (.builtin id)=pure (.type "method_descriptor"))(hm:MtR X id r)(ho:PE X o to)(ha:PA X (e::es) t)
  (hbase:attributeBase o name X.env (eval o X.env)=eval o X.env:=by rfl)
  (hfew:((backTo cpos (starEach (e::es) X.env)).all (fun x=>!x.1) && (backToKw cpos (keywordEach [] X.env)).all (fun x=>x.1.isSome)
   && decide ((e::es).length+([]:List Keyword).length+(if ([]:List Keyword).isEmpty then 0 else 1)<30))=true:=by rfl)
  (hline:(apos.endLine == cpos.line)=true:=by rfl) (hs:starEach (e::es) X.env=(false,eval e X.env)::starEach es X.env:=by rfl) (hplain:(backTo cpos (starEach es X.env)).any (·.1)=false:=by rfl) :
  PE X (.Call (.Attribute o name apos) (e::es) [] cpos) (tBM X.K T r to t):=by
 intro pins s σ H Q I h;refine wpAny_Call_method_late hbase hfew hline rfl (thn (ho pins s σ H _ I h) fun v s1 ⟨x,H1,I1,r1,ty,q1⟩=>?_);obtain⟨h1,h2⟩:=z7q I1 r1 ty;refine⟨T,id,pa,slot,hty,h1,h2,?_⟩;have hA:=ha cpos pins s1 σ H1 _ I1 q1;rw[hs]at hA |-;refine Calls.callWith_builtin (by show(false || (backTo cpos (starEach es X.env)).any (·.1))=false;rw[hplain]<;>rfl) (Calls.evalArgs_plain ?_);exact thn hA fun us s2 ⟨vs,H2,I2,r2,q2⟩=>hm pins s2 σ H2 x vs v us Q I2 r1 r2 q2
end
def MtM(X:Cx)(id:String)(r:V->List V->Hp->VK->Prop):Prop:=
 ∀(pins:List (Addr×Obj)) (s:Shared) (σ:St) (H:Hp) (x:V) (xs:List V) (v:Value) (us:List Value) (Q:VK),Inv X pins σ H s->RelV x v->Vals xs us->r x xs H Q->
  wpAny (model X.prog X.w) X.A (call (.builtin id) (v::us)) (EP X pins σ Q) X.xe s
theorem Vals.one:∀{x:V} {us:List Value},Vals [x] us->∃u,us=[u]/\RelV x u
 | _,_,.cons r .nil=>⟨_,rfl,r⟩
theorem Vals.zero:∀{us:List Value},Vals [] us->us=[]
 | _,.nil=>rfl
theorem Vals.dropLast{xs:List V}{us:List Value}(h:Vals xs us):Vals xs.dropLast us.dropLast:=by
 induction h with
 | nil=>exact .nil
 | cons r t ih=>
  cases t with
  | nil=>exact .nil
  | cons q t'=>exact .cons r ih
theorem Vals.eraseIdx:∀{xs:List V} {us:List Value} (i:Nat),Vals xs us->Vals (xs.eraseIdx i) (us.eraseIdx i)
 | _,_,_,.nil=>.nil
 | _,_,0,.cons _ t=>t
 | _,_,i+1,.cons r t=>.cons r (Vals.eraseIdx i t)
theorem Vals.rep{xs:List V}{us:List Value}(h:Vals xs us):∀k:Nat,Vals (List.replicate k xs).flatten (List.replicate k us).flatten
 | 0=>.nil
 | k+1=>by
  rw[List.replicate_succ,List.replicate_succ,List.flatten_cons,List.flatten_cons];exact Vals.append h (Vals.rep h k)
theorem z3n{α:Type}(l:List α):l.eraseIdx (l.length - 1)=l.dropLast:=by
 induction l with
 | nil=>rfl
 | cons a r ih=>
  cases r with
  | nil=>rfl
  | cons b r=>
   have e:(a::b::r).length - 1=((b::r).length - 1)+1:=by
    have h1:(a::b::r).length=r.length+2:=rfl;have h2:(b::r).length=r.length+1:=rfl;omega
   rw[e,List.eraseIdx_cons_succ,ih]
   all_goals rfl
theorem z1Y{α:Type}:∀(l:List α) (i:Nat),(l.eraseIdx i).length<=l.length
 | [],_=>Nat.le_refl _
 | _::_,0=>Nat.le_succ _
 | _::r,i+1=>Nat.succ_le_succ (z1Y r i)
theorem uD(its:List Value):∀(k:Nat) (acc:List Value),
  List.foldl (fun x1 x2=>x1++x2) acc.toArray (List.replicate k its.toArray)=(acc++(List.replicate k its).flatten).toArray
 | 0,acc=>by simp
 | k+1,acc=>by
  have e:acc.toArray++its.toArray=(acc++its).toArray:=by simp
  have e2:(acc++its)++(List.replicate k its).flatten=acc++(List.replicate (k+1) its).flatten:=by
   rw[List.replicate_succ,List.flatten_cons,List.append_assoc]
  rw[<-e2,<-uD its k (acc++its),<-e,List.replicate_succ,List.foldl_cons]
section
variable{X:Cx}{pins:List (Addr×Obj)}{σ:St}{H:Hp}{s:Shared}{l b:Addr}{xs ys zs:List V}
theorem Inv.lset{its its':List Value}{n:Nat}{f:Array Value->Array Value}{t':Nat}(I:Inv X pins σ H s)(hH:H l=some (.lst xs))
  (e:s.heap.get? l=some { cls:=.type "list",data:=.seq its.toArray n }) (hf:f its.toArray=its'.toArray) (hv:Vals ys its') (hz:ys.length<=sizeLine) :
  Inv X pins σ (upd H l (.lst ys)) { s with heap:=s.heap.update l (Obj.mapSeq f),toks:=t' }:=by
 have q:=PySem.IsL.update e f;rw[hf]at q;refine I.write (x:=l) (e:=l) (by rw[hH];exact trivial) (.inl rfl) (fun b' u hb hu=>(Heap.get?_update_other s.heap (Obj.mapSeq f) (Ne.symm hb)).trans hu) ⟨_,q⟩ ?_;exact⟨hz,its',_,hv,q⟩
theorem Inv.lnew{its:List Value}{t':Nat}(I:Inv X pins σ H s)(hv:Vals ys its)(hz:ys.length<=sizeLine):
  Inv X pins σ (upd H s.heap.objs.size (.lst ys)) { s with heap:=s.heap.push { cls:=.type "list",data:=.seq its.toArray },toks:=t' }:=
 I.laid (fun _ _ q=>Heap.get?_push_of_some _ q) (Nat.le_refl _) ⟨hz,its,0,hv,Heap.get?_push_size _ rfl⟩
theorem Inv.fresh(I:Inv X pins σ H s):H s.heap.objs.size=none:=I.hok.fresh (Nat.le_refl _)
theorem Inv.lstM(I:Inv X pins σ H s)(hH:H l=some (.lst xs)):xs.length<=sizeLine/\∃(its:List Value) (n:Nat),Vals xs its/\xs.length=its.length/\s.heap.get? l=some { cls:=.type "list",data:=.seq its.toArray n }:=by
 obtain⟨z,its,n,r,e⟩:=I.hok l _ hH;exact⟨z,its,n,r,r.length,e⟩
theorem z3C{n:Nat}(h:n<=sizeLine):Builtin.List.listTooLong n=false:=by
 unfold Builtin.List.listTooLong;exact decide_eq_false (by omega)
end
section
variable{X:Cx}
noncomputable def uY:V->List V->Hp->VK->Prop:=fun x vs H Q=>∃l xs y,x=.ref l/\vs=[y]/\H l=some (.lst xs)/\xs.length<sizeLine/\Q .non (upd H l (.lst (xs++[y])))
theorem y8:MtM X "list.append" uY:=by
 intro pins s σ H x vs v us Q I rx rv h;obtain⟨l,xs,y,rfl,rfl,hH,hz,q⟩:=h;cases rx;obtain⟨u,rfl,ru⟩:=rv.one;obtain⟨z,its,n,r,hl,e⟩:=I.lstM hH;refine call_meets F.slot_list_append ⟨_,e,rfl⟩ F.entry_list_append (F.args_list_append_2 _ _) (PySem.list_append l its.toArray n u (by rw[List.size_toArray];omega)) ⟨e,?_⟩;refine⟨.non,_,I.lset (its':=its++[u]) hH e (by simp) (r.append (.cons ru .nil)) ?_,rfl,q⟩;rw[List.length_append,List.length_singleton];omega
noncomputable def z46:V->List V->Hp->VK->Prop:=fun x vs H Q=>∃l b xs zs,x=.ref l/\vs=[.ref b]/\H l=some (.lst xs)/\H b=some (.lst zs)/\xs.length+zs.length<=sizeLine/\Q .non (upd H l (.lst (xs++zs)))
theorem z4V:MtM X "list.extend" z46:=by
 intro pins s σ H x vs v us Q I rx rv h;obtain⟨l,b,xs,zs,rfl,rfl,hH,hB,hz,q⟩:=h;cases rx;obtain⟨u,rfl,ru⟩:=rv.one;cases ru;obtain⟨z,its,n,r,hl,e⟩:=I.lstM hH;obtain⟨z2,its2,n2,r2,hl2,e2⟩:=I.lstM hB;have hsz:its.toArray.size+its2.toArray.size<=sizeLine:=by rw[List.size_toArray,List.size_toArray];omega
 have hlong:¬(!its.toArray.isEmpty && Builtin.List.listTooLong (its.toArray.size+its2.toArray.size))=true:=by
  rw[z3C hsz,Bool.and_false];exact Bool.false_ne_true
 refine call_meets F.slot_list_extend ⟨_,e,rfl⟩ F.entry_list_extend (F.args_list_extend_2 _ _)
  (AutoSeq1.list_extend_list_list_0 l its.toArray n b its2.toArray n2 hlong (by rw[List.size_toArray];omega) (by omega)) ⟨e,e2,?_⟩
 refine⟨.non,_,I.lset (its':=its++its2) hH e (by simp) (r.append r2) ?_,rfl,q⟩;rw[List.length_append];omega
noncomputable def rPop:V->List V->Hp->VK->Prop:=fun x vs H Q=>∃l xs y,x=.ref l/\vs=[]/\H l=some (.lst xs)/\xs[xs.length - 1]?=some y/\Q y (upd H l (.lst xs.dropLast))
theorem zB0:MtM X "list.pop" rPop:=by
 intro pins s σ H x vs v us Q I rx rv h;obtain⟨l,xs,y,rfl,rfl,hH,hy,q⟩:=h;cases rx;have hus:=rv.zero;subst hus;obtain⟨z,its,n,r,hl,e⟩:=I.lstM hH;obtain⟨u,hu,ru⟩:=r.get hy;have hy':its.toArray[its.toArray.size - 1]?=some u:=by
  show its.toArray[its.length - 1]?=some u;rw[<-Array.getElem?_toList,<-hl];exact hu
 refine call_meets F.slot_list_pop ⟨_,e,rfl⟩ F.entry_list_pop (F.args_list_pop_1 _) (MeetsSeq.list_pop_last l its.toArray n u hy' (by rw[List.size_toArray];omega)) ⟨e,?_⟩;refine⟨y,_,I.lset (its':=its.dropLast) hH e ?_ r.dropLast ?_,ru,q⟩
 ·show its.toArray.eraseIdxIfInBounds (its.toArray.size - 1)=its.dropLast.toArray;rw[List.size_toArray,List.eraseIdxIfInBounds_toArray,z3n]
 ·rw[List.length_dropLast];omega
noncomputable def z66:V->List V->Hp->VK->Prop:=fun x vs H Q=>∃l xs i k y,x=.ref l/\vs=[.int i]/\H l=some (.lst xs) /\ -(2 ^ 63)<=i/\i<2 ^ 63/\seqIndex? i xs.length=some k/\xs[k]?=some y/\Q y (upd H l (.lst (xs.eraseIdx k)))
theorem z0K:MtM X "list.pop" z66:=by
 intro pins s σ H x vs v us Q I rx rv h;obtain⟨l,xs,i,k,y,rfl,rfl,hH,h1,h2,hk,hy,q⟩:=h;cases rx;obtain⟨u,rfl,ru⟩:=rv.one;obtain⟨t,rfl⟩:=ru;obtain⟨z,its,n,r,hl,e⟩:=I.lstM hH;obtain⟨w,hw,rw'⟩:=r.get hy;refine call_meets F.slot_list_pop ⟨_,e,rfl⟩ F.entry_list_pop (F.args_list_pop_2 _ _)
  (MeetsSeq.list_pop_at l its.toArray n i t k w (fitsIndex_both h1 h2) (by rw[List.size_toArray,<-hl];exact hk) (by rw[<-Array.getElem?_toList];exact hw) (by rw[List.size_toArray];omega)) ⟨e,?_⟩
 refine⟨y,_,I.lset (its':=its.eraseIdx k) hH e ?_ (r.eraseIdx k) ?_,rw',q⟩
 ·show its.toArray.eraseIdxIfInBounds k=(its.eraseIdx k).toArray;rw[List.eraseIdxIfInBounds_toArray]
 ·have:=z1Y xs k;omega
noncomputable def rCat:R2:=fun x y H Q=>∃l b xs zs,x=.ref l/\y=.ref b/\H l=some (.lst xs)/\H b=some (.lst zs)/\xs.length+zs.length<=sizeLine/\∀p,H p=none->Q (.ref p) (upd H p (.lst (xs++zs)))
theorem op_cat:OpR X (binaryOp .Add) rCat:=by
 intro pins s σ H x y v u Q I rx ry h;obtain⟨l,b,xs,zs,rfl,rfl,hH,hB,hz,q⟩:=h;cases rx;cases ry;obtain⟨z,its,n,r,hl,e⟩:=I.lstM hH;obtain⟨z2,its2,n2,r2,hl2,e2⟩:=I.lstM hB;refine PySem.P.add_list e e2 ?_ (by rw[List.size_toArray,List.size_toArray];omega);have ea:its.toArray++its2.toArray=(its++its2).toArray:=by simp
 rw[ea];exact⟨.ref _,_,I.lnew (t':=s.toks) (r.append r2) (by rw[List.length_append];omega),rfl,q _ I.fresh⟩
noncomputable def rRep:R2:=fun x y H Q=>∃l k xs,x=.ref l/\y=.int k/\H l=some (.lst xs) /\ -(2 ^ 63)<=k/\k<2 ^ 63/\xs.length*k.toNat<=sizeLine/\
 ∀p,H p=none->Q (.ref p) (upd H p (.lst (List.replicate k.toNat xs).flatten))
theorem z4u{α:Type}(xs:List α)(k:Nat):(List.replicate k xs).flatten.length=k*xs.length:=by
 induction k with
 | zero=>simp
 | succ k ih=>rw[List.replicate_succ,List.flatten_cons,List.length_append,ih,Nat.succ_mul,Nat.add_comm]
theorem z7h:OpR X (binaryOp .Mult) rRep:=by
 intro pins s σ H x y v u Q I rx ry h;obtain⟨l,k,xs,rfl,rfl,hH,h1,h2,hz,q⟩:=h;cases rx;obtain⟨t,rfl⟩:=ry;obtain⟨z,its,n,r,hl,e⟩:=I.lstM hH;have hlen:its.toArray.size*k.toNat<=sizeLine:=by rw[List.size_toArray,<-hl];exact hz
 have hcap:¬its.toArray.size*k.toNat>(2 ^ 63 - 1) / 8:=by
  have:(sizeLine:Nat)<=(2 ^ 63 - 1) / 8:=by decide
  omega
 have hfit:¬(!Builtin.List.listFitsIndex k)=true:=by
  rw[fitsIndex_both h1 h2];exact Bool.false_ne_true
 have hlong:¬Builtin.List.listTooLong (its.toArray.size*k.toNat)=true:=by
  rw[z3C hlen];exact Bool.false_ne_true
 have hnew:List.foldl (fun x1 x2=>x1++x2) #[] (List.replicate (if its.toArray.isEmpty=true then 0 else k.toNat) its.toArray)=(List.replicate k.toNat its).flatten.toArray:=by
  have f0:∀m:Nat,List.foldl (fun x1 x2=>x1++x2) #[] (List.replicate m its.toArray)=(List.replicate m its).flatten.toArray:=fun m=>by
   have:=uD its m [];rw[List.nil_append]at this;exact this
  rw[f0];cases its with
  | nil=>simp
  | cons a r'=>rw[if_neg (by simp)]
 refine wpAny_binaryOp_repeat_ref (T:="list") (U:="int") (by decide) ⟨_,e,rfl⟩ (fun s'=>typeIs_int s' k t) noFill_list_mul F.fills_int_mul F.slot_int_rmul repeat_list F.slot_int_index.lookup
  (call_meets F.slot_int_rmul (typeIs_int s k t) F.entry_int_rmul (F.args_int_rmul_2 _ _) (int___rmul___int_list k t l its.toArray n)
   ⟨e,rfl,⟨_,e,rfl⟩,call_meets F.slot_list_mul ⟨_,e,rfl⟩ F.entry_list_mul (F.args_list_mul_2 _ _) (AutoListH.list___mul___list_int_3 l its.toArray n k t hfit hcap hlong) ⟨e,?_⟩⟩)
 rw[hnew];exact⟨.ref _,_,I.lnew (t':=s.toks) (r.rep k.toNat) (by rw[z4u,Nat.mul_comm];exact hz),rfl,q _ I.fresh⟩
end
section
variable{prog:Program}{w:World}{A:Around}{E:Value->Shared->Prop}{s:Shared}
set_option maxRecDepth 100000 in
end
section
variable{X:Cx}
end
section
variable{κ:Type}[DecidableEq κ]
noncomputable def valV(kvs:List (κ×V))(k:κ):Option V:=(kvs.find? fun kv=>decide (kv.1=k)).map (·.2)
noncomputable def putK(kvs:List (κ×V))(k:κ)(v:V):List (κ×V):=
 if (kvs.any fun kv=>decide (kv.1=k))=true then kvs.map (fun kv=>if kv.1=k then(kv.1,v)else kv)else kvs++[(k,v)]
theorem xy{p:κ×V}{r:List (κ×V)}{k:κ}(e:p.1=k):valV (p::r) k=some p.2:=by simp[valV,List.find?_cons,e]
theorem xX{p:κ×V}{r:List (κ×V)}{k:κ}(e:¬p.1=k):valV (p::r) k=valV r k:=by simp[valV,List.find?_cons,e]
theorem z0d(k:κ):∀kvs:List (κ×V),(kvs.any fun kv=>decide (kv.1=k))=(valV kvs k).isSome
 | []=>rfl
 | p::r=>by
  rw[List.any_cons];by_cases e:p.1=k
  ·simp only[xy e,decide_eq_true e,Bool.true_or,Option.isSome_some]
  ·rw[xX e,decide_eq_false e,Bool.false_or];exact z0d k r
theorem yx(kvs:List (κ×V))(k:κ)(v:V):(putK kvs k v).length<=kvs.length+1:=by
 unfold putK;split
 ·rw[List.length_map];omega
 ·rw[List.length_append,List.length_cons,List.length_nil];omega
theorem z2b{kvs:List (κ×V)}{k:κ}(v:V)(h:valV kvs k=none):putK kvs k v=kvs++[(k,v)]:=by
 unfold putK;rw[z0d,h];exact if_neg (by decide)
theorem RelO.isSome_eq{o:Option V}{u:Option Value}(r:RelO o u):o.isSome=u.isSome:=by
 cases o with
 | none=>cases u with
  | none=>rfl
  | some _=>exact(show False from r).elim
 | some _=>cases u with
  | none=>exact(show False from r).elim
  | some _=>rfl
theorem KV.val{kvs:List (κ×V)}{vs:List (κ×Value)}(r:KV kvs vs)(k:κ):RelO (valV kvs k) (valueAt vs k):=by
 unfold KV at r
 induction r with
 | nil=>exact True.intro
 | @cons p q ps qs h t ih=>
  obtain⟨h1,h2⟩:=h;by_cases e:p.1=k
  ·have e':q.1=k:=h1.symm.trans e;have b:valueAt (q::qs) k=some q.2:=by simp[valueAt,List.find?_cons,e']
   rw[xy e,b];exact h2
  ·have e':¬q.1=k:=fun z=>e (h1.trans z);have b:valueAt (q::qs) k=valueAt qs k:=by simp[valueAt,List.find?_cons,e']
   rw[xX e,b];exact ih
theorem KV.any{kvs:List (κ×V)}{vs:List (κ×Value)}(r:KV kvs vs)(k:κ):(kvs.any fun kv=>decide (kv.1=k))=vs.any fun kv=>decide (kv.1=k):=by
 unfold KV at r
 induction r with
 | nil=>rfl
 | cons h t ih=>rw[List.any_cons,List.any_cons,ih,h.1]
theorem KV.repl{kvs:List (κ×V)}{vs:List (κ×Value)}(r:KV kvs vs)(k:κ){y:V}{u:Value}(ry:RelV y u):
  KV (kvs.map fun kv=>if kv.1=k then(kv.1,y)else kv) (vs.map fun kv=>if kv.1=k then(kv.1,u)else kv):=by
 unfold KV at r |-
 induction r with
 | nil=>exact .nil
 | @cons p q ps qs h t ih=>
  rw[List.map_cons,List.map_cons];refine .cons ?_ ih;obtain⟨h1,h2⟩:=h;by_cases e:p.1=k
  ·rw[if_pos e,if_pos (h1.symm.trans e)];exact⟨h1,ry⟩
  ·rw[if_neg e,if_neg (fun z=>e (h1.trans z))];exact⟨h1,h2⟩
theorem KV.put{kvs:List (κ×V)}{vs:List (κ×Value)}(r:KV kvs vs)(k:κ){y:V}{u:Value}(ry:RelV y u):KV (putK kvs k y) (stored vs k u):=by
 unfold putK stored;rw[r.any k];by_cases e:(vs.any fun kv=>decide (kv.1=k))=true
 ·rw[if_pos e,if_pos e];exact r.repl k ry
 ·rw[if_neg e,if_neg e];exact Paired.snoc r ⟨rfl,ry⟩
theorem KV.length{kvs:List (κ×V)}{vs:List (κ×Value)}(r:KV kvs vs):kvs.length=vs.length:=Paired.length r
end
theorem z2O{P:Program}{w:World}{k:Key}{u:Value}(r:RelV (kV k) u):(zn P w).is k u=true:=by
 cases k with
 | inl i=>obtain⟨t,e⟩:=(show ∃t,u=Value.int i t from r);subst e;exact z2D P w i t
 | inr x=>obtain⟨t,e⟩:=(show ∃t,u=Value.str x t from r);subst e;exact z2R P w x t
theorem z1l{P:Program}{w:World}:∀{ks:List Key} {us:List Value},Vals (ks.map kV) us->ItemsAre (zn P w) ks us
 | [],_,r=>by rw[List.map_nil]at r;cases r;exact .nil
 | k::ks,_,r=>by
  rw[List.map_cons]at r;cases r with
  | cons h t=>exact .cons (z2O h) (z1l t)
noncomputable abbrev KT(H:Hp):List (List Key×V)->List (List Key×Addr×Value)->Prop:=Paired fun p q=>p.1=q.1/\H q.2.1=some (.tup (p.1.map kV))/\RelV p.2 q.2.2
theorem KT.val{H:Hp}{kvs:List (List Key×V)}{xs:List (List Key×Addr×Value)}(r:KT H kvs xs)(k:List Key):RelO (valV kvs k) ((atKey xs k).map (·.2)):=by
 induction r with
 | nil=>exact True.intro
 | @cons p q ps qs h t ih=>
  obtain⟨h1,_,h2⟩:=h;by_cases e:p.1=k
  ·have e':q.1=k:=h1.symm.trans e;have b:atKey (q::qs) k=some q.2:=by simp[atKey,List.find?_cons,e']
   rw[xy e,b];exact h2
  ·have e':¬q.1=k:=fun z=>e (h1.trans z);have b:atKey (q::qs) k=atKey qs k:=by simp[atKey,List.find?_cons,e']
   rw[xX e,b];exact ih
theorem KT.repl{H:Hp}{kvs:List (List Key×V)}{xs:List (List Key×Addr×Value)}(r:KT H kvs xs)(k:List Key){y:V}{u:Value}(ry:RelV y u):
  KT H (kvs.map fun kv=>if kv.1=k then(kv.1,y)else kv) (xs.map (putAt k u)):=by
 induction r with
 | nil=>exact .nil
 | @cons p q ps qs h t ih=>
  rw[List.map_cons,List.map_cons];refine .cons ?_ ih;obtain⟨h1,h2,h3⟩:=h;unfold putAt;by_cases e:p.1=k
  ·rw[if_pos e,if_pos (h1.symm.trans e)];exact⟨h1,h2,ry⟩
  ·rw[if_neg e,if_neg (fun z=>e (h1.trans z))];exact⟨h1,h2,h3⟩
theorem KT.put{H:Hp}{kvs:List (List Key×V)}{xs:List (List Key×Addr×Value)}(r:KT H kvs xs)(k:List Key){b:Addr}{y:V}{u:Value}(hb:H b=some (.tup (k.map kV)))(ry:RelV y u):
  KT H (putK kvs k y) (storedH xs k b u):=by
 have e:(kvs.any fun kv=>decide (kv.1=k))=(atKey xs k).isSome:=by
  rw[z0d,(r.val k).isSome_eq,Option.isSome_map]
 unfold putK storedH;rw[e];by_cases q:(atKey xs k).isSome=true
 ·rw[if_pos q,if_pos q];exact r.repl k ry
 ·rw[if_neg q,if_neg q];exact Paired.snoc r ⟨rfl,hb,ry⟩
theorem KT.keeps{H H':Hp}{kvs:List (List Key×V)}{xs:List (List Key×Addr×Value)}(r:KT H kvs xs)(ht:∀b ys,H b=some (.tup ys)->H' b=some (.tup ys)):KT H' kvs xs:=
 Paired.mapP r fun _ _ z=>⟨z.1,ht _ _ z.2.1,z.2.2⟩
section
variable{P:Program}{w:World}{H:Hp}{h:Heap}{a:Addr}
theorem zBH{u:HO}(ok:HOk P w H h)(e:Rd H a u):ObjOk P w H h a u:=e.ok ok
theorem z3b{kvs:List (Key×V)}(ok:HOk P w H h)(e:Rd H a (.dK kvs)):kvs.length<=sizeLine/\(a == sysModules)=false/\∃vs,KV kvs vs/\h.DictOf (zn P w) a vs:=
 show ObjOk P w H h a (.dK kvs) from zBH ok e
theorem z6J{kvs:List (Key×V)}(ok:HOk P w H h)(e:H a=some (.dK kvs)):kvs.length<=sizeLine/\(a == sysModules)=false/\∃vs,KV kvs vs/\h.DictOf (zn P w) a vs:=z3b ok (.inl e)
theorem uP{ks:List Key}(ok:HOk P w H h)(e:H a=some (.tup (ks.map kV))):(tupleKind (zn P w)).is h ks a:=by
 obtain⟨_,its,r,o,h1,h2,n,h3⟩:=(show ObjOk P w H h a (.tup (ks.map kV)) from ok a _ e);exact⟨o,its.toArray,n,h1,h2,h3,by simpa using z1l r⟩
theorem z3f{kvs:List (List Key×V)}(ok:HOk P w H h)(e:Rd H a (.dT kvs)):kvs.length<=sizeLine/\(a == sysModules)=false/\
  ∃xs,KT H kvs xs/\h.DictOfH (tupleKind (zn P w)) a xs:=by
 obtain⟨z,y,xs,r,o,es,ep,h1,h2,h3,h4,h5⟩:=(show ObjOk P w H h a (.dT kvs) from zBH ok e);refine⟨z,y,xs,r,o,es,ep,h1,h2,h3,h4,fun x hx=>?_,h5⟩;have all:∀{l:List (List Key×V)} {m:List (List Key×Addr×Value)},KT H l m->∀x∈m,(tupleKind (zn P w)).is h x.1 x.2.1:=by
  intro l m q
  induction q with
  | nil=>intro x hx;exact nomatch hx
  | @cons p q ps qs hq t ih=>
   intro x hx;rcases List.mem_cons.mp hx with e | hx
   ·subst e;exact uP ok (by rw[<-hq.1];exact hq.2.1)
   ·exact ih x hx
 exact all r x hx
theorem z9V{kvs:List (List Key×V)}(ok:HOk P w H h)(e:H a=some (.dT kvs)):kvs.length<=sizeLine/\(a == sysModules)=false/\
  ∃xs,KT H kvs xs/\h.DictOfH (tupleKind (zn P w)) a xs:=z3f ok (.inl e)
end
def DGet(H:Hp)(a:Addr)(y:V)(r:Option V):Prop:=
 (∃kvs k,Rd H a (.dK kvs)/\y=kV k/\r=valV kvs k)\/∃kvs k b,Rd H a (.dT kvs)/\y=.ref b/\H b=some (.tup (k.map kV))/\r=valV kvs k
def DPut(H:Hp)(a:Addr)(y v:V)(H':Hp):Prop:=
 (∃kvs k,H a=some (.dK kvs)/\y=kV k/\kvs.length<sizeLine/\H'=upd H a (.dK (putK kvs k v)))\/
 ∃kvs k b,H a=some (.dT kvs)/\y=.ref b/\H b=some (.tup (k.map kV))/\kvs.length<sizeLine/\H'=upd H a (.dT (putK kvs k v))
theorem DPut.k{H:Hp}{a:Addr}{kvs:List (Key×V)}{k:Key}{v:V}(e:H a=some (.dK kvs))(hl:kvs.length<sizeLine):DPut H a (kV k) v (upd H a (.dK (putK kvs k v))):=.inl ⟨kvs,k,e,rfl,hl,rfl⟩
theorem DPut.t{H:Hp}{a b:Addr}{kvs:List (List Key×V)}{k:List Key}{v:V}(e:H a=some (.dT kvs))(eb:H b=some (.tup (k.map kV)))(hl:kvs.length<sizeLine):
  DPut H a (.ref b) v (upd H a (.dT (putK kvs k v))):=.inr ⟨kvs,k,b,e,rfl,eb,hl,rfl⟩
section
variable{X:Cx}{pins:List (Addr×Obj)}{σ:St}{H:Hp}{s:Shared}{a:Addr}{y v:V}{u r:Value}{o:Option V}{A:Around}{E:Value->Shared->Prop}
theorem Inv.big(I:Inv X pins σ H s):sysModules<s.heap.objs.size:=by
 have h:mainGlobals<s.heap.objs.size:=(I.mod.glob.keeps I.bk).lt;exact Nat.lt_trans (by decide) h
theorem z4S{Q:Value->Shared->Prop}(hu:A.units+1<cLine)(I:Inv X pins σ H s)(g:DGet H a y (some v))(ry:RelV y u)(h:∀w' s',Inv X pins σ H s'->RelV v w'->Q w' s'):
  wpAny (model X.prog X.w) A (getItem (.ref a) u) Q E s:=by
 rcases g with ⟨kvs,k,e,ey,l⟩ | ⟨kvs,k,b,e,ey,eb,l⟩
 ·subst ey;obtain⟨z,hd,vs,rel,dd⟩:=z3b I.hok e;obtain⟨w',hw,rw'⟩:=RelO.some_of (v:=v) (o:=valueAt vs k) (by rw[l];exact rel.val k);exact wpAny_getItem_of (z2O ry) dd.mapOf hw (h w' _ (I.tok _) rw')
 ·subst ey;cases(show u=Value.ref b from ry);obtain⟨z,hd,xs,rel,dd⟩:=z3f I.hok e;obtain⟨w',hw,rw'⟩:=RelO.some_of (v:=v) (o:=(atKey xs k).map (·.2)) (by rw[l];exact rel.val k);obtain⟨p,hp,hp2⟩:=Option.map_eq_some_iff.mp hw;refine wpAny_getItem_heap (tupleKind_room_in1 hu) (uP I.hok eb) dd hp ?_;rw[hp2];exact h w' _ (I.tok _) rw'
theorem d_in{Q:Value->Shared->Prop}(hu:A.units+1<cLine)(I:Inv X pins σ H s)(g:DGet H a y o)(ry:RelV y u)(h:∀s',Inv X pins σ H s'->Q (.bool o.isSome) s'):
  wpAny (model X.prog X.w) A (compareOp .In u (.ref a)) Q E s:=by
 rcases g with ⟨kvs,k,e,ey,l⟩ | ⟨kvs,k,b,e,ey,eb,l⟩
 ·subst ey;obtain⟨z,hd,vs,rel,dd⟩:=z3b I.hok e;refine wpAny_in_of (z2O ry) hd dd.mapOf ?_;rw[<-(rel.val k).isSome_eq,<-l];exact h _ (I.tok _)
 ·subst ey;cases(show u=Value.ref b from ry);obtain⟨z,hd,xs,rel,dd⟩:=z3f I.hok e;refine wpAny_in_heap (tupleKind_room_in1 hu) (uP I.hok eb) hd dd ?_;have q:=(rel.val k).isSome_eq;rw[Option.isSome_map]at q;rw[<-q,<-l];exact h _ (I.tok _)
theorem z9C{Q:Value->Shared->Prop}(hu:A.units+1<cLine)(I:Inv X pins σ H s)(g:DGet H a y o)(ry:RelV y u)(h:∀s',Inv X pins σ H s'->Q (.bool (!o.isSome)) s'):
  wpAny (model X.prog X.w) A (compareOp .NotIn u (.ref a)) Q E s:=by
 rcases g with ⟨kvs,k,e,ey,l⟩ | ⟨kvs,k,b,e,ey,eb,l⟩
 ·subst ey;obtain⟨z,hd,vs,rel,dd⟩:=z3b I.hok e;refine wpAny_notIn_of (z2O ry) hd dd.mapOf ?_;rw[<-(rel.val k).isSome_eq,<-l];exact h _ (I.tok _)
 ·subst ey;cases(show u=Value.ref b from ry);obtain⟨z,hd,xs,rel,dd⟩:=z3f I.hok e;refine wpAny_notIn_heap (tupleKind_room_in1 hu) (uP I.hok eb) hd dd ?_;have q:=(rel.val k).isSome_eq;rw[Option.isSome_map]at q;rw[<-q,<-l];exact h _ (I.tok _)
theorem wY{h':Heap}{t':Nat}{ob:HO}(I:Inv X pins σ H s)(mu:Mut (H a))(hs:Heap.SameBut a s.heap h')(he:∃q,h'.get? a=some q)(new:ObjOk X.prog X.w (upd H a ob) h' a ob):
  Inv X pins σ (upd H a ob) { s with heap:=h',toks:=t' }:=
 I.write (x:=a) (e:=a) mu (.inl rfl) (fun b q hb z=>(hs.2 b hb).trans z) he new
theorem z5C{P:Program}{w:World}{H':Hp}{h':Heap}{kvs:List (Key×V)}{vs:List (Key×Value)}(z:kvs.length<=sizeLine)(hd:(a == sysModules)=false)(rel:KV kvs vs)(dd:h'.DictOf (zn P w) a vs):
  ObjOk P w H' h' a (.dK kvs):=⟨z,hd,vs,rel,dd⟩
theorem uX{H':Hp}{Q:Unit->Shared->Prop}(hu:A.units+1<cLine)(I:Inv X pins σ H s)(g:DPut H a y v H')(ry:RelV y u)(rv:RelV v r)(h:∀s',Inv X pins σ H' s'->Q () s'):
  wpAny (model X.prog X.w) A (setItem (.ref a) u r) Q E s:=by
 rcases g with ⟨kvs,k,e,ey,l,eH⟩ | ⟨kvs,k,b,e,ey,eb,l,eH⟩
 ·subst ey eH;obtain⟨z,hd,vs,rel,dd⟩:=z6J I.hok e;have hz:vs.length<=sizeLine:=by rw[<-rel.length];exact z
  have hl:(putK kvs k v).length<=sizeLine:=by have:=yx kvs k v;omega
  refine wpAny_setItem_pairs (hsz:=hz) (z2O ry) dd fun h' dd' hs=>h _ ?_;have he:∃q,h'.get? a=some q:=let⟨q,_,_,hq,_⟩:=dd';⟨q,hq⟩
  exact wY I (by rw[e];exact True.intro) hs he (z5C hl hd (rel.put k rv) dd')
 ·subst ey eH;cases(show u=Value.ref b from ry);obtain⟨z,hd,xs,rel,dd⟩:=z9V I.hok e;have hz:xs.length<=sizeLine:=by rw[<-Paired.length rel];exact z
  have hl:(putK kvs k v).length<=sizeLine:=by have:=yx kvs k v;omega
  refine wpAny_setItem_heap (hsz:=hz) (tupleKind_room_in1 hu) (uP I.hok eb) dd fun h' dd' hs=>h _ ?_;obtain⟨q,es,ep,hq,h2,h3,h4,_,h5⟩:=dd';refine wY I (by rw[e];exact True.intro) hs ⟨q,hq⟩ ⟨hl,hd,_,(rel.put k eb rv).keeps fun c ys ec=>?_,q,es,ep,hq,h2,h3,h4,h5⟩;rw[zB (z3x ec e (fun z=>nomatch z))];exact ec
end
section
variable{X:Cx}{pins:List (Addr×Obj)}{σ:St}{H:Hp}{s:Shared}{a:Addr}{kvs:List (Key×V)}{k:Key}{u:Value}{A:Around}{E:Value->Shared->Prop}
end
theorem z2L{X:Cx}{pins:List (Addr×Obj)}{σ:St}{H:Hp}{s:Shared}{a:Addr}{y:V}{o:Option V}(I:Inv X pins σ H s)(g:DGet H a y o):s.TypeIs (.ref a) "dict":=by
 rcases g with ⟨kvs,k,e,_,_⟩ | ⟨kvs,k,b,e,_,_,_⟩
 ·obtain⟨_,_,vs,_,dd⟩:=z3b I.hok e;exact dd.typeIs
 ·obtain⟨_,_,xs,_,dd⟩:=z3f I.hok e;exact dd.typeIs
section
variable{X:Cx}{o i e value:Expr}{pos pos' tpos:Pos}{td ty tv:TE}
end
theorem z2g{P:Program}{w:World}{H:Hp}(h:Heap)(hb:sysModules<h.objs.size):ObjOk P w H (h.push { cls:=.type "dict",data:=.dict #[] }) h.objs.size (.dK []):=
 ⟨Nat.zero_le _,beq_eq_false_iff_ne.mpr (Ne.symm (Nat.ne_of_lt hb)),[],.nil,Heap.DictOf.new h⟩
section
variable{X:Cx}{pos:Pos}
end
section
variable{X:Cx}{pins:List (Addr×Obj)}{σ:St}{H:Hp}{s:Shared}{a:Addr}{y d:V}{u r:Value}{o:Option V}{A:Around}{E:Value->Shared->Prop}
end
section
variable{X:Cx}{o e f:Expr}{apos cpos:Pos}{td ty tx:TE}
end
section
variable{X:Cx}{pins:List (Addr×Obj)}{σ:St}{H:Hp}{s:Shared}{a:Addr}{kvs:List (Key×V)}{A:Around}{E:Value->Shared->Prop}
end
section
variable{X:Cx}{pins:List (Addr×Obj)}{σ:St}{H:Hp}{s:Shared}{a:Addr}{y:V}{u:Value}{A:Around}{E:Value->Shared->Prop}
end
end L2
namespace Att
open PySem PySem.W PySem.Calls PyProof.Rows
theorem uL{P:Params}{h:Heap}:∀(ns:List Int) (vs:List Value),WellAll P h vs (ns.map WData.int)->IntsAre vs ns:=by
 intro ns
 induction ns with
 | nil=>
  intro vs w;rw[List.map_nil]at w;cases w;exact .nil
 | cons n ns ih=>
  intro vs w;rw[List.map_cons]at w;cases w with
  | cons a b=>
   cases a;exact .cons _ _ (ih _ b)
theorem z5O{l:OpenLaw}{n:Nat}(hn:l.most=some n){P:Params}{h:Heap}{args:List WData}{vals:List Value}
  (hpre:l.row.toRowW.claim.pre args=true) (hwl:WellAll P h vals args) :
  ∃a vs ns,vals=[Value.ref a]/\args=[WData.list (ns.map WData.int)]/\h.get? a=some { cls:=.type "list",data:=.seq vs.toArray }/\IntsAre vs ns/\ns.length<=n:=by
 have hsh:WShape.hasAll [] args [.list .int]=true:=(pre_splitW hpre).1;have hc:l.pre.holds [] { args:=args }=true:=(pre_splitW hpre).2;obtain⟨d,r,rfl,h1,h2⟩:=hasAllW_cons hsh;obtain rfl:=hasAllW_nil h2;obtain⟨xs,rfl,h3⟩:=hasW_list h1;obtain⟨ns,rfl⟩:=items_int h3;have hlen:ns.length<=n:=by
  unfold OpenLaw.pre at hc;have h4:(WTm.not (.lt (.lit (.int (n:Int))) (.len (.arg 0)))).holds [] { args:=[.list (ns.map .int)] }=true:=by
   have h4:=(holds_andW hc).1;rw[hn]at h4;exact h4
  have h5:=condW_of h4 (w_not (w_lt w_lit (w_len_list (w_arg rfl))));rw[List.length_map]at h5;refine Nat.le_of_not_lt fun q=>?_;have q':(n:Int)<((ns.length:Nat):Int):=by omega
  first
   | (rw[decide_eq_true q']at h5;exact absurd h5 (by decide))
   | (simp at h5;omega)
 cases hwl with
 | cons w1 w2=>
  cases w2;cases w1 with
  | list ho hall=>exact⟨_,_,ns,rfl,rfl,ho,uL ns _ hall,hlen⟩
theorem z4I(l:OpenLaw)(args:List WData):l.row.toRowW.claim.post args (.bool true) args=true:=
 postW_of (r:=l.row.toRowW) (X:=(true == true))
  (show WShape.has [] (.bool true) .bool=true by first | rfl | decide | simp[WShape.has,WShape.arms,WShape.armsAll])
  (show(WTm.eq .res (.lit (.bool true))).value [] { args:=args,res:=some (.bool true),after:=args }=some (.bool (true == true)) from w_eq_bool (w_res rfl) w_lit) rfl
theorem attach_call{l:OpenLaw}{n:Nat}{q:Program}{loose:List Str}{XP:(Str->Option Value)->Heap->Prop}{YP:World->Heap->Prop}{d:DefRec}
  (hn:l.most=some n) (hdf:d.params.defaults=[])
  (call:∀(w:World) (s₀ s₁:Shared) (mg mb:Str->Option Value) (fa:Addr) (o:Obj) (pm cd doc:Value) (a:Addr) (vs:List Value) (ns:List Int),
   Ground q loose [] XP w s₀ mg mb s₁.heap->YP w s₁.heap->
   s₁.heap.get? fa=some o->o.data=.func (docDef d.name d.params d.body d.scope pm cd doc)->s₁.heap.CodeRec cd d.name->mg d.name=some (.ref fa)->
   s₁.heap.get? a=some { cls:=.type "list",data:=.seq vs.toArray }->IntsAre vs ns->ns.length<=n->s₁.gens=#[]->
   codeAny (model l.prog w) callerA (.call (.ref fa) ⟨[.ref a],[]⟩) (fun r s'=>r=.ok (.ret (.bool true))/\OldK s₁.heap s'.heap/\s'.os=s₁.os/\AllBare s'.gens) s₁) :
  WalkO q loose XP YP l.row.toRowW d [] (fun f vs=>PySem.call f vs):=by
 intro w s₀ s₁ mg mb G Y fa o pm cd doc dV kV ho hd hcd hD hmg hg args vals as hpre hlay hrd hwl hlo;obtain rfl:dV=.none:=Dflts.none hD hdf;obtain rfl:kV=.none:=Dflts.noKw hD;obtain⟨a,vs,ns,rfl,rfl,hobj,hints,hlen⟩:=z5O hn hpre hwl;refine enter_call (codeAny_mono (call w s₀ s₁ mg mb fa o pm cd doc a vs ns G Y ho (fd_plain hd) hcd hmg hobj hints hlen hg) fun r s' hq=>?_);obtain⟨rfl,h2,h3,h4⟩:=hq;exact⟨.inl ⟨.bool true,.bool true,[],rfl,fun _=>rfl,.bool true,z4I l _,fun _=>⟨List.Pairwise.nil,fun _ hm=>(nomatch hm)⟩⟩,h2,h3,h4⟩
section
variable{prog:Program}{w:World}{A:Around}{E:Value->Shared->Prop}{s:Shared}{K:Frag}
noncomputable def zCM(h:Heap)(L d:Addr):List (Addr×Obj):=(List.range h.objs.size).filterMap fun a=>if a=L\/a=d then none else(h.get? a).map fun o=>(a,o)
end
end Att
namespace L2
open PySem PySem.Spec PyProof.Rows
theorem z1h:∀{vs:List Value} {ns:List Int},IntsAre vs ns->Vals (ns.map V.int) vs
 | _,_,.nil=>.nil
 | _,_,.cons n t h=>.cons ⟨t,rfl⟩ (z1h h)
def Only(H:Hp):Prop:=∀b,H b=none\/∃o xs,H b=some (.frz o (.lst xs))
theorem z6B{P:Program}{w:World}{K:W.Frag}{mg mb:Str->Option Value}{CX:CXT}{k:Nat}{fa a:Addr}{fd:FuncData}{x:Str}{sp:Sp}{s₁:Shared}{vs:List Value}{ns:List Int}
  (KX:K.In s₁.heap) (hns:s₁.heap.Ns mainGlobals mg) (hb:s₁.heap.Ns builtinsNs mb) (hbb:∀x:Str,x≠"__name__"->mb x=bootBuiltins x) (hlim:s₁.heap.NoLimit) (hg:s₁.gens=#[])
  (ha:s₁.heap.get? a=some { cls:=.type "list",data:=.seq vs.toArray }) (hi:IntsAre vs ns) (hl:ns.length<=sizeLine) (hr:Room k callerA)
  (F:∀base:Heap,K.In base->base.Ns mainGlobals mg->FnOk P w K mg base CX k fa fd [x] sp) (hbind:∀(s:Shared) (u:Value),BindsTo s fd ⟨[u],[]⟩ [(x,u)])
  (hsp:∀H:Hp,Only H->SqL K H a (ns.map V.int)->sp [.ref a] H (fun v _=>v=.bl true) fun _ _ _=>False)
  (hCX:∀H e s',CX [] H s₁ (fun _ _ _=>False) e s'->False) :
  codeAny (model P w) callerA (.call (.ref fa) ⟨[.ref a],[]⟩) (fun r s'=>r=.ok (.ret (.bool true))/\OldK s₁.heap s'.heap/\s'.os=s₁.os/\AllBare s'.gens) s₁:=by
 have rv:=z1h hi;have lenV:=hi.length;have core:∀H:Hp,Only H->SqL K H a (ns.map V.int)->HOk P w H s₁.heap->(∀b,H b≠none->b=a)->(H a≠none->K.lookup a=none)->
   codeAny (model P w) callerA (.call (.ref fa) ⟨[.ref a],[]⟩) (fun r s'=>r=.ok (.ret (.bool true))/\OldK s₁.heap s'.heap/\s'.os=s₁.os/\AllBare s'.gens) s₁:=by
  intro H hO hS hok hA hK;have base_of:∀{b:Addr} {o:Obj},s₁.heap.get? b=some o->H b=none->(hidT s₁.heap H).get? b=some o:=fun e n=>z6E e n;have noA:∀{b:Addr} {o:Obj} {es:Array DictEntry} {ep:Nat},s₁.heap.get? b=some o->o.data=.dict es ep->H b=none:=fun{b o es ep} e d=>by
   cases q:H b with
   | none=>rfl
   | some u=>
    have e':b=a:=hA b (by rw[q];simp);subst e';rw[ha]at e;cases e;have d':Data.seq vs.toArray _=Data.dict es ep:=d;cases d'
  have nsK:∀{b:Addr} {m:Str->Option Value},s₁.heap.Ns b m->(hidT s₁.heap H).Ns b m:=fun{b m} ⟨o,es,ep,e,d,r⟩=>⟨o,es,ep,base_of e (noA e d),d,r⟩;have hKb:K.In (hidT s₁.heap H):=fun b o e=>base_of (KX b o e) (by
   cases q:H b with
   | none=>rfl
   | some u=>
    have e':b=a:=hA b (by rw[q];simp);subst e';rw[hK (by rw[q];simp)]at e;cases e)
  have hM:Mod K mg (hidT s₁.heap H):=⟨hKb,nsK hns,⟨mb,nsK hb,hbb⟩,let⟨mc,h1,h2⟩:=hlim;⟨mc,nsK h1,h2⟩⟩;have e0:Env0 P w K mg (hidT s₁.heap H) callerA [] s₁ H:=⟨rfl,hM,fun b o e=>z9W e,Nat.le_of_eq (z5x _ _),trivial,fun b hb=>absurd (show b∈([]:List Addr) from hb) (by simp),hok,.of_eq hg⟩;refine codeAny_mono ((F _ hKb (nsK hns)).run callerA [] s₁ H ⟨[.ref a],[]⟩ [.ref a] [.ref a] _ _ hr e0 (hbind s₁ (.ref a)) (.cons rfl .nil) (hsp H hO hS)) fun r s' h=>?_;cases r with
  | error e=>exact(hCX H e s' h).elim
  | ok fl=>
   cases fl with
   | next=>exact False.elim h
   | brk=>exact False.elim h
   | cont=>exact False.elim h
   | ret u=>
    obtain⟨v,H',os,bare,un,hok',r',q⟩:=h;have q':v=.bl true:=q;subst q';obtain rfl:u=Value.bool true:=r';refine⟨rfl,OldK.of_keep fun b o e=>?_,os,bare⟩;cases q:H b with
    | none=>exact un.keep b o e q (by intro z;exact absurd (show b∈([]:List Addr) from z) (by simp)) (by simp)
    | some u=>
     rcases hO b with z | ⟨ob,xs,z⟩
     ·rw[q]at z;cases z
     ·have z2:=un.frzs b ob _ z;obtain⟨e1,_⟩:=hok b _ z;obtain⟨e2,_⟩:=hok' b _ z2;rw[e]at e1;cases e1;exact e2
 cases hk:K.lookup a with
 | some o=>
  have e:=KX a o hk;rw[ha]at e;cases e;refine core (fun _=>none) (fun _=>.inl rfl) (.inr ⟨_,vs.toArray,_,hk,rfl,rfl,rfl,by rw[List.size_toArray,lenV];exact hl,by simpa using rv⟩) (fun b u z=>by have z':(none:Option HO)=some u:=z;cases z') (fun b z=>absurd rfl z) fun z=>absurd rfl z
 | none=>
  refine core (fun b=>if b=a then some (.frz { cls:=.type "list",data:=.seq vs.toArray } (.lst (ns.map V.int)))else none) (fun b=>?_) (.inl (.inr ⟨{ cls:=.type "list",data:=.seq vs.toArray },if_pos rfl⟩)) (fun b u z=>?_) (fun b z=>?_) fun _=>hk
  ·by_cases hb:b=a
   ·exact .inr ⟨_,_,if_pos hb⟩
   ·exact .inl (if_neg hb)
  ·by_cases hb:b=a
   ·have z':=(if_pos hb).symm.trans z;cases z';subst hb;exact⟨ha,by rw[List.length_map];exact hl,vs,_,rv,ha⟩
   ·have z':=(if_neg hb).symm.trans z;cases z'
  ·by_cases hb:b=a
   ·exact hb
   ·exact absurd (if_neg hb) z
noncomputable abbrev KOf{K:W.Frag}{h:Heap}(_:K.In h):W.Frag:=K
theorem walk_of{l:W.OpenLaw}{n k:Nat}{q:Program}{loose:List Str}{XP:(Str->Option Value)->Heap->Prop}{YP:World->Heap->Prop}{d:DefRec}{K:Params->W.Frag}{CX:World->CXT}{sp:World->Sp}{x:Str}
  (hn:l.most=some n) (hn2:n<=sizeLine) (hdf:d.params.defaults=[]) (hr:Room k callerA)
  (hY:∀(w:World) (h:Heap),YP w h->(K w.params).In h)
  (F:∀(w:World) (mg:Str->Option Value) (fa:Addr) (h:Heap),(K w.params).In h->h.Ns mainGlobals mg->mg d.name=some (.ref fa)->
   ∃fd:FuncData,(∀(s:Shared) (u:Value),BindsTo s fd ⟨[u],[]⟩ [(x,u)])/\
    ∀base:Heap,(K w.params).In base->base.Ns mainGlobals mg->FnOk l.prog w (K w.params) mg base (CX w) k fa fd [x] (sp w))
  (hsp:∀(w:World) (H:Hp) (a:Addr) (ns:List Int),ns.length<=n->Only H->SqL (K w.params) H a (ns.map V.int)->sp w [.ref a] H (fun v _=>v=.bl true) fun _ _ _=>False)
  (hCX:∀(w:World) (H:Hp) (s:Shared) (e:Value) (s':Shared),CX w [] H s (fun _ _ _=>False) e s'->False) :
  W.WalkO q loose XP YP l.row.toRowW d [] (fun f vs=>PySem.call f vs):=by
 refine Att.attach_call hn hdf fun w s₀ s₁ mg mb fa o pm cd doc a vs ns G Y ho hd hcd hmg hobj hints hlen hg=>?_;have KX:=hY w _ Y;obtain⟨fd,hb,hF⟩:=F w mg fa _ KX G.T.g hmg;exact z6B KX G.T.g G.T.b G.T.builtins G.T.nolimit hg hobj hints (Nat.le_trans hlen hn2) hr hF hb (fun H hO hS=>hsp w H a ns hlen hO hS) fun H e s'=>hCX w H s₁ e s'
noncomputable def xE(s:Stmt):Arguments:=match s with
 | .FunctionDef _ a _ _ _ _ _ _ _ _=>a
 | _=>{ posonlyargs:=[],args:=[],vararg:=none,kwonlyargs:=[],kw_defaults:=[],kwarg:=none,defaults:=[] }
noncomputable def yH(s:Stmt):List Stmt:=match s with
 | .FunctionDef _ _ b _ _ _ _ _ _ _=>b
 | _=>[]
noncomputable def z6(s:Stmt):Scope:=match s with
 | .FunctionDef _ _ _ _ _ _ sc _ _ _=>sc
 | _=>{ kind:=.function,names:=[],isGenerator:=false,isCoroutine:=false }
noncomputable abbrev CX0:CXT:=fun _ _ _ _ _ _=>False
noncomputable abbrev E0:XK:=fun _ _ _=>False
theorem zQ{X:Cx}:ua CX0 X E0:=fun _ _ _ _ _ _ _ h=>h.elim
structure Fun(K:W.Frag)(x qual:Str)(st:Stmt)(f:Addr)(fd:FuncData):Prop where
 ex:∃(oc:Value) (od:Option Addr) (kV doc pm:Value) (an:Option Addr) (cdv ct:Value) (osl:Array (Option Value)),
  fd=W.fnOf x qual (xE st) (yH st) (z6 st) .none kV doc pm an cdv ct/\K.lookup f=some ⟨oc,od,.func fd,osl⟩/\W.codeIn K cdv qual=true
 kp:W.keepIn K (.ref f)=true
section
variable{P:Program}{w:World}{K:W.Frag}{mg:Str->Option Value}{base:Heap}
theorem Fun.ok{x qual:Str}{st:Stmt}{f:Addr}{fd:FuncData}{N ps:List Str}{k:Nat}{sp:Sp}(F:Fun K x qual st f fd)(S:FnScope N ps (z6 st))(len:∀vs H Q E,sp vs H Q E->vs.length=ps.length)
  (hbody:∀(cdv:Value) (A:Around) (outer:List Env) (s:Shared) (H:Hp) (vs:List V) (Q:VK) (E:XK),Room k (A.deeper (envOfC qual (z6 st) s.heap.objs.size f cdv))->sp vs H Q E->
   ∃t,PSs (cxOf CX0 P w K mg base N qual (z6 st) f cdv A outer s H E).nox (yH st) t/\t { nx:=fun _ H'=>Q .non H',rt:=Q } (start N vs) H):FnOk P w K mg base CX0 (k+1) f fd ps sp:=by
 obtain⟨oc,od,kV,doc,pm,an,cdv,ct,osl,rfl,lk,hcd⟩:=F.ex;refine zBl lk hcd S len fun A outer s H vs Q E hr hsp=>?_;obtain⟨t,h,q⟩:=hbody cdv A outer s H vs Q E hr hsp;exact⟨t,h.nox,q⟩
theorem Fun.binds{x qual:Str}{st:Stmt}{f:Addr}{fd:FuncData}{ps:List Str}(F:Fun K x qual st f fd)
  (h:∀(kV doc pm:Value) (an:Option Addr) (cdv ct:Value) (us:List Value),us.length=ps.length->bindArgs (W.fnOf x qual (xE st) (yH st) (z6 st) .none kV doc pm an cdv ct) ⟨us,[]⟩=pure (ps.zip us)):Binds K fd ps []:=by
 obtain⟨oc,od,kV,doc,pm,an,cdv,ct,osl,rfl,lk,hcd⟩:=F.ex;exact .all (h kV doc pm an cdv ct)
theorem z9s{x qual:Str}{st:Stmt}{f:Addr}{oc:Value}{od an:Option Addr}{osl:Array (Option Value)}{kV doc pm cdv ct:Value}(l:K.lookup f=some ⟨oc,od,.func (W.fnOf x qual (xE st) (yH st) (z6 st) .none kV doc pm an cdv ct),osl⟩)
  (c:W.codeIn K cdv qual=true) (k:W.keepIn K (.ref f)=true):Fun K x qual st f (W.fnOf x qual (xE st) (yH st) (z6 st) .none kV doc pm an cdv ct):=⟨⟨oc,od,kV,doc,pm,an,cdv,ct,osl,rfl,l,c⟩,k⟩
end
theorem zk{A:Around}{k:Nat}(hr:Room k A):A.units+1<cLine:=Nat.lt_of_le_of_lt (Nat.add_le_add_left (by decide:1<=64) _) hr.units
theorem z17{n:Nat}(h:n<=1000):n<sizeLine:=Nat.lt_of_le_of_lt h (by decide)
section
variable{X:Cx}
theorem pv(i:Nat){x:Str}{pos:Pos}(hN:X.N[i]?=some x:=by rfl)(hv:Vis X.env.scope x:=by first | exact Or.inl rfl | exact Or.inr (Or.inl rfl) | exact Or.inr (Or.inr rfl))(hd:(x == ("__debug__":Str))=false:=by decide)
  (hcd:(x == ("__classdict__":Str))=false:=by decide):PE X (.Name x pos) (tVar i):=zA1 hN hv hd hcd
end
theorem iteT{A B:Prop}(h:A):if true=true then A else B:=by
 rw[if_pos rfl];exact h
theorem ite2{c A B:Prop}[Decidable c](h1:c->A)(h2:¬c->B):if c then A else B:=by
 by_cases h:c
 ·rw[if_pos h];exact h1 h
 ·rw[if_neg h];exact h2 h
def Same(H H':Hp):Prop:=∀b o,H b=some o->H' b=some o
theorem Same.refl(H:Hp):Same H H:=fun _ _ h=>h
theorem Same.trans{H H1 H2:Hp}(a:Same H H1)(b:Same H1 H2):Same H H2:=fun c o h=>b c o (a c o h)
theorem Same.free{H H':Hp}(e:Same H H'){l:Addr}(h:H' l=Option.none):H l=Option.none:=by
 cases q:H l with
 | none=>rfl
 | some o=>
  rw[e l o q]at h;cases h
theorem Same.seq{K:W.Frag}{H H':Hp}{a:Addr}{xs:List V}(e:Same H H')(h:SqL K H a xs):SqL K H' a xs:=by
 rcases h with (h | ⟨o,h⟩) | h
 ·exact .inl (.inl (e _ _ h))
 ·exact .inl (.inr ⟨o,e _ _ h⟩)
 ·exact .inr h
section
variable{κ:Type}[DecidableEq κ]
theorem z4s:∀{l:List κ} {k:κ},l.Nodup->¬k∈l->(l++[k]).Nodup
 | [],k,_,_=>by simp
 | a::r,k,h,hk=>by
  obtain⟨h1,h2⟩:=List.nodup_cons.mp h;show(a::(r++[k])).Nodup;refine List.nodup_cons.mpr ⟨fun m=>?_,z4s h2 fun m=>hk (List.mem_cons.mpr (Or.inr m))⟩;rcases List.mem_append.mp m with q | q
  ·exact h1 q
  ·exact hk (List.mem_cons.mpr (Or.inl (List.mem_singleton.mp q).symm))
end
end L2
set_option maxHeartbeats 4000000
namespace L2
open PySem PySem.Spec PyProof.Rows
noncomputable def y9(cells:List (Str×Addr)):List (Str×NameKind)->List (Str×Addr)->List (Str×Addr)
 | [],acc=>acc
 | (n,k)::r,acc=>if k=.free then y9 cells r ((n,(cells.lookup n).getD 0)::acc)else y9 cells r acc
theorem z6y{scope:Scope}{env:Env}(h:∀n,(n,NameKind.free)∈scope.names->∃c,env.cells.lookup n=some c):
  closureFor scope env=pure (y9 env.cells scope.names []):=by
 simp only[closureFor];generalize scope.names=l at h;generalize([]:List (Str×Addr))=acc
 induction l generalizing acc with
 | nil=>rfl
 | cons x r ih=>
  obtain⟨n,k⟩:=x;rw[List.forIn_cons];by_cases hk:k=.free
  ·subst hk;obtain⟨c,hc⟩:=h n List.mem_cons_self;have e:cellOf env n=pure c:=by unfold cellOf;rw[hc]
   simp only[beq_self_eq_true,if_true,e,pure_bind]
   have:=ih (fun m hm=>h m (List.mem_cons_of_mem _ hm)) ((n,c)::acc);unfold y9;rw[if_pos rfl,hc];exact this
  ·have hb:(k == NameKind.free)=false:=by simpa using hk
   simp only[hb,Bool.false_eq_true,if_false,pure_bind];unfold y9;rw[if_neg hk];exact ih (fun m hm=>h m (List.mem_cons_of_mem _ hm)) acc
theorem ya{cells:List (Str×Addr)}:∀{l:List (Str×NameKind)} {acc:List (Str×Addr)} {n:Str} {c:Addr},(n,c)∈y9 cells l acc->(n,c)∈acc\/((n,NameKind.free)∈l/\c=(cells.lookup n).getD 0)
 | [],_,_,_,h=>.inl h
 | (m,k)::r,acc,n,c,h=>by
  unfold y9 at h;split at h
  next hk=>
   rcases ya h with h | ⟨h,e⟩
   ·rcases List.mem_cons.mp h with e | h
    ·cases e;subst hk;exact .inr ⟨List.mem_cons_self,rfl⟩
    ·exact .inl h
   ·exact .inr ⟨List.mem_cons_of_mem _ h,e⟩
  next=>
   rcases ya h with h | ⟨h,e⟩
   ·exact .inl h
   ·exact .inr ⟨List.mem_cons_of_mem _ h,e⟩
theorem yi{α:Type}:∀{l:List (Str×α)} {n:Str} {c:α},(n,c)∈l->∃c',l.lookup n=some c'
 | (k,v)::r,n,c,h=>by
  rw[List.lookup_cons];cases hb:n == k with
  | true=>exact⟨v,rfl⟩
  | false=>
   rcases List.mem_cons.mp h with e | h
   ·cases e;simp at hb
   ·exact yi h
theorem xk{cells:List (Str×Addr)}:∀{l:List (Str×NameKind)} {acc:List (Str×Addr)} {n:Str},((n,NameKind.free)∈l\/∃c,(n,c)∈acc)->∃c,(n,c)∈y9 cells l acc
 | [],_,_,h=>by
  rcases h with h | h
  ·exact nomatch h
  ·exact h
 | (m,k)::r,acc,n,h=>by
  unfold y9;split
  next hk=>
   refine xk ?_;rcases h with h | ⟨c,h⟩
   ·rcases List.mem_cons.mp h with e | h
    ·cases e;exact .inr ⟨_,List.mem_cons_self⟩
    ·exact .inl h
   ·exact .inr ⟨c,List.mem_cons_of_mem _ h⟩
  next hk=>
   refine xk ?_;rcases h with h | h
   ·rcases List.mem_cons.mp h with e | h
    ·cases e;exact absurd rfl hk
    ·exact .inl h
   ·exact .inr h
theorem zq:∀(l:List (Str×NameKind)) (n:Nat) (acc:List (Str×Addr)),cellsFrom n l acc=cellsFrom n l []++acc
 | [],_,_=>rfl
 | (m,k)::r,n,acc=>by
  unfold cellsFrom;split
  ·rw[zq r (n+1) ((m,n)::acc),zq r (n+1) [(m,n)],List.append_assoc];rfl
  ·exact zq r n acc
theorem xR:∀{l:List (Str×NameKind)} {n:Nat} {acc:List (Str×Addr)} {x:Str} {c:Addr},(x,c)∈cellsFrom n l acc->(x,c)∈acc\/((x,NameKind.cell)∈l/\n<=c)
 | [],_,_,_,_,h=>.inl h
 | (m,k)::r,n,acc,x,c,h=>by
  unfold cellsFrom at h;split at h
  next hk=>
   rcases xR h with h | ⟨h,e⟩
   ·rcases List.mem_cons.mp h with e | h
    ·cases e;rw[beq_iff_eq.mp hk];exact .inr ⟨List.mem_cons_self,Nat.le_refl _⟩
    ·exact .inl h
   ·exact .inr ⟨List.mem_cons_of_mem _ h,by omega⟩
  next=>
   rcases xR h with h | ⟨h,e⟩
   ·exact .inl h
   ·exact .inr ⟨List.mem_cons_of_mem _ h,e⟩
theorem zx{scope:Scope}{env:Env}{y:Str}:(relabel scope env).names.lookup y=(scope.names.lookup y).map fun k=>if (k == .free && env.scope.kind == .function && env.kindOf y == some .cell)=true then .cell else k:=by
 show(scope.names.map _).lookup y=_;generalize scope.names=l
 induction l with
 | nil=>rfl
 | cons x r ih=>
  obtain⟨n,k⟩:=x;rw[List.map_cons,List.lookup_cons];cases hb:y == n with
  | true=>
   have e:=beq_iff_eq.mp hb;subst e;by_cases hc:(k == NameKind.free && env.scope.kind == .function && env.kindOf y == some .cell)=true
   ·simp only[hc,if_true,List.lookup_cons,beq_self_eq_true,Option.map_some]
   ·simp only[hc,Bool.false_eq_true,if_false,List.lookup_cons,beq_self_eq_true,Option.map_some]
  | false=>
   by_cases hc:(k == NameKind.free && env.scope.kind == .function && env.kindOf n == some .cell)=true
   ·simp only[hc,if_true,List.lookup_cons,hb];exact ih
   ·simp only[hc,Bool.false_eq_true,if_false,List.lookup_cons,hb];exact ih
noncomputable def z2M(N:List Str)(sc scope:Scope)(xs:List Str)(N':List Str):Bool:=
 scope.kind == .function && (N'.length == N.length+xs.length) && decide N'.Nodup && decide (N'.drop N.length=xs)
 && xs.all (fun x=>scope.names.lookup x == some .local || scope.names.lookup x == some .cell)
 && scope.names.all (fun p=>scope.names.lookup p.1 == some p.2)
 && scope.names.all (fun p=>!(p.2 == .free) || sc.names.lookup p.1 == some .cell || sc.names.lookup p.1 == some .free)
 && (List.range N.length).all fun i=>match N'[i]? with
  | none=>true
  | some y=>match scope.names.lookup y with
   | none=>true
   | some .free=>N[i]? == some y
   | some _=>false
noncomputable abbrev wg(N:List Str)(sc scope:Scope)(x:Str)(N':List Str):Bool:=z2M N sc scope [x] N'
structure CompOk(N:List Str)(sc scope:Scope)(xs:List Str)(N':List Str):Prop where
 kind:scope.kind=.function
 len:N'.length=N.length+xs.length
 nd:N'.Nodup
 here:N'.drop N.length=xs
 tgt:∀x∈xs,scope.names.lookup x=some .local\/scope.names.lookup x=some .cell
 uniq:∀p∈scope.names,scope.names.lookup p.1=some p.2
 cap:∀y,(y,NameKind.free)∈scope.names->sc.names.lookup y=some .cell\/sc.names.lookup y=some .free
 see:∀i y,i<N.length->N'[i]?=some y->scope.names.lookup y≠none->scope.names.lookup y=some .free/\N[i]?=some y
theorem CompOk.of{N:List Str}{sc scope:Scope}{xs:List Str}{N':List Str}(h:z2M N sc scope xs N'=true):CompOk N sc scope xs N':=by
 unfold z2M at h;simp only[Bool.and_eq_true,Bool.or_eq_true,beq_iff_eq,decide_eq_true_eq,List.all_eq_true]at h;obtain⟨⟨⟨⟨⟨⟨⟨h1,h2⟩,h3⟩,h4⟩,h5⟩,h6⟩,h7⟩,h8⟩:=h;refine⟨h1,h2,h3,h4,h5,h6,fun y hy=>?_,fun i y hi e hn=>?_⟩
 ·rcases h7 _ hy with (h | h) | h
  ·simp at h
  ·exact .inl h
  ·exact .inr h
 ·have q:=h8 i (List.mem_range.mpr hi);rw[e]at q;dsimp only at q;cases e2:scope.names.lookup y with
  | none=>exact absurd e2 hn
  | some k=>
   rw[e2]at q;cases k<;>first | exact(Bool.false_ne_true q).elim | exact⟨rfl,beq_iff_eq.mp q⟩
noncomputable def zJ(X:Cx)(scope:Scope)(C:Addr):List (Str×Addr):=cellsFrom (C+1) scope.names (y9 X.env.cells scope.names [])
noncomputable def zT(X:Cx)(scope:Scope)(N':List Str)(C:Addr)(s:Shared)(H:Hp)(fp:List Addr):Cx:=
 { X with N:=N',s₀:=s,H₀:=H,env:=compEnvC scope (zJ X scope C) C X.env,outer:=X.stack,ex:=fp,fn:=fun y=>scope.names.lookup y == some .cell,pn:=[],xe:=fun _ _=>False }
section
variable{X:Cx}{pins:List (Addr×Obj)}{σ:St}{H:Hp}{s:Shared}{scope:Scope}{N':List Str}{x:Str}{xs:List Str}{fp:List Addr}
theorem ze(ok:X.Ok)(h:CompOk X.N X.env.scope scope xs N'){C:Nat}{y:Str}{c:Nat}(e:(y,c)∈zJ X scope C):
  (scope.names.lookup y=some .free/\X.env.cells.lookup y=some c)\/(scope.names.lookup y=some .cell/\C+1<=c):=by
 rcases xR e with z | ⟨z,l⟩
 ·rcases ya z with z | ⟨z,l⟩
  ·exact nomatch z
  ·obtain⟨c',e'⟩:=ok.has y (h.cap y z);rw[e']at l;exact .inl ⟨h.uniq _ z,by rw[e',l];rfl⟩
 ·exact .inr ⟨h.uniq _ z,l⟩
theorem xg(ok:X.Ok)(h:CompOk X.N X.env.scope scope xs N'){C:Addr}{y:Str}(e:scope.names.lookup y=some .free):∃c,(zJ X scope C).lookup y=some c/\X.env.cells.lookup y=some c:=by
 obtain⟨c,m⟩:=xk (cells:=X.env.cells) (l:=scope.names) (acc:=[]) (n:=y) (.inl (mem_of_lookup e));have m':(y,c)∈zJ X scope C:=by unfold zJ;rw[zq];exact List.mem_append_right _ m
 obtain⟨c',e'⟩:=yi m';rcases ze ok h (mem_of_lookup e')with ⟨_,z⟩ | ⟨z,_⟩
 ·exact⟨c',e',z⟩
 ·rw[e]at z;cases z
theorem ud{C:Addr}{y:Str}(e:scope.names.lookup y=some .cell):∃c,(zJ X scope C).lookup y=some c:=Option.isSome_iff_exists.mp (W.cellsFrom_some _ _ _ (.inl e))
theorem uC(h:CompOk X.N X.env.scope scope xs N'){C:Addr}{y:Str}{k:NameKind}(e:(compEnvC scope (zJ X scope C) C X.env).kindOf y=some k):
  (scope.names.lookup y=some k/\k≠.free)\/(scope.names.lookup y=some .free/\(k=.cell\/k=.free)):=by
 have e':(relabel scope X.env).names.lookup y=some k:=e;rw[zx]at e';cases q:scope.names.lookup y with
 | none=>rw[q]at e';cases e'
 | some j=>
  rw[q]at e';have e2:=Option.some.inj e';dsimp only at e2;by_cases hj:j=.free
  ·subst hj
   right
   refine⟨rfl,?_⟩;split at e2
   ·exact .inl e2.symm
   ·exact .inr e2.symm
  ·left
   have hb:(j == NameKind.free)=false:=by simpa using hj
   rw[hb]at e2;simp only[Bool.false_and,Bool.false_eq_true,if_false]at e2;subst e2;exact⟨rfl,hj⟩
theorem z6j(I:Inv X pins σ H s)(h:CompOk X.N X.env.scope scope xs N')(hf:∀b∈fp,FpOk X pins H b)(hob:∀b∈fp,∃o,s.heap.get? b=some o){g:Heap}{C:Nat}{tk:Nat}(hC:s.heap.objs.size<=C)
  (hk:∀b o,s.heap.get? b=some o->g.get? b=some o) (hn:∃m,g.Ns C m) (hcell:∀n c,(n,c)∈cellsFrom (C+1) scope.names []->g.IsCell c none) (hap:(cellsFrom (C+1) scope.names []).Pairwise fun p q=>p.2≠q.2) :
  Inv (zT X scope N' C s H fp) [] (σ++List.replicate xs.length none) H { s with heap:=g,toks:=tk }:=by
 have ok:=I.ok;have old:∀y (c:Nat),X.env.cells.lookup y=some c->c<s.heap.objs.size:=fun y c e=>let⟨_,z⟩:=I.cell y c e;z.lt
 have sub:∀b,b∈frs X.stack->b∉fp:=fun b hb z=>by
  have f:=hf b z;rcases List.mem_cons.mp (I.stkSub b hb)with e | e
  ·exact f.2.1 e
  ·exact f.2.2.1 e
 refine⟨⟨ok.mod,h.kind,ok.glob,ok.blt,hC,fun y z c e1 e2=>?_,fun y hy=>?_,fun y c hfn e=>?_,ok.hd,ok.frames,.inl rfl,fun b hb=>⟨?_,fun y c e=>?_⟩,I.bs,Nat.le_trans ok.bsz I.sz,fun b o e z=>?_,fun b z hb=>sub b hb z,I.stack,I.stkFree⟩,
  rfl,I.bare,Un.kept hk,?_,fun y c e=>?_,I.hok.fresh hC,fun y c e=>?_,fun p hp=>(nomatch hp),I.hok.kept hk,?_⟩
 ·
  have m1:(y,c)∈zJ X scope C:=mem_of_lookup e1;have m2:(z,c)∈zJ X scope C:=mem_of_lookup e2;rcases ze ok h m1 with ⟨a1,b1⟩ | ⟨a1,b1⟩<;>rcases ze ok h m2 with ⟨a2,b2⟩ | ⟨a2,b2⟩
  ·exact ok.inj y z c b1 b2
  ·have:=old y c b1;omega
  ·have:=old z c b2;omega
  ·unfold zJ at m1 m2;rw[zq]at m1 m2;have new:∀{q:Str},(q,c)∈cellsFrom (C+1) scope.names []++y9 X.env.cells scope.names []->scope.names.lookup q=some .cell->(q,c)∈cellsFrom (C+1) scope.names []:=fun{q} m a=>by
    rcases List.mem_append.mp m with m | m
    ·exact m
    ·rcases ya m with m | ⟨m,_⟩
     ·exact nomatch m
     ·rw[h.uniq _ m]at a;cases a
   exact name_of_addr hap (new m1 a1) (new m2 a2)
 ·have hy':(∃k,(compEnvC scope (zJ X scope C) C X.env).kindOf y=some k/\(k=.cell\/k=.free)):=hy.elim (fun e=>⟨_,e,.inl rfl⟩) fun e=>⟨_,e,.inr rfl⟩;obtain⟨k,e,hk'⟩:=hy';rcases uC h e with ⟨e1,e2⟩ | ⟨e1,_⟩
  ·rcases hk' with rfl | rfl
   ·exact ud e1
   ·exact absurd rfl e2
  ·obtain⟨c,e3,_⟩:=xg (C:=C) ok h e1;exact⟨c,e3⟩
 ·have hfn':scope.names.lookup y=some .cell:=beq_iff_eq.mp hfn;rcases ze ok h (mem_of_lookup (show(zJ X scope C).lookup y=some c from e))with ⟨a,_⟩ | ⟨_,b⟩
  ·rw[hfn']at a;cases a
  ·show s.heap.objs.size<=c;omega
 ·obtain⟨o,e⟩:=hob b hb;exact Nat.ne_of_lt (Nat.lt_of_lt_of_le (Heap.lt_size e) hC)
 ·obtain⟨o,eo⟩:=hob b hb;rcases ze ok h (mem_of_lookup (show(zJ X scope C).lookup y=some c from e))with ⟨_,q⟩ | ⟨_,q⟩
  ·exact(hf b hb).2.2.2.2.1 y c q
  ·exact Nat.ne_of_gt (Nat.lt_of_lt_of_le (Heap.lt_size eo) (Nat.le_trans hC (Nat.le_trans (Nat.le_succ _) q)))
 ·rcases(hf b z).2.2.2.1 with q | q
  ·exact ok.noex b o e q
  ·have q1:=Heap.lt_size e;exact absurd (Nat.lt_of_lt_of_le q1 (Nat.le_trans ok.bsz q)) (Nat.lt_irrefl _)
 ·
  obtain⟨m,hm⟩:=hn;obtain⟨m0,hn0,hl0⟩:=I.loc;refine⟨m,hm,fun i y v e1 e2 e3=>?_⟩;have hi:i<σ.length:=by
   by_cases hi:i<σ.length
   ·exact hi
   ·rw[List.getElem?_append_right (by omega),List.getElem?_replicate]at e2;split at e2<;>cases e2
  rw[List.getElem?_append_left hi]at e2;have e3':scope.names.lookup y≠none:=by
   have:∃k,(compEnvC scope (zJ X scope C) C X.env).kindOf y=some k:=by
    rcases e3 with z | z | z
    ·exact⟨_,z⟩
    ·exact⟨_,z⟩
    ·exact⟨_,z⟩
   obtain⟨k,z⟩:=this;rcases uC h z with ⟨q,_⟩ | ⟨q,_⟩<;>(rw[q];simp)
  obtain⟨q1,q2⟩:=h.see i y (by rw[<-I.len];exact hi) e1 e3';have cap:=h.cap y (mem_of_lookup q1);have vis:Vis X.env.scope y:=cap.elim (fun z=>.inr (.inl z)) fun z=>.inr (.inr z);obtain⟨u,r,l⟩:=hl0 i y v q2 e2 vis;refine⟨u,r,.inr ?_⟩;obtain⟨c,z1,z2⟩:=xg (C:=C) ok h q1;have kd:∃k,(compEnvC scope (zJ X scope C) C X.env).kindOf y=some k:=by
   rcases e3 with z | z | z
   ·exact⟨_,z⟩
   ·exact⟨_,z⟩
   ·exact⟨_,z⟩
  obtain⟨k,kz⟩:=kd;rcases l with ⟨l1,_⟩ | ⟨_,c',l2,l3⟩
  ·have l1':X.env.scope.names.lookup y=some .local:=l1;rcases cap with z | z<;>(rw[l1']at z;cases z)
  ·rw[z2]at l2;cases l2;refine⟨?_,c,z1,l3.keeps hk⟩;rcases uC h kz with ⟨q,_⟩ | ⟨_,q⟩
   ·rw[q1]at q;cases q;exact .inr kz
   ·rcases q with rfl | rfl
    ·exact .inl kz
    ·exact .inr kz
 ·have m1:(y,c)∈zJ X scope C:=mem_of_lookup e;rcases ze ok h m1 with ⟨_,q⟩ | ⟨a,q⟩
  ·obtain⟨v,z⟩:=I.cell y c q;exact⟨v,z.keeps hk⟩
  ·unfold zJ at m1;rw[zq]at m1;rcases List.mem_append.mp m1 with m1 | m1
   ·exact⟨none,hcell y c m1⟩
   ·rcases ya m1 with m | ⟨m,_⟩
    ·exact nomatch m
    ·rw[h.uniq _ m]at a;cases a
 ·rcases ze ok h (mem_of_lookup (show(zJ X scope C).lookup y=some c from e))with ⟨_,q⟩ | ⟨_,q⟩
  ·exact I.freeC y c q
  ·exact I.hok.fresh (by omega)
 ·show(σ++List.replicate xs.length none).length=N'.length;rw[h.len,List.length_append,I.len,List.length_replicate]
noncomputable def tYes:TT:=fun _ H Q=>Q true H
def PF(X:Cx)(ifs:List Expr)(t:TT):Prop:=(ifs=[]/\t=tYes)\/∃c,ifs=[c]/\PT X c t
theorem yP:PF X [] tYes:=.inl ⟨rfl,rfl⟩
theorem z5j{c:Expr}{t:TT}(h:PT X c t):PF X [c] t:=.inr ⟨c,rfl,h⟩
structure CompW(J:It)(σ:St)(tc:TT)(te:TE)(n:Nat)(W:Nat->List V->Hp->Prop):Prop where
 small:n<=sizeLine
 stop:∀ys H,W n ys H->J.stop n H
 go:∀i ys H,i<n->W i ys H->J.go i H
 step:∀i ys H v H',i<n->W i ys H->J.yld i H v H'->tc (σ++[some v]) H' fun b H3=>if b=true then te (σ++[some v]) H3 fun y H4=>W (i+1) (ys++[y]) H4 else W (i+1) ys H3
structure CompWG(J:It)(σ:St)(g:TG)(m:Nat)(tc:TT)(te:TE)(n:Nat)(W:Nat->List V->Hp->Prop):Prop where
 small:n<=sizeLine
 stop:∀ys H,W n ys H->J.stop n H
 go:∀i ys H,i<n->W i ys H->J.go i H
 step:∀i ys H os v H',i<n->os.length=m->W i ys H->J.yld i H v H'->g v (σ++os) H' fun σ' H''=>∃os',os'.length=m/\σ'=σ++os'/\tc σ' H'' fun b H3=>if b=true then te σ' H3 fun y H4=>W (i+1) (ys++[y]) H4 else W (i+1) ys H3
theorem z9t{prog:Program}{w:World}{A:Around}{R:Result->Shared->Prop}{s:Shared}{elt target iter:Expr}{ifs:List Expr}{scope:Scope}{pos:Pos}{it acc:Value}{env:Env}(I:Nat->Shared->Prop)
  (turn:∀n s,I n s->wpAny (model prog w) A (pyNext it) (fun r s₁=>match r with
   | none=>R (.ok .next) s₁
   | some v=>wpAny (model prog w) A (letOwnedTupleGo target it v) (fun _ s₂'=>wpAny (model prog w) A (assign target env v) (fun _ s₂=>
     wpAny (model prog w) A (forIn ifs true fun c r=>if r=true then do let ok<-isTrue c env (eval c env);pure (ForInStep.yield ok)else pure (ForInStep.yield r)) (fun ok s₃=>
      if ok=true then wpAny (model prog w) A (eval elt env) (fun x s₄=>
       wpAny (model prog w) A (call (.builtin "list.append") [acc,x]) (fun _ s₅=>∃m,m<n/\I m s₅) (notedBy (model prog w) A env fun e s'=>R (.error e) s') s₄) (notedBy (model prog w) A env fun e s'=>R (.error e) s') s₃
      else ∃m,m<n/\I m s₃) (notedBy (model prog w) A env fun e s'=>R (.error e) s') s₂) (notedBy (model prog w) A env fun e s'=>R (.error e) s') s₂') (notedBy (model prog w) A env fun e s'=>R (.error e) s') s₁) (notedBy (model prog w) A env fun e s'=>R (.error e) s') s)
  (n:Nat) (h:I n s):codeAny (model prog w) A (.compLoop (.ListComp elt [⟨target,iter,ifs,0⟩] scope pos) 0 it acc env) R s:=by
 refine codeAny_loop rfl I (fun n s hI=>?_) n h;show wpAny _ A ((compTurn (.ListComp elt [⟨target,iter,ifs,0⟩] scope pos) 0 it acc env).onRaise (fun x=>do noteFrame x env;theTreesLotGoes x)) _ _ s;refine wpAny_noted ?_;rw[compTurn_list];refine wpAny_bind (wpAny_standAt (wpAny_bind (wpAny_mono (turn n s hI) (fun r s₁ h₁=>?_) fun _ _ h'=>h')));cases r with
 | none=>exact wpAny_pure h₁
 | some v=>
  refine wpAny_bind (wpAny_mono h₁ (fun _ _ h₁=>?_) fun _ _ h'=>h');refine wpAny_bind (wpAny_mono h₁ (fun _ s₂ h₂=>wpAny_bind (wpAny_mono h₂ (fun ok s₃ h₃=>?_) fun _ _ h'=>h')) fun _ _ h'=>h');cases ok with
  | false=>exact wpAny_pure ⟨rfl,h₃⟩
  | true=>
   exact wpAny_bind (wpAny_bind (wpAny_mono h₃ (fun x s₄ h₄=>wpAny_bind (wpAny_mono h₄ (fun _ s₅ h₅=>wpAny_pure (wpAny_pure ⟨rfl,h₅⟩)) fun _ _ h'=>h')) fun _ _ h'=>h'))
noncomputable abbrev y0(us:List Value)(n:Nat):Obj:={ cls:=.type "list",data:=.seq us.toArray n }
theorem z2w(σ:St)(o:Option V)(v:V):(σ++[o]).set σ.length (some v)=σ++[some v]:=by
 rw[List.set_append_right _ _ (Nat.le_refl _),Nat.sub_self];rfl
theorem z0m(I:Inv X pins σ H s)(hf:∀b∈fp,FpOk X pins H b){C D:Nat}{H':Hp}{s':Shared}{σ':St}{pl:List (Addr×Obj)}{ys:List V}{us:List Value}{k:Nat}{g:Heap}(hCs:s.heap.objs.size<=C)(hDs:s.heap.objs.size<=D)(hCD:D≠C)
  (J:Inv (zT X scope N' C s H fp) pl σ' H' s') (hD:s'.heap.get? D=some (y0 us k)) (hDn:H' D=none) (r:Vals ys us) (hl:ys.length<=sizeLine) (hg:Heap.SameBut C s'.heap g) :
  Inv X pins σ (upd H' D (.lst ys)) { s' with heap:=g }:=by
 have hCn:H' C=none:=J.free;have un:Un (frs X.stack) fp H H' s.heap s'.heap:=J.base;have ne:∀b o,s.heap.get? b=some o->b≠C/\b≠D:=fun b o e=>⟨Nat.ne_of_lt (Nat.lt_of_lt_of_le (Heap.lt_size e) hCs),Nat.ne_of_lt (Nat.lt_of_lt_of_le (Heap.lt_size e) hDs)⟩;have keep:∀b o,b≠C->s'.heap.get? b=some o->g.get? b=some o:=fun b o hb e=>(hg.2 b hb).trans e;refine I.call' (s':={ s' with heap:=g }) (ch:=fp) J.os ⟨fun b o e n hb hx=>?_,fun b o e n hb hx=>?_,fun b o e n hx=>?_,fun b o e hx=>?_,fun b xs e=>?_,fun b o u e=>?_,fun b ps e=>?_⟩ (fun b o e=>?_) J.bare fun b hb=>?_
 ·exact keep b o (ne b o e).1 (un.keep b o e n hb hx)
 ·obtain⟨sl,q⟩:=un.slot b o e n hb hx;exact⟨sl,keep b _ (ne b o e).1 q⟩
 ·rw[zB (ne b o e).2];exact un.free b o e n hx
 ·obtain⟨o',q⟩:=un.there b o e hx;exact⟨o',keep b o' (ne b o e).1 q⟩
 ·have q:=un.tups b xs e;rw[zB (zM q hDn)];exact q
 ·have q:=un.frzs b o u e;rw[zB (zM q hDn)];exact q
 ·obtain⟨more,q⟩:=un.tbls b ps e;exact⟨more,by rw[zB (zM q hDn)];exact q⟩
 ·by_cases hb:b=D
  ·subst hb;rw[z7]at e;cases e;exact⟨hl,us,k,r,keep _ _ hCD hD⟩
  ·rw[zB hb]at e;refine(J.hok b o e).stay (fun c v hc q=>keep c v ?_ q) (fun c q=>?_) fun c xs q=>?_
   ·rintro rfl;rcases hc with z | z
    ·rw[<-z,hCn]at e;cases e
    ·rw[hCn]at z;cases z
   ·rw[zB (zM q hDn)];exact q
   ·rw[zB (zM q hDn)];exact q
 ·have f:=hf b hb;exact⟨f.2.2.2.1,f.2.1,f.2.2.2.2.1,f.2.2.2.2.2⟩
theorem z0P{elt iter:Expr}{ifs:List Expr}{pos:Pos}{tg:Expr}{g:TG}{tc:TT}{te:TE}{J:It}{it:Addr}{tn:Nat->Heap->Prop}{n:Nat}{W:Nat->List V->Hp->Prop}{RR:Value->Addr->Result->Shared->Prop}{E:Value->Shared->Prop}
  (h:CompOk X.N X.env.scope scope xs N') (hc:X.calm=true) (he:∀C fp,PE (zT X scope N' C s H fp) elt te) (hi:∀C fp,PF (zT X scope N' C s H fp) ifs tc) (hg:∀C fp,PG (zT X scope N' C s H fp) tg g)
  (I:Inv X pins σ H s) (T:Turn X.prog X.w X.K tg J fp it tn) (st:tn 0 s.heap) (hf:∀b∈fp,FpOk X pins H b) (w0:W 0 [] H) (CW:CompWG J σ g xs.length tc te n W)
  (hR:∀(C D:Nat) s' H' ys us k pl,s.heap.objs.size<=C->s.heap.objs.size<=D->D≠C->Inv (zT X scope N' C s H fp) pl (σ++List.replicate xs.length none) H' s'->s'.heap.get? D=some (y0 us k)->H' D=none->Vals ys us->ys.length<=sizeLine->W n ys H'->RR (.ref D) C (.ok .next) s') :
  wpAny (model X.prog X.w) X.A (newList []) (fun acc s₃=>wpAny (model X.prog X.w) X.A (newFunctionEnv scope X.env.globals (y9 X.env.cells scope.names []) [] X.env.qual none .none (some X.env)) (fun cenv s₄=>
   codeAny (model X.prog X.w) X.A (.compStart (.ListComp elt [⟨tg,iter,ifs,0⟩] scope pos) 0 (.ref it) acc { cenv with scope:=relabel scope X.env }) (RR acc cenv.locals) s₄) E s₃) E s:=by
 have hob:∀b∈fp,∃o,s.heap.get? b=some o:=fun b hb=>let⟨o,e,_⟩:=T.obj 0 _ st b hb;⟨o,e⟩
 refine wpAny_newList (items:=[]) ?_ (Nat.zero_le _);simp only[newFunctionEnv,Option.isSome_some,if_true];refine wpAny_bind (wpAny_alloc ?_);refine wpAny_bind (wpAny_layCells _ (fun name kind cells=>by cases hkc:kind == NameKind.cell<;>simp[hkc]) _ _ _ _ ?_);simp only[List.forIn_nil,pure_bind];refine wpAny_pure ?_;generalize hD:s.heap.objs.size=D;generalize hg1:s.heap.push { cls:=.type "list",data:=.seq ([]:List Value).toArray }=g1;have z1:g1.objs.size=D+1:=by rw[<-hg1,Heap.size_push,hD]
 generalize hg2:g1.push { cls:=.type "dict",data:=.dict #[] }=g2;have z2:g2.objs.size=D+2:=by rw[<-hg2,Heap.size_push,z1]
 have ok2:=cellsFrom_ok scope.names g2 (D+2) [] ⟨fun _ _ hm=>(nomatch hm),List.Pairwise.nil⟩ (Nat.le_of_eq z2.symm);dsimp only;rw[z2]at ok2;have keep1:∀b o,s.heap.get? b=some o->g1.get? b=some o:=fun b o e=>by rw[<-hg1];exact Heap.get?_push_of_some _ e
 have keep2:∀b o,g1.get? b=some o->(pushCells g2 scope.names).get? b=some o:=fun b o e=>pushCells_keeps _ _ b o (by rw[<-hg2];exact Heap.get?_push_of_some _ e);have hDobj:(pushCells g2 scope.names).get? D=some (y0 [] 0):=keep2 _ _ (by rw[<-hg1,<-hD];exact Heap.get?_push_size _ rfl);have hns:(pushCells g2 scope.names).Ns (D+1) fun _=>none:=by
  have q:=(Heap.Ns.new g1 (.type "dict")).keeps (h':=pushCells g2 scope.names) fun b o e=>pushCells_keeps _ _ b o (by rw[<-hg2];exact e);rw[z1]at q;exact q
 have sC:s.heap.objs.size<=D+1:=by omega
 have sD:s.heap.objs.size<=D:=by omega
 have I4:∀tk,Inv (zT X scope N' (D+1) s H fp) [] (σ++List.replicate xs.length none) H { s with heap:=pushCells g2 scope.names,toks:=tk }:=fun tk=>
  z6j I h hf hob sC (fun b o e=>keep2 b o (keep1 b o e)) ⟨_,hns⟩ (fun n c m=>(ok2.empty n c m).1) ok2.apart
 have hfp:∀{H':Hp} {pl:List (Addr×Obj)},(∀b∈fp,H' b=none)->(∀b∈fp,∀p∈pl,p.1≠b)->∀b∈fp,FpOk (zT X scope N' (D+1) s H fp) pl H' b:=fun{H' pl} hn hp b hb=>by
  have e:=(I4 0).ok.exf b hb;exact⟨hn b hb,e.1,(I4 0).ok.exfs b hb,.inl hb,e.2,fun p hpp=>hp b hb p hpp⟩
 have bD:∀b∈fp,D≠b:=fun b hb=>by
  obtain⟨o,e⟩:=hob b hb;have z:=Heap.lt_size e;rw[hD]at z;exact Nat.ne_of_gt z
 have cD:∀y c,(compEnvC scope (zJ X scope (D+1)) (D+1) X.env).cells.lookup y=some c->c≠D:=fun y c e z=>by
  obtain⟨v,q⟩:=(I4 0).cell y c e;obtain⟨o,q1,q2⟩:=q;rw[z]at q1
  have:some o=some (y0 [] 0):=q1.symm.trans hDobj;cases this;cases q2
 have pinD:∀{pl:List (Addr×Obj)} {σ':St} {H':Hp} {s':Shared} {us:List Value} {k:Nat},Inv (zT X scope N' (D+1) s H fp) pl σ' H' s'->s'.heap.get? D=some (y0 us k)->H' D=none->Inv (zT X scope N' (D+1) s H fp) [(D,y0 us k)] σ' H' s':=fun{pl σ' H' s' us k} J e n=>
  J.pins_of fun p hp=>by
   have hp':p=(D,y0 us k):=by simpa using hp
   subst hp';refine⟨e,n,by show D≠D+1;omega,fun z=>?_,fun v z=>by cases z⟩;obtain⟨_,o,q,_⟩:=(I4 0).ok.funs.mem z;have z':D<s.heap.objs.size:=Heap.lt_size q;rw[hD]at z';exact absurd z' (Nat.lt_irrefl _)
 have loop:∀tk,codeAny (model X.prog X.w) X.A (.compLoop (.ListComp elt [⟨tg,iter,ifs,0⟩] scope pos) 0 (.ref it) (.ref D) (compEnvC scope (zJ X scope (D+1)) (D+1) X.env)) (RR (.ref D) (D+1)) { s with heap:=pushCells g2 scope.names,toks:=tk }:=by
  intro tk;refine z9t (fun m s'=>∃i ys us k H' o,List.length o=xs.length/\m=n - i/\i<=n/\ys.length<=i/\Inv (zT X scope N' (D+1) s H fp) [(D,y0 us k)] (σ++o) H' s'/\Vals ys us/\tn i s'.heap/\(∀b∈fp,H' b=none)/\W i ys H') ?_ n
   ⟨0,[],[],0,H,List.replicate xs.length none,List.length_replicate,rfl,Nat.zero_le _,Nat.le_refl _,pinD (I4 tk) hDobj (I.hok.fresh sD),.nil,T.keep 0 _ _ st fun b hb o e=>keep2 b o (keep1 b o e),fun b hb=>(hf b hb).1,w0⟩
  rintro m s1 ⟨i,ys,us,k,H1,o,ho,rfl,hi',hl,I1,rv,st1,fr1,w1⟩;have hpl:∀b∈fp,∀p∈[(D,y0 us k)],p.1≠b:=fun b hb p hp=>by
   have hp':p=(D,y0 us k):=by simpa using hp
   subst hp';exact bD b hb
  by_cases hlt:i<n
  ·refine wpAny_mono (T.item (zT X scope N' (D+1) s H fp) rfl rfl rfl hc i _ s1 (σ++o) H1 _ I1 (hfp fr1 hpl) st1 (CW.go i ys H1 hlt w1)) (fun r s2 ⟨u,hr,h4⟩=>?_) fun _ _ e=>e;subst hr;dsimp only;have fin:∀(v:V) (H2:Hp) (s3:Shared),Inv (zT X scope N' (D+1) s H fp) [(D,y0 us k)] (σ++o) H2 s3->RelV v u->J.yld i H1 v H2->tn (i+1) s3.heap->(∀b∈fp,H2 b=none)->
     ∀E',wpAny (model X.prog X.w) X.A (assign tg (compEnvC scope (zJ X scope (D+1)) (D+1) X.env) u) (fun _ s₂=>
      wpAny (model X.prog X.w) X.A (forIn ifs true fun c r=>if r=true then do let ok<-isTrue c (compEnvC scope (zJ X scope (D+1)) (D+1) X.env) (eval c (compEnvC scope (zJ X scope (D+1)) (D+1) X.env));pure (ForInStep.yield ok)else pure (ForInStep.yield r)) (fun okk s₃=>
       if okk=true then wpAny (model X.prog X.w) X.A (eval elt (compEnvC scope (zJ X scope (D+1)) (D+1) X.env)) (fun y s₄=>
        wpAny (model X.prog X.w) X.A (call (.builtin "list.append") [.ref D,y]) (fun _ s₅=>∃m,m<n - i/\∃i ys us k H' o,List.length o=xs.length/\m=n - i/\i<=n/\ys.length<=i/\Inv (zT X scope N' (D+1) s H fp) [(D,y0 us k)] (σ++o) H' s₅/\Vals ys us/\tn i s₅.heap/\(∀b∈fp,H' b=none)/\W i ys H') E' s₄) E' s₃
       else ∃m,m<n - i/\∃i ys us k H' o,List.length o=xs.length/\m=n - i/\i<=n/\ys.length<=i/\Inv (zT X scope N' (D+1) s H fp) [(D,y0 us k)] (σ++o) H' s₃/\Vals ys us/\tn i s₃.heap/\(∀b∈fp,H' b=none)/\W i ys H') E' s₂) E' s3:=by
    intro v H2 s3 I2 ru y2 st2 fr2 E';have I2':=I2.pinned (hfp fr2 hpl) (T.obj _ _ st2);refine wpAny_mono (hg (D+1) fp _ s3 _ H2 v u _ I2' ru (CW.step i ys H1 o v _ hlt ho w1 y2)) (fun _ s4 ⟨σ4,H4,I4',e4⟩=>?_) fun _ _ z=>z.elim;obtain⟨o4,ho4,rfl,stp⟩:=e4;have kp:∀{s5:Shared} {H5:Hp},Inv (zT X scope N' (D+1) s H fp) ([(D,y0 us k)]++z0F fp s3.heap) (σ++o4) H5 s5->(s5.heap.get? D=some (y0 us k)/\H5 D=none)/\tn (i+1) s5.heap/\∀b∈fp,H5 b=none:=fun{s5 H5} J5=>by
     have pd:=J5.pin (D,y0 us k) (List.mem_append_right _ (List.mem_append_left _ (by simp)));refine⟨⟨pd.1,pd.2.1⟩,T.keep _ _ _ st2 fun b hb ob e=>(J5.pin (b,ob) (List.mem_append_right _ (List.mem_append_right _ (xZ hb e)))).1,fun b hb=>?_⟩;obtain⟨ob,e,_⟩:=T.obj _ _ st2 b hb;exact(J5.pin (b,ob) (List.mem_append_right _ (List.mem_append_right _ (xZ hb e)))).2.1
    have aft:∀(b:Bool) (s5:Shared) (H5:Hp),Inv (zT X scope N' (D+1) s H fp) ([(D,y0 us k)]++z0F fp s3.heap) (σ++o4) H5 s5->(if b=true then te (σ++o4) H5 fun y H4=>W (i+1) (ys++[y]) H4 else W (i+1) ys H5)->
      (if b=true then wpAny (model X.prog X.w) X.A (eval elt (compEnvC scope (zJ X scope (D+1)) (D+1) X.env)) (fun y s₄=>
        wpAny (model X.prog X.w) X.A (call (.builtin "list.append") [.ref D,y]) (fun _ s₅=>∃m,m<n - i/\∃i ys us k H' o,List.length o=xs.length/\m=n - i/\i<=n/\ys.length<=i/\Inv (zT X scope N' (D+1) s H fp) [(D,y0 us k)] (σ++o) H' s₅/\Vals ys us/\tn i s₅.heap/\(∀b∈fp,H' b=none)/\W i ys H') E' s₄) E' s5
       else ∃m,m<n - i/\∃i ys us k H' o,List.length o=xs.length/\m=n - i/\i<=n/\ys.length<=i/\Inv (zT X scope N' (D+1) s H fp) [(D,y0 us k)] (σ++o) H' s5/\Vals ys us/\tn i s5.heap/\(∀b∈fp,H' b=none)/\W i ys H'):=by
     intro b s5 H5 I5 q5;cases b with
     | false=>
      rw[if_neg Bool.false_ne_true]at q5 |-;obtain⟨⟨d1,d2⟩,st5,fr5⟩:=kp I5;exact⟨n - (i+1),by omega,i+1,ys,us,k,H5,o4,ho4,rfl,hlt,by omega,pinD I5 d1 d2,rv,st5,fr5,q5⟩
     | true=>
      rw[if_pos rfl]at q5 |-;refine wpAny_mono (he (D+1) fp _ s5 _ H5 _ I5 q5) (fun y s6 ⟨w6,H6,I6,r6,q6⟩=>?_) fun _ _ z=>z.elim;obtain⟨⟨d1,d2⟩,st6,fr6⟩:=kp I6;refine append_at d1 (fun g' sb e'=>?_) (by rw[List.size_toArray,<-rv.length];exact Nat.le_trans hl (Nat.le_trans hi' CW.small));have e2:g'.get? D=some (y0 (us++[y]) (k+1)):=by rw[e',List.push_toArray]
      have I7:Inv (zT X scope N' (D+1) s H fp) [] (σ++o4) H6 { s6 with heap:=g' }:=
       (I6.pins_of (pins':=[]) fun _ z=>nomatch z).turned (t':=s6.toks) (fun b ob hb e=>(sb.2 b hb).trans e) d2 (by show D≠D+1;omega) (.inr sD) cD fun p hp=>nomatch hp
      refine⟨n - (i+1),by omega,i+1,ys++[w6],us++[y],k+1,H6,o4,ho4,rfl,hlt,by rw[List.length_append];simp;omega,pinD I7 e2 d2,rv.append (.cons r6 .nil),T.keep _ _ _ st6 fun b hb ob e=>(sb.2 b (bD b hb).symm).trans e,fr6,q6⟩
    rcases hi (D+1) fp with ⟨rfl,rfl⟩ | ⟨c,rfl,pt⟩
    ·exact wpAny_tests_nil (aft true s4 _ I4' stp)
    ·exact wpAny_tests_one (wpAny_mono (pt _ s4 _ _ _ I4' stp) (fun b s5 ⟨H5,I5,q5⟩=>aft b s5 H5 I5 q5) fun _ _ z=>z.elim)
   exact wpAny_mono h4 (fun _ s3 ⟨v,H2,I2,ru,y2,st2,fr2⟩=>fin v H2 s3 I2 ru y2 st2 fr2 _) fun _ _ e=>e
  ·obtain rfl:i=n:=by omega
   refine wpAny_mono (T.done (zT X scope N' (D+1) s H fp) rfl rfl rfl hc i _ s1 (σ++o) H1 _ I1 (hfp fr1 hpl) st1 (CW.stop ys H1 w1)) (fun r s2 ⟨hr,I2⟩=>?_) fun _ _ e=>e;subst hr;have pd:=I2.pin (D,y0 us k) (List.mem_append_right _ (by simp));refine hR (D+1) D s2 H1 ys us k _ sC sD (by omega) (I2.weak (σ':=σ++List.replicate xs.length none) (by simp[ho]) fun j v e=>?_) pd.1 pd.2.1 rv (Nat.le_trans hl CW.small) w1;by_cases hjl:j<σ.length
   ·rw[List.getElem?_append_left hjl]at e |-;exact e
   ·rw[List.getElem?_append_right (by omega),List.getElem?_replicate]at e;split at e<;>cases e
 have env_eq:∀l:Nat,l=D+1->({ scope:=relabel scope X.env,locals:=l,globals:=X.env.globals,cells:=cellsFrom (D+2) scope.names (y9 X.env.cells scope.names []),qual:=X.env.qual,func:=none,code:=X.env.code,frame:=X.env.frame,builtins:=X.env.builtins }:Env)=compEnvC scope (zJ X scope (D+1)) (D+1) X.env:=by
  rintro l rfl;rfl
 rw[z1,z2];refine codeAny_compStart_list ?_ (T.self _ 0 _ _ _ (T.keep 0 _ _ st fun b hb o e=>keep2 b o (keep1 b o e)) ?_)
 ·exact loop _
 ·exact loop _
theorem z5b{C:Addr}{px:Pos}(I:Inv X pins σ H s)(h:CompOk X.N X.env.scope scope [x] N'):PG (zT X scope N' C s H fp) (.Name x px) (z12 σ.length):=by
 have hx:=h.here;have e0:N'[X.N.length]?=some x:=by
  have:=congrArg (fun l=>l[0]?) hx;simpa using this
 refine yB h.nd (by rw[I.len];exact e0) ?_ ?_
 ·show(relabel scope X.env).names.lookup x=_\/_;rcases h.tgt x (by simp)with e | e
  ·left;rw[zx,e];rfl
  ·right
   show(relabel scope X.env).names.lookup x=_;rw[zx,e];rfl
 ·rcases h.tgt x (by simp)with e | e
  ·right
   show(relabel scope X.env).names.lookup x=_;rw[zx,e];rfl
  ·left
   show(scope.names.lookup x == some NameKind.cell)=true;rw[e];rfl
theorem CompW.gen{J:It}{tc:TT}{te:TE}{n:Nat}{W:Nat->List V->Hp->Prop}(h:CompW J σ tc te n W):CompWG J σ (z12 σ.length) [x].length tc te n W:=
 ⟨h.small,h.stop,h.go,fun i ys H os v H' hi ho w y=>by
  match os,ho with
  | [o],_=>exact⟨[some v],rfl,z2w _ _ _,by rw[z2w];exact h.step i ys H v H' hi w y⟩⟩
noncomputable def z24(wi:TI)(tc:TT)(te:TE):TE:=fun σ H Q=>wi σ H fun J H1=>∃(n:Nat) (W:Nat->List V->Hp->Prop),W 0 [] H1/\CompW J σ tc te n W/\∀ys H',W n ys H'->∀D,H' D=none->Q (.ref D) (upd H' D (.lst ys))
theorem z0G(I:Inv X pins σ H s)(h:CompOk X.N X.env.scope scope xs N'):closureFor scope X.env=pure (y9 X.env.cells scope.names []):=
 z6y fun n hn=>I.ok.has n (h.cap n hn)
theorem z26{N:List Str}{sc:Scope}{elt iter:Expr}{ifs:List Expr}{px pos:Pos}{wi:TI}{tc:TT}{te:TE}(hc:X.calm=true)(hN:X.N=N)(hsc:X.env.scope=sc)(h:wg N sc scope x N'=true)
  (hi:PI X (.Name x px) iter wi) (hf:∀C s H fp,PF (zT X scope N' C s H fp) ifs tc) (he:∀C s H fp,PE (zT X scope N' C s H fp) elt te)
  (hs:∀x,foldedSetIterable iter X.env x=pure x:=by intro _;rfl):PE X (.ListComp elt [⟨.Name x px,iter,ifs,0⟩] scope pos) (z24 wi tc te):=by
 intro pins s σ H Q I q;subst hN hsc;have ok:=CompOk.of h;rw[eval_ListComp];refine wpAny_comprehension_free (use:=none) rfl hs (z0G I ok) ok.kind (fun y hy hl=>by rw[ok.uniq y hy,hl]) (thn (hi pins s σ H _ I q) fun v s1 h1=>thn h1 fun itv s2 h2=>?_);obtain⟨it,fp,tn,J,H2,e,I2,T,st2,f2,n,W,w0,CW,fin⟩:=h2;subst e;refine z0P (RR:=fun acc C=>compPost (model X.prog X.w) X.A X.xe none (EP X pins σ Q) acc C) ok hc (fun C fp=>he C s2 H2 fp) (fun C fp=>hf C s2 H2 fp) (fun C fp=>z5b I2 ok) I2 T st2 f2 w0 CW.gen ?_;intro C D s' H' ys us k pl hCs hDs hDC J' hD hDn rv hl w;obtain⟨m,hm,_⟩:=J'.loc;exact⟨m,hm,fun g hg=>⟨.ref D,_,z0m I2 f2 hCs hDs hDC J' hD hDn rv hl hg,rfl,fin ys H' w D hDn⟩⟩
theorem xo{scope:Scope}{env:Env}:∀y:Str,(scope.names.lookup y=some .cell\/scope.names.lookup y=some .free)->((relabel scope env).names.lookup y=some .cell\/(relabel scope env).names.lookup y=some .free):=by
 intro y h;rw[zx];rcases h with h | h
 ·rw[h];exact .inl rfl
 ·rw[h,Option.map_some];split
  ·exact .inl rfl
  ·exact .inr rfl
theorem z6n{N:List Str}{sc:Scope}{elt iter:Expr}{ifs:List Expr}{px pos:Pos}{wi:TI}{tc:TT}{te:TE}(hc:X.calm=true)(hN:X.N=N)
  (hcap:∀y:Str,(sc.names.lookup y=some .cell\/sc.names.lookup y=some .free)->(X.env.scope.names.lookup y=some .cell\/X.env.scope.names.lookup y=some .free)) (h:wg N sc scope x N'=true)
  (hi:PI X (.Name x px) iter wi) (hf:∀C s H fp,PF (zT X scope N' C s H fp) ifs tc) (he:∀C s H fp,PE (zT X scope N' C s H fp) elt te)
  (hs:∀x,foldedSetIterable iter X.env x=pure x:=by intro _;rfl):PE X (.ListComp elt [⟨.Name x px,iter,ifs,0⟩] scope pos) (z24 wi tc te):=by
 intro pins s σ H Q I q;subst hN;have ok0:=CompOk.of h;have ok:CompOk X.N X.env.scope scope [x] N':={ ok0 with cap:=fun y hy=>hcap y (ok0.cap y hy) };rw[eval_ListComp];refine wpAny_comprehension_free (use:=none) rfl hs (z0G I ok) ok.kind (fun y hy hl=>by rw[ok.uniq y hy,hl]) (thn (hi pins s σ H _ I q) fun v s1 h1=>thn h1 fun itv s2 h2=>?_);obtain⟨it,fp,tn,J,H2,e,I2,T,st2,f2,n,W,w0,CW,fin⟩:=h2;subst e;refine z0P (RR:=fun acc C=>compPost (model X.prog X.w) X.A X.xe none (EP X pins σ Q) acc C) ok hc (fun C fp=>he C s2 H2 fp) (fun C fp=>hf C s2 H2 fp) (fun C fp=>z5b I2 ok) I2 T st2 f2 w0 CW.gen ?_;intro C D s' H' ys us k pl hCs hDs hDC J' hD hDn rv hl w;obtain⟨m,hm,_⟩:=J'.loc;exact⟨m,hm,fun g hg=>⟨.ref D,_,z0m I2 f2 hCs hDs hDC J' hD hDn rv hl hg,rfl,fin ys H' w D hDn⟩⟩
noncomputable def z6z(i:Nat)(wi:TI)(tc:TT)(te:TE):TS:=fun D σ H=>z24 wi tc te σ H fun x H1=>D.nx (σ.set i (some x)) H1
theorem z2F{N:List Str}{sc:Scope}{elt iter:Expr}{ifs:List Expr}{y:Str}{i:Nat}{px py pos spos:Pos}{wi:TI}{tc:TT}{te:TE}(hc:X.calm=true)(hN:X.N=N)(hsc:X.env.scope=sc)(h:wg N sc scope x N'=true)
  (hnd:X.N.Nodup) (hy:X.N[i]?=some y) (hl:X.env.scope.names.lookup y=some .local)
  (hi:PI X (.Name x px) iter wi) (hf:∀C s H fp,PF (zT X scope N' C s H fp) ifs tc) (he:∀C s H fp,PE (zT X scope N' C s H fp) elt te)
  (hsw:swapsWith (.ListComp elt [⟨.Name x px,iter,ifs,0⟩] scope pos) (some (.Name y py)) spos.line X.env=pure true:=by rfl)
  (hs:∀x,foldedSetIterable iter X.env x=pure x:=by intro _;rfl):PS X (.Assign [.Name y py] (.ListComp elt [⟨.Name x px,iter,ifs,0⟩] scope pos) spos) (z6z i wi tc te):=by
 intro pins s σ H D I q;subst hN hsc;have ok:=CompOk.of h;rw[exec_Assign_Name_used _ _ _ _ hsw];refine wpAny_bind (wpAny_standAt (wpAny_bind ?_));show wpAny _ X.A (do let _<-comprehension (.ListComp elt [⟨.Name x px,iter,ifs,0⟩] scope pos) scope X.env _ (newList []) false (eval iter X.env) (some (assign (.Name y py) X.env))) _ _ s;refine wpAny_bind (wpAny_mono (wpAny_comprehension_free (use:=some (assign (.Name y py) X.env)) (Q:=fun _ s'=>SP X pins D .next s') rfl hs (z0G I ok) ok.kind (fun y hy hl=>by rw[ok.uniq y hy,hl]) (thn (hi pins s σ H _ I q) fun v s1 h1=>thn h1 fun itv s2 h2=>?_))
  (fun _ s' z=>wpAny_pure (wpAny_pure z)) fun _ _ e=>e)
 obtain⟨it,fp,tn,J,H2,e,I2,T,st2,f2,n,W,w0,CW,fin⟩:=h2;subst e;refine z0P (RR:=fun acc C=>compPost (model X.prog X.w) X.A X.xe (some (assign (.Name y py) X.env)) (fun _ s'=>SP X pins D .next s') acc C) ok hc (fun C fp=>he C s2 H2 fp) (fun C fp=>hf C s2 H2 fp) (fun C fp=>z5b I2 ok) I2 T st2 f2 w0 CW.gen ?_;intro C D' s' H' ys us k pl hCs hDs hDC J' hD hDn rv hlen w;obtain⟨m,hm,_⟩:=J'.loc;have K1:Inv X pins σ (upd H' D' (.lst ys)) s':=z0m (g:=s'.heap) I2 f2 hCs hDs hDC J' hD hDn rv hlen (.refl ..);have hCL:C≠X.env.locals:=Nat.ne_of_gt (Nat.lt_of_lt_of_le I2.lt hCs);have hcl:∀z c,X.env.cells.lookup z=some c->c≠C:=fun z c e=>by
  obtain⟨v,q⟩:=I2.cell z c e;exact Nat.ne_of_lt (Nat.lt_of_lt_of_le q.lt hCs)
 show wpAny (model X.prog X.w) X.A (assign (.Name y py) X.env (.ref D')) _ _ s';refine wpAny_assign_Name (z1u (v:=.ref D') K1 hnd hy (.inl hl) rfl (fun s'' K2 ch=>?_) (.inr hl));obtain⟨a,sb,ha⟩:=ch;have hCa:C≠a:=by
  rcases ha with rfl | ha
  ·exact hCL
  ·exact(hcl y a ha).symm
 refine⟨m,hm.sameBut sb hCa,fun g hg=>⟨_,_,K2.turned (t':=s''.toks) (it:=C) (fun b o hb e=>(hg.2 b hb).trans e) ?_ hCL (.inr (Nat.le_trans I2.sz hCs)) hcl fun p hp z=>?_,fin ys H' w D' hDn⟩⟩
 ·rw[zB hDC.symm];exact J'.free
 ·exact absurd (Nat.lt_of_lt_of_le (Heap.lt_size (I2.pin p hp).1) hCs) (by rw[z];exact Nat.lt_irrefl _)
end
theorem Vals.back:∀{xs:List V} {us:List Value} {i:Nat} {u:Value},Vals xs us->us[i]?=some u->∃x,xs[i]?=some x/\RelV x u
 | _,_,_,_,.nil,e=>by simp at e
 | _,_,0,_,.cons r _,e=>by simp at e;subst e;exact⟨_,rfl,r⟩
 | _,_,i+1,u,.cons _ t,e=>by
  obtain⟨x,h1,h2⟩:=Vals.back (i:=i) (u:=u) t (by simpa using e);exact⟨x,by simpa using h1,h2⟩
theorem z5d(bs:List Bool):((List.range bs.length).all fun i=>bs.getD i false)=bs.all id:=by
 rw[Bool.eq_iff_iff,List.all_eq_true,List.all_eq_true];constructor
 ·intro h b hb;obtain⟨i,hi,rfl⟩:=List.mem_iff_getElem.mp hb
  have:=h i (List.mem_range.mpr hi);simpa[List.getD_eq_getElem?_getD,hi]using this
 ·intro h i hi;have hi':=List.mem_range.mp hi
  have:=h bs[i] (List.getElem_mem hi');simpa[List.getD_eq_getElem?_getD,hi']using this
theorem z5S(bs:List Bool):((List.range bs.length).any fun i=>bs.getD i false)=bs.any id:=by
 rw[Bool.eq_iff_iff,List.any_eq_true,List.any_eq_true];constructor
 ·rintro⟨i,hi,h⟩;have hi':=List.mem_range.mp hi;refine⟨bs[i],List.getElem_mem hi',?_⟩;simpa[List.getD_eq_getElem?_getD,hi']using h
 ·rintro⟨b,hb,h⟩;obtain⟨i,hi,rfl⟩:=List.mem_iff_getElem.mp hb;exact⟨i,List.mem_range.mpr hi,by simpa[List.getD_eq_getElem?_getD,hi]using h⟩
theorem xp(ns:List Int):∀j,j<=ns.length->preSum (fun i=>ns.getD i 0) j=(ns.take j).sum
 | 0,_=>rfl
 | j+1,h=>by
  have hj:j<ns.length:=h;rw[preSum,xp ns j (by omega),List.take_add_one,List.getElem?_eq_getElem hj,List.sum_append];simp[List.getD_eq_getElem?_getD,hj]
section
variable{X:Cx}
theorem z31{bs:List Bool}{its:List Value}(rv:Vals (bs.map V.bl) its){i:Nat}{v:Value}(e:its.toArray[i]?=some v):v=.bool (bs.getD i false):=by
 obtain⟨x,e1,r⟩:=rv.back (u:=v) (i:=i) (by simpa using e);rw[List.getElem?_map]at e1;cases q:bs[i]? with
 | none=>rw[q]at e1;cases e1
 | some b=>
  rw[q]at e1;cases e1;rw[List.getD_eq_getElem?_getD,q];exact r
theorem z8k{ns:List Int}{its:List Value}(rv:Vals (ns.map V.int) its){i:Nat}{v:Value}(e:its.toArray[i]?=some v):∃t,v=.int (ns.getD i 0) t:=by
 obtain⟨x,e1,r⟩:=rv.back (u:=v) (i:=i) (by simpa using e);rw[List.getElem?_map]at e1;cases q:ns[i]? with
 | none=>rw[q]at e1;cases e1
 | some b=>
  rw[q]at e1;cases e1;rw[List.getD_eq_getElem?_getD,q];exact r
theorem uQ{xs:List V}{its:List Value}(rv:Vals xs its):its.toArray.size=xs.length:=by rw[List.size_toArray,rv.length]
theorem z59(hc:X.calm=true):CallR X (.builtin "all") (fun xs H Q=>∃(p:Addr) (bs:List Bool),xs=[.ref p]/\SqL X.K H p (bs.map V.bl)/\Q (.bl (bs.all id)) H):=by
 intro pins s σ H xs us Q I r h;obtain⟨p,bs,rfl,hq,q⟩:=h;obtain⟨u,rfl,ru⟩:=xO r;cases ru;obtain⟨its,rv,pl,hz⟩:=I.list hq;have hlt:p<s.heap.objs.size:=by obtain⟨o,e,_⟩:=pl.isList;exact Heap.lt_size e
 refine call_all_walk (wpAny_pyIter_list pl.isList ⟨s.heap.objs.size,_,_,_,_,_,fun i=>bs.getD i false,rfl,Walks.list (A:=X.A.in1) (I.ok.hd hc) s.heap.objs.size p (Nat.ne_of_lt hlt) its.toArray,⟨⟨_,Heap.get?_push_size _ rfl,rfl,rfl⟩,pl.isList.push _⟩,?_,fun h' tk hk=>?_⟩)
 ·intro i v s' Q' E' hv hQ;rw[z31 rv hv];exact wpAny_truthy_bool hQ
 ·rw[uQ rv,List.length_map,z5d];exact⟨.bl _,H,I.kept (t':=tk) fun b o e=>hk b o (by simpa using Nat.ne_of_lt (Heap.lt_size e)) (Heap.get?_push_of_some _ e),rfl,q⟩
theorem z68(hc:X.calm=true):CallR X (.builtin "any") (fun xs H Q=>∃(p:Addr) (bs:List Bool),xs=[.ref p]/\SqL X.K H p (bs.map V.bl)/\Q (.bl (bs.any id)) H):=by
 intro pins s σ H xs us Q I r h;obtain⟨p,bs,rfl,hq,q⟩:=h;obtain⟨u,rfl,ru⟩:=xO r;cases ru;obtain⟨its,rv,pl,hz⟩:=I.list hq;have hlt:p<s.heap.objs.size:=by obtain⟨o,e,_⟩:=pl.isList;exact Heap.lt_size e
 refine call_any_walk (wpAny_pyIter_list pl.isList ⟨s.heap.objs.size,_,_,_,_,_,fun i=>bs.getD i false,rfl,Walks.list (A:=X.A.in1) (I.ok.hd hc) s.heap.objs.size p (Nat.ne_of_lt hlt) its.toArray,⟨⟨_,Heap.get?_push_size _ rfl,rfl,rfl⟩,pl.isList.push _⟩,?_,fun h' tk hk=>?_⟩)
 ·intro i v s' Q' E' hv hQ;rw[z31 rv hv];exact wpAny_truthy_bool hQ
 ·rw[uQ rv,List.length_map,z5S];exact⟨.bl _,H,I.kept (t':=tk) fun b o e=>hk b o (by simpa using Nat.ne_of_lt (Heap.lt_size e)) (Heap.get?_push_of_some _ e),rfl,q⟩
theorem z5K(hc:X.calm=true):CallR X (.builtin "sum") (fun xs H Q=>∃(p:Addr) (ns:List Int),xs=[.ref p]/\SqL X.K H p (ns.map V.int)/\ns.length<=1000/\(∀n∈ns,0<=n/\n<=1000000)/\Q (.int ns.sum) H):=by
 intro pins s σ H xs us Q I r h;obtain⟨p,ns,rfl,hq,hl,hb,q⟩:=h;obtain⟨u,rfl,ru⟩:=xO r;cases ru;obtain⟨its,rv,pl,hz⟩:=I.list hq;have hlt:p<s.heap.objs.size:=by obtain⟨o,e,_⟩:=pl.isList;exact Heap.lt_size e
 have lb:∀l:List Int,(∀n∈l,0<=n/\n<=1000000)->0<=l.sum/\l.sum<=1000000*l.length:=fun l=>by
  induction l with
  | nil=>intro _;simp
  | cons x r ih=>
   intro h;have h1:=h x List.mem_cons_self;have h2:=ih fun n hn=>h n (List.mem_cons_of_mem _ hn);rw[List.sum_cons,List.length_cons];omega
 have val:∀j,0<=ns.getD j 0/\ns.getD j 0<=1000000:=fun j=>by
  rw[List.getD_eq_getElem?_getD];cases e:ns[j]? with
  | none=>simp
  | some n=>exact hb n (List.mem_of_getElem? e)
 refine call_sum_walk (wpAny_pyIter_list pl.isList ⟨s.heap.objs.size,_,_,_,_,_,fun i=>ns.getD i 0,rfl,Walks.list (A:=X.A.in1) (I.ok.hd hc) s.heap.objs.size p (Nat.ne_of_lt hlt) its.toArray,⟨⟨_,Heap.get?_push_size _ rfl,rfl,rfl⟩,pl.isList.push _⟩,fun b hb=>?_,fun i v hv=>z8k rv hv,fun j hj=>?_,fun h' tk t' hk=>?_⟩)
 ·rw[Heap.size_push];have hb':b=s.heap.objs.size\/b=p:=by simpa using hb
  rcases hb' with z | z
  ·rw[z];exact Nat.lt_succ_self _
  ·rw[z];exact Nat.lt_succ_of_lt hlt
 ·have hj':j<ns.length:=by rw[uQ rv,List.length_map]at hj;exact hj
  have v1:=val j;have v2:=lb (ns.take (j+1)) fun n hn=>hb n (List.mem_of_mem_take hn);rw[xp ns (j+1) hj'];have l2:(ns.take (j+1)).length<=1000:=by rw[List.length_take];omega
  constructor
  ·constructor
   ·show -(2 ^ 63)<=ns.getD j 0;omega
   ·show ns.getD j 0<2 ^ 63;omega
  ·constructor<;>omega
 ·rw[uQ rv,List.length_map,xp ns _ (Nat.le_refl _),List.take_length];exact⟨.int _,H,I.kept (t':=tk) fun b o e=>hk b o (by simpa using Nat.ne_of_lt (Heap.lt_size e)) (Heap.get?_push_of_some _ e),⟨_,rfl⟩,q⟩
theorem w5:CallR X (.builtin "isinstance") (fun xs H Q=>∃(x:V) (t:Value) (T:String) (b:Bool),xs=[x,.ty T]/\TyOf X.K H x t/\W.kitOne X.K t (.type T)=some b/\Q (.bl b) H):=by
 intro pins s σ H xs us Q I r h;obtain⟨x,t,T,b,rfl,ty,e,q⟩:=h;obtain⟨u,w',rfl,r1,r2⟩:=z8p r;cases r2;exact z53 I r1 ty e fun tk=>⟨.bl b,H,I.tok tk,rfl,q⟩
theorem z70(hu:X.A.units<cLine):OpR X (compareOp .Eq) (fun x y H Q=>∃(a b:Addr) (xs:List V),x=.ref a/\y=.ref b/\SqL X.K H a xs/\SqL X.K H b []/\Q (.bl xs.isEmpty) H):=by
 intro pins s σ H x y v u Q I rx ry h;obtain⟨a,b,xs,rfl,rfl,ha,hb,q⟩:=h;cases rx;cases ry;obtain⟨its,r1,p1,_⟩:=I.list ha;obtain⟨its2,r2,p2,_⟩:=I.list hb;have z2:its2.toArray.size=0:=uQ r2;cases xs with
 | nil=>
  have z1:its.toArray.size=0:=uQ r1;refine SeqAt.eq_listAt (e:=fun _=>true) p1.isList p2.isList (by rw[z1,z2]) hu (fun j h1 _=>by omega) ?_;rw[z1];exact⟨.bl true,H,I,rfl,q⟩
 | cons x r=>
  have z1:its.toArray.size=r.length+1:=uQ r1;exact SeqAt.eq_list_lengthsAt p1.isList p2.isList (by rw[z1,z2];rfl) hu ⟨.bl false,H,I,rfl,q⟩
end
end L2
namespace My
local macro_rules | `(tactic| omega)=>`(tactic| first | assumption | lia | omega +splitDisjunctions)
open PySem.W PyProof.Rows
noncomputable def Gives{α:Type}(f:Nat->Int)(N:Nat):KasT α->(α->Prop)->Prop
 | .ret a,Q=>Q a
 | .ask i j k,Q=>i<N/\j<N/\Gives f N (k (decide (f i<f j))) Q
theorem Gives.bind{α β:Type}{f:Nat->Int}{N:Nat}{g:α->KasT β}{Q:β->Prop}:∀{t:KasT α},Gives f N t (fun a=>Gives f N (g a) Q)->Gives f N (KasT.bind t g) Q
 | .ret _,h=>h
 | .ask _ _ k,h=>⟨h.1,h.2.1,Gives.bind (t:=k _) h.2.2⟩
theorem Gives.mono{α:Type}{f:Nat->Int}{N:Nat}{Q Q':α->Prop}(hq:∀a,Q a->Q' a):∀{t:KasT α},Gives f N t Q->Gives f N t Q'
 | .ret a,h=>hq a h
 | .ask _ _ k,h=>⟨h.1,h.2.1,Gives.mono hq (t:=k _) h.2.2⟩
def Bel(N:Nat)(p:Array Nat):Prop:=∀k,p.getD k 0<N
theorem Bel.perm{N:Nat}{p q:Array Nat}(h:Bel N p)(hq:q.Perm p):Bel N q:=fun k=>by
 rw[Array.getD_eq_getD_getElem?];cases e:q[k]? with
 | none=>exact Nat.lt_of_le_of_lt (Nat.zero_le _) (h 0)
 | some v=>
  have m:v∈p:=hq.mem_iff.mp (Array.mem_of_getElem? e);obtain⟨i,hi,rfl⟩:=Array.mem_iff_getElem.mp m
  have:=h i;rw[Array.getD_eq_getD_getElem?,Array.getElem?_eq_getElem hi]at this;exact this
section
variable{f:Nat->Int}{N:Nat}
noncomputable def at_(f:Nat->Int)(p:Array Nat)(k:Nat):Int:=f (p.getD k 0)
def Up(f:Nat->Int)(p:Array Nat)(n:Nat):Prop:=∀i,i+1<n->at_ f p i<=at_ f p (i+1)
def Down(f:Nat->Int)(p:Array Nat)(n:Nat):Prop:=∀i,i+1<n->at_ f p (i+1)<=at_ f p i
theorem Up.le{p:Array Nat}{n:Nat}(h:Up f p n):∀{i j:Nat},i<=j->j<n->at_ f p i<=at_ f p j:=by
  intro i j hij hj
  induction j with
  | zero => have : i = 0 := by omega
            subst this;exact Int.le_refl _
  | succ j ih=>
    by_cases e:i=j+1
    · subst e;exact Int.le_refl _
    · exact Int.le_trans (ih (by omega) (by omega)) (h j hj)
theorem uK{p q:Array Nat}{k l:Nat}(h:p[k]?=q[l]?):p.getD k 0=q.getD l 0:=by
 rw[Array.getD_eq_getD_getElem?,Array.getD_eq_getD_getElem?,h]
theorem uu{p:Array Nat}{i j:Nat}(hj:j<=p.size)(k:Nat):at_ f (kas_rev p i j) k=if i<=k/\k<j then at_ f p (i+j - 1 - k)else at_ f p k:=by
 have e:=getElem?_mirror_all (i:=i) hj k;unfold at_ kas_rev;split at e
 next h=>rw[if_pos h,uK e]
 next h=>rw[if_neg h,uK e]
theorem z0H(p:Array Nat)(i j:Nat):(kas_rev p i j).size=p.size:=mirror_size _ _ _ _
theorem yg(p:Array Nat)(i j:Nat):(kas_rev p i j).Perm p:=mirror_perm _ _ _ _
theorem z7u{p:Array Nat}(hp:Bel N p):∀(fu n:Nat),1<=n->Up f p n->Gives f N (kas_asc p fu n) fun m=>n<=m/\m<=n+fu/\Up f p m
 | 0,n,_,h=>⟨Nat.le_refl _,Nat.le_refl _,h⟩
 | fu+1,n,h1,h=>by
  refine⟨hp _,hp _,?_⟩;show Gives f N (if decide (f (p.getD n 0)<f (p.getD (n - 1) 0))=true then _ else _) _;by_cases c:f (p.getD n 0)<f (p.getD (n - 1) 0)
  ·rw[if_pos (by simpa using c)];exact⟨Nat.le_refl _,by omega,h⟩
  ·rw[if_neg (by simpa using c)];refine(z7u hp fu (n+1) (by omega) fun i hi=>?_).mono fun m ⟨a,b,c⟩=>⟨by omega,by omega,c⟩;by_cases e:i+1=n
   ·subst e;unfold at_
    have:i+1 - 1=i:=by omega
    rw[this]at c;omega
   ·exact h i (by omega)
theorem z0w:∀(fu:Nat) (p:Array Nat) (n q:Nat),Bel N p->q+1<=n->n+fu<=p.size->Down f p n->(∀k,n<=k+(q+1)->k<n->at_ f p k=at_ f p (n - 1))->
  Gives f N (kas_desc fu p n q) fun r=>r.1.Perm p/\n<=r.2.1/\r.2.1<=n+fu/\r.2.2+1<=r.2.1/\Down f r.1 r.2.1/\(∀k,r.2.1<=k+(r.2.2+1)->k<r.2.1->at_ f r.1 k=at_ f r.1 (r.2.1 - 1))
 | 0,p,n,q,hp,h1,h2,h3,h4=>⟨Array.Perm.refl _,Nat.le_refl _,Nat.le_refl _,h1,h3,h4⟩
 | fu+1,p,n,q,hp,h1,h2,h3,h4=>by
  refine⟨hp _,hp _,?_⟩;show Gives f N (if decide (f (p.getD n 0)<f (p.getD (n - 1) 0))=true then _ else _) _;have hn:n - 1+1=n:=by omega
  have single:∀(p':Array Nat) (k:Nat),n+1<=k+(0+1)->k<n+1->at_ f p' k=at_ f p' (n+1 - 1):=fun p' k a b=>by
   have:k=n:=by omega
   subst this;rfl
  by_cases c:f (p.getD n 0)<f (p.getD (n - 1) 0)
  ·rw[if_pos (by simpa using c)];have dn:Down f p (n+1):=fun i hi=>by
    by_cases e:i+1=n
    ·subst e
     have:i+1 - 1=i:=by omega
     rw[this]at c;unfold at_;omega
    ·exact h3 i (by omega)
   by_cases hq:q>0
   ·rw[if_pos hq];have same:∀k,at_ f (kas_rev p (n - (q+1)) n) k=at_ f p k:=fun k=>by
     rw[uu (by omega)];split
     next h=>rw[h4 k (by omega) h.2,h4 _ (by omega) (by omega)]
     next=>rfl
    have z:=z0w fu (kas_rev p (n - (q+1)) n) (n+1) 0 (hp.perm (yg _ _ _)) (by omega) (by rw[z0H];omega) (fun i hi=>by rw[same,same];exact dn i hi) (single _);exact z.mono fun r ⟨a1,a2,a3,a4,a5,a6⟩=>⟨a1.trans (yg _ _ _),by omega,by omega,a4,a5,a6⟩
   ·rw[if_neg hq];exact(z0w fu p (n+1) 0 hp (by omega) (by omega) dn (single _)).mono fun r ⟨a1,a2,a3,a4,a5,a6⟩=>⟨a1,by omega,by omega,a4,a5,a6⟩
  ·rw[if_neg (by simpa using c)];refine⟨hp _,hp _,?_⟩;show Gives f N (if decide (f (p.getD (n - 1) 0)<f (p.getD n 0))=true then _ else _) _;by_cases d:f (p.getD (n - 1) 0)<f (p.getD n 0)
   ·rw[if_pos (by simpa using d)];exact⟨Array.Perm.refl _,Nat.le_refl _,Nat.le_add_right _ _,h1,h3,h4⟩
   ·rw[if_neg (by simpa using d)];have e:at_ f p n=at_ f p (n - 1):=by unfold at_;omega
    refine(z0w fu p (n+1) (q+1) hp (by omega) (by omega) (fun i hi=>?_) fun k a b=>?_).mono fun r ⟨a1,a2,a3,a4,a5,a6⟩=>⟨a1,by omega,by omega,a4,a5,a6⟩
    ·by_cases e':i+1=n
     ·subst e';rw[e];exact Int.le_refl _
     ·exact h3 i (by omega)
    ·show at_ f p k=at_ f p n;by_cases e':k=n
     ·subst e';rfl
     ·rw[e];exact h4 k (by omega) (by omega)
theorem z55{n nrem:Nat}{p:Array Nat}(hp:Bel N p)(h1:1<=n)(h2:n<=nrem)(h3:nrem<=p.size)(h:Down f p n):Gives f N (kas_tail3 n nrem p) fun r=>1<=r.1/\r.1<=nrem/\r.2.Perm p/\Up f r.2 r.1:=by
 refine Gives.bind ((z7u (hp.perm (yg _ _ _)) (nrem - n) n h1 fun i hi=>?_).mono fun m ⟨a,b,c⟩=>⟨by omega,by show m<=nrem;omega,yg _ _ _,c⟩);rw[uu (by omega),uu (by omega),if_pos (by omega),if_pos (by omega)]
 have:=h (0+n - 1 - (i+1)) (by omega)
 rwa [show 0+n - 1 - (i+1)+1=0+n - 1 - i by omega]at this
theorem uS{n nrem:Nat}{p:Array Nat}(hp:Bel N p)(h1:1<=n)(h2:n<nrem)(h3:nrem<=p.size)(h:Down f p (n+1)):Gives f N (kas_descPart n nrem p) fun r=>1<=r.1/\r.1<=nrem/\r.2.Perm p/\Up f r.2 r.1:=by
 refine Gives.bind ((z0w (nrem - (n+1)) p (n+1) 0 hp (by omega) (by omega) h fun k a b=>(by have e:k=n:=(by omega);rw[e];rfl)).mono fun r ⟨a1,a2,a3,a4,a5,a6⟩=>?_);have sz:r.1.size=p.size:=a1.size_eq;show Gives f N (if r.2.2>0 then _ else _) _;by_cases hq:r.2.2>0
 ·rw[if_pos hq];have same:∀k,at_ f (kas_rev r.1 (r.2.1 - (r.2.2+1)) r.2.1) k=at_ f r.1 k:=fun k=>by
   rw[uu (by omega)];split
   next h=>rw[a6 k (by omega) h.2,a6 _ (by omega) (by omega)]
   next=>rfl
  exact(z55 ((hp.perm a1).perm (yg _ _ _)) (by omega) (by omega) (by rw[z0H];omega) fun i hi=>by rw[same,same];exact a5 i hi).mono fun z ⟨b1,b2,b3,b4⟩=>⟨b1,b2,(b3.trans (yg _ _ _)).trans a1,b4⟩
 ·rw[if_neg hq];exact(z55 (hp.perm a1) (by omega) (by omega) (by omega) a5).mono fun z ⟨b1,b2,b3,b4⟩=>⟨b1,b2,b3.trans a1,b4⟩
theorem z7V{nrem:Nat}{p:Array Nat}(hp:Bel N p)(h1:1<=nrem)(h3:nrem<=p.size):Gives f N (kas_count nrem p) fun r=>1<=r.1/\r.1<=nrem/\r.2.Perm p/\Up f r.2 r.1:=by
 refine Gives.bind ?_;have key:∀(fu n:Nat),1<=n->Up f p n->Gives f N (kas_asc p fu n) fun m=>n<=m/\m<=n+fu/\Up f p m/\(m<n+fu->at_ f p m<at_ f p (m - 1)):=by
  intro fu
  induction fu with
  | zero=>intro n _ h;exact⟨Nat.le_refl _,Nat.le_refl _,h,fun z=>by omega⟩
  | succ fu ih=>
   intro n h1 h;refine⟨hp _,hp _,?_⟩;show Gives f N (if decide (f (p.getD n 0)<f (p.getD (n - 1) 0))=true then _ else _) _;by_cases c:f (p.getD n 0)<f (p.getD (n - 1) 0)
   ·rw[if_pos (by simpa using c)];exact⟨Nat.le_refl _,by omega,h,fun _=>c⟩
   ·rw[if_neg (by simpa using c)];refine(ih (n+1) (by omega) fun i hi=>?_).mono fun m ⟨a,b,c,d⟩=>⟨by omega,by omega,c,fun z=>d (by omega)⟩;by_cases e:i+1=n
    ·subst e;unfold at_
     have:i+1 - 1=i:=by omega
     rw[this]at c;omega
    ·exact h i (by omega)
 refine(key (nrem - 1) 1 (Nat.le_refl _) fun i hi=>by omega).mono fun n ⟨a,b,c,d⟩=>?_;show Gives f N (if (n == nrem)=true then _ else _) _;by_cases e:n=nrem
 ·rw[if_pos (by simpa using e)];exact⟨a,by omega,Array.Perm.refl _,c⟩
 ·rw[if_neg (by simpa using e)];have lt:=d (by omega);by_cases hn:n>1
  ·rw[if_pos hn];refine⟨hp _,hp _,?_⟩;show Gives f N (if decide (f (p.getD 0 0)<f (p.getD (n - 1) 0))=true then _ else _) _;by_cases g:f (p.getD 0 0)<f (p.getD (n - 1) 0)
   ·rw[if_pos (by simpa using g)];exact⟨a,by omega,Array.Perm.refl _,c⟩
   ·rw[if_neg (by simpa using g)];have flat:∀k,k<n->at_ f p k=at_ f p (n - 1):=fun k hk=>by
     have l1:=c.le (Nat.zero_le k) hk;have l2:=c.le (show k<=n - 1 by omega) (by omega)
     have:at_ f p (n - 1)<=at_ f p 0:=by unfold at_;omega
     omega
    refine(uS (hp.perm (yg _ _ _)) a (by omega) (by rw[z0H];omega) fun i hi=>?_).mono fun r ⟨b1,b2,b3,b4⟩=>⟨b1,b2,b3.trans (yg _ _ _),b4⟩;rw[uu (by omega),uu (by omega)];by_cases e1:i+1<n
    ·rw[if_pos (by omega),if_pos (by omega),flat (0+n - 1 - (i+1)) (by omega),flat (0+n - 1 - i) (by omega)];exact Int.le_refl _
    ·have:i+1=n:=by omega
     rw[if_neg (by omega),if_pos (by omega),flat (0+n - 1 - i) (by omega),this];omega
  ·rw[if_neg hn]
   have:n=1:=by omega
   subst this;refine uS hp a (by omega) h3 fun i hi=>?_
   have:i=0:=by omega
   subst this;exact Int.le_of_lt lt
theorem z0u{p:Array Nat}{k:Nat}(hp:Bel N p)(hu:Up f p k):∀(fu l r:Nat),l<=r->r<=k->r - l<=fu->(∀i,i<l->at_ f p i<=at_ f p k)->(∀i,r<=i->i<k->at_ f p k<at_ f p i)->
  Gives f N (kas_place p k fu l r) fun m=>m<=k/\(∀i,i<m->at_ f p i<=at_ f p k)/\(∀i,m<=i->i<k->at_ f p k<at_ f p i)
 | 0,l,r,h1,h2,h3,h4,h5=>by
  have:l=r:=by omega
  subst this;exact⟨h2,h4,h5⟩
 | fu+1,l,r,h1,h2,h3,h4,h5=>by
  unfold kas_place;by_cases e:l>=r
  ·rw[if_pos e]
   have:l=r:=by omega
   subst this;exact⟨h2,h4,h5⟩
  ·rw[if_neg e];refine⟨hp _,hp _,?_⟩;show Gives f N (if decide (f (p.getD k 0)<f (p.getD ((l+r) / 2) 0))=true then _ else _) _;by_cases c:f (p.getD k 0)<f (p.getD ((l+r) / 2) 0)
   ·rw[if_pos (by simpa using c)];refine z0u hp hu fu l ((l+r) / 2) (by omega) (by omega) (by omega) h4 fun i hi hk=>?_;exact Int.lt_of_lt_of_le (show at_ f p k<at_ f p ((l+r) / 2) from c) (hu.le hi hk)
   ·rw[if_neg (by simpa using c)];refine z0u hp hu fu ((l+r) / 2+1) r (by omega) h2 (by omega) (fun i hi=>?_) h5
    have:at_ f p ((l+r) / 2)<=at_ f p k:=by unfold at_;omega
    exact Int.le_trans (hu.le (show i<=(l+r) / 2 by omega) (by omega)) this
theorem z81:∀(fu:Nat) (p:Array Nat) (k:Nat),Bel N p->1<=k->k+fu<=p.size->Up f p k->Gives f N (kas_bin fu p k) fun r=>r.Perm p/\Up f r (k+fu)
 | 0,p,k,_,_,_,h=>⟨Array.Perm.refl _,h⟩
 | fu+1,p,k,hp,h1,h2,h=>by
  refine Gives.bind ((z0u hp h k 0 k (Nat.zero_le _) (Nat.le_refl _) (by omega) (fun i hi=>by omega) fun i a b=>by omega).mono fun l ⟨a,b,c⟩=>?_);have get:∀j,at_ f (bubble p k (k - l)) j=if j=l then at_ f p k else if l<j/\j<=k then at_ f p (j - 1)else at_ f p j:=fun j=>by
   have e:=getElem?_bubble (xs:=p) (src:=k) (by omega) (k - l) (by omega) j;have kl:k - (k - l)=l:=by omega
   rw[kl]at e;unfold at_;split at e
   next h=>rw[if_pos h,uK e]
   next h=>
    rw[if_neg h];split at e
    next h'=>rw[if_pos h',uK e]
    next h'=>rw[if_neg h',uK e]
  have z:=z81 fu (bubble p k (k - l)) (k+1) (hp.perm (bubble_perm _ _ _)) (by omega) (by rw[bubble_size];omega) fun i hi=>by
   rw[get,get];by_cases e1:i=l
   ·subst e1;rw[if_pos rfl,if_neg (by omega)];by_cases e2:i<k
    ·rw[if_pos (by omega)]
     have:=c i (Nat.le_refl _) e2;simpa using Int.le_of_lt this
    ·have:i+1<=k:=by omega
     omega
   ·rw[if_neg e1];by_cases e2:i<l
    ·rw[if_neg (by omega)];by_cases e3:i+1=l
     ·rw[if_pos e3];exact b i e2
     ·rw[if_neg e3,if_neg (by omega)];exact h i (by omega)
    ·rw[if_pos (by omega),if_neg (by omega),if_pos (by omega)]
     have:=h (i - 1) (by omega)
     rwa [show i - 1+1=i+1 - 1 by omega]at this
  exact z.mono fun r ⟨q1,q2⟩=>⟨q1.trans (bubble_perm _ _ _),by rw[show k+(fu+1)=k+1+fu by omega];exact q2⟩
theorem sort_ok{n:Nat}(h2:1<=n):Gives f n (kas_sort n) fun r=>r.Perm (List.toArray (List.range n))/\Up f r n:=by
 have sz:(List.toArray (List.range n)).size=n:=by simp
 have hb:Bel n (List.toArray (List.range n)):=fun k=>by
  rw[Array.getD_eq_getD_getElem?];by_cases hk:k<n
  ·simp[hk]
  ·simp[hk];omega
 refine Gives.bind ((z7V hb h2 (by omega)).mono fun r ⟨a1,a2,a3,a4⟩=>?_);show Gives f n (if r.1<n then _ else _) _;by_cases e:r.1<n
 ·rw[if_pos e];have hm:max r.1 1=r.1:=by omega
  rw[hm];have z:=z81 (f:=f) (N:=n) (n - r.1) r.2 r.1 (hb.perm a3) a1 (by rw[a3.size_eq,sz];omega) a4;exact z.mono fun q ⟨q1,q2⟩=>⟨q1.trans a3,by rwa [show r.1+(n - r.1)=n by omega]at q2⟩
 ·rw[if_neg e]
  have:r.1=n:=by omega
  exact⟨a3,by rwa [this]at a4⟩
end
end My
namespace L2
open PySem PySem.Spec PyProof.Rows
section
variable{prog:Program}{w:World}{A:Around}{R:Result->Shared->Prop}
end
section
variable{X:Cx}
end
open PySem.W (KasT kas_sort kas_ask kat_run kat_snds kat_kind kat_lt KatTups KatLex kat_nil kat_cons kat_go kat_yes kat_no kat_one kat_lt_int)
theorem z34{α:Type}{N:Nat}{f:Nat->Int}{cmp:Nat->Nat->(Bool->Shared->Prop)->Shared->Prop}{Q:α->Shared->Prop}{s:Shared}(hc:∀i j C,i<N->j<N->C (decide (f i<f j)) s->cmp i j C s):
  ∀{t:KasT α},My.Gives f N t (fun a=>Q a s)->t.kasWp cmp Q s
 | .ret _,h=>h
 | .ask i j k,h=>hc i j _ h.1 h.2.1 (z34 hc h.2.2)
noncomputable abbrev z1y(vs:List Value)(p:Array Nat):Array Value:=List.toArray (p.toList.map fun i=>vs.getD i Value.none)
section
variable{prog:Program}{w:World}{A:Around}{E:Value->Shared->Prop}{s:Shared}
theorem zBo{a:Addr}{vs:List Value}{n:Nat}{P:PySem.Fin->Shared->Prop}{f:Nat->Int}{κ:SortKind}(ho:s.heap.get? a=some (seqObj "list" vs.toArray n))(h64:vs.length<64)
  (kind:∀(s':Shared) (Q:SortKind->Shared->Prop) (E:Value->Shared->Prop),2<=vs.length->(∀b o,b≠a->s.heap.get? b=some o->s'.heap.get? b=some o)->Q κ s'->wpAny (model prog w) A (keyKind' vs.toArray) Q E s')
  (cmp:∀(i j:Nat) (s':Shared) (Q:Bool->Shared->Prop) (E:Value->Shared->Prop),i<vs.length->j<vs.length->(∀b o,b≠a->s.heap.get? b=some o->s'.heap.get? b=some o)->Q (decide (f i<f j)) s'->wpAny (model prog w) A (keyLt' κ (vs.getD i Value.none) (vs.getD j Value.none)) Q E s')
  (h:∀p:Array Nat,p.Perm (List.toArray (List.range vs.length))->My.Up f p vs.length->P (.done (.ret .none)) { s with heap:=sortedHeap s.heap a vs (z1y vs p) }) :
  wpAny (model prog w) A (Builtin.«list.sort» ⟨[.ref a],[]⟩) P E s:=by
 rw[list_sort_plain];have ha:a<s.heap.objs.size:=Heap.lt_size ho;refine wpAny_bind (listItems_at ho rfl ?_);refine wpAny_bind (listUpdate_at ho rfl ?_ (by rw[List.size_toArray,sizeLine_eq];omega) (Nat.zero_le _));obtain⟨e1,ho1⟩:∃e1,(s.heap.update a (Obj.mapSeq fun _=>(#[]:Array Value))).get? a=some (seqObj "list" #[] e1):=⟨_,get?_update_seq ho (fun _=>#[])⟩;refine wpAny_bind (seqEpoch_at ho1 rfl ?_);refine wpAny_bind (wpAny_newTuple ?_ (by rw[sizeLine_eq];show vs.toArray.toList.length<=_;simp;omega));refine wpAny_bind (wpAny_newList ?_ (Nat.zero_le _));refine wpAny_holding ?_;have ho6:(((s.heap.update a (Obj.mapSeq fun _=>#[])).push (seqObj "tuple" vs.toArray 0)).push (seqObj "list" #[] 0)).get? a=some (seqObj "list" #[] e1):=
  Heap.get?_push_of_some _ (Heap.get?_push_of_some _ ho1)
 have kp:∀b o,b≠a->s.heap.get? b=some o->(((s.heap.update a (Obj.mapSeq fun _=>#[])).push (seqObj "tuple" vs.toArray 0)).push (seqObj "list" #[] 0)).get? b=some o:=fun b o hb e=>
  Heap.get?_push_of_some _ (Heap.get?_push_of_some _ ((Heap.get?_update_other _ _ (Ne.symm hb)).trans e))
 show wpAny (model prog w) A _ P E { s with heap:=((s.heap.update a (Obj.mapSeq fun _=>#[])).push (seqObj "tuple" vs.toArray 0)).push (seqObj "list" #[] 0) };dsimp only;have hsz:vs.toArray.size=vs.length:=by simp
 by_cases h2:vs.toArray.size<2
 ·rw[if_pos h2,if_pos h2];refine wpAny_bind (wpAny_pure ?_);rw[StateT.run_pure];refine wpAny_bind (wpAny_pure ?_);dsimp only;have out:(arrOf (SortSt.mk' general' (vs.toArray.zip vs.toArray) #[] 7 none)).map (·.2)=z1y vs (List.toArray (List.range vs.length)):=by
   have z1:((vs.toArray.zip vs.toArray).map (·.2))=vs.toArray:=by
    apply Array.toList_inj.mp;simp[List.map_snd_zip]
   have z2:z1y vs (List.toArray (List.range vs.length))=vs.toArray:=by
    apply Array.toList_inj.mp;refine List.ext_getElem (by simp) fun i a b=>?_;have b':i<vs.length:=by simpa using b
    simp[b']
   rw[z2];exact z1
  refine wpAny_bind (seqEpoch_at ho6 rfl ?_);rw[out];refine wpAny_bind (listUpdate_at ho6 rfl ?_ (Nat.zero_le _) (by rw[List.size_toArray,List.length_map,sizeLine_eq];simp;omega));simp only[bne_self_eq_false,Bool.false_eq_true,if_false];exact wpAny_pure (h _ (Array.Perm.refl _) fun i hi=>by omega)
 ·rw[if_neg h2,if_neg h2];have h2':2<=vs.length:=by omega
  refine wpAny_bind (kind _ _ _ h2' kp ?_);refine wpAny_bind (wpAny_mono (kat_run (E:=E) (κ:=κ) (ks:=vs) (Q:=fun st' s'=>s'={ s with heap:=((s.heap.update a (Obj.mapSeq fun _=>#[])).push (seqObj "tuple" vs.toArray 0)).push (seqObj "list" #[] 0) }/\failedOf st'=none/\∃p:Array Nat,p.Perm (List.toArray (List.range vs.length))/\My.Up f p vs.length/\(arrOf st').map (·.2)=z1y vs p)
   (G:=fun p s'=>s'={ s with heap:=((s.heap.update a (Obj.mapSeq fun _=>#[])).push (seqObj "tuple" vs.toArray 0)).push (seqObj "list" #[] 0) }/\p.Perm (List.toArray (List.range vs.length))/\My.Up f p vs.length) rfl h2' h64
   (fun p st' s' _ har hf ⟨g1,g2,g3⟩=>⟨g1,hf,p,g2,g3,kat_snds rfl har⟩)
   (z34 (N:=vs.length) (f:=f) (fun i j C hi hj hC=>cmp i j _ C _ hi hj kp hC) ((My.sort_ok (by omega)).mono fun p hp=>⟨rfl,hp⟩))) ?_ fun _ _ e=>e)
  rintro⟨⟨⟩,st'⟩ s' ⟨rfl,hf,p,hp,hup,out⟩;dsimp only at hf out |-;refine wpAny_bind (seqEpoch_at ho6 rfl ?_);rw[out];refine wpAny_bind (listUpdate_at ho6 rfl ?_ (Nat.zero_le _) (by rw[List.size_toArray,List.length_map,Array.length_toList,hp.size_eq,sizeLine_eq];simp;omega));rw[hf];simp only[bne_self_eq_false,Bool.false_eq_true,if_false];exact wpAny_pure (h p hp hup)
end
section
variable{X:Cx}
end
mutual
noncomputable def DatV(H:Hp):PyData->V->Prop
 | .none,v=>v=.non
 | .bool b,v=>v=.bl b
 | .int i,v=>v=.int i
 | .str x,v=>v=.str x
 | .list ds,v=>∃a xs,v=.ref a/\H a=some (.lst xs)/\DatAll H ds xs
 | .tuple ds,v=>∃a xs,v=.ref a/\H a=some (.tup xs)/\DatAll H ds xs
 | .dict _,_=>False
noncomputable def DatAll(H:Hp):List PyData->List V->Prop
 | [],xs=>xs=[]
 | d::ds,xs=>∃x r,xs=x::r/\DatV H d x/\DatAll H ds r
end
mutual
theorem DatV.same{H H':Hp}(s:∀b o,H b=some o->H' b=some o):∀{d:PyData} {v:V},DatV H d v->DatV H' d v
 | .none,_,h=>by simp only[DatV]at h |-;exact h
 | .bool _,_,h=>by simp only[DatV]at h |-;exact h
 | .int _,_,h=>by simp only[DatV]at h |-;exact h
 | .str _,_,h=>by simp only[DatV]at h |-;exact h
 | .list _,_,h=>by
  simp only[DatV]at h |-;obtain⟨a,xs,e,h1,h2⟩:=h;exact⟨a,xs,e,s _ _ h1,DatAll.same s h2⟩
 | .tuple _,_,h=>by
  simp only[DatV]at h |-;obtain⟨a,xs,e,h1,h2⟩:=h;exact⟨a,xs,e,s _ _ h1,DatAll.same s h2⟩
 | .dict _,_,h=>by simp only[DatV]at h
theorem DatAll.same{H H':Hp}(s:∀b o,H b=some o->H' b=some o):∀{ds:List PyData} {xs:List V},DatAll H ds xs->DatAll H' ds xs
 | [],_,h=>by simp only[DatAll]at h |-;exact h
 | _::_,_,h=>by
  simp only[DatAll]at h |-;obtain⟨x,r,e,h1,h2⟩:=h;exact⟨x,r,e,DatV.same s h1,DatAll.same s h2⟩
end
mutual
theorem DatV.reads{P:Program}{w:World}{H:Hp}{h:Heap}(ok:HOk P w H h):∀{d:PyData} {v:V} {u:Value},DatV H d v->RelV v u->∃as,Reads h u d as
 | .none,_,_,e,r=>by simp only[DatV]at e;subst e;cases r;exact⟨_,.none⟩
 | .bool _,_,_,e,r=>by simp only[DatV]at e;subst e;cases r;exact⟨_,.bool _⟩
 | .int _,_,_,e,r=>by simp only[DatV]at e;subst e;obtain⟨t,rfl⟩:=r;exact⟨_,.int _ _⟩
 | .str _,_,_,e,r=>by simp only[DatV]at e;subst e;obtain⟨t,rfl⟩:=r;exact⟨_,.str _ _⟩
 | .list ds,_,_,e,r=>by
  simp only[DatV]at e;obtain⟨a,xs,rfl,h1,h2⟩:=e;cases r;obtain⟨_,its,n,rv,g⟩:=(show ObjOk P w H h a (.lst xs) from ok a _ h1);obtain⟨as,ra⟩:=DatAll.reads ok h2 rv;exact⟨_,.list g rfl rfl (by simpa using ra)⟩
 | .tuple ds,_,_,e,r=>by
  simp only[DatV]at e;obtain⟨a,xs,rfl,h1,h2⟩:=e;cases r;obtain⟨_,its,rv,o,g1,g2,n,g3⟩:=(show ObjOk P w H h a (.tup xs) from ok a _ h1);obtain⟨as,ra⟩:=DatAll.reads ok h2 rv;exact⟨_,.tuple g1 g2 g3 (by simpa using ra)⟩
 | .dict _,_,_,e,_=>by simp only[DatV]at e
theorem DatAll.reads{P:Program}{w:World}{H:Hp}{h:Heap}(ok:HOk P w H h):∀{ds:List PyData} {xs:List V} {us:List Value},DatAll H ds xs->Vals xs us->∃as,ReadsAll h us ds as
 | [],_,_,e,r=>by simp only[DatAll]at e;subst e;cases r;exact⟨_,.nil⟩
 | d::ds,_,_,e,r=>by
  simp only[DatAll]at e;obtain⟨x,r',rfl,h1,h2⟩:=e;cases r with
  | cons r1 r2=>
   obtain⟨as,ra⟩:=DatV.reads ok h1 r1;obtain⟨bs,rb⟩:=DatAll.reads ok h2 r2;exact⟨_,.cons ra rb⟩
end
section
variable{X:Cx}
noncomputable def rEqD(neg:Bool):R2:=fun x y H Q=>∃d e,DatV H d x/\DatV H e y/\d.canLay0=true/\e.canLay0=true/\min d.depth e.depth<=60/\Q (.bl (if neg then !PyData.eqv d e else PyData.eqv d e)) H
theorem zAu(hu:X.A.units+64<cLine):OpR X (compareOp .Eq) (rEqD false):=by
 intro pins s σ H x y v u Q I rx ry h;obtain⟨d,e,h1,h2,c1,c2,hd,q⟩:=h;obtain⟨as,r1⟩:=DatV.reads I.hok h1 rx;obtain⟨bs,r2⟩:=DatV.reads I.hok h2 ry;exact SeqAt.compareEq_reads r1 r2 c1 c2 (by omega) ⟨.bl _,H,I,rfl,q⟩
theorem z9w(hu:X.A.units+64<cLine):OpR X (compareOp .NotEq) (rEqD true):=by
 intro pins s σ H x y v u Q I rx ry h;obtain⟨d,e,h1,h2,c1,c2,hd,q⟩:=h;obtain⟨as,r1⟩:=DatV.reads I.hok h1 rx;obtain⟨bs,r2⟩:=DatV.reads I.hok h2 ry;exact SeqAt.compareNe_reads r1 r2 c1 c2 (by omega) ⟨.bl _,H,I,rfl,q⟩
noncomputable def rInD(neg:Bool):R2:=fun x y H Q=>∃d ds,DatV H d x/\(DatV H (.list ds) y\/DatV H (.tuple ds) y)/\d.canLay0=true/\PyData.canLayAll0 ds=true/\d.depth<=60/\Q (.bl (if neg then !(ds.any fun y=>PyData.eqv y d)else ds.any fun y=>PyData.eqv y d)) H
theorem zAq(hu:X.A.units+64<cLine):OpR X (compareOp .In) (rInD false):=by
 intro pins s σ H x y v u Q I rx ry h;obtain⟨d,ds,h1,h2,c1,c2,hd,q⟩:=h;obtain⟨as,r1⟩:=DatV.reads I.hok h1 rx;rcases h2 with h2 | h2
 ·obtain⟨bs,r2⟩:=DatV.reads I.hok h2 ry;exact SeqAt.in_list_reads r2 r1 c2 c1 (by have:=Nat.min_le_right (PyData.depthAll ds) d.depth;omega) ⟨.bl _,H,I,rfl,q⟩
 ·obtain⟨bs,r2⟩:=DatV.reads I.hok h2 ry;exact SeqAt.in_tuple_reads r2 r1 c2 c1 (by have:=Nat.min_le_right (PyData.depthAll ds) d.depth;omega) ⟨.bl _,H,I,rfl,q⟩
theorem z62(hu:X.A.units+64<cLine):OpR X (compareOp .NotIn) (rInD true):=by
 intro pins s σ H x y v u Q I rx ry h;obtain⟨d,ds,h1,h2,c1,c2,hd,q⟩:=h;obtain⟨as,r1⟩:=DatV.reads I.hok h1 rx;rcases h2 with h2 | h2
 ·obtain⟨bs,r2⟩:=DatV.reads I.hok h2 ry;exact SeqAt.notIn_list_reads r2 r1 c2 c1 (by have:=Nat.min_le_right (PyData.depthAll ds) d.depth;omega) ⟨.bl _,H,I,rfl,q⟩
 ·obtain⟨bs,r2⟩:=DatV.reads I.hok h2 ry;exact SeqAt.notIn_tuple_reads r2 r1 c2 c1 (by have:=Nat.min_le_right (PyData.depthAll ds) d.depth;omega) ⟨.bl _,H,I,rfl,q⟩
noncomputable def zAN:R2:=fun x y H Q=>∃a b xs ys,x=.ref a/\y=.ref b/\H a=some (.tup xs)/\H b=some (.tup ys)/\xs.length+ys.length<=sizeLine/\∀p H',Same H H'->H' p=some (.tup (xs++ys))->Q (.ref p) H'
theorem z0N{H:Hp}{D:Addr}{o:HO}(h:H D=none):Same H (upd H D o):=fun b x e=>by rw[zB (zM e h)];exact e
theorem op_catTT:OpR X (binaryOp .Add) zAN:=by
 intro pins s σ H x y v u Q I rx ry h;obtain⟨a,b,xs,ys,rfl,rfl,ha,hb,hz,q⟩:=h;by_cases hx:xs=[]
 ·cases rx;cases ry;subst hx;obtain⟨its,r1,p1,_⟩:=I.tuple (SqT.of (K:=X.K) ha);obtain⟨its2,r2,p2,_⟩:=I.tuple (SqT.of (K:=X.K) hb);cases r1;obtain⟨⟨cls,dd,data,sl⟩,ho,hc,n,hd⟩:=id p1;obtain⟨⟨cls2,dd2,data2,sl2⟩,ho2,hc2,n2,hd2⟩:=id p2;simp only at hc hd hc2 hd2;subst hc hd hc2 hd2;exact concat_meets ⟨_,ho,rfl⟩ ⟨_,ho2,rfl⟩ noFill_tuple_add seq_tuple_add PySem.F.slot_tuple_add PySem.F.entry_tuple_add (PySem.F.args_tuple_add_2 _ _)
   (tuple_addW0 a b #[] its2.toArray n n2 dd dd2 sl sl2 rfl) ⟨ho,ho2,⟨.ref b,H,I,rfl,q b H (fun _ _ e=>e) (by simpa using hb)⟩⟩
 ·refine z8K pins s σ H _ _ v u Q I rx ry ⟨a,b,xs,ys,rfl,rfl,SqT.of ha,SqT.of hb,hx,hz,fun e=>?_,fun e p hp=>q p _ (z0N hp) z7⟩;subst e;exact q a H (fun _ _ e=>e) (by simpa using ha)
noncomputable def zBz:V->Option Int->Option Int->Hp->VK->Prop:=fun x lo hi H Q=>∃a xs,x=.ref a/\H a=some (.tup xs)/\∀p H',Same H H'->H' p=some (.tup (cutV xs lo hi))->Q (.ref p) H'
theorem xl{prog:Program}{w:World}{A:Around}{E:Value->Shared->Prop}{s:Shared}{t sl:Addr}{items:Array Value}{vl vu:Value}{lo hi:Option Int}{Q:Value->Shared->Prop}(ht:IsTup s.heap t items)(hs:s.heap.IsSliceOf sl vl vu .none)(pl:IsPart vl lo)(pu:IsPart vu hi)
  (hw:HT.sIx items.size 0 lo=0/\HT.sIx items.size items.size hi=items.size)
  (h:Q (.ref t) s):wpAny (model prog w) A (getItem (.ref t) (.ref sl)) Q E s:=by
 obtain⟨os,hos,hcs,hds⟩:=id hs;have hTs:s.TypeIs (.ref sl) "slice":=⟨os,hos,hcs⟩;unfold getItem
 try with_reducible refine wpAny_holding ?_
 first | refine wpAny_bind (wpAny_pure ?_) | skip
 refine wpAny_bind (wpAny_sequenceKey ht.typeIs (by decide) ?_);refine wpAny_bind (wpAny_callSpecial?_slot (name:=Str.ofString "__getitem__") ht.typeIs PyProof.Rows.slot_tuple_getitem
  (wpAny_call_entry PyProof.Rows.slot_tuple_getitem ht.typeIs entry_tuple_getitem ?_ (args_tuple_getitem _ _)))
 show wpAny _ _ (Builtin.Tuple.tupleItemsOf (.ref t) >>= _) _ _ s;refine wpAny_bind (tupleItemsOf_ ht ?_);refine wpAny_bind (wpAny_typeOf hTs ?_);rw[if_pos (by decide)];refine wpAny_bind (HT.sliceApplied_gen hs pl pu ?_);have hyes:((((HT.sIx items.size 0 lo:Nat):Int) == 0 && (1:Int) == 1 && (HT.sIx items.size items.size hi - HT.sIx items.size 0 lo) == items.size)=true):=by
  rw[hw.1,hw.2];simp
 show wpAny _ _ (if (((HT.sIx items.size 0 lo:Nat):Int) == 0 && (1:Int) == 1 && (HT.sIx items.size items.size hi - HT.sIx items.size 0 lo) == items.size)=true then _ else _) _ _ s;rw[if_pos hyes];refine wpAny_bind (m:=Builtin.Tuple.tupleIsExact (.ref t)) ?_;unfold Builtin.Tuple.tupleIsExact;refine wpAny_bind (wpAny_typeOf ht.typeIs ?_);refine wpAny_pure ?_;rw[if_pos (by decide)];exact wpAny_bind (wpAny_rule (wpAny_pure ⟨_,rfl,wpAny_pure h⟩))
theorem z6D:SlR X zBz:=by
 intro pins s σ H x v vl vu lo hi sl Q I rx hs pl pu h;obtain⟨a,xs,rfl,hx,q⟩:=h;by_cases hw:HT.sIx xs.length 0 lo=0/\HT.sIx xs.length xs.length hi=xs.length
 ·cases rx;obtain⟨its,r,ht,hz⟩:=I.tuple (SqT.of (K:=X.K) hx);have hlen:its.toArray.size=xs.length:=by rw[List.size_toArray];exact r.length.symm
  refine⟨"tuple",_,PyProof.Rows.slot_tuple_getitem.lookup,ht.typeIs,?_⟩;refine xl ht hs pl pu (by rw[hlen];exact hw) ⟨.ref a,H,I,rfl,q a H (fun _ _ e=>e) ?_⟩;unfold cutV;rw[hw.1,hw.2];simpa using hx
 ·exact zAm pins s σ H _ v vl vu lo hi sl Q I rx hs pl pu ⟨a,xs,rfl,SqT.of hx,hw,fun p hp=>q p _ (z0N hp) z7⟩
theorem wp:fillsNumberSlot (.type "tuple") "mul"=pure false:=
 PySem.fillsNumberSlot_seq (id:="tuple.__mul__") (r:=some (.builtin "tuple.__rmul__")) F.slot_tuple_mul.lookup (by decide +kernel) F.slot_tuple_rmul.lookup (by decide +kernel)
theorem z1L:seqRepeat? (.type "tuple")=pure (some (.builtin "tuple.__mul__")):=by
 unfold seqRepeat?;rw[PySem.seqSlot_of (T:="tuple") (name:="__mul__") (id:="tuple.__mul__") F.slot_tuple_mul.lookup (by decide +kernel),PySem.seqSlot_of (T:="tuple") (name:="__rmul__") (id:="tuple.__rmul__") F.slot_tuple_rmul.lookup (by decide +kernel)];rfl
theorem xJ(a:Int)(t:Tok)(l:Addr)(items:Array Value)(n:Nat)(dd:Option Addr)(sl:Array (Option Value)):
  Meets (Builtin.«int.__rmul__» ⟨[.int a t,.ref l],[]⟩) (fun _ R s=>s.heap.get? l=some { cls:=.type "tuple",dict:=dd,data:=.seq items n,slots:=sl }/\R (.ok (.ret Value.notImplemented)) s):=
 .of_wp fun prog w A R s h=>by obtain⟨hp,g,d,tk,os⟩:=s;obtain⟨hl,h⟩:=h;wp_walk;exact⟨_,rfl,h⟩
theorem z22(l:Addr)(items:Array Value)(n:Nat)(dd:Option Addr)(sl:Array (Option Value))(x:Int)(u:Tok)(h1 : -(2 ^ 63)<=x)(h2:x<2 ^ 63)(hc0:(items.isEmpty || x == 1)=true):
    Meets (Builtin.«tuple.__mul__» ⟨[.ref l,.int x u],[]⟩) (fun _ R s=>s.heap.get? l=some { cls:=.type "tuple",dict:=dd,data:=.seq items n,slots:=sl }/\R (.ok (.ret (Value.ref l))) s):=
  .of_wp fun prog w A R s h=>by
    obtain⟨hp,g,d,tk,os⟩:=s;obtain⟨hl,h⟩:=h;have f1:=AutoSeq1.idx_int;have hb:(decide (x < -(2 ^ 63)) || decide (x>=2 ^ 63))=false:=by simp;omega
    wp_walk using wpAny_loadPart' hl
    refine wpAny_ite_false (decide_eq_false (by rw[hb];exact Bool.false_ne_true)) ?_
    wp_walk using wpAny_loadPart' hl
    first
      | exact⟨_,rfl,h⟩
      | (refine wpAny_ite_true (decide_eq_true hc0) ?_
         wp_walk using wpAny_loadPart' hl
         exact⟨_,rfl,h⟩)
theorem z2Q(l:Addr)(items:Array Value)(n:Nat)(dd:Option Addr)(sl:Array (Option Value))(x:Int)(u:Tok)(h1:1<x)(h2:x<2 ^ 63)(hc0:items.isEmpty=false)(hz:items.size*x.toNat<=sizeLine):
  Meets (Builtin.«tuple.__mul__» ⟨[.ref l,.int x u],[]⟩) (fun _ R s=>s.heap.get? l=some { cls:=.type "tuple",dict:=dd,data:=.seq items n,slots:=sl }/\R (.ok (.ret (Value.ref s.heap.objs.size))) { s with heap:=s.heap.push { cls:=Value.type "tuple",data:=Data.seq (List.foldl (fun x1 x2=>x1++x2) #[] (List.replicate x.toNat items)) },toks:=s.toks }):=
 .of_wp fun prog w A R s h=>by
  obtain⟨hp,g,d,tk,os⟩:=s;obtain⟨hl,h⟩:=h;have f1:=AutoSeq1.idx_int;have hb:(decide (x < -(2 ^ 63)) || decide (x>=2 ^ 63))=false:=by simp;omega
  have hc1:(items.isEmpty || x == 1)=false:=by rw[hc0];simp;omega
  have hc2:(decide (x<=0) || items.isEmpty)=false:=by rw[hc0];simp;omega
  have hm:((items.size:Int)*x)=((items.size*x.toNat:Nat):Int):=by
   rw[Int.natCast_mul,Int.toNat_of_nonneg (by omega)]
  have hc3:¬((items.size:Int)*x>(2 ^ 63 - 1) / 8):=by
   rw[hm]
   have:(sizeLine:Nat)<=(2 ^ 63 - 1) / 8:=by decide
   omega
  have hc4:Builtin.Tuple.tupleTooMany ((items.size:Int)*x)=false:=by
   rw[hm];unfold Builtin.Tuple.tupleTooMany;exact decide_eq_false (by omega)
  wp_walk using wpAny_loadPart' hl
  refine wpAny_ite_false (decide_eq_false (by rw[hb];exact Bool.false_ne_true)) ?_
  wp_walk using wpAny_loadPart' hl
  refine wpAny_ite_false (decide_eq_false (by rw[hc1];exact Bool.false_ne_true)) ?_;show wpAny _ _ (if (decide (x<=0) || items.isEmpty)=true then _ else _) _ _ _;refine wpAny_ite_false (decide_eq_false (by rw[hc2];exact Bool.false_ne_true)) ?_;show wpAny _ _ (if (items.size:Int)*x>(2 ^ 63 - 1) / 8 then _ else _) _ _ _;refine wpAny_ite_false (decide_eq_false hc3) ?_;show wpAny _ _ (if Builtin.Tuple.tupleTooMany ((items.size:Int)*x)=true then _ else _) _ _ _;refine wpAny_ite_false (decide_eq_false (by rw[hc4];exact Bool.false_ne_true)) ?_;have hsz:sizeOk (.seq (List.foldl (fun x1 x2=>x1++x2) #[] (List.replicate x.toNat items))):=by
   show(List.foldl (fun x1 x2=>x1++x2) #[] (List.replicate x.toNat items)).size<=sizeLine;have f0:∀(m:Nat) (acc:Array Value),(List.foldl (fun x1 x2=>x1++x2) acc (List.replicate m items)).size=acc.size+m*items.size:=fun m=>by
    induction m with
    | zero=>intro acc;simp
    | succ m ih=>intro acc;rw[List.replicate_succ,List.foldl_cons,ih,Array.size_append,Nat.succ_mul];omega
   rw[f0,Nat.mul_comm];simpa using hz
  exact wpAny_bind (m:=Builtin.Tuple.tupleExact _) (wpAny_newObj_type (wpAny_pure ⟨_,rfl,h⟩) hsz)
noncomputable def z9m:R2:=fun x y H Q=>∃a k xs,x=.ref a/\y=.int k/\H a=some (.tup xs)/\0<k/\k<1000000/\xs.length*k.toNat<=sizeLine/\∀p H',Same H H'->H' p=some (.tup (List.replicate k.toNat xs).flatten)->Q (.ref p) H'
theorem op_repTT:OpR X (binaryOp .Mult) z9m:=by
 intro pins s σ H x y v u Q I rx ry h;obtain⟨l,k,xs,rfl,rfl,hH,h1,h2,hz,q⟩:=h;cases rx;obtain⟨t,rfl⟩:=ry;obtain⟨its,r,ht,hl⟩:=I.tuple (SqT.of (K:=X.K) hH);have hlen:its.length=xs.length:=r.length.symm;obtain⟨⟨cls,dd,data,sl⟩,ho,hc,n,hd⟩:=id ht;simp only at hc hd;subst hc hd;refine wpAny_binaryOp_repeat_ref (T:="tuple") (U:="int") (by decide) ⟨_,ho,rfl⟩ (fun s'=>typeIs_int s' k t) wp F.fills_int_mul F.slot_int_rmul z1L F.slot_int_index.lookup
  (call_meets F.slot_int_rmul (typeIs_int s k t) F.entry_int_rmul (F.args_int_rmul_2 _ _) (xJ k t l its.toArray n dd sl)
   ⟨ho,rfl,⟨_,ho,rfl⟩,?_⟩)
 by_cases hc:(its.toArray.isEmpty || k == 1)=true
 ·refine call_meets F.slot_tuple_mul ⟨_,ho,rfl⟩ F.entry_tuple_mul (F.args_tuple_mul_2 _ _) (z22 l its.toArray n dd sl k t (by omega) (by omega) hc) ⟨ho,?_⟩;refine⟨.ref l,H,I,rfl,q l H (fun _ _ e=>e) ?_⟩;rw[Bool.or_eq_true]at hc;rcases hc with hc | hc
  ·have:its=[]:=by simpa using hc
   subst this;cases r;rw[hH];simp
  ·have:k=1:=by simpa using hc
   subst this;rw[hH];simp
 ·have hc':(its.toArray.isEmpty || k == 1)=false:=by simpa using hc
  rw[Bool.or_eq_false_iff]at hc';have k1:k≠1:=by simpa using hc'.2
  refine call_meets F.slot_tuple_mul ⟨_,ho,rfl⟩ F.entry_tuple_mul (F.args_tuple_mul_2 _ _) (z2Q l its.toArray n dd sl k t (by omega) (by omega) hc'.1 (by rw[List.size_toArray,hlen];exact hz)) ⟨ho,?_⟩;have f0:List.foldl (fun x1 x2=>x1++x2) #[] (List.replicate k.toNat its.toArray)=(List.replicate k.toNat its).flatten.toArray:=by
   have:=uD its k.toNat [];rw[List.nil_append]at this;exact this
  rw[f0];refine⟨.ref _,_,I.laid (t':=s.toks) (o:=.tup (List.replicate k.toNat xs).flatten) (fun b ob q=>Heap.get?_push_of_some _ q) (Nat.le_refl _) ?_,rfl,q _ _ (z0N (I.hok.fresh (Nat.le_refl _))) z7⟩;exact⟨⟨by rw[z4u,Nat.mul_comm];exact hz,_,Heap.get?_push_size _ rfl,rfl⟩,_,r.rep k.toNat,IsTup.new _ _⟩
end
end L2
namespace L2
open PySem PySem.Spec PyProof.Rows
inductive D where
 | p (x:PyData) | scr (ns:List Int) | town | fn (a:Addr) | exc (a C:Addr)
inductive Sl where
 | val (d:D) | own (x:PyData) | deep (kls:List (PyData×List PyData))
noncomputable abbrev Ix:=Nat×Nat
inductive Res(α:Type) where
 | ok (a:α) (n:Nat) | err (c:Str) (n:Nat) | bad
noncomputable def Mx(α:Type):Type:=Nat->Res α
noncomputable def Mx.ret{α:Type}(a:α):Mx α:=fun n=>.ok a n
noncomputable def Mx.bind{α β:Type}(m:Mx α)(f:α->Mx β):Mx β:=fun n=>match m n with
 | .ok a n'=>f a n'
 | .err c n'=>.err c n'
 | .bad=>.bad
noncomputable def Mx.bad{α:Type}:Mx α:=fun _=>.bad
noncomputable def Mx.opt{α:Type}:Option α->Mx α
 | some a=>Mx.ret a
 | none=>Mx.bad
noncomputable instance:Monad Mx where
 pure:=Mx.ret
 bind:=Mx.bind
theorem Mx.bind_def{α β:Type}(m:Mx α)(f:α->Mx β)(n:Nat):(m >>= f) n=(match m n with | .ok a n'=>f a n' | .err c n'=>.err c n' | .bad=>.bad):=rfl
noncomputable abbrev Env':=List (Option Sl)
inductive Out where
 | nx (ρ:Env') | rt (d:D) | bk (ρ:Env') | ct (ρ:Env')
def Kp(S:Addr->Prop)(H H':Hp):Prop:=∀b o,H b=some o->(¬S b\/∃xs,o=.tup xs)->H' b=some o
theorem Kp.refl(S:Addr->Prop)(H:Hp):Kp S H H:=fun _ _ h _=>h
theorem Kp.trans{S:Addr->Prop}{H H1 H2:Hp}(a:Kp S H H1)(b:Kp S H1 H2):Kp S H H2:=fun c o h k=>b c o (a c o h k) k
theorem Kp.of{S:Addr->Prop}{H H':Hp}(s:Same H H'):Kp S H H':=fun b o h _=>s b o h
theorem Kp.mono{S S':Addr->Prop}{H H':Hp}(k:Kp S H H')(h:∀a,S a->S' a):Kp S' H H':=fun b o e q=>k b o e (q.imp (fun z w=>z (h b w)) id)
noncomputable def wn:HO->Prop
 | .dK _=>True
 | .dT _=>True
 | _=>False
theorem Rd.kp{S:Addr->Prop}{H H':Hp}(k:Kp S H H'){b:Addr}{u:HO}(h:Rd H b u)(q:¬S b):Rd H' b u:=by
 rcases h with h | ⟨o,h⟩
 ·exact .inl (k b u h (.inl q))
 ·exact .inr ⟨o,k b _ h (.inl q)⟩
theorem Rd.some{H:Hp}{a:Addr}{u:HO}(h:Rd H a u):H a≠none:=by
 rcases h with h | ⟨o,h⟩<;>(rw[h];intro z;cases z)
theorem Rd.not_tup{H:Hp}{a:Addr}{u:HO}(h:Rd H a u)(hd:wn u):∀xs,H a≠.some (.tup xs):=fun xs z=>by
 rcases h with h | ⟨o,h⟩
 ·rw[h]at z;cases z;exact hd
 ·rw[h]at z;cases z
def Pl(H:Hp)(a:Addr):Prop:=∃o,H a=some o/\∀ob u,o≠.frz ob u
theorem Pl.some{H:Hp}{a:Addr}(h:Pl H a):H a≠none:=by
 obtain⟨o,e,_⟩:=h;rw[e];intro z;cases z
theorem Pl.kp{S:Addr->Prop}{H H':Hp}{a:Addr}(h:Pl H a)(k:Kp S H H')(q:¬S a):Pl H' a:=by
 obtain⟨o,e,n⟩:=h;exact⟨o,k _ _ e (.inl q),n⟩
theorem Pl.rd{H:Hp}{a:Addr}{u:HO}(h:Pl H a)(r:Rd H a u):H a=.some u:=by
 obtain⟨o,e,n⟩:=h;rcases r with r | ⟨ob,r⟩
 ·exact r
 ·rw[e]at r;cases r;exact absurd rfl (n ob u)
theorem Pl.upd{H:Hp}{a:Addr}{o:HO}(n:∀ob u,o≠.frz ob u:=by intro _ _ z;cases z):Pl (upd H a o) a:=⟨o,z7,n⟩
noncomputable def kD:Key->PyData
 | .inl i=>.int i
 | .inr x=>.str x
noncomputable def kT(k:List Key):PyData:=.tuple (k.map kD)
def DctAt(H:Hp)(a:Addr)(ks:List (PyData×V)):Prop:=
 (∃l:List (Key×V),Rd H a (.dK l)/\ks=l.map fun kv=>(kD kv.1,kv.2))\/∃l:List (List Key×V),Rd H a (.dT l)/\ks=l.map fun kv=>(kT kv.1,kv.2)
theorem DctAt.kp{S:Addr->Prop}{H H':Hp}{a:Addr}{ks:List (PyData×V)}(k:Kp S H H')(hs:¬S a)(h:DctAt H a ks):DctAt H' a ks:=by
 rcases h with ⟨l,h,e⟩ | ⟨l,h,e⟩
 ·exact .inl ⟨l,h.kp k hs,e⟩
 ·exact .inr ⟨l,h.kp k hs,e⟩
theorem DctAt.some{H:Hp}{a:Addr}{ks:List (PyData×V)}(h:DctAt H a ks):H a≠none:=by
 rcases h with ⟨l,h,_⟩ | ⟨l,h,_⟩<;>exact h.some
theorem DctAt.not_tup{H:Hp}{a:Addr}{ks:List (PyData×V)}(h:DctAt H a ks):∀xs,H a≠.some (.tup xs):=by
 rcases h with ⟨l,h,_⟩ | ⟨l,h,_⟩<;>exact h.not_tup True.intro
mutual
noncomputable def DatS(S:Addr->Prop)(H:Hp):PyData->V->Prop
 | .none,v=>v=.non
 | .bool b,v=>v=.bl b
 | .int i,v=>v=.int i
 | .str x,v=>v=.str x
 | .list ds,v=>∃a xs,v=.ref a/\¬S a/\H a=some (.lst xs)/\DatsS S H ds xs
 | .tuple ds,v=>∃a xs,v=.ref a/\H a=some (.tup xs)/\DatsS S H ds xs
 | .dict kvs,v=>∃a ks,v=.ref a/\¬S a/\DctAt H a ks/\DctS S H kvs ks
noncomputable def DatsS(S:Addr->Prop)(H:Hp):List PyData->List V->Prop
 | [],xs=>xs=[]
 | d::ds,xs=>∃x r,xs=x::r/\DatS S H d x/\DatsS S H ds r
noncomputable def DctS(S:Addr->Prop)(H:Hp):List (PyData×PyData)->List (PyData×V)->Prop
 | [],xs=>xs=[]
 | (k,d)::ds,xs=>∃x r,xs=(k,x)::r/\DatS S H d x/\DctS S H ds r
end
noncomputable def Dat1(T S:Addr->Prop)(H:Hp):PyData->V->Prop
 | .list ds,v=>∃a xs,v=.ref a/\¬T a/\H a=some (.lst xs)/\DatsS S H ds xs
 | .dict kvs,v=>∃a ks,v=.ref a/\¬T a/\DctAt H a ks/\DctS S H kvs ks
 | d,v=>DatS S H d v
theorem DatS.one{T S:Addr->Prop}{H:Hp}{d:PyData}{v:V}(hT:∀a,T a->S a)(h:DatS S H d v):Dat1 T S H d v:=by
 cases d<;>simp only[DatS,Dat1]at h |-
 case list=>obtain⟨a,xs,e,h0,h1,h2⟩:=h;exact⟨a,xs,e,fun z=>h0 (hT a z),h1,h2⟩
 case dict=>obtain⟨a,xs,e,h0,h1,h2⟩:=h;exact⟨a,xs,e,fun z=>h0 (hT a z),h1,h2⟩
 all_goals exact h
mutual
theorem DatS.kp{S S':Addr->Prop}{H H':Hp}(s:Kp S H H')(hS:∀a,S' a->S a\/H a=none):∀{d:PyData} {v:V},DatS S H d v->DatS S' H' d v
 | .none,_,h=>by simp only[DatS]at h |-;exact h
 | .bool _,_,h=>by simp only[DatS]at h |-;exact h
 | .int _,_,h=>by simp only[DatS]at h |-;exact h
 | .str _,_,h=>by simp only[DatS]at h |-;exact h
 | .list _,_,h=>by
  simp only[DatS]at h |-;obtain⟨a,xs,e,h0,h1,h2⟩:=h;exact⟨a,xs,e,fun z=>(hS a z).elim h0 fun q=>(by rw[q]at h1;cases h1),s _ _ h1 (.inl h0),DatsS.kp s hS h2⟩
 | .tuple _,_,h=>by
  simp only[DatS]at h |-;obtain⟨a,xs,e,h1,h2⟩:=h;exact⟨a,xs,e,s _ _ h1 (.inr ⟨_,rfl⟩),DatsS.kp s hS h2⟩
 | .dict _,_,h=>by
  simp only[DatS]at h |-;obtain⟨a,xs,e,h0,h1,h2⟩:=h;exact⟨a,xs,e,fun z=>(hS a z).elim h0 fun q=>h1.some q,h1.kp s h0,DctS.kp s hS h2⟩
theorem DatsS.kp{S S':Addr->Prop}{H H':Hp}(s:Kp S H H')(hS:∀a,S' a->S a\/H a=none):∀{ds:List PyData} {xs:List V},DatsS S H ds xs->DatsS S' H' ds xs
 | [],_,h=>by simp only[DatsS]at h |-;exact h
 | _::_,_,h=>by
  simp only[DatsS]at h |-;obtain⟨x,r,e,h1,h2⟩:=h;exact⟨x,r,e,DatS.kp s hS h1,DatsS.kp s hS h2⟩
theorem DctS.kp{S S':Addr->Prop}{H H':Hp}(s:Kp S H H')(hS:∀a,S' a->S a\/H a=none):∀{ds:List (PyData×PyData)} {xs:List (PyData×V)},DctS S H ds xs->DctS S' H' ds xs
 | [],_,h=>by simp only[DctS]at h |-;exact h
 | (_,_)::_,_,h=>by
  simp only[DctS]at h |-;obtain⟨x,r,e,h1,h2⟩:=h;exact⟨x,r,e,DatS.kp s hS h1,DctS.kp s hS h2⟩
end
theorem Dat1.move{T T' S S':Addr->Prop}{H H':Hp}(s:Kp S H H')(hS:∀a,S' a->S a\/H a=none){d:PyData}{v:V}(top:∀a,v=.ref a->H a≠none->¬T a->(∀o,H a=some o->H' a=some o)/\¬T' a)(h:Dat1 T S H d v):Dat1 T' S' H' d v:=by
 cases d<;>simp only[Dat1]at h |-
 case list=>
  obtain⟨b,xs,rfl,h0,h1,h2⟩:=h;obtain⟨t1,t2⟩:=top b rfl (by rw[h1];intro z;cases z) h0;exact⟨b,xs,rfl,t2,t1 _ h1,DatsS.kp s hS h2⟩
 case dict=>
  obtain⟨b,xs,rfl,h0,h1,h2⟩:=h;obtain⟨t1,t2⟩:=top b rfl h1.some h0;refine⟨b,xs,rfl,t2,?_,DctS.kp s hS h2⟩;have mv:∀{u:HO},Rd H b u->Rd H' b u:=fun{u} h=>h.imp (t1 _) fun⟨o,h⟩=>⟨o,t1 _ h⟩;rcases h1 with ⟨l,h,e⟩ | ⟨l,h,e⟩
  ·exact .inl ⟨l,mv h,e⟩
  ·exact .inr ⟨l,mv h,e⟩
 all_goals exact DatS.kp s hS h
theorem Dat1.kp{T U S:Addr->Prop}{H H':Hp}(s:Kp T H H')(hT:∀a,T a->U a)(hU:∀a,U a->S a){d:PyData}{v:V}(h:Dat1 U S H d v):Dat1 U S H' d v:=
 h.move (s.mono fun a z=>hU a (hT a z)) (fun a z=>.inl z) fun a _ _ ht=>⟨fun o e=>s _ _ e (.inl fun z=>ht (hT a z)),ht⟩
theorem Dat1.weak{T S:Addr->Prop}{H:Hp}{d:PyData}{v:V}(h:Dat1 T S H d v):Dat1 (fun _=>False) S H d v:=by
 cases d<;>simp only[Dat1]at h |-
 case list=>obtain⟨b,xs,e,_,h⟩:=h;exact⟨b,xs,e,id,h⟩
 case dict=>obtain⟨b,xs,e,_,h⟩:=h;exact⟨b,xs,e,id,h⟩
 all_goals exact h
structure Gh where
 aS:Addr
 ns:List Int
 aT:Option Addr
 S0:Addr->Prop
 H0:Hp
noncomputable def Gh.T(g:Gh):Addr->Prop:=fun b=>g.aT=some b
noncomputable def Gh.U(g:Gh):Addr->Prop:=fun b=>g.S0 b\/g.aT=some b
noncomputable def Gh.S(g:Gh)(ow:Ix->Option Addr):Addr->Prop:=fun b=>g.S0 b\/g.aT=some b\/∃i,ow i=some b
def Twn(g:Gh)(H:Hp)(n:Nat):Prop:=∀a,g.aT=some a->H a=some (.lst (List.replicate n (.int 0)))
def Scp(K:W.Frag)(g:Gh)(H:Hp):Prop:=(∀H':Hp,SqL K H' g.aS (g.ns.map V.int))\/(g.aT≠some g.aS/\SqL K H g.aS (g.ns.map V.int))
noncomputable def zBW(a C:Addr):Heap->Prop:=fun h=>∃o,h.get? a=some o/\o.cls=.ref C
noncomputable def Rep(g:Gh)(S:Addr->Prop)(H:Hp):D->V->Prop
 | .p x,v=>DatS S H x v
 | .scr ns,v=>ns=g.ns/\v=.ref g.aS
 | .town,v=>∃a,g.aT=some a/\v=.ref a
 | .fn a,v=>v=.ref a
 | .exc a C,v=>v=.ref a/\¬S a/\H a=some (.ext (zBW a C))
noncomputable def Rep1(g:Gh)(S:Addr->Prop)(H:Hp):D->V->Prop
 | .p x,v=>Dat1 g.U S H x v
 | .scr ns,v=>ns=g.ns/\v=.ref g.aS
 | .town,v=>∃a,g.aT=some a/\v=.ref a
 | .fn a,v=>v=.ref a
 | .exc a C,v=>v=.ref a/\¬S a/\H a=some (.ext (zBW a C))
theorem Rep1.d1{g:Gh}{S:Addr->Prop}{H:Hp}{x:PyData}{v:V}(h:Rep1 g S H (.p x) v):Dat1 g.U S H x v:=h
theorem Rep.one{g:Gh}{S:Addr->Prop}{H:Hp}{d:D}{v:V}(hT:∀a,g.U a->S a)(h:Rep g S H d v):Rep1 g S H d v:=by
 cases d with
 | p x=>exact DatS.one hT h
 | scr=>exact h
 | town=>exact h
 | fn=>exact h
 | exc=>exact h
theorem Rep.kp{g:Gh}{S S':Addr->Prop}{H H':Hp}(s:Kp S H H')(hS:∀a,S' a->S a\/H a=none){d:D}{v:V}(h:Rep g S H d v):Rep g S' H' d v:=by
 cases d with
 | p x=>exact DatS.kp s hS h
 | scr=>exact h
 | town=>exact h
 | fn=>exact h
 | exc a C=>exact⟨h.1,fun z=>(hS _ z).elim h.2.1 fun q=>(by have k:=h.2.2;rw[q]at k;cases k),s _ _ h.2.2 (.inl h.2.1)⟩
def Dp(g:Gh)(ow:Ix->Option Addr)(H:Hp)(i:Nat)(kls:List (PyData×List PyData))(v:V):Prop:=
 ∃a ks,v=.ref a/\ow (i,0)=some a/\DctAt H a ks/\ks.length=kls.length/\∀j k l,kls[j]?=some (k,l)->∃b xs,ks[j]?=some (k,.ref b)/\ow (i,j+1)=some b/\H b=some (.lst xs)/\DatsS (g.S ow) H l xs
theorem Dp.move{g g':Gh}{ow ow':Ix->Option Addr}{H H':Hp}{i:Nat}{kls:List (PyData×List PyData)}{v:V}(h:Dp g ow H i kls v)(hi:∀j a,ow (i,j)=some a->ow' (i,j)=some a)(top:∀j a,ow (i,j)=some a->∀o,H a=some o->H' a=some o)
  (kS:Kp (g.S ow) H H') (hS:∀a,g'.S ow' a->g.S ow a\/H a=none):Dp g' ow' H' i kls v:=by
 obtain⟨a,ks,e,e0,hd,hl,hk⟩:=h;refine⟨a,ks,e,hi _ _ e0,?_,hl,fun j k l ej=>?_⟩
 ·have mv:∀{u:HO},Rd H a u->Rd H' a u:=fun{u} h=>h.imp (top 0 a e0 _) fun⟨o,h⟩=>⟨o,top 0 a e0 _ h⟩;rcases hd with ⟨l,h,e⟩ | ⟨l,h,e⟩
  ·exact .inl ⟨l,mv h,e⟩
  ·exact .inr ⟨l,mv h,e⟩
 ·obtain⟨b,xs,q1,q2,q3,q4⟩:=hk j k l ej;exact⟨b,xs,q1,hi _ _ q2,top _ _ q2 _ q3,DatsS.kp kS hS q4⟩
structure Frm(K:W.Frag)(g:Gh)(ow:Ix->Option Addr)(ρ:Env')(n:Nat)(σ:St)(H:Hp):Prop where
 scr:Scp K g g.H0
 twn:Twn g H n
 sub:∀a,g.S0 a->g.H0 a≠none
 ext:Kp g.T g.H0 H
 val:∀(i:Nat) (d:D),ρ[i]?=some (some (Sl.val d))->∃v,σ[i]?=some (some v)/\Rep g (g.S ow) H d v
 own:∀(i:Nat) (x:PyData),ρ[i]?=some (some (Sl.own x))->∃a,ow (i,0)=some a/\σ[i]?=some (some (.ref a))/\Dat1 g.U (g.S ow) H x (.ref a)
 dp:∀(i:Nat) (kls:List (PyData×List PyData)),ρ[i]?=some (some (Sl.deep kls))->∃v,σ[i]?=some (some v)/\Dp g ow H i kls v
 owi:∀(i:Ix) (a:Addr),ow i=some a->g.H0 a=none/\Pl H a/\g.aT≠some a/\i.1<ρ.length
 inj:∀(i j:Ix) (a:Addr),ow i=some a->ow j=some a->i=j
 len:ρ.length=σ.length
section
variable{K:W.Frag}{g:Gh}{ow:Ix->Option Addr}{ρ:Env'}{n n':Nat}{σ:St}{H H':Hp}
theorem Kp.some{S:Addr->Prop}(k:Kp S H H'){a:Addr}(h:H a≠none)(hs:¬S a):H' a≠none:=by
 cases e:H a with
 | none=>exact absurd e h
 | some o=>rw[k _ _ e (.inl hs)];intro z;cases z
theorem Frm.dom(f:Frm K g ow ρ n σ H):∀a,g.S ow a->H a≠none:=by
 intro a h;by_cases ht:g.aT=.some a
 ·rw[f.twn a ht];intro z;cases z
 ·rcases h with h | h | ⟨i,h⟩
  ·exact f.ext.some (f.sub a h) ht
  ·exact absurd h ht
  ·exact(f.owi i a h).2.1.some
theorem Frm.kp(f:Frm K g ow ρ n σ H)(k:Kp g.T H H')(t:Twn g H' n'):Frm K g ow ρ n' σ H':=by
 have kS:Kp (g.S ow) H H':=k.mono fun a h=>.inr (.inl h);refine⟨f.scr,t,f.sub,f.ext.trans k,fun i d e=>?_,fun i x e=>?_,fun i kl e=>?_,fun i a e=>?_,f.inj,f.len⟩
 ·obtain⟨v,e1,r⟩:=f.val i d e;exact⟨v,e1,r.kp kS fun a h=>.inl h⟩
 ·obtain⟨a,e1,e2,r⟩:=f.own i x e;exact⟨a,e1,e2,r.kp k (fun a h=>.inr h) fun a h=>h.elim .inl fun z=>.inr (.inl z)⟩
 ·obtain⟨v,e1,r⟩:=f.dp i kl e;exact⟨v,e1,r.move (fun _ _ z=>z) (fun j a z o q=>k _ _ q (.inl (f.owi _ a z).2.2.1)) kS fun a h=>.inl h⟩
 ·obtain⟨e1,e2,e3,e4⟩:=f.owi i a e;exact⟨e1,e2.kp k e3,e3,e4⟩
theorem Frm.scp(f:Frm K g ow ρ n σ H):Scp K g H:=by
 rcases f.scr with h | ⟨h1,h2⟩
 ·exact .inl h
 ·refine .inr ⟨h1,?_⟩;rcases h2 with (h | ⟨o,h⟩) | h
  ·exact .inl (.inl (f.ext _ _ h (.inl h1)))
  ·exact .inl (.inr ⟨o,f.ext _ _ h (.inl h1)⟩)
  ·exact .inr h
end
noncomputable abbrev RG(α β:Type):=Gh->(Addr->Prop)->Hp->Hp->α->β->Prop
def AftG{α β:Type}(R:Hp->Hp->α->β->Prop)(g:Gh)(Er:Str->Hp->Prop)(H:Hp)(r:Res α)(Q:β->Hp->Prop):Prop:=match r with
 | .ok a n'=>∀v H',Kp g.T H H'->Twn g H' n'->R H H' a v->Q v H'
 | .err c n'=>∀H',Kp g.T g.H0 H'->Twn g H' n'->Er c H'
 | .bad=>False
noncomputable def rdG{α β:Type}(R:RG α β)(K:W.Frag)(Er:Str->Hp->Prop)(m:Env'->Mx α):St->Hp->(β->Hp->Prop)->Prop:=fun σ H Q=>
 ∃g ow ρ n,Frm K g ow ρ n σ H/\AftG (R g (g.S ow)) g Er H (m ρ n) Q
noncomputable abbrev RE:RG D V:=fun g S _ H' d v=>Rep g S H' d v
noncomputable abbrev RW:RG D V:=fun g S _ H' d v=>Rep1 g S H' d v
noncomputable abbrev RF:RG PyData V:=fun g S H H' x v=>∃a,v=.ref a/\H a=none/\Pl H' a/\Dat1 (fun _=>False) (fun b=>S b\/b=a) H' x (.ref a)
noncomputable abbrev RT:RG Bool Bool:=fun _ _ _ _ a b=>a=b
inductive All2{α β:Type}(R:α->β->Prop):List α->List β->Prop where
 | nil:All2 R [] []
 | cons {a b as bs}:R a b->All2 R as bs->All2 R (a::as) (b::bs)
theorem All2.imp{α β:Type}{R R':α->β->Prop}(h:∀a b,R a b->R' a b):∀{as:List α} {bs:List β},All2 R as bs->All2 R' as bs
 | _,_,.nil=>.nil
 | _,_,.cons r t=>.cons (h _ _ r) (All2.imp h t)
theorem All2.length{α β:Type}{R:α->β->Prop}:∀{as:List α} {bs:List β},All2 R as bs->as.length=bs.length
 | _,_,.nil=>rfl
 | _,_,.cons _ t=>congrArg (·+1) (All2.length t)
noncomputable abbrev RA:RG (List D) (List V):=fun g S _ H' ds vs=>All2 (Rep g S H') ds vs
noncomputable abbrev RAW:RG (List D) (List V):=fun g S _ H' ds vs=>All2 (Rep1 g S H') ds vs
section
variable{α β γ δ:Type}{K:W.Frag}{g:Gh}{ow:Ix->Option Addr}{ρ:Env'}{n n':Nat}{σ:St}{H H':Hp}{Er:Str->Hp->Prop}
theorem AftG.bind{R1:Hp->Hp->α->γ->Prop}{R2:Hp->Hp->β->δ->Prop}{m:Mx α}{f:α->Mx β}{Q:δ->Hp->Prop}{Z:γ->Hp->Prop}(h:AftG R2 g Er H ((m >>= f) n) Q)
  (k:∀a n' v H1,Kp g.T H H1->Twn g H1 n'->R1 H H1 a v->(∀{R3:Hp->Hp->β->δ->Prop},(∀H2 b u,R3 H1 H2 b u->R2 H H2 b u)->AftG R3 g Er H1 (f a n') Q)->Z v H1):AftG R1 g Er H (m n) Z:=by
 rw[Mx.bind_def]at h;cases e:m n with
 | ok a n'=>
  rw[e]at h;refine fun v H1 k1 t1 r1=>k a n' v H1 k1 t1 r1 fun{R3} hR=>?_;have h:AftG R2 g Er H (f a n') Q:=h;show AftG R3 g Er H1 (f a n') Q;generalize f a n'=r at h;cases r with
  | ok b n2=>exact fun v2 H2 k2 t2 r2=>h v2 H2 (k1.trans k2) t2 (hR _ _ _ r2)
  | err c n2=>exact h
  | bad=>exact h
 | err c n'=>rw[e]at h;exact h
 | bad=>rw[e]at h;exact h
theorem AftG.imp{R1 R2:Hp->Hp->α->γ->Prop}{r:Res α}{Q Q':γ->Hp->Prop}(h:AftG R1 g Er H r Q)(hR:∀H' a v,R2 H H' a v->R1 H H' a v)(hQ:∀v H',Q v H'->Q' v H'):AftG R2 g Er H r Q':=by
 cases r with
 | ok a n'=>exact fun v H' k t r=>hQ v H' (h v H' k t (hR _ _ _ r))
 | err c n'=>exact h
 | bad=>exact h
end
theorem PE.imp{X:Cx}{e:Expr}{t t':TE}(h:PE X e t)(k:∀σ H Q,t' σ H Q->t σ H Q):PE X e t':=fun pins s σ H Q I q=>h pins s σ H Q I (k σ H Q q)
theorem PT.imp{X:Cx}{e:Expr}{t t':TT}(h:PT X e t)(k:∀σ H Q,t' σ H Q->t σ H Q):PT X e t':=fun pins s σ H Q I q=>h pins s σ H Q I (k σ H Q q)
theorem PA.imp{X:Cx}{e:List Expr}{t t':TA}(h:PA X e t)(k:∀σ H Q,t' σ H Q->t σ H Q):PA X e t':=fun pos pins s σ H Q I q=>h pos pins s σ H Q I (k σ H Q q)
theorem PS.imp{X:Cx}{e:Stmt}{t t':TS}(h:PS X e t)(k:∀σ H Q,t' Q σ H->t Q σ H):PS X e t':=fun pins s σ H Q I q=>h pins s σ H Q I (k σ H Q q)
theorem PSs.imp{X:Cx}{e:List Stmt}{t t':TS}(h:PSs X e t)(k:∀σ H Q,t' Q σ H->t Q σ H):PSs X e t':=fun pins s σ H Q I q=>h pins s σ H Q I (k σ H Q q)
noncomputable abbrev DE(K:W.Frag)(Er:Str->Hp->Prop)(X:Cx)(e:Expr)(m:Env'->Mx D):Prop:=PE X e (rdG RE K Er m)
noncomputable abbrev DW(K:W.Frag)(Er:Str->Hp->Prop)(X:Cx)(e:Expr)(m:Env'->Mx D):Prop:=PE X e (rdG RW K Er m)
noncomputable abbrev DF(K:W.Frag)(Er:Str->Hp->Prop)(X:Cx)(e:Expr)(m:Env'->Mx PyData):Prop:=PE X e (rdG RF K Er m)
noncomputable abbrev DT(K:W.Frag)(Er:Str->Hp->Prop)(X:Cx)(e:Expr)(m:Env'->Mx Bool):Prop:=PT X e (rdG RT K Er m)
noncomputable abbrev DA(K:W.Frag)(Er:Str->Hp->Prop)(X:Cx)(es:List Expr)(m:Env'->Mx (List D)):Prop:=PA X es (rdG RA K Er m)
noncomputable abbrev DAW(K:W.Frag)(Er:Str->Hp->Prop)(X:Cx)(es:List Expr)(m:Env'->Mx (List D)):Prop:=PA X es (rdG RAW K Er m)
section
variable{K:W.Frag}{Er:Str->Hp->Prop}{X:Cx}{e a b:Expr}{m ma mb:Env'->Mx D}
theorem DE.w(h:DE K Er X e m):DW K Er X e m:=h.imp fun σ H Q ⟨g,ow,ρ,n,f,q⟩=>⟨g,ow,ρ,n,f,q.imp (fun _ _ _ r=>r.one fun _ z=>z.elim .inl fun z=>.inr (.inl z)) fun _ _ z=>z⟩
noncomputable def mP(m:Env'->Mx PyData):Env'->Mx D:=fun ρ=>m ρ >>= fun x=>pure (.p x)
theorem DF.de{mf:Env'->Mx PyData}(h:DF K Er X e mf):DE K Er X e (mP mf):=h.imp fun σ H Q ⟨g,ow,ρ,n,f,q⟩=>⟨g,ow,ρ,n,f,by
 refine AftG.bind q fun x n' v H1 k1 t1 r1 c=>?_;obtain⟨a,rfl,ha,_,d⟩:=r1;have hn:¬g.S ow a:=fun z=>f.dom a z ha;refine c (R3:=fun _ H2 b u=>Rep g (g.S ow) H2 b u) (fun _ _ _ z=>z) (.ref a) H1 (Kp.refl _ _) t1 ?_;show DatS _ _ x _;cases x<;>simp only[Dat1,DatS]at d |-
 case list=>obtain⟨b,xs,e,_,h1,h2⟩:=d;cases e;exact⟨a,xs,rfl,hn,h1,DatsS.kp (Kp.refl _ _) (fun _ z=>.inl (.inl z)) h2⟩
 case dict=>obtain⟨b,xs,e,_,h1,h2⟩:=d;cases e;exact⟨a,xs,rfl,hn,h1,DctS.kp (Kp.refl _ _) (fun _ z=>.inl (.inl z)) h2⟩
 case tuple=>obtain⟨b,xs,e,h1,h2⟩:=d;exact⟨b,xs,e,h1,DatsS.kp (Kp.refl _ _) (fun _ z=>.inl (.inl z)) h2⟩
 all_goals cases d⟩
end
end L2
namespace L2
open PySem PySem.Spec PyProof.Rows
theorem y4{n:Nat}(h:n<=1000000):n<=sizeLine:=by rw[sizeLine_eq];omega
theorem OpR.imp{X:Cx}{f:Value->Value->Sem Value}{r r':R2}(h:OpR X f r)(k:∀x y H Q,r' x y H Q->r x y H Q):OpR X f r':=fun pins s σ H x y v u Q I rx ry q=>h pins s σ H x y v u Q I rx ry (k x y H Q q)
theorem IxR.imp{X:Cx}{r r':R2}(h:IxR X r)(k:∀x y H Q,r' x y H Q->r x y H Q):IxR X r':=fun va sl pins s σ H x y v u Q I rx ry q=>h va sl pins s σ H x y v u Q I rx ry (k x y H Q q)
theorem CallR.imp{X:Cx}{f:Value}{r r':List V->Hp->VK->Prop}(h:CallR X f r)(k:∀xs H Q,r' xs H Q->r xs H Q):CallR X f r':=fun pins s σ H xs us Q I rx q=>h pins s σ H xs us Q I rx (k xs H Q q)
theorem SlR.imp{X:Cx}{r r':V->Option Int->Option Int->Hp->VK->Prop}(h:SlR X r)(k:∀x a b H Q,r' x a b H Q->r x a b H Q):SlR X r':=fun pins s σ H x v vl vu lo hi sl Q I rx hs pl pu q=>h pins s σ H x v vl vu lo hi sl Q I rx hs pl pu (k _ _ _ _ _ q)
theorem DatsS.length{S:Addr->Prop}{H:Hp}:∀{ds:List PyData} {xs:List V},DatsS S H ds xs->ds.length=xs.length
 | [],_,h=>by simp only[DatsS]at h;subst h;rfl
 | _::_,_,h=>by
  simp only[DatsS]at h;obtain⟨x,r,rfl,_,h2⟩:=h;simp[DatsS.length h2]
theorem DatsS.append{S:Addr->Prop}{H:Hp}:∀{ds es:List PyData} {xs ys:List V},DatsS S H ds xs->DatsS S H es ys->DatsS S H (ds++es) (xs++ys)
 | [],_,_,_,h,k=>by simp only[DatsS]at h;subst h;exact k
 | _::_,_,_,_,h,k=>by
  simp only[DatsS]at h;obtain⟨x,r,rfl,h1,h2⟩:=h;show DatsS S H (_::(_++_)) _;simp only[DatsS];exact⟨x,_,rfl,h1,DatsS.append h2 k⟩
theorem DatsS.get{S:Addr->Prop}{H:Hp}:∀{ds:List PyData} {xs:List V} {i:Nat} {d:PyData},DatsS S H ds xs->ds[i]?=some d->∃x,xs[i]?=some x/\DatS S H d x
 | [],_,_,_,_,e=>by simp at e
 | _::_,_,0,_,h,e=>by
  simp only[DatsS]at h;obtain⟨x,r,rfl,h1,h2⟩:=h;simp at e;subst e;exact⟨x,rfl,h1⟩
 | _::_,_,i+1,_,h,e=>by
  simp only[DatsS]at h;obtain⟨x,r,rfl,h1,h2⟩:=h;simpa using DatsS.get (i:=i) h2 (by simpa using e)
theorem DatsS.cons{S:Addr->Prop}{H:Hp}{d:PyData}{ds:List PyData}{x:V}{xs:List V}(h:DatS S H d x)(k:DatsS S H ds xs):DatsS S H (d::ds) (x::xs):=by
 simp only[DatsS];exact⟨x,xs,rfl,h,k⟩
theorem DatsS.nil{S:Addr->Prop}{H:Hp}:DatsS S H [] []:=by simp only[DatsS]
theorem DatsS.take{S:Addr->Prop}{H:Hp}:∀{ds:List PyData} {xs:List V} (n:Nat),DatsS S H ds xs->DatsS S H (ds.take n) (xs.take n)
 | _,_,0,_=>.nil
 | [],_,n+1,h=>by simp only[DatsS]at h;subst h;exact .nil
 | _::_,_,n+1,h=>by
  simp only[DatsS]at h;obtain⟨x,r,rfl,h1,h2⟩:=h;exact .cons h1 (DatsS.take n h2)
theorem DatsS.drop{S:Addr->Prop}{H:Hp}:∀{ds:List PyData} {xs:List V} (n:Nat),DatsS S H ds xs->DatsS S H (ds.drop n) (xs.drop n)
 | _,_,0,h=>h
 | [],_,n+1,h=>by simp only[DatsS]at h;subst h;exact .nil
 | _::_,_,n+1,h=>by
  simp only[DatsS]at h;obtain⟨x,r,rfl,h1,h2⟩:=h;exact DatsS.drop n h2
section
variable{K:W.Frag}{Er:Str->Hp->Prop}{X:Cx}{e a b c:Expr}{m ma mb mc:Env'->Mx D}{pos:Pos}
noncomputable def slW:Option (Option Sl)->Option D
 | some (some (Sl.val d))=>some d
 | some (some (Sl.own x))=>some (.p x)
 | _=>none
noncomputable def slV:Option (Option Sl)->Option D
 | some (some (Sl.val d))=>some d
 | _=>none
noncomputable def mVar(i:Nat):Env'->Mx D:=fun ρ=>Mx.opt (slW ρ[i]?)
noncomputable def mVal(i:Nat):Env'->Mx D:=fun ρ=>Mx.opt (slV ρ[i]?)
theorem z8{i:Nat}(h:PE X e (tVar i)):DW K Er X e (mVar i):=h.imp fun σ H Q ⟨g,ow,ρ,n,f,q⟩=>by
 unfold mVar at q;cases e:ρ[i]? with
 | none=>rw[e]at q;exact q.elim
 | some o=>
  cases o with
  | none=>rw[e]at q;exact q.elim
  | some sl=>
   rw[e]at q;cases sl with
   | val d=>
    obtain⟨v,e1,r⟩:=f.val _ _ e;exact⟨v,e1,q v H (Kp.refl _ _) f.twn (r.one fun _ z=>z.elim .inl fun z=>.inr (.inl z))⟩
   | own x=>
    obtain⟨a,_,e1,r⟩:=f.own _ _ e;exact⟨_,e1,q _ H (Kp.refl _ _) f.twn r⟩
   | deep kl=>exact q.elim
theorem zD{i:Nat}(h:PE X e (tVar i)):DE K Er X e (mVal i):=h.imp fun σ H Q ⟨g,ow,ρ,n,f,q⟩=>by
 unfold mVal at q;cases e:ρ[i]? with
 | none=>rw[e]at q;exact q.elim
 | some o=>
  cases o with
  | none=>rw[e]at q;exact q.elim
  | some sl=>
   rw[e]at q;cases sl with
   | val d=>
    obtain⟨v,e1,r⟩:=f.val _ _ e;exact⟨v,e1,q v H (Kp.refl _ _) f.twn r⟩
   | own x=>exact q.elim
   | deep kl=>exact q.elim
noncomputable def mC(x:PyData):Env'->Mx D:=fun _=>pure (.p x)
theorem de_c{v:V}{x:PyData}(h:PE X e (tC v))(hx:∀S H,DatS S H x v):DE K Er X e (mC x):=h.imp fun σ H Q ⟨g,ow,ρ,n,f,q⟩=>q v H (Kp.refl _ _) f.twn (hx _ _)
theorem zE{i j pos}:DE K Er X (.Constant (.int i) j pos) (mC (.int i)):=de_c xh fun _ _=>by simp only[DatS]
theorem uH{i j pos}:DE K Er X (.Constant (.bool i) j pos) (mC (.bool i)):=de_c zBb fun _ _=>by simp only[DatS]
theorem xW{j pos}:DE K Er X (.Constant .none j pos) (mC .none):=de_c z9z fun _ _=>by simp only[DatS]
theorem z2A{i:Int}(h:PE X e (tC (.int i))):DE K Er X e (mC (.int i)):=de_c h fun _ _=>by simp only[DatS]
noncomputable def onP{α:Type}(f:PyData->Option α):D->Option α
 | .p x=>f x
 | _=>none
noncomputable def onP2{α:Type}(f:PyData->PyData->Option α):D->D->Option α
 | .p x,.p y=>f x y
 | _,_=>none
noncomputable def onB:D->Option Bool
 | .p (.bool b)=>some b
 | _=>none
theorem zf{α:Type}{f:PyData->Option α}{d:D}{r:α}(h:onP f d=some r):∃x,d=.p x/\f x=some r:=by
 cases d with
 | p x=>exact⟨x,rfl,h⟩
 | _=>cases h
theorem zo{α:Type}{f:PyData->PyData->Option α}{d e:D}{r:α}(h:onP2 f d e=some r):∃x y,d=.p x/\e=.p y/\f x y=some r:=by
 cases d with
 | p x=>
  cases e with
  | p y=>exact⟨x,y,rfl,rfl,h⟩
  | _=>cases h
 | _=>cases h
theorem z3I{d:D}{b:Bool}(h:onB d=some b):d=.p (.bool b):=by
 cases d with
 | p x=>cases x<;>simp only[onB]at h<;>cases h;rfl
 | _=>cases h
noncomputable def mBin(f:PyData->PyData->Option PyData)(a b:Env'->Mx D):Env'->Mx D:=fun ρ=>a ρ >>= fun x=>b ρ >>= fun y=>Mx.opt ((onP2 f x y).map D.p)
theorem x8{α β γ:Type}{R:Hp->Hp->β->γ->Prop}{g:Gh}{H:Hp}{o:Option α}{k:α->Mx β}{n:Nat}{Q:γ->Hp->Prop}(h:AftG R g Er H ((Mx.opt o >>= k) n) Q):∃a,o=some a/\AftG R g Er H (k a n) Q:=by
 cases o with
 | none=>exact h.elim
 | some a=>exact⟨a,rfl,h⟩
theorem wv{α γ:Type}{R:Hp->Hp->α->γ->Prop}{g:Gh}{H:Hp}{o:Option α}{n:Nat}{Q:γ->Hp->Prop}(h:AftG R g Er H (Mx.opt o n) Q):∃a,o=some a/\∀v H',Kp g.T H H'->Twn g H' n->R H H' a v->Q v H':=by
 cases o with
 | none=>exact h.elim
 | some a=>exact⟨a,rfl,h⟩
noncomputable def rD2(f:PyData->PyData->Option PyData):R2:=fun x y H Q=>∃S d e r,(∀a,S a->H a≠none)/\Dat1 (fun _=>False) S H d x/\Dat1 (fun _=>False) S H e y/\f d e=some r/\∀v H',Same H H'->DatS S H' r v->Q v H'
theorem Same.kp{g:Gh}{H H':Hp}(s:Same H H'):Kp g.T H H':=fun b o h _=>s b o h
theorem Same.twn{g:Gh}{H H':Hp}{n:Nat}(s:Same H H')(t:Twn g H n):Twn g H' n:=fun a e=>s _ _ (t a e)
theorem Rep1.kp{g:Gh}{S:Addr->Prop}{H H':Hp}{d:D}{v:V}(k:Kp g.T H H')(hT:∀a,g.U a->S a)(h:Rep1 g S H d v):Rep1 g S H' d v:=by
 cases d with
 | p x=>exact Dat1.kp k (fun a z=>.inr z) hT h
 | scr=>exact h
 | town=>exact h
 | fn=>exact h
 | exc a C=>exact⟨h.1,h.2.1,k _ _ h.2.2 (.inl fun z=>h.2.1 (hT a (.inr z)))⟩
theorem Gh.ts{g:Gh}{ow:Ix->Option Addr}:∀a,g.T a->g.S ow a:=fun _ z=>.inr (.inl z)
theorem Gh.us{g:Gh}{ow:Ix->Option Addr}:∀a,g.U a->g.S ow a:=fun _ z=>z.elim .inl fun z=>.inr (.inl z)
theorem xz{g:Gh}{H H1:Hp}{n:Nat}(k:Kp g.T H H1)(t:Twn g H1 n){b:Addr}(h:H1 b=none):H b=none:=by
 cases z:H b with
 | none=>rfl
 | some o=>
  by_cases hT:g.aT=some b
  ·rw[t b hT]at h;cases h
  ·rw[k b o z (.inl hT)]at h;cases h
theorem wP:∀(g:Gh) (S:Addr->Prop) (H H1 H2:Hp) (a:PyData) (v:V) (n:Nat),Kp g.T H H1->Twn g H1 n->RF g S H1 H2 a v->RF g S H H2 a v:=fun g S H H1 H2 a v n k t ⟨b,e,hb,d⟩=>⟨b,e,xz k t hb,d⟩
theorem rd2{α β:Type}{R':RG α β}{f:D->D->Mx α}{σ:St}{H:Hp}{Q:β->Hp->Prop}{Z:V->V->Hp->Prop}
  (h:rdG R' K Er (fun ρ=>ma ρ >>= fun x=>mb ρ >>= fun y=>f x y) σ H Q)
  (hR':∀g S H H1 H2 a v n,Kp g.T H H1->Twn g H1 n->R' g S H1 H2 a v->R' g S H H2 a v)
  (k:∀g ow ρ n x y v u H2,Frm K g ow ρ n σ H2->Rep1 g (g.S ow) H2 x v->Rep1 g (g.S ow) H2 y u->AftG (R' g (g.S ow)) g Er H2 (f x y n) Q->Z v u H2) :
  rdG RW K Er ma σ H fun v H1=>rdG RW K Er mb σ H1 fun u H2=>Z v u H2:=by
 obtain⟨g,ow,ρ,n,fr,q⟩:=h;refine⟨g,ow,ρ,n,fr,?_⟩;refine AftG.bind q fun x n1 v H1 k1 t1 r1 c1=>?_;have fr1:=fr.kp k1 t1;refine⟨g,ow,ρ,n1,fr1,?_⟩;refine AftG.bind (c1 (R3:=R' g (g.S ow)) fun H2 b u r=>hR' _ _ _ _ _ _ _ _ k1 t1 r) fun y n2 u H2 k2 t2 r2 c2=>?_;exact k g ow ρ n2 x y v u H2 (fr1.kp k2 t2) (Rep1.kp k2 Gh.us r1) r2 (c2 (R3:=R' g (g.S ow)) fun H3 b u r=>hR' _ _ _ _ _ _ _ _ k2 t2 r)
theorem rd1{α β γ δ:Type}{R:RG γ δ}{R':RG α β}{m:Env'->Mx γ}{f:Env'->γ->Mx α}{σ:St}{H:Hp}{Q:β->Hp->Prop}{Z:δ->Hp->Prop}
  (h:rdG R' K Er (fun ρ=>m ρ >>= f ρ) σ H Q)
  (hR':∀g S H H1 H2 a v n,Kp g.T H H1->Twn g H1 n->R' g S H1 H2 a v->R' g S H H2 a v)
  (k:∀g ow ρ n x v H0 H2,Frm K g ow ρ n σ H2->Kp g.T H0 H2->R g (g.S ow) H0 H2 x v->AftG (R' g (g.S ow)) g Er H2 (f ρ x n) Q->Z v H2) :
  rdG R K Er m σ H Z:=by
 obtain⟨g,ow,ρ,n,fr,q⟩:=h;refine⟨g,ow,ρ,n,fr,?_⟩;refine AftG.bind q fun x n1 v H1 k1 t1 r1 c1=>?_;exact k g ow ρ n1 x v H H1 (fr.kp k1 t1) k1 r1 (c1 (R3:=R' g (g.S ow)) fun H2 b u r=>hR' _ _ _ _ _ _ _ _ k1 t1 r)
theorem yk{g:Gh}{S:Addr->Prop}{H:Hp}{o:Option PyData}{n:Nat}{Q:VK}(t:Twn g H n)(h:AftG (RE g S) g Er H (Mx.opt (o.map D.p) n) Q):∃r,o=some r/\∀v H',Same H H'->DatS S H' r v->Q v H':=by
 cases o with
 | none=>exact h.elim
 | some r=>exact⟨r,rfl,fun v H' s d=>h v H' s.kp (s.twn t) d⟩
theorem zN{op:Operator}{f:PyData->PyData->Option PyData}(ho:OpR X (binaryOp op) (rD2 f))(ha:DW K Er X a ma)(hb:DW K Er X b mb):DE K Er X (.BinOp a op b pos) (mBin f ma mb):=
 (z58 ho ha hb).imp fun σ H Q h=>rd2 (Z:=fun v u H2=>rD2 f v u H2 Q) h (fun _ _ _ _ _ _ _ _ _ _ r=>r) fun g ow ρ n x y v u H2 fr r1 r2 q=>by
  obtain⟨r,e,q2⟩:=yk fr.twn q;obtain⟨x,y,rfl,rfl,e⟩:=zo e;exact⟨g.S ow,x,y,r,fr.dom,Dat1.weak r1,Dat1.weak r2,e,q2⟩
theorem yj{op:CmpOp}{f:PyData->PyData->Option PyData}(ho:OpR X (compareOp op) (rD2 f))(ha:DW K Er X a ma)(hb:DW K Er X b mb)(hm:behindInMarks op b=false):DE K Er X (.Compare a [op] [b] pos) (mBin f ma mb):=
 (z8T ho ha hb hm).imp fun σ H Q h=>rd2 (Z:=fun v u H2=>rD2 f v u H2 Q) h (fun _ _ _ _ _ _ _ _ _ _ r=>r) fun g ow ρ n x y v u H2 fr r1 r2 q=>by
  obtain⟨r,e,q2⟩:=yk fr.twn q;obtain⟨x,y,rfl,rfl,e⟩:=zo e;exact⟨g.S ow,x,y,r,fr.dom,Dat1.weak r1,Dat1.weak r2,e,q2⟩
end
theorem Same.new{H:Hp}{p:Addr}{o:HO}(h:H p=none):Same H (upd H p o):=fun b x e=>by rw[zB (zM e h)];exact e
theorem DatsS.same{S:Addr->Prop}{H H':Hp}(s:Same H H'){ds:List PyData}{xs:List V}(h:DatsS S H ds xs):DatsS S H' ds xs:=DatsS.kp (Kp.of s) (fun _ z=>.inl z) h
theorem xi{S:Addr->Prop}{H:Hp}{p:Addr}{ds:List PyData}{xs:List V}(h:H p=some (.tup xs))(k:DatsS S H ds xs):DatS S H (.tuple ds) (.ref p):=by
 simp only[DatS];exact⟨p,xs,rfl,h,k⟩
theorem z28{S:Addr->Prop}{H:Hp}{p:Addr}{ds:List PyData}{xs:List V}(hp:¬S p)(h:H p=some (.lst xs))(k:DatsS S H ds xs):DatS S H (.list ds) (.ref p):=by
 simp only[DatS];exact⟨p,xs,rfl,hp,h,k⟩
theorem z3E{S:Addr->Prop}{H:Hp}{p:Addr}{ds:List PyData}{xs:List V}(h:H p=none)(k:DatsS S H ds xs):DatS S (upd H p (.tup xs)) (.tuple ds) (.ref p):=xi z7 (k.same (Same.new h))
theorem wJ{S:Addr->Prop}{H:Hp}{p:Addr}{ds:List PyData}{xs:List V}(hS:∀a,S a->H a≠none)(h:H p=none)(k:DatsS S H ds xs):DatS S (upd H p (.lst xs)) (.list ds) (.ref p):=
 z28 (fun z=>hS p z h) z7 (k.same (Same.new h))
noncomputable abbrev N0:Addr->Prop:=fun _=>False
theorem za{T S:Addr->Prop}{H:Hp}{i:Int}{x:V}(h:Dat1 T S H (.int i) x):x=.int i:=by simpa only[Dat1,DatS]using h
theorem z1j{T S:Addr->Prop}{H:Hp}{i:Str}{x:V}(h:Dat1 T S H (.str i) x):x=.str i:=by simpa only[Dat1,DatS]using h
theorem z7T{T S:Addr->Prop}{H:Hp}{i:Bool}{x:V}(h:Dat1 T S H (.bool i) x):x=.bl i:=by simpa only[Dat1,DatS]using h
theorem z4P{T S:Addr->Prop}{H:Hp}{x:V}(h:Dat1 T S H .none x):x=.non:=by simpa only[Dat1,DatS]using h
theorem yF{T S:Addr->Prop}{H:Hp}{ds:List PyData}{x:V}(h:Dat1 T S H (.tuple ds) x):∃a xs,x=.ref a/\H a=some (.tup xs)/\DatsS S H ds xs:=by simpa only[Dat1,DatS]using h
theorem yD{T S:Addr->Prop}{H:Hp}{ds:List PyData}{x:V}(h:Dat1 T S H (.list ds) x):∃a xs,x=.ref a/\H a=some (.lst xs)/\DatsS S H ds xs:=by
 simp only[Dat1]at h;obtain⟨a,xs,e,_,h1,h2⟩:=h;exact⟨a,xs,e,h1,h2⟩
theorem ul{T S:Addr->Prop}{H:Hp}{ds:List (PyData×PyData)}{x:V}(h:Dat1 T S H (.dict ds) x):∃a ks,x=.ref a/\DctAt H a ks/\DctS S H ds ks:=by
 simp only[Dat1]at h;obtain⟨a,xs,e,_,h1,h2⟩:=h;exact⟨a,xs,e,h1,h2⟩
theorem di{S:Addr->Prop}{H:Hp}{i:Int}:DatS S H (.int i) (.int i):=by simp only[DatS]
theorem db{S:Addr->Prop}{H:Hp}{i:Bool}:DatS S H (.bool i) (.bl i):=by simp only[DatS]
theorem rb{g:Gh}{S:Addr->Prop}{H:Hp}{i:Bool}:Rep g S H (.p (.bool i)) (.bl i):=(db:DatS S H (.bool i) (.bl i))
theorem dn{S:Addr->Prop}{H:Hp}:DatS S H .none .non:=by simp only[DatS]
theorem dstr{S:Addr->Prop}{H:Hp}{i:Str}:DatS S H (.str i) (.str i):=by simp only[DatS]
noncomputable def lim:Nat:=1000000
noncomputable def fAdd:PyData->PyData->Option PyData
 | .int i,.int j=>some (.int (i+j))
 | .tuple xs,.tuple ys=>if xs.length+ys.length<=lim then some (.tuple (xs++ys))else none
 | .list xs,.list ys=>if xs.length+ys.length<=lim then some (.list (xs++ys))else none
 | .str x,.str y=>if x.length+y.length<=lim then some (.str (x++y))else none
 | _,_=>none
noncomputable def fSub:PyData->PyData->Option PyData
 | .int i,.int j=>some (.int (i - j))
 | _,_=>none
noncomputable def fMod:PyData->PyData->Option PyData
 | .int i,.int j=>if 0<j then some (.int (i % j))else none
 | _,_=>none
noncomputable def z64:PyData->PyData->Option PyData
 | .int i,.int j=>if 0<j/\j<1073741824 then some (.int (i / j))else none
 | _,_=>none
noncomputable def fMul:PyData->PyData->Option PyData
 | .int i,.int j=>if (-(2 ^ 64)<i/\i<2 ^ 64)\/(-(2 ^ 64)<j/\j<2 ^ 64)then some (.int (i*j))else none
 | .tuple xs,.int k=>if 0<k/\k<1000000/\xs.length*k.toNat<=lim then some (.tuple (List.replicate k.toNat xs).flatten)else none
 | .list xs,.int k=>if 0<=k/\k<1000000/\xs.length*k.toNat<=lim then some (.list (List.replicate k.toNat xs).flatten)else none
 | _,_=>none
theorem DatsS.rep{S:Addr->Prop}{H:Hp}{ds:List PyData}{xs:List V}(h:DatsS S H ds xs):∀k,DatsS S H (List.replicate k ds).flatten (List.replicate k xs).flatten
 | 0=>.nil
 | k+1=>by
  rw[List.replicate_succ,List.replicate_succ,List.flatten_cons,List.flatten_cons];exact h.append (DatsS.rep h k)
section
variable{X:Cx}
theorem zm:OpR X (binaryOp .Add) (rD2 fAdd):=(op_add.or (op_catTT.or (op_cat.or z3O))).imp fun x y H Q ⟨S,d,e,r,hS,h1,h2,hf,q⟩=>by
 cases d<;>cases e<;>simp only[fAdd]at hf<;>try (cases hf;done)
 ·cases hf;exact .inl ⟨_,_,za h1,za h2,q _ _ (Same.refl _) di⟩
 ·split at hf
  next hl=>
   cases hf;exact .inr (.inr (.inr ⟨_,_,z1j h1,z1j h2,y4 hl,q _ _ (Same.refl _) dstr⟩))
  next=>cases hf
 ·split at hf
  next hl=>
   cases hf;obtain⟨a,xs,e1,g1,k1⟩:=yD h1;obtain⟨b,ys,e2,g2,k2⟩:=yD h2;exact .inr (.inr (.inl ⟨a,b,xs,ys,e1,e2,g1,g2,y4 (by rw[<-k1.length,<-k2.length];exact hl),fun p hp=>q _ _ (Same.new hp) (wJ hS hp (k1.append k2))⟩))
  next=>cases hf
 ·split at hf
  next hl=>
   cases hf;obtain⟨a,xs,e1,g1,k1⟩:=yF h1;obtain⟨b,ys,e2,g2,k2⟩:=yF h2;exact .inr (.inl ⟨a,b,xs,ys,e1,e2,g1,g2,y4 (by rw[<-k1.length,<-k2.length];exact hl),fun p H' s hp=>q _ _ s (xi hp ((k1.append k2).same s))⟩)
  next=>cases hf
theorem yR:OpR X (binaryOp .Sub) (rD2 fSub):=op_sub.imp fun x y H Q ⟨S,d,e,r,hS,h1,h2,hf,q⟩=>by
 cases d<;>cases e<;>simp only[fSub]at hf<;>try (cases hf;done)
 cases hf;exact⟨_,_,za h1,za h2,q _ _ (Same.refl _) di⟩
theorem xV:OpR X (binaryOp .Mod) (rD2 fMod):=op_mod.imp fun x y H Q ⟨S,d,e,r,hS,h1,h2,hf,q⟩=>by
 cases d<;>cases e<;>simp only[fMod]at hf<;>try (cases hf;done)
 split at hf
 next hl=>cases hf;exact⟨_,_,za h1,za h2,hl,q _ _ (Same.refl _) di⟩
 next=>cases hf
theorem z6U:OpR X (binaryOp .FloorDiv) (rD2 z64):=op_fdiv.imp fun x y H Q ⟨S,d,e,r,hS,h1,h2,hf,q⟩=>by
 cases d<;>cases e<;>simp only[z64]at hf<;>try (cases hf;done)
 split at hf
 next hl=>cases hf;exact⟨_,_,za h1,za h2,hl,q _ _ (Same.refl _) di⟩
 next=>cases hf
theorem wR:OpR X (binaryOp .Mult) (rD2 fMul):=(op_mul.or (op_repTT.or z7h)).imp fun x y H Q ⟨S,d,e,r,hS,h1,h2,hf,q⟩=>by
 cases d<;>cases e<;>simp only[fMul]at hf<;>try (cases hf;done)
 ·split at hf
  next hl=>cases hf;exact .inl ⟨_,_,za h1,za h2,hl,q _ _ (Same.refl _) di⟩
  next=>cases hf
 ·split at hf
  next hl=>
   cases hf;obtain⟨a,xs,e1,g1,k1⟩:=yD h1;exact .inr (.inr ⟨a,_,xs,e1,za h2,g1,by omega,by omega,y4 (by rw[<-k1.length];exact hl.2.2),fun p hp=>q _ _ (Same.new hp) (wJ hS hp (k1.rep _))⟩)
  next=>cases hf
 ·split at hf
  next hl=>
   cases hf;obtain⟨a,xs,e1,g1,k1⟩:=yF h1;exact .inr (.inl ⟨a,_,xs,e1,za h2,g1,hl.1,hl.2.1,y4 (by rw[<-k1.length];exact hl.2.2),fun p H' s hp=>q _ _ s (xi hp ((k1.rep _).same s))⟩)
  next=>cases hf
noncomputable def yZ:List PyData->Option (List Int)
 | []=>some []
 | .int i::r=>(yZ r).map (i::·)
 | _=>none
theorem yL:∀{ds:List PyData} {ns:List Int},yZ ds=some ns->ds=ns.map PyData.int
 | [],ns,h=>by simp only[yZ]at h;cases h;rfl
 | d::r,ns,h=>by
  cases d<;>simp only[yZ]at h<;>try (cases h;done)
  cases e:yZ r with
  | none=>rw[e]at h;cases h
  | some ms=>rw[e]at h;cases h;rw[List.map_cons,yL e]
theorem DatsS.ints{S:Addr->Prop}{H:Hp}:∀{ns:List Int} {xs:List V},DatsS S H (ns.map PyData.int) xs->xs=ns.map V.int
 | [],xs,h=>by simpa only[List.map_nil,DatsS]using h
 | n::ns,xs,h=>by
  simp only[List.map_cons,DatsS]at h;obtain⟨x,r,rfl,h1,h2⟩:=h;simp only[DatS]at h1;subst h1;rw[List.map_cons,DatsS.ints h2]
theorem uW{S:Addr->Prop}{H:Hp}:∀(ns:List Int),DatsS S H (ns.map PyData.int) (ns.map V.int)
 | []=>.nil
 | _::ns=>.cons di (uW ns)
noncomputable def fLt:PyData->PyData->Option PyData
 | .int i,.int j=>some (.bool (decide (i<j)))
 | .tuple xs,.tuple ys=>match yZ xs,yZ ys with
  | some ns,some ms=>some (.bool (HT.lexLt ns ms))
  | _,_=>none
 | _,_=>none
noncomputable def fCmp(p:Int->Int->Bool):PyData->PyData->Option PyData
 | .int i,.int j=>some (.bool (p i j))
 | _,_=>none
theorem zB8(hu:X.A.units<cLine):OpR X (compareOp .Lt) (rD2 fLt):=(op_lt.or (zBD hu)).imp fun x y H Q ⟨S,d,e,r,hS,h1,h2,hf,q⟩=>by
 cases d<;>cases e<;>simp only[fLt]at hf<;>try (cases hf;done)
 ·cases hf;exact .inl ⟨_,_,za h1,za h2,q _ _ (Same.refl _) db⟩
 ·split at hf
  next ns ms e1 e2=>
   cases hf;obtain⟨a,xs,f1,g1,k1⟩:=yF h1;obtain⟨b,ys,f2,g2,k2⟩:=yF h2;rw[yL e1]at k1;rw[yL e2]at k2;rw[k1.ints]at g1;rw[k2.ints]at g2;exact .inr ⟨a,b,ns,ms,f1,f2,SqT.of g1,SqT.of g2,q _ _ (Same.refl _) db⟩
  next=>cases hf
theorem wM{f:Value->Value->Sem Value}{p:Int->Int->Bool}(h:OpR X f (rI0 fun i j=>.bl (p i j))):OpR X f (rD2 (fCmp p)):=h.imp fun x y H Q ⟨S,d,e,r,hS,h1,h2,hf,q⟩=>by
 cases d<;>cases e<;>simp only[fCmp]at hf<;>try (cases hf;done)
 cases hf;exact⟨_,_,za h1,za h2,q _ _ (Same.refl _) db⟩
mutual
theorem DatS.datV{S:Addr->Prop}{H:Hp}:∀{d:PyData} {v:V},d.canLay0=true->DatS S H d v->DatV H d v
 | .none,_,_,h=>by simp only[DatS,DatV]at h |-;exact h
 | .bool _,_,_,h=>by simp only[DatS,DatV]at h |-;exact h
 | .int _,_,_,h=>by simp only[DatS,DatV]at h |-;exact h
 | .str _,_,_,h=>by simp only[DatS,DatV]at h |-;exact h
 | .list ds,_,c,h=>by
  simp only[DatS,DatV]at h |-;obtain⟨a,xs,e,_,h1,h2⟩:=h;exact⟨a,xs,e,h1,DatsS.datV (by simpa only[PyData.canLay0]using c) h2⟩
 | .tuple ds,_,c,h=>by
  simp only[DatS,DatV]at h |-;obtain⟨a,xs,e,h1,h2⟩:=h;exact⟨a,xs,e,h1,DatsS.datV (by simpa only[PyData.canLay0]using c) h2⟩
 | .dict _,_,c,_=>by simp[PyData.canLay0]at c
theorem DatsS.datV{S:Addr->Prop}{H:Hp}:∀{ds:List PyData} {xs:List V},PyData.canLayAll0 ds=true->DatsS S H ds xs->DatAll H ds xs
 | [],_,_,h=>by simp only[DatsS,DatAll]at h |-;exact h
 | _::_,_,c,h=>by
  simp only[DatsS,DatAll]at h |-;obtain⟨x,r,e,h1,h2⟩:=h;simp only[PyData.canLayAll0,Bool.and_eq_true]at c;exact⟨x,r,e,DatS.datV c.1 h1,DatsS.datV c.2 h2⟩
end
theorem Dat1.datV{T S:Addr->Prop}{H:Hp}{d:PyData}{v:V}(c:d.canLay0=true)(h:Dat1 T S H d v):DatV H d v:=by
 cases d<;>simp only[Dat1]at h
 case list ds=>
  obtain⟨a,xs,e,_,h1,h2⟩:=h;simp only[DatV];exact⟨a,xs,e,h1,DatsS.datV (by simpa only[PyData.canLay0]using c) h2⟩
 case dict=>simp[PyData.canLay0]at c
 all_goals exact DatS.datV c h
noncomputable def fEq(neg:Bool)(d e:PyData):Option PyData:=if d.canLay0=true/\e.canLay0=true/\min d.depth e.depth<=60 then some (.bool (if neg then !PyData.eqv d e else PyData.eqv d e))else none
theorem w9(hu:X.A.units+64<cLine):OpR X (compareOp .Eq) (rD2 (fEq false)):=(zAu hu).imp fun x y H Q ⟨S,d,e,r,hS,h1,h2,hf,q⟩=>by
 unfold fEq at hf;split at hf
 next c=>cases hf;exact⟨d,e,h1.datV c.1,h2.datV c.2.1,c.1,c.2.1,c.2.2,q _ _ (Same.refl _) db⟩
 next=>cases hf
theorem xP(hu:X.A.units+64<cLine):OpR X (compareOp .NotEq) (rD2 (fEq true)):=(z9w hu).imp fun x y H Q ⟨S,d,e,r,hS,h1,h2,hf,q⟩=>by
 unfold fEq at hf;split at hf
 next c=>cases hf;exact⟨d,e,h1.datV c.1,h2.datV c.2.1,c.1,c.2.1,c.2.2,q _ _ (Same.refl _) db⟩
 next=>cases hf
end
end L2
namespace L2
open PySem PySem.Spec PyProof.Rows
noncomputable def keyD:PyData->Option Key
 | .int i=>some (.inl i)
 | .str s=>some (.inr s)
 | _=>none
noncomputable def z1K:List PyData->Option (List Key)
 | []=>some []
 | d::r=>match keyD d,z1K r with
  | some k,some l=>some (k::l)
  | _,_=>none
theorem z97{d:PyData}{k:Key}(h:keyD d=some k):d=kD k:=by
 cases d<;>simp only[keyD]at h<;>cases h<;>rfl
theorem xY:∀{ds:List PyData} {ks:List Key},z1K ds=some ks->ds=ks.map kD
 | [],ks,h=>by simp only[z1K]at h;cases h;rfl
 | d::r,ks,h=>by
  simp only[z1K]at h;split at h
  next k l e1 e2=>cases h;rw[List.map_cons,z97 e1,xY e2]
  next=>cases h
theorem u5{S:Addr->Prop}{H:Hp}{k:Key}{v:V}(h:DatS S H (kD k) v):v=kV k:=by
 cases k<;>(simp only[kD,DatS]at h;exact h)
theorem wX{S:Addr->Prop}{H:Hp}:∀{ks:List Key} {xs:List V},DatsS S H (ks.map kD) xs->xs=ks.map kV
 | [],xs,h=>by simpa only[List.map_nil,DatsS]using h
 | n::ns,xs,h=>by
  simp only[List.map_cons,DatsS]at h;obtain⟨x,r,rfl,h1,h2⟩:=h;rw[List.map_cons,u5 h1,wX h2]
theorem z1c(a b:Key):PyData.eqv (kD a) (kD b)=decide (a=b):=by
 cases a<;>cases b<;>simp[kD,PyData.eqv]
 all_goals (rw[Bool.eq_iff_iff];simp)
theorem z5L:∀(a b:List Key),PyData.eqvAll (a.map kD) (b.map kD)=decide (a=b)
 | [],[]=>by simp[PyData.eqvAll]
 | [],_::_=>by simp[PyData.eqvAll]
 | _::_,[]=>by simp[PyData.eqvAll]
 | a::r,b::s=>by
  simp only[List.map_cons,PyData.eqvAll,z1c,z5L r s];rw[Bool.eq_iff_iff];simp
theorem z2Z(a b:List Key):PyData.eqv (kT a) (kT b)=decide (a=b):=by
 simp only[kT,PyData.eqv];exact z5L a b
noncomputable def yC:PyData->Bool
 | .tuple _=>true
 | _=>false
noncomputable def yQ(kvs:List (PyData×PyData)):PyData->Bool
 | .tuple ds=>(z1K ds).isSome && kvs.all (fun kv=>yC kv.1) && !kvs.isEmpty
 | x=>(keyD x).isSome && kvs.all (fun kv=>!yC kv.1) && !kvs.isEmpty
noncomputable def xH(kvs:List (PyData×PyData))(x:PyData):Option PyData:=(kvs.find? fun kv=>PyData.eqv kv.1 x).map (·.2)
theorem DctS.find{S:Addr->Prop}{H:Hp}{x:PyData}{κ:Type}[DecidableEq κ]{j:κ->PyData}(hj:∀a b,PyData.eqv (j a) (j b)=decide (a=b)){k:κ}(hx:x=j k):
  ∀{kvs:List (PyData×PyData)} {l:List (κ×V)},DctS S H kvs (l.map fun kv=>(j kv.1,kv.2))->(∃d v,xH kvs x=some d/\valV l k=some v/\DatS S H d v)\/(xH kvs x=none/\valV l k=none)
 | [],[],_=>.inr ⟨rfl,rfl⟩
 | [],_::_,h=>by simp[DctS]at h
 | (c,d)::r,[],h=>by simp[DctS]at h
 | (c,d)::r,(q,v)::s,h=>by
  simp only[DctS,List.map_cons]at h;obtain⟨y,t,e,h1,h2⟩:=h;cases e;by_cases e:q=k
  ·refine .inl ⟨d,v,?_,xy e,h1⟩;unfold xH;rw[List.find?_cons,show PyData.eqv (j q) x=true by rw[hx,hj];exact decide_eq_true e];rfl
  ·have ih:=DctS.find hj hx h2;have e1:xH ((j q,d)::r) x=xH r x:=by
    unfold xH;rw[List.find?_cons,show PyData.eqv (j q) x=false by rw[hx,hj];exact decide_eq_false e]
   rw[e1,xX (p:=(q,v)) e];exact ih
theorem DGet.kR{H:Hp}{a:Addr}{kvs:List (Key×V)}{k:Key}(e:Rd H a (.dK kvs)):DGet H a (kV k) (valV kvs k):=.inl ⟨kvs,k,e,rfl,rfl⟩
theorem DGet.tR{H:Hp}{a b:Addr}{kvs:List (List Key×V)}{k:List Key}(e:Rd H a (.dT kvs))(eb:H b=some (.tup (k.map kV))):DGet H a (.ref b) (valV kvs k):=.inr ⟨kvs,k,b,e,rfl,eb,rfl⟩
theorem z4X{S:Addr->Prop}{H:Hp}{a:Addr}{ks:List (PyData×V)}{kvs:List (PyData×PyData)}{x:PyData}{y:V}(h1:DctAt H a ks)(h2:DctS S H kvs ks)(hx:DatS S H x y)(ok:yQ kvs x=true):
  (∃d v,xH kvs x=some d/\DGet H a y (some v)/\DatS S H d v)\/(xH kvs x=none/\DGet H a y none):=by
 have tk:∀{P:PyData->Bool} (hP:kvs.all (fun kv=>P kv.1)=true) (hn:kvs.isEmpty=false) {κ:Type} {j:κ->PyData} {l:List (κ×V)},ks=l.map (fun kv=>(j kv.1,kv.2))->∃c,P (j c)=true:=fun{P} hP hn {κ j l} e=>by
  subst e;cases kvs with
  | nil=>cases hn
  | cons p r=>
   cases l with
   | nil=>obtain⟨_,_⟩:=p;simp[DctS]at h2
   | cons q s=>
    obtain⟨p1,p2⟩:=p;simp only[DctS,List.map_cons]at h2;obtain⟨_,_,e,_⟩:=h2;cases e;rw[List.all_cons,Bool.and_eq_true]at hP;exact⟨q.1,hP.1⟩
 have plain:∀k:Key,x=kD k->kvs.all (fun kv=>!yC kv.1)=true->kvs.isEmpty=false->(∃d v,xH kvs x=some d/\DGet H a y (some v)/\DatS S H d v)\/(xH kvs x=none/\DGet H a y none):=fun k e hA hn=>by
  have ey:y=kV k:=by rw[e]at hx;exact u5 hx
  rcases h1 with ⟨l,g,rfl⟩ | ⟨l,g,e2⟩
  ·rcases DctS.find (κ:=Key) (j:=kD) z1c e h2 with ⟨d,v,f1,f2,f3⟩ | ⟨f1,f2⟩
   ·exact .inl ⟨d,v,f1,by rw[ey,<-f2];exact DGet.kR g,f3⟩
   ·exact .inr ⟨f1,by rw[ey,<-f2];exact DGet.kR g⟩
  ·obtain⟨c,hc⟩:=tk (P:=fun d=>!yC d) hA hn e2;simp[kT,yC]at hc
 cases x with
 | tuple ds=>
  simp only[yQ,Bool.and_eq_true,Bool.not_eq_true']at ok;obtain⟨⟨o1,o2⟩,o3⟩:=ok;obtain⟨k,ek⟩:=Option.isSome_iff_exists.mp o1;have ed:=xY ek;simp only[DatS]at hx;obtain⟨b,xs,rfl,hb,hxs⟩:=hx;rw[ed]at hxs;rw[wX hxs]at hb;rcases h1 with ⟨l,g,e2⟩ | ⟨l,g,rfl⟩
  ·obtain⟨c,hc⟩:=tk (P:=yC) o2 o3 e2;cases c<;>simp[kD,yC]at hc
  ·rcases DctS.find (κ:=List Key) (j:=kT) z2Z (k:=k) (x:=.tuple ds) (by rw[ed];rfl) h2 with ⟨d,v,f1,f2,f3⟩ | ⟨f1,f2⟩
   ·exact .inl ⟨d,v,f1,by rw[<-f2];exact DGet.tR g hb,f3⟩
   ·exact .inr ⟨f1,by rw[<-f2];exact DGet.tR g hb⟩
 | int i=>
  simp only[yQ,Bool.and_eq_true,Bool.not_eq_true']at ok;exact plain (.inl i) rfl ok.1.2 ok.2
 | str i=>
  simp only[yQ,Bool.and_eq_true,Bool.not_eq_true']at ok;exact plain (.inr i) rfl ok.1.2 ok.2
 | none=>simp[yQ,keyD]at ok
 | bool _=>simp[yQ,keyD]at ok
 | list _=>simp[yQ,keyD]at ok
 | dict _=>simp[yQ,keyD]at ok
theorem Dat1.key{T S:Addr->Prop}{H:Hp}{kvs:List (PyData×PyData)}{x:PyData}{y:V}(h:Dat1 T S H x y)(ok:yQ kvs x=true):DatS S H x y:=by
 cases x<;>simp only[Dat1]at h<;>first | exact h | simp[yQ,keyD]at ok
noncomputable def fIn(neg:Bool):PyData->PyData->Option PyData
 | x,.list ds=>if x.canLay0=true/\PyData.canLayAll0 ds=true/\x.depth<=60 then some (.bool (if neg then !(ds.any fun y=>PyData.eqv y x)else ds.any fun y=>PyData.eqv y x))else none
 | x,.tuple ds=>if x.canLay0=true/\PyData.canLayAll0 ds=true/\x.depth<=60 then some (.bool (if neg then !(ds.any fun y=>PyData.eqv y x)else ds.any fun y=>PyData.eqv y x))else none
 | x,.dict kvs=>if yQ kvs x=true then some (.bool (if neg then !(xH kvs x).isSome else(xH kvs x).isSome))else none
 | _,_=>none
section
variable{X:Cx}
theorem z4F(hu:X.A.units+1<cLine):OpR X (compareOp .In) (fun y x H Q=>∃a o,x=.ref a/\DGet H a y o/\Q (.bl o.isSome) H):=by
 intro pins s σ H y x v u Q I ry rx h;obtain⟨a,o,rfl,g,q⟩:=h;obtain rfl:u=Value.ref a:=rx;exact d_in hu I g ry fun s3 I3=>⟨.bl o.isSome,H,I3,rfl,q⟩
theorem z1b(hu:X.A.units+1<cLine):OpR X (compareOp .NotIn) (fun y x H Q=>∃a o,x=.ref a/\DGet H a y o/\Q (.bl (!o.isSome)) H):=by
 intro pins s σ H y x v u Q I ry rx h;obtain⟨a,o,rfl,g,q⟩:=h;obtain rfl:u=Value.ref a:=rx;exact z9C hu I g ry fun s3 I3=>⟨.bl (!o.isSome),H,I3,rfl,q⟩
theorem z5D{neg:Bool}{x y:V}{H:Hp}{Q:VK}(h:rD2 (fIn neg) x y H Q):rInD neg x y H Q\/∃a o,y=.ref a/\DGet H a x o/\Q (.bl (if neg then !o.isSome else o.isSome)) H:=by
 obtain⟨S,d,e,r,hS,h1,h2,hf,q⟩:=h;cases e<;>simp only[fIn]at hf<;>try (cases hf;done)
 ·split at hf
  next c=>
   cases hf;obtain⟨a,xs,e1,g1,k1⟩:=yD h2;exact .inl ⟨d,_,h1.datV c.1,.inl (by simp only[DatV];exact⟨a,xs,e1,g1,k1.datV c.2.1⟩),c.1,c.2.1,c.2.2,q _ _ (Same.refl _) db⟩
  next=>cases hf
 ·split at hf
  next c=>
   cases hf;obtain⟨a,xs,e1,g1,k1⟩:=yF h2;exact .inl ⟨d,_,h1.datV c.1,.inr (by simp only[DatV];exact⟨a,xs,e1,g1,k1.datV c.2.1⟩),c.1,c.2.1,c.2.2,q _ _ (Same.refl _) db⟩
  next=>cases hf
 ·split at hf
  next c=>
   cases hf;obtain⟨a,ks,e1,g1,k1⟩:=ul h2;rcases z4X g1 k1 (h1.key c) c with ⟨d',v,f1,f2,f3⟩ | ⟨f1,f2⟩
   ·rw[f1]at q;exact .inr ⟨a,_,e1,f2,q _ _ (Same.refl _) db⟩
   ·rw[f1]at q;exact .inr ⟨a,_,e1,f2,q _ _ (Same.refl _) db⟩
  next=>cases hf
theorem z2u(hu:X.A.units+64<cLine):OpR X (compareOp .In) (rD2 (fIn false)):=((zAq hu).or (z4F (by omega))).imp fun x y H Q h=>z5D h
theorem uN(hu:X.A.units+64<cLine):OpR X (compareOp .NotIn) (rD2 (fIn true)):=((z62 hu).or (z1b (by omega))).imp fun x y H Q h=>z5D h
noncomputable def fIs(neg:Bool):PyData->PyData->Option PyData
 | .none,.none=>some (.bool (!neg))
 | _,.none=>some (.bool neg)
 | _,_=>none
theorem zBM{T S:Addr->Prop}{H:Hp}{d:PyData}{x:V}(h:Dat1 T S H d x):(d=.none/\x=.non)\/(d≠.none/\x≠.non):=by
 cases d<;>simp only[Dat1,DatS]at h
 case none=>exact .inl ⟨rfl,h⟩
 all_goals refine .inr ⟨(by intro z;cases z),?_⟩
 all_goals first
  | (subst h;intro z;cases z)
  | (obtain⟨_,_,e,_⟩:=h;subst e;intro z;cases z)
theorem z4l{neg:Bool}{x y:V}{H:Hp}{Q:VK}(h:rD2 (fIs neg) x y H Q):y=.non/\Q (.bl (if neg then !decide (x=.non)else decide (x=.non))) H:=by
 obtain⟨S,d,e,r,hS,h1,h2,hf,q⟩:=h;cases e
 case none=>
  refine⟨z4P h2,?_⟩;rcases zBM h1 with ⟨rfl,rfl⟩ | ⟨n1,n2⟩
  ·simp only[fIs]at hf;cases hf
   have:=q _ _ (Same.refl _) db;cases neg<;>simpa using this
  ·have hf':some (PyData.bool neg)=some r:=by
    cases d<;>first | exact hf | exact absurd rfl n1
   cases hf'
   have:=q _ _ (Same.refl _) db;cases neg<;>simpa[n2]using this
 all_goals (cases d<;>simp only[fIs]at hf<;>cases hf)
theorem z83:OpR X (compareOp .Is) (rD2 (fIs false)):=op_isN.imp fun x y H Q h=>z4l (neg:=false) h
theorem wC:OpR X (compareOp .IsNot) (rD2 (fIs true)):=op_notN.imp fun x y H Q h=>z4l (neg:=true) h
noncomputable def fIx:PyData->PyData->Option PyData
 | .list ds,.int i=>atI ds i
 | .tuple ds,.int i=>atI ds i
 | .dict kvs,x=>if yQ kvs x=true then xH kvs x else none
 | _,_=>none
theorem DatsS.at{S:Addr->Prop}{H:Hp}{ds:List PyData}{xs:List V}{i:Int}{d:PyData}(h:DatsS S H ds xs)(e:atI ds i=some d):∃v,atI xs i=some v/\DatS S H d v:=by
 unfold atI at e |-;rw[h.length]at e;cases q:ixN xs.length i with
 | none=>rw[q]at e;cases e
 | some j=>
  rw[q]at e;obtain⟨v,e1,e2⟩:=h.get (show ds[j]?=some d from e);exact⟨v,e1,e2⟩
theorem z51(hu:X.A.units+1<cLine):IxR X (fun x y H Q=>∃a v,x=.ref a/\DGet H a y (some v)/\Q v H):=by
 intro value slice pins s σ H x y o i Q I rx ry h hs;obtain⟨a,v,rfl,g,q⟩:=h;obtain rfl:o=Value.ref a:=rx;have hT:=z2L I g;have h₂:=z4S (E:=X.xe) (Q:=EP X pins σ Q) hu I g ry fun w' s3 I3 rw'=>⟨v,H,I3,rw',q⟩;unfold subscriptTail;refine wpAny_bind ?_;rw[getitemInPython_of_ne hT.not_modules];refine wpAny_bind (wpAny_specialOf hT PySem.F.slot_dict_getitem.lookup ?_);have fin:wpAny (model X.prog X.w) X.A (subscripted slice false (.ref a) i) (fun r s₃=>wpAny (model X.prog X.w) X.A (letTemporaryGo value (.ref a) r >>= fun _=>pure r) (EP X pins σ Q) X.xe s₃) X.xe s:=by
  rw[hs];exact wpAny_operating (wpAny_mono h₂ (fun r s₃ h₃=>wpAny_bind (wpAny_letTemporaryGo (wpAny_pure h₃))) fun _ _ x=>x)
 first
  | exact wpAny_pure (wpAny_bind fin)
  | exact wpAny_bind (wpAny_pure (wpAny_bind fin))
  | exact wpAny_bind fin
theorem ix_D(hu:X.A.units+1<cLine):IxR X (rD2 fIx):=(ix_list.or (ix_tup.or (z51 hu))).imp fun x y H Q ⟨S,d,e,r,hS,h1,h2,hf,q⟩=>by
 cases d<;>try (simp only[fIx]at hf;cases hf;done)
 case list ds=>
  cases e<;>simp only[fIx]at hf<;>try (cases hf;done)
  obtain⟨a,xs,e1,g1,k1⟩:=yD h1;obtain⟨v,e2,r2⟩:=k1.at hf;exact .inl ⟨a,xs,_,v,e1,za h2,SqL.of g1,e2,q _ _ (Same.refl _) r2⟩
 case tuple ds=>
  cases e<;>simp only[fIx]at hf<;>try (cases hf;done)
  obtain⟨a,xs,e1,g1,k1⟩:=yF h1;obtain⟨v,e2,r2⟩:=k1.at hf;exact .inr (.inl ⟨a,xs,_,v,e1,za h2,SqT.of g1,e2,q _ _ (Same.refl _) r2⟩)
 case dict kvs=>
  have hf':(if yQ kvs e=true then xH kvs e else none)=some r:=by cases e<;>exact hf
  split at hf'
  next c=>
   obtain⟨a,ks,e1,g1,k1⟩:=ul h1;rcases z4X g1 k1 (h2.key c) c with ⟨d',v,f1,f2,f3⟩ | ⟨f1,f2⟩
   ·rw[f1]at hf';cases hf';exact .inr (.inr ⟨a,v,e1,f2,q _ _ (Same.refl _) f3⟩)
   ·rw[f1]at hf';cases hf'
  next=>cases hf'
end
section
variable{K:W.Frag}{Er:Str->Hp->Prop}{X:Cx}{e a b c:Expr}{es rest:List Expr}{m ma mb:Env'->Mx D}{mc mt:Env'->Mx Bool}{ms:Env'->Mx (List D)}{pos p2:Pos}
noncomputable def mUn(f:PyData->Option PyData)(m:Env'->Mx D):Env'->Mx D:=fun ρ=>m ρ >>= fun x=>Mx.opt ((onP f x).map D.p)
noncomputable def mIf{α:Type}(c:Env'->Mx Bool)(a b:Env'->Mx α):Env'->Mx α:=fun ρ=>c ρ >>= fun t=>if t=true then a ρ else b ρ
theorem z7r{R:RG D V}{σ:St}{H:Hp}{Q:VK}(hR:∀g S H H1 H2 a v n,Kp g.T H H1->Twn g H1 n->R g S H1 H2 a v->R g S H H2 a v)(h:rdG R K Er (mIf mc ma mb) σ H Q):tIf (rdG RT K Er mc) (rdG R K Er ma) (rdG R K Er mb) σ H Q:=
 rd1 h hR fun g ow ρ n d v H0 H2 fr _ r q=>by
  cases r;cases d with
  | true=>exact ite_tt ⟨g,ow,ρ,n,fr,q⟩
  | false=>exact ite_ff ⟨g,ow,ρ,n,fr,q⟩
theorem zBs(hc:DT K Er X c mc)(ha:DE K Er X a ma)(hb:DE K Er X b mb):DE K Er X (.IfExp c a b pos) (mIf mc ma mb):=(z36 hc ha hb).imp fun σ H Q h=>z7r (fun _ _ _ _ _ _ _ _ _ _ r=>r) h
theorem zBL(hc:DT K Er X c mc)(ha:DW K Er X a ma)(hb:DW K Er X b mb):DW K Er X (.IfExp c a b pos) (mIf mc ma mb):=(z36 hc ha hb).imp fun σ H Q h=>z7r (fun _ _ _ _ _ _ _ _ _ _ r=>r) h
noncomputable def wW(a b:Env'->Mx D):Env'->Mx D:=fun ρ=>a ρ >>= fun x=>Mx.opt (onB x) >>= fun t=>if t=true then b ρ else pure (.p (.bool false))
theorem xS(ha:DW K Er X a ma)(hb:DE K Er X (.BoolOp .And (b::rest) pos) mb):DE K Er X (.BoolOp .And (a::b::rest) pos) (wW ma mb):=(zAU ha hb).imp fun σ H Q h=>rd1 h (fun _ _ _ _ _ _ _ _ _ _ r=>r) fun g ow ρ n d v H0 H2 fr _ r q=>by
 obtain⟨t,e,q2⟩:=x8 q;have e1:=z3I e;subst e1;cases t with
 | true=>exact⟨true,z7T (Rep1.d1 r),ite_tt ⟨g,ow,ρ,n,fr,q2⟩⟩
 | false=>exact⟨false,z7T (Rep1.d1 r),ite_ff (q2 _ _ (Kp.refl _ _) fr.twn rb)⟩
theorem xb{op}(h:DE K Er X a m):DE K Er X (.BoolOp op [a] pos) m:=zAK h
noncomputable def truD:PyData->Option Bool
 | .none=>some false
 | .bool b=>some b
 | .int i=>some (i != 0)
 | .str y=>if y.length<=lim then some ((y.length:Int) != 0)else none
 | .list ds=>some (!ds.isEmpty)
 | .tuple ds=>some (!ds.isEmpty)
 | .dict _=>none
noncomputable def mTru(m:Env'->Mx D):Env'->Mx Bool:=fun ρ=>m ρ >>= fun x=>Mx.opt (onP truD x)
theorem DatsS.emp{S:Addr->Prop}{H:Hp}{ds:List PyData}{xs:List V}(h:DatsS S H ds xs):ds.isEmpty=xs.isEmpty:=by
 have:=h.length;cases ds<;>cases xs<;>simp_all
theorem zi(ha:DW K Er X a ma)(he:∀whole,isTrue a X.env whole=(do let v<-whole;standAt a.pos;holding [v] (truthy v))):DT K Er X a (mTru ma):=(z7J ha he).imp fun σ H Q h=>rd1 h (fun _ _ _ _ _ _ _ _ _ _ r=>r) fun g ow ρ n d v H0 H2 fr _ r q=>by
 obtain⟨k,e,q2⟩:=wv q;obtain⟨x,rfl,e1⟩:=zf e;have q3:=q2 _ _ (Kp.refl _ _) fr.twn rfl;cases x with
 | none=>cases e1;cases z4P (Rep1.d1 r);exact⟨false,rfl,q3⟩
 | bool b=>cases e1;cases z7T (Rep1.d1 r);exact⟨_,rfl,q3⟩
 | int i=>cases e1;cases za (Rep1.d1 r);exact⟨_,rfl,q3⟩
 | str y=>
  cases z1j (Rep1.d1 r);simp only[truD]at e1;split at e1
  next hl=>cases e1;exact⟨_,⟨y4 hl,rfl⟩,q3⟩
  next=>cases e1
 | list ds=>
  cases e1;obtain⟨a,xs,rfl,g1,k1⟩:=yD (Rep1.d1 r);exact⟨_,.inl ⟨xs,SqL.of g1,by rw[k1.emp]⟩,q3⟩
 | tuple ds=>
  cases e1;obtain⟨a,xs,rfl,g1,k1⟩:=yF (Rep1.d1 r);exact⟨_,.inr (.inl ⟨xs,SqT.of g1,by rw[k1.emp]⟩),q3⟩
 | dict _=>cases e1
noncomputable def yN(m:Env'->Mx D):Env'->Mx Bool:=fun ρ=>m ρ >>= fun x=>Mx.opt (onB x)
theorem yX{α β γ:Type}(m:Mx α)(f:α->Mx β)(k:β->Mx γ):((m >>= f) >>= k)=m >>= fun x=>f x >>= k:=by
 funext n;rw[Mx.bind_def,Mx.bind_def,Mx.bind_def];cases m n<;>rfl
theorem zt{op:CmpOp}{f:PyData->PyData->Option PyData}(ho:OpR X (compareOp op) (rD2 f))(ha:DW K Er X a ma)(hb:DW K Er X b mb)(hm:behindInMarks op b=false):DT K Er X (.Compare a [op] [b] pos) (yN (mBin f ma mb)):=
 (z2N ho ha hb hm).imp fun σ H Q h=>by
  have e:yN (mBin f ma mb)=fun ρ=>ma ρ >>= fun x=>mb ρ >>= fun y=>(Mx.opt ((onP2 f x y).map D.p) >>= fun z=>Mx.opt (onB z)):=by
   funext ρ;unfold yN mBin;rw[yX];congr 1;funext x;rw[yX]
  rw[e]at h;refine rd2 (Z:=fun v u H2=>rD2 f v u H2 fun x H'=>∃k,x=.bl k/\Q k H') h (fun _ _ _ _ _ _ _ _ _ _ r=>r) fun g ow ρ n x y v u H2 fr r1 r2 q=>?_;obtain⟨z,e,q1⟩:=x8 q;obtain⟨k,e2,q2⟩:=wv q1;obtain⟨r,e3,e4⟩:=Option.map_eq_some_iff.mp e;obtain⟨x,y,rfl,rfl,e5⟩:=zo e3;have e6:=z3I e2;rw[<-e4]at e6;cases e6;exact⟨g.S ow,x,y,_,fr.dom,Dat1.weak r1,Dat1.weak r2,e5,fun v H' s d=>⟨k,by simpa only[DatS]using d,q2 _ _ s.kp (s.twn fr.twn) rfl⟩⟩
noncomputable def z0n(m:Env'->Mx Bool):Env'->Mx Bool:=fun ρ=>m ρ >>= fun b=>pure (!b)
noncomputable def z5c(a b:Env'->Mx Bool):Env'->Mx Bool:=fun ρ=>a ρ >>= fun t=>if t=true then b ρ else pure false
noncomputable def mOrT(a b:Env'->Mx Bool):Env'->Mx Bool:=fun ρ=>a ρ >>= fun t=>if t=true then pure true else b ρ
theorem u9(h:DT K Er X a mc):DT K Er X (.UnaryOp .Not a pos) (z0n mc):=(z9i h).imp fun σ H Q h=>rd1 h (fun _ _ _ _ _ _ _ _ _ _ r=>r) fun g ow ρ n d v H0 H2 fr _ r q=>by
 cases r;exact q _ _ (Kp.refl _ _) fr.twn rfl
noncomputable abbrev DPW(K:W.Frag)(Er:Str->Hp->Prop)(X:Cx)(e:Expr)(m:Env'->Mx Bool):Prop:=PW X e (rdG RT K Er m)
theorem PW.imp{t t':TT}(h:PW X e t)(k:∀σ H Q,t' σ H Q->t σ H Q):PW X e t':=fun wh pins s σ H Q I q=>h wh pins s σ H Q I (k σ H Q q)
theorem z0h(h:DT K Er X a mc):DPW K Er X (.BoolOp .And [a] pos) mc:=z91 h
theorem wO(h:DT K Er X a mc):DPW K Er X (.BoolOp .Or [a] pos) mc:=zAJ h
theorem z1x(h:DT K Er X a mc)(h2:DPW K Er X (.BoolOp .And (b::rest) pos) mt):DPW K Er X (.BoolOp .And (a::b::rest) pos) (z5c mc mt):=PW.imp (zAM h h2) fun σ H Q h=>rd1 h (fun _ _ _ _ _ _ _ _ _ _ r=>r) fun g ow ρ n d v H0 H2 fr _ r q=>by
 cases r;cases d with
 | true=>exact ite_tt ⟨g,ow,ρ,n,fr,q⟩
 | false=>exact ite_ff (q _ _ (Kp.refl _ _) fr.twn rfl)
theorem z0A(h:DT K Er X a mc)(h2:DPW K Er X (.BoolOp .Or (b::rest) pos) mt):DPW K Er X (.BoolOp .Or (a::b::rest) pos) (mOrT mc mt):=PW.imp (zBe h h2) fun σ H Q h=>rd1 h (fun _ _ _ _ _ _ _ _ _ _ r=>r) fun g ow ρ n d v H0 H2 fr _ r q=>by
 cases r;cases d with
 | true=>exact ite_tt (q _ _ (Kp.refl _ _) fr.twn rfl)
 | false=>exact ite_ff ⟨g,ow,ρ,n,fr,q⟩
theorem DPW.dt(h:DPW K Er X a mc):DT K Er X a mc:=h.pt
noncomputable def mNil:Env'->Mx (List D):=fun _=>pure []
noncomputable def z5(m:Env'->Mx D)(ms:Env'->Mx (List D)):Env'->Mx (List D):=fun ρ=>m ρ >>= fun x=>ms ρ >>= fun xs=>pure (x::xs)
theorem z9:DA K Er X [] mNil:=pa_nil.imp fun σ H Q ⟨g,ow,ρ,n,f,q⟩=>q [] H (Kp.refl _ _) f.twn .nil
theorem zG:DAW K Er X [] mNil:=pa_nil.imp fun σ H Q ⟨g,ow,ρ,n,f,q⟩=>q [] H (Kp.refl _ _) f.twn .nil
theorem z4(ha:DE K Er X e m)(hr:DA K Er X es ms)(hs:starEach (e::es) X.env=(false,eval e X.env)::starEach es X.env:=by rfl):DA K Er X (e::es) (z5 m ms):=(zI ha hr hs).imp fun σ H Q h=>
 rd1 h (fun _ _ _ _ _ _ _ _ _ _ r=>r) fun g ow ρ n d v H0 H1 fr _ r q=>by
  refine⟨g,ow,ρ,n,fr,?_⟩;refine AftG.bind q fun xs n2 vs H2 k2 t2 r2 c2=>?_;exact c2 (R3:=RA g (g.S ow)) (fun _ _ _ z=>z) (v::vs) H2 (Kp.refl _ _) t2 (.cons (r.kp (k2.mono Gh.ts) fun a z=>.inl z) r2)
theorem zC(ha:DW K Er X e m)(hr:DAW K Er X es ms)(hs:starEach (e::es) X.env=(false,eval e X.env)::starEach es X.env:=by rfl):DAW K Er X (e::es) (z5 m ms):=(zI ha hr hs).imp fun σ H Q h=>
 rd1 h (fun _ _ _ _ _ _ _ _ _ _ r=>r) fun g ow ρ n d v H0 H1 fr _ r q=>by
  refine⟨g,ow,ρ,n,fr,?_⟩;refine AftG.bind q fun xs n2 vs H2 k2 t2 r2 c2=>?_;exact c2 (R3:=RAW g (g.S ow)) (fun _ _ _ z=>z) (v::vs) H2 (Kp.refl _ _) t2 (.cons (Rep1.kp k2 Gh.us r) r2)
noncomputable def toP:List D->Option (List PyData)
 | []=>some []
 | .p x::r=>(toP r).map (x::·)
 | _=>none
theorem z7k{g:Gh}{S:Addr->Prop}{H:Hp}:∀{ds:List D} {xs:List PyData} {vs:List V},toP ds=some xs->All2 (Rep g S H) ds vs->DatsS S H xs vs
 | [],xs,_,h,r=>by simp only[toP]at h;cases h;cases r;exact .nil
 | .p x::ds,xs,_,h,r=>by
  simp only[toP]at h;cases e:toP ds with
  | none=>rw[e]at h;cases h
  | some ys=>
   rw[e]at h;cases h;cases r with
   | cons r1 r2=>exact .cons r1 (z7k e r2)
 | .scr _::_,_,_,h,_=>by simp only[toP]at h;cases h
 | .town::_,_,_,h,_=>by simp only[toP]at h;cases h
 | .fn _::_,_,_,h,_=>by simp only[toP]at h;cases h
 | .exc _ _::_,_,_,h,_=>by simp only[toP]at h;cases h
noncomputable def mSeq(j:List PyData->PyData)(ms:Env'->Mx (List D)):Env'->Mx PyData:=fun ρ=>ms ρ >>= fun ds=>Mx.opt ((toP ds).bind fun xs=>if xs.length<=lim then some (j xs)else none)
theorem z4U{α:Type}{j:List PyData->PyData}{g:Gh}{S:Addr->Prop}{R:Hp->Hp->PyData->α->Prop}{H:Hp}{ds:List D}{vs:List V}{n:Nat}{Q:α->Hp->Prop}(t:Twn g H n)(r:All2 (Rep g S H) ds vs)(h:AftG R g Er H (Mx.opt ((toP ds).bind fun xs=>if xs.length<=lim then some (j xs)else none) n) Q):
  ∃xs,DatsS S H xs vs/\vs.length<=sizeLine/\∀v H',Same H H'->R H H' (j xs) v->Q v H':=by
 cases e:toP ds with
 | none=>rw[e]at h;exact h.elim
 | some xs=>
  rw[e]at h;have h:AftG R g Er H (Mx.opt (if xs.length<=lim then some (j xs)else none) n) Q:=h;have k:=z7k e r;split at h
  next hl=>exact⟨xs,k,y4 (by rw[<-k.length];exact hl),fun v H' s r=>h v H' s.kp (s.twn t) r⟩
  next=>exact h.elim
theorem zW{x1}(h:DA K Er X es ms):DE K Er X (.Tuple es x1 pos) (mP (mSeq PyData.tuple ms)):=(z89 h).imp fun σ H Q h=>by
 have e:mP (mSeq PyData.tuple ms)=fun ρ=>ms ρ >>= fun ds=>(Mx.opt ((toP ds).bind fun xs=>if xs.length<=lim then some (PyData.tuple xs)else none) >>= fun x=>pure (D.p x)):=by
  funext ρ;unfold mP mSeq;rw[yX]
 rw[e]at h;refine rd1 h (fun _ _ _ _ _ _ _ _ _ _ r=>r) fun g ow ρ n ds vs H0 H2 fr _ r q=>?_;have q':AftG (fun H H' (x:PyData) v=>RE g (g.S ow) H H' (.p x) v) g Er H2 (Mx.opt ((toP ds).bind fun xs=>if xs.length<=lim then some (PyData.tuple xs)else none) n) Q:=by
  rw[Mx.bind_def]at q;cases z:Mx.opt ((toP ds).bind fun xs=>if xs.length<=lim then some (PyData.tuple xs)else none) n with
  | ok x k=>rw[z]at q;exact q
  | err c k=>rw[z]at q;exact q
  | bad=>rw[z]at q;exact q
 obtain⟨xs,k,hl,q⟩:=z4U fr.twn r q';exact⟨hl,fun p hp=>q _ _ (Same.new hp) (z3E hp k)⟩
theorem xc(h:DA K Er X es ms):DF K Er X (.List es pos) (mSeq PyData.list ms):=(z1f h).imp fun σ H Q h=>rd1 h wP fun g ow ρ n ds vs H0 H2 fr _ r q=>by
 obtain⟨xs,k,hl,q⟩:=z4U fr.twn r q;refine⟨hl,fun p hp=>q _ _ (Same.new hp) ⟨p,rfl,hp,Pl.upd,?_⟩⟩;simp only[Dat1];exact⟨p,vs,rfl,id,z7,DatsS.kp (Kp.of (Same.new hp)) (fun b z=>z.elim .inl fun e=>.inr (e▸hp)) k⟩
end
section
variable{K:W.Frag}{Er:Str->Hp->Prop}{X:Cx}{e a b c:Expr}{es rest:List Expr}{m ma mb:Env'->Mx D}{mc mt:Env'->Mx Bool}{ms:Env'->Mx (List D)}{pos p2:Pos}
theorem zZ(hu:X.A.units+1<cLine)(ha:DW K Er X a ma)(hb:DW K Er X b mb)(hs:z5z b):DE K Er X (.Subscript a b pos) (mBin fIx ma mb):=
 (wq (ix_D hu) ha hb hs).imp fun σ H Q h=>rd2 (Z:=fun v u H2=>rD2 fIx v u H2 Q) h (fun _ _ _ _ _ _ _ _ _ _ r=>r) fun g ow ρ n x y v u H2 fr r1 r2 q=>by
  obtain⟨r,e,q2⟩:=yk fr.twn q;obtain⟨x,y,rfl,rfl,e⟩:=zo e;exact⟨g.S ow,x,y,r,fr.dom,Dat1.weak r1,Dat1.weak r2,e,q2⟩
noncomputable def onPs{α:Type}(f:List PyData->Option α)(ds:List D):Option α:=(toP ds).bind f
noncomputable def rDn(f:List PyData->Option PyData):List V->Hp->VK->Prop:=fun vs H Q=>∃S ds r,(∀a,S a->H a≠none)/\All2 (Dat1 N0 S H) ds vs/\f ds=some r/\∀v H',Same H H'->DatS S H' r v->Q v H'
noncomputable def zO(f:List PyData->Option PyData)(ms:Env'->Mx (List D)):Env'->Mx D:=fun ρ=>ms ρ >>= fun ds=>Mx.opt ((onPs f ds).map D.p)
theorem z4p{g:Gh}{S:Addr->Prop}{H:Hp}:∀{ds:List D} {xs:List PyData} {vs:List V},toP ds=some xs->All2 (Rep1 g S H) ds vs->All2 (Dat1 N0 S H) xs vs
 | [],xs,_,h,r=>by simp only[toP]at h;cases h;cases r;exact .nil
 | .p x::ds,xs,_,h,r=>by
  simp only[toP]at h;cases e:toP ds with
  | none=>rw[e]at h;cases h
  | some ys=>
   rw[e]at h;cases h;cases r with
   | cons r1 r2=>exact .cons (Dat1.weak r1) (z4p e r2)
 | .scr _::_,_,_,h,_=>by simp only[toP]at h;cases h
 | .town::_,_,_,h,_=>by simp only[toP]at h;cases h
 | .fn _::_,_,_,h,_=>by simp only[toP]at h;cases h
 | .exc _ _::_,_,_,h,_=>by simp only[toP]at h;cases h
theorem z7I{f:List PyData->Option PyData}{t:TE}(h:∀σ H Q,rdG RAW K Er ms σ H (fun vs H1=>rDn f vs H1 Q)->t σ H Q)(hp:PE X e t):DE K Er X e (zO f ms):=hp.imp fun σ H Q hq=>h σ H Q (rd1 hq (fun _ _ _ _ _ _ _ _ _ _ r=>r) fun g ow ρ n ds vs H0 H2 fr _ r q=>by
 obtain⟨z,e,q2⟩:=yk fr.twn q;obtain⟨xs,e1,e2⟩:=Option.bind_eq_some_iff.mp e;exact⟨g.S ow,xs,z,fr.dom,z4p e1 r,e2,q2⟩)
theorem zL{x:Str}{id:String}{p:Pos}{f:List PyData->Option PyData}(hc:CallR X (.builtin id) (rDn f))(hg:Gl X x)(hm:X.mg x=none)(hv:bootBuiltins x=some (.builtin id))(ha:DAW K Er X (e::es) ms)(hn:x≠"__name__":=by decide)(hdb:(x == ("__debug__":Str))=false:=by decide)
  (he:starEach (e::es) X.env=(false,eval e X.env)::starEach es X.env:=by rfl) (hpl:(backTo pos (starEach es X.env)).any (·.1)=false:=by rfl):DE K Er X (.Call (.Name x p) (e::es) [] pos) (zO f ms):=
 z7I (fun σ H Q h=>h) (yK hc hg hm hv ha hn hdb he hpl)
theorem yc{x:Str}{T:String}{p:Pos}{f:List PyData->Option PyData}(hc:CallR X (.type T) (rDn f))(hg:Gl X x)(hm:X.mg x=none)(hv:bootBuiltins x=some (.type T))(ha:DAW K Er X (e::es) ms)(hn:x≠"__name__":=by decide)(hdb:(x == ("__debug__":Str))=false:=by decide)
  (he:starEach (e::es) X.env=(false,eval e X.env)::starEach es X.env:=by rfl) (hpl:(backTo pos (starEach es X.env)).any (·.1)=false:=by rfl):DE K Er X (.Call (.Name x p) (e::es) [] pos) (zO f ms):=
 z7I (fun σ H Q h=>h) (zz hc hg hm hv ha hn hdb he hpl)
theorem all1{α β:Type}{R:α->β->Prop}{d:α}{vs:List β}(h:All2 R [d] vs):∃v,vs=[v]/\R d v:=by
 cases h with
 | cons r t=>cases t;exact⟨_,rfl,r⟩
theorem all2{α β:Type}{R:α->β->Prop}{d e:α}{vs:List β}(h:All2 R [d,e] vs):∃v u,vs=[v,u]/\R d v/\R e u:=by
 cases h with
 | cons r t=>
  obtain⟨u,rfl,r2⟩:=all1 t;exact⟨_,u,rfl,r,r2⟩
noncomputable def fLen:List PyData->Option PyData
 | [.list ds]=>some (.int ds.length)
 | [.tuple ds]=>some (.int ds.length)
 | [.str x]=>if x.length<=lim then some (.int x.length)else none
 | _=>none
theorem ye:CallR X (.builtin "len") (rDn fLen):=(call_len_seq.or z1N).imp fun vs H Q ⟨S,ds,r,hS,h1,hf,q⟩=>by
 match ds,hf,h1 with
 | [.list xs],hf,h1=>
  cases hf;obtain⟨v,rfl,r⟩:=all1 h1;obtain⟨a,ys,rfl,g1,k1⟩:=yD r;exact .inl ⟨a,ys,rfl,.inl (SqL.of g1),by rw[<-k1.length];exact q _ _ (Same.refl _) di⟩
 | [.tuple xs],hf,h1=>
  cases hf;obtain⟨v,rfl,r⟩:=all1 h1;obtain⟨a,ys,rfl,g1,k1⟩:=yF r;exact .inl ⟨a,ys,rfl,.inr (SqT.of g1),by rw[<-k1.length];exact q _ _ (Same.refl _) di⟩
 | [.str x],hf,h1=>
  obtain⟨v,rfl,r⟩:=all1 h1;simp only[fLen]at hf;split at hf
  next hl=>cases hf;exact .inr ⟨x,by rw[z1j r],y4 hl,q _ _ (Same.refl _) di⟩
  next=>cases hf
noncomputable def wF:List PyData->Option PyData
 | [.list ds]=>some (.tuple ds)
 | [.tuple ds]=>some (.tuple ds)
 | _=>none
theorem xB:CallR X (.type "tuple") (rDn wF):=call_tuple_of.imp fun vs H Q ⟨S,ds,r,hS,h1,hf,q⟩=>by
 match ds,hf,h1 with
 | [.list xs],hf,h1=>
  cases hf;obtain⟨v,rfl,r⟩:=all1 h1;obtain⟨a,ys,rfl,g1,k1⟩:=yD r;exact⟨a,ys,rfl,.inl ⟨SqL.of g1,fun l hl=>q _ _ (Same.new hl) (z3E hl k1)⟩⟩
 | [.tuple xs],hf,h1=>
  cases hf;obtain⟨v,rfl,r⟩:=all1 h1;obtain⟨a,ys,rfl,g1,k1⟩:=yF r;exact⟨a,ys,rfl,.inr ⟨SqT.of g1,q _ _ (Same.refl _) (xi g1 k1)⟩⟩
noncomputable def xT:List PyData->Option (List Bool)
 | []=>some []
 | .bool i::r=>(xT r).map (i::·)
 | _=>none
theorem ur:∀{ds:List PyData} {ns:List Bool},xT ds=some ns->ds=ns.map PyData.bool
 | [],ns,h=>by simp only[xT]at h;cases h;rfl
 | d::r,ns,h=>by
  cases d<;>simp only[xT]at h<;>try (cases h;done)
  cases e:xT r with
  | none=>rw[e]at h;cases h
  | some ms=>rw[e]at h;cases h;rw[List.map_cons,ur e]
theorem DatsS.bools{S:Addr->Prop}{H:Hp}:∀{ns:List Bool} {xs:List V},DatsS S H (ns.map PyData.bool) xs->xs=ns.map V.bl
 | [],xs,h=>by simpa only[List.map_nil,DatsS]using h
 | n::ns,xs,h=>by
  simp only[List.map_cons,DatsS]at h;obtain⟨x,r,rfl,h1,h2⟩:=h;simp only[DatS]at h1;subst h1;rw[List.map_cons,DatsS.bools h2]
noncomputable def yh(f:List Bool->Bool):List PyData->Option PyData
 | [.list ds]=>(xT ds).map fun bs=>.bool (f bs)
 | _=>none
theorem z2n{f:List Bool->Bool}{vs:List V}{H:Hp}{Q:VK}(h:rDn (yh f) vs H Q):∃(p:Addr) (bs:List Bool),vs=[.ref p]/\SqL X.K H p (bs.map V.bl)/\Q (.bl (f bs)) H:=by
 obtain⟨S,ds,r,hS,h1,hf,q⟩:=h
 match ds,hf,h1 with
 | [.list xs],hf,h1=>
  simp only[yh]at hf;obtain⟨bs,e,e2⟩:=Option.map_eq_some_iff.mp hf;subst e2;obtain⟨v,rfl,r⟩:=all1 h1;obtain⟨a,ys,rfl,g1,k1⟩:=yD r;rw[ur e]at k1;rw[k1.bools]at g1;exact⟨a,bs,rfl,SqL.of g1,q _ _ (Same.refl _) db⟩
theorem z08(hc:X.calm=true):CallR X (.builtin "all") (rDn (yh fun bs=>bs.all id)):=(z59 hc).imp fun vs H Q h=>z2n h
theorem zA9(hc:X.calm=true):CallR X (.builtin "any") (rDn (yh fun bs=>bs.any id)):=(z68 hc).imp fun vs H Q h=>z2n h
noncomputable def z3w(m:Env'->Mx D):Env'->Mx (Option Int):=fun ρ=>m ρ >>= fun x=>Mx.opt (onP (fun x=>match x with | .int i=>some (some i) | _=>none) x)
noncomputable def uU:Env'->Mx (Option Int):=fun _=>pure none
noncomputable abbrev RO:RG (Option Int) (Option Int):=fun _ _ _ _ a b=>a=b
noncomputable abbrev DO(K:W.Frag)(Er:Str->Hp->Prop)(X:Cx)(e:Option Expr)(m:Env'->Mx (Option Int)):Prop:=PO X e (rdG RO K Er m)
theorem PO.imp{e:Option Expr}{t t':TO}(h:PO X e t)(k:∀σ H Q,t' σ H Q->t σ H Q):PO X e t':=fun pins s σ H Q I q=>h pins s σ H Q I (k σ H Q q)
theorem z42:DO K Er X none uU:=po_none.imp fun σ H Q ⟨g,ow,ρ,n,f,q⟩=>q none H (Kp.refl _ _) f.twn rfl
theorem z5R(h:DW K Er X e m):DO K Er X (some e) (z3w m):=(z8N h).imp fun σ H Q h=>rd1 h (fun _ _ _ _ _ _ _ _ _ _ r=>r) fun g ow ρ n d v H0 H2 fr _ r q=>by
 obtain⟨o,e,q2⟩:=wv q;obtain⟨x,rfl,e1⟩:=zf e;cases x<;>simp only at e1<;>cases e1;exact⟨_,za (Rep1.d1 r),q2 _ _ (Kp.refl _ _) fr.twn rfl⟩
noncomputable def cutD(xs:List PyData)(lo hi:Option Int):List PyData:=(xs.drop (HT.sIx xs.length 0 lo)).take (HT.sIx xs.length xs.length hi - HT.sIx xs.length 0 lo)
theorem DatsS.cut{S:Addr->Prop}{H:Hp}{ds:List PyData}{xs:List V}(h:DatsS S H ds xs)(lo hi:Option Int):DatsS S H (cutD ds lo hi) (cutV xs lo hi):=by
 unfold cutD cutV;rw[h.length];exact(h.drop _).take _
noncomputable def fSl(x:PyData)(lo hi:Option Int):Option PyData:=match x with
 | .list ds=>some (.list (cutD ds lo hi))
 | .tuple ds=>some (.tuple (cutD ds lo hi))
 | _=>none
noncomputable def mSl(m:Env'->Mx D)(ml mh:Env'->Mx (Option Int)):Env'->Mx D:=fun ρ=>m ρ >>= fun x=>ml ρ >>= fun lo=>mh ρ >>= fun hi=>Mx.opt ((onP (fun y=>fSl y lo hi) x).map D.p)
noncomputable def rSlD:V->Option Int->Option Int->Hp->VK->Prop:=fun x lo hi H Q=>∃S d r,(∀a,S a->H a≠none)/\Dat1 N0 S H d x/\fSl d lo hi=some r/\∀v H',Same H H'->DatS S H' r v->Q v H'
theorem sl_D:SlR X rSlD:=(sl_list.or z6D).imp fun x lo hi H Q ⟨S,d,r,hS,h1,hf,q⟩=>by
 cases d<;>simp only[fSl]at hf<;>try (cases hf;done)
 ·cases hf;obtain⟨a,ys,rfl,g1,k1⟩:=yD h1;exact .inl ⟨a,ys,rfl,SqL.of g1,fun p hp=>q _ _ (Same.new hp) (wJ hS hp (k1.cut lo hi))⟩
 ·cases hf;obtain⟨a,ys,rfl,g1,k1⟩:=yF h1;exact .inr ⟨a,ys,rfl,g1,fun p H' s hp=>q _ _ s (xi hp ((k1.cut lo hi).same s))⟩
theorem zAb{lo hi:Option Expr}{ml mh:Env'->Mx (Option Int)}(ha:DW K Er X a ma)(hl:DO K Er X lo ml)(hh:DO K Er X hi mh):DE K Er X (.Subscript a (.Slice lo hi none p2) pos) (mSl ma ml mh):=
 (z6M sl_D ha hl hh).imp fun σ H Q h=>rd1 h (fun _ _ _ _ _ _ _ _ _ _ r=>r) fun g ow ρ n d v H0 H1 fr _ r q=>by
  refine⟨g,ow,ρ,n,fr,AftG.bind q fun l n2 l' H2 k2 t2 r2 c2=>?_⟩;cases r2;have fr2:=fr.kp k2 t2;refine⟨g,ow,ρ,n2,fr2,AftG.bind (c2 (R3:=RE g (g.S ow)) fun _ _ _ z=>z) fun u n3 u' H3 k3 t3 r3 c3=>?_⟩;cases r3;have q3:=c3 (R3:=RE g (g.S ow)) fun _ _ _ z=>z;obtain⟨z,e,q4⟩:=yk t3 q3;obtain⟨x,rfl,e1⟩:=zf e;exact⟨g.S ow,x,z,(fr2.kp k3 t3).dom,Dat1.weak (Rep1.d1 (Rep1.kp k3 Gh.us (Rep1.kp k2 Gh.us r))),e1,q4⟩
end
structure Walks(S:Addr->Prop)(H:Hp)(J:It)(xs:List V):Prop where
 go:∀i H',Kp S H H'->i<xs.length->J.go i H'
 yld:∀i H' x H'',Kp S H H'->J.yld i H' x H''->H''=H'/\(i<xs.length->xs[i]?=some x)
 stop:∀H',Kp S H H'->J.stop xs.length H'
theorem z0D{K:W.Frag}{S:Addr->Prop}{H:Hp}{a:Addr}{xs:List V}(h:H a=some (.lst xs))(hs:¬S a):Walks S H (Itl K a) xs:=
 ⟨fun i H' k hi=>⟨xs,xs[i],SqL.of (k _ _ h (.inl hs)),by simp[hi]⟩,fun i H' x H'' k y=>⟨y.1,fun _=>y.2 xs (SqL.of (k _ _ h (.inl hs)))⟩,fun H' k=>⟨xs,SqL.of (k _ _ h (.inl hs)),Nat.le_refl _⟩⟩
theorem z1D{K:W.Frag}{S:Addr->Prop}{H:Hp}{a:Addr}{xs:List V}(h:H a=some (.tup xs)):Walks S H (Itt K a) xs:=
 ⟨fun i H' k hi=>⟨xs,xs[i],SqT.of (k _ _ h (.inr ⟨_,rfl⟩)),by simp[hi]⟩,fun i H' x H'' k y=>⟨y.1,fun _=>y.2 xs (SqT.of (k _ _ h (.inr ⟨_,rfl⟩)))⟩,fun H' k=>⟨xs,SqT.of (k _ _ h (.inr ⟨_,rfl⟩)),Nat.le_refl _⟩⟩
theorem z1E{S:Addr->Prop}{H:Hp}{lo:Int}{n:Nat}:Walks S H (Itr lo n) ((List.range n).map fun(i:Nat)=>V.int (lo+(i:Int))):=by
 refine⟨fun i H' _ hi=>?_,fun i H' x H'' _ y=>⟨y.1,fun hi=>?_⟩,fun H' _=>?_⟩
 ·show i<n;simpa using hi
 ·obtain⟨_,rfl⟩:=y;have hi:i<n:=by simpa using hi
  simp[hi]
 ·show n<=_;simp
noncomputable def RI(w:Bool):RG (List PyData) It:=fun g S _ H' ds J=>ds.length<=lim/\∃xs,DatsS S H' ds xs/\Walks (if w=true then g.T else S) H' J xs
noncomputable abbrev DI(w:Bool)(K:W.Frag)(Er:Str->Hp->Prop)(X:Cx)(tg it:Expr)(m:Env'->Mx (List PyData)):Prop:=PI X tg it (rdG (RI w) K Er m)
theorem PI.imp{X:Cx}{tg it:Expr}{t t':TI}(h:PI X tg it t)(k:∀σ H Q,t' σ H Q->t σ H Q):PI X tg it t':=fun pins s σ H Q I q=>h pins s σ H Q I (k σ H Q q)
section
variable{K:W.Frag}{Er:Str->Hp->Prop}{X:Cx}{e a b c tg it elt:Expr}{es rest:List Expr}{m ma mb:Env'->Mx D}{mc mt:Env'->Mx Bool}{ms:Env'->Mx (List D)}{mi:Env'->Mx (List PyData)}{pos p2:Pos}
theorem z7v{l:Expr}{tl:TE}(hl:PE X l tl):PI X tg l (fun σ H R=>tl σ H fun x H1=>∃a,x=.ref a/\(((∃xs,SqL X.K H1 a xs)/\R (Itl X.K a) H1)\/((∃xs,SqT X.K H1 a xs)/\R (Itt X.K a) H1))):=by
 intro pins s σ H R I h;refine thn (hl pins s σ H _ I h) fun v s1 ⟨x,H1,I1,r1,q1⟩=>?_;obtain⟨a,e,q1⟩:=q1;subst e;cases r1;have fp:∀b∈[s1.heap.objs.size],FpOk X pins H1 b:=fun b hb=>by
  have e:b=s1.heap.objs.size:=by simpa using hb
  subst e;exact I1.fpOk (Nat.le_refl _) (I1.hok.fresh (Nat.le_refl _))
 rcases q1 with ⟨⟨xs,hq⟩,q⟩ | ⟨⟨xs,hq⟩,q⟩
 ·obtain⟨its,rv,p,hz⟩:=I1.list hq;refine wpAny_pyIter_list p.isList ?_;exact⟨s1.heap.objs.size,[s1.heap.objs.size],_,_,H1,rfl,I1.kept (t':=s1.toks) fun b o e=>Heap.get?_push_of_some _ e,z57 a _,⟨_,Heap.get?_push_size _ rfl,rfl,rfl⟩,fp,q⟩
 ·obtain⟨its,rv,p,hz⟩:=I1.tuple hq;refine wpAny_pyIter_tuple (show s1.heap.IsTuple a its.toArray from p) ?_;exact⟨s1.heap.objs.size,[s1.heap.objs.size],_,_,H1,rfl,I1.kept (t':=s1.toks) fun b o e=>Heap.get?_push_of_some _ e,z0C a _,⟨_,Heap.get?_push_size _ rfl,rfl,rfl⟩,fp,q⟩
noncomputable def itD:PyData->Option (List PyData)
 | .list ds=>if ds.length<=lim then some ds else none
 | .tuple ds=>if ds.length<=lim then some ds else none
 | _=>none
noncomputable def mIt(m:Env'->Mx D):Env'->Mx (List PyData):=fun ρ=>m ρ >>= fun x=>Mx.opt (onP itD x)
theorem z1O{x:PyData}{ds:List PyData}(h:itD x=some ds):ds.length<=lim/\(x=.list ds\/x=.tuple ds):=by
 cases x<;>simp only[itD]at h<;>try (cases h;done)
 all_goals (split at h<;>cases h)
 ·exact⟨by assumption,.inl rfl⟩
 ·exact⟨by assumption,.inr rfl⟩
theorem uO(h:DE K Er X it m):DI false K Er X tg it (mIt m):=(z7v h).imp fun σ H Q h=>rd1 h (fun _ _ _ _ _ _ _ _ _ _ r=>r) fun g ow ρ n d v H0 H2 fr _ r q=>by
 obtain⟨ds,e,q2⟩:=wv q;obtain⟨x,rfl,e1⟩:=zf e;obtain⟨hl,rfl | rfl⟩:=z1O e1
 ·obtain⟨a,xs,rfl,hn,h1,h2⟩:=(show ∃a xs,v=.ref a/\¬(g.S ow) a/\H2 a=some (.lst xs)/\DatsS (g.S ow) H2 ds xs by simpa only[Rep,DatS]using r);exact⟨a,rfl,.inl ⟨⟨xs,SqL.of h1⟩,q2 _ _ (Kp.refl _ _) fr.twn ⟨hl,xs,h2,z0D h1 (by rw[if_neg Bool.false_ne_true];exact hn)⟩⟩⟩
 ·obtain⟨a,xs,rfl,h1,h2⟩:=yF (T:=N0) (DatS.one (fun _ z=>z.elim) (show DatS (g.S ow) H2 (.tuple ds) v from r));exact⟨a,rfl,.inr ⟨⟨xs,SqT.of h1⟩,q2 _ _ (Kp.refl _ _) fr.twn ⟨hl,xs,h2,z1D h1⟩⟩⟩
theorem yT(h:DW K Er X it m):DI true K Er X tg it (mIt m):=(z7v h).imp fun σ H Q h=>rd1 h (fun _ _ _ _ _ _ _ _ _ _ r=>r) fun g ow ρ n d v H0 H2 fr _ r q=>by
 obtain⟨ds,e,q2⟩:=wv q;obtain⟨x,rfl,e1⟩:=zf e;obtain⟨hl,rfl | rfl⟩:=z1O e1
 ·obtain⟨a,xs,rfl,hn,h1,h2⟩:=(show ∃a xs,v=.ref a/\¬g.U a/\H2 a=some (.lst xs)/\DatsS (g.S ow) H2 ds xs by simpa only[Rep1,Dat1]using r);exact⟨a,rfl,.inl ⟨⟨xs,SqL.of h1⟩,q2 _ _ (Kp.refl _ _) fr.twn ⟨hl,xs,h2,z0D h1 (by intro z;rw[if_pos rfl]at z;exact hn (.inr z))⟩⟩⟩
 ·obtain⟨a,xs,rfl,h1,h2⟩:=yF (Rep1.d1 r);exact⟨a,rfl,.inr ⟨⟨xs,SqT.of h1⟩,q2 _ _ (Kp.refl _ _) fr.twn ⟨hl,xs,h2,z1D h1⟩⟩⟩
noncomputable def rngD(lo hi:Int):List PyData:=(List.range (hi - lo).toNat).map fun(i:Nat)=>.int (lo+(i:Int))
noncomputable def yr:List PyData->Option (List PyData)
 | [.int j]=>if -1000000<=j/\j<=1000000 then some (rngD 0 j)else none
 | _=>none
noncomputable def z0X:List PyData->Option (List PyData)
 | [.int i,.int j]=>if (-1000000<=i/\i<=1000000)/\(-1000000<=j/\j<=1000000)/\(j - i).toNat<=lim then some (rngD i j)else none
 | _=>none
noncomputable def mRng(f:List PyData->Option (List PyData))(ms:Env'->Mx (List D)):Env'->Mx (List PyData):=fun ρ=>ms ρ >>= fun ds=>Mx.opt (onPs f ds)
theorem wx{S:Addr->Prop}{H:Hp}(f:Nat->Int):∀l:List Nat,DatsS S H (l.map fun i=>PyData.int (f i)) (l.map fun i=>V.int (f i))
 | []=>.nil
 | _::l=>.cons di (wx f l)
theorem yI{w:Bool}{p pos:Pos}(hg:Gl X "range")(hm:X.mg "range"=none)(ha:DAW K Er X [a] ms)(hs:starEach [a] X.env=[(false,eval a X.env)]:=by rfl):DI w K Er X tg (.Call (.Name "range" p) [a] [] pos) (mRng yr ms):=
 (z1d hg hm ha hs).imp fun σ H Q h=>rd1 h (fun _ _ _ _ _ _ _ _ _ _ r=>r) fun g ow ρ n d v H0 H2 fr _ r q=>by
  obtain⟨ds,e,q2⟩:=wv q;obtain⟨xs,e1,e2⟩:=Option.bind_eq_some_iff.mp e;have r2:=z4p e1 r
  match xs,e2,r2 with
  | [.int j],e2,r2=>
   simp only[yr]at e2;split at e2
   next hl=>
    cases e2;obtain⟨u,rfl,r3⟩:=all1 r2;refine⟨j,by rw[za r3],by omega,by omega,q2 _ _ (Kp.refl _ _) fr.twn ⟨?_,_,?_,z1E⟩⟩
    ·unfold rngD lim;simp;omega
    ·rw[show j.toNat=(j - 0).toNat by omega];exact wx (fun i=>0+(i:Int)) _
   next=>cases e2
theorem z8g{w:Bool}{p pos:Pos}(hg:Gl X "range")(hm:X.mg "range"=none)(ha:DAW K Er X [a,b] ms)(hs:starEach [a,b] X.env=[(false,eval a X.env),(false,eval b X.env)]:=by rfl)(hs2:starEach [b] X.env=[(false,eval b X.env)]:=by rfl):DI w K Er X tg (.Call (.Name "range" p) [a,b] [] pos) (mRng z0X ms):=
 (z5h hg hm ha hs hs2).imp fun σ H Q h=>rd1 h (fun _ _ _ _ _ _ _ _ _ _ r=>r) fun g ow ρ n d v H0 H2 fr _ r q=>by
  obtain⟨ds,e,q2⟩:=wv q;obtain⟨xs,e1,e2⟩:=Option.bind_eq_some_iff.mp e;have r2:=z4p e1 r
  match xs,e2,r2 with
  | [.int i,.int j],e2,r2=>
   simp only[z0X]at e2;split at e2
   next hl=>
    cases e2;obtain⟨u,u2,rfl,r3,r4⟩:=all2 r2;refine⟨i,j,by rw[za r3,za r4],⟨by omega,by omega,by omega,by omega⟩,q2 _ _ (Kp.refl _ _) fr.twn ⟨?_,_,?_,z1E⟩⟩
    ·unfold rngD;rw[List.length_map,List.length_range];exact hl.2.2
    ·exact wx (fun k=>i+(k:Int)) _
   next=>cases e2
noncomputable def zX(c:Env'->Mx Bool)(e:Env'->Mx D)(ρ:Env'):List PyData->List PyData->Mx (List PyData)
 | [],acc=>pure acc
 | d::r,acc=>c (ρ++[some (Sl.val (.p d))]) >>= fun t=>if t=true then(e (ρ++[some (Sl.val (.p d))]) >>= fun y=>Mx.opt (onP some y) >>= fun z=>zX c e ρ r (acc++[z]))else zX c e ρ r acc
noncomputable def zw(mi:Env'->Mx (List PyData))(mc:Env'->Mx Bool)(me:Env'->Mx D):Env'->Mx PyData:=fun ρ=>mi ρ >>= fun ds=>zX mc me ρ ds [] >>= fun l=>pure (.list l)
noncomputable def mYes:Env'->Mx Bool:=fun _=>pure true
theorem Frm.ext1{g:Gh}{ow:Ix->Option Addr}{ρ:Env'}{n:Nat}{σ:St}{H:Hp}{d:D}{v:V}(f:Frm K g ow ρ n σ H)(r:Rep g (g.S ow) H d v):Frm K g ow (ρ++[some (Sl.val d)]) n (σ++[some v]) H:=by
 have hl:=f.len;refine⟨f.scr,f.twn,f.sub,f.ext,fun i d' e=>?_,fun i x e=>?_,fun i kl e=>?_,fun i a e=>?_,f.inj,by simp[hl]⟩
 ·by_cases hi:i<ρ.length
  ·rw[List.getElem?_append_left hi]at e;obtain⟨v',e1,r1⟩:=f.val i d' e;exact⟨v',by rw[List.getElem?_append_left (by omega)];exact e1,r1⟩
  ·have hi':i=ρ.length:=by
    have:=(List.getElem?_eq_some_iff.mp e).1;simp at this;omega
   subst hi';rw[List.getElem?_append_right (Nat.le_refl _),Nat.sub_self]at e;cases e;exact⟨v,by rw[hl,List.getElem?_append_right (Nat.le_refl _),Nat.sub_self];rfl,r⟩
 ·by_cases hi:i<ρ.length
  ·rw[List.getElem?_append_left hi]at e;obtain⟨a,e0,e1,r1⟩:=f.own i x e;exact⟨a,e0,by rw[List.getElem?_append_left (by omega)];exact e1,r1⟩
  ·have hi':i=ρ.length:=by
    have:=(List.getElem?_eq_some_iff.mp e).1;simp at this;omega
   subst hi';rw[List.getElem?_append_right (Nat.le_refl _),Nat.sub_self]at e;cases e
 ·by_cases hi:i<ρ.length
  ·rw[List.getElem?_append_left hi]at e;obtain⟨v',e1,r1⟩:=f.dp i kl e;exact⟨v',by rw[List.getElem?_append_left (by omega)];exact e1,r1⟩
  ·have hi':i=ρ.length:=by
    have:=(List.getElem?_eq_some_iff.mp e).1;simp at this;omega
   subst hi';rw[List.getElem?_append_right (Nat.le_refl _),Nat.sub_self]at e;cases e
 ·obtain⟨h1,h2,h3,h4⟩:=f.owi i a e;exact⟨h1,h2,h3,by simp;omega⟩
theorem z0V{w:Bool}{tc:TT}{σ:St}{H:Hp}{Q:VK}(hw:w=true)(htc:∀σ H Q,rdG RT K Er mc σ H Q->tc σ H Q)(h:rdG RF K Er (zw mi mc m) σ H Q):z24 (rdG (RI w) K Er mi) tc (rdG RE K Er m) σ H Q:=by
 subst hw;refine rd1 h wP fun g ow ρ n ds J H0 H1 fr k01 ⟨hl,xs,hd,wk⟩ q=>?_;have hlen:=hd.length;simp only[if_true]at wk;refine⟨xs.length,fun i ys H'=>∃acc n',Kp g.T H1 H'/\Twn g H' n'/\DatsS (g.S ow) H' acc ys/\AftG (fun _ H2 x v=>RF g (g.S ow) H1 H2 x v) g Er H' ((zX mc m ρ (ds.drop i) acc >>= fun l=>pure (PyData.list l)) n') Q,
  ⟨[],n,Kp.refl _ _,fr.twn,.nil,by rw[List.drop_zero];exact q.imp (fun _ _ _ z=>z) fun _ _ z=>z⟩,⟨y4 (by rw[<-hlen];exact hl),fun ys H' ⟨_,_,k,_⟩=>wk.stop H' k,fun i ys H' hi ⟨_,_,k,_⟩=>wk.go i H' k hi,fun i ys H' v H'' hi ⟨acc,n',k,t,dd,q⟩ y=>?_⟩,fun ys H' ⟨acc,n',k,t,dd,q⟩ D hD=>?_⟩
 ·obtain⟨rfl,hv⟩:=wk.yld i H' v _ k y;have hv:=hv hi;have hid:i<ds.length:=by omega
  obtain⟨v',ev,rv⟩:=hd.get (List.getElem?_eq_getElem hid);rw[hv]at ev;cases ev;have rv':Rep g (g.S ow) H'' (.p ds[i]) v:=DatS.kp (k.mono Gh.ts) (fun _ z=>.inl z) rv;have f1:Frm K g ow (ρ++[some (Sl.val (.p ds[i]))]) n' (σ++[some v]) H'':=(fr.kp k t).ext1 rv';rw[List.drop_eq_getElem_cons hid]at q;simp only[zX,yX]at q;refine htc _ _ _ ⟨g,ow,_,n',f1,AftG.bind q fun tb n2 tb' H3 k3 t3 r3 c3=>?_⟩;cases r3;have q3:=c3 (R3:=fun _ H2 x v=>RF g (g.S ow) H1 H2 x v) fun _ _ _ z=>z;cases tb with
  | false=>
   refine ite_ff ⟨acc,n2,k.trans k3,t3,DatsS.kp (k3.mono Gh.ts) (fun _ z=>.inl z) dd,?_⟩;simpa using q3
  | true=>
   simp only[if_true,yX]at q3;refine ite_tt ⟨g,ow,_,n2,f1.kp k3 t3,AftG.bind q3 fun yv n4 yv' H4 k4 t4 r4 c4=>?_⟩;have q4:=c4 (R3:=fun _ H2 x v=>RF g (g.S ow) H1 H2 x v) fun _ _ _ z=>z;obtain⟨z,ez,q5⟩:=x8 q4;obtain⟨z',rfl,ez2⟩:=zf ez;cases ez2;exact⟨acc++[z],n4,(k.trans k3).trans k4,t4,(DatsS.kp ((k3.trans k4).mono Gh.ts) (fun _ z=>.inl z) dd).append (.cons r4 .nil),q5⟩
 ·rw[List.drop_of_length_le (by omega)]at q;have q:AftG (fun _ H2 x v=>RF g (g.S ow) H1 H2 x v) g Er H' (.ok (.list acc) n') Q:=q;refine q (.ref D) _ (Same.new hD).kp ((Same.new hD).twn t) ⟨D,rfl,xz k t hD,Pl.upd,?_⟩;simp only[Dat1];exact⟨D,ys,rfl,id,z7,DatsS.kp (Kp.of (Same.new hD)) (fun b z=>z.elim .inl fun e=>.inr (e▸hD)) dd⟩
theorem zc:∀(σ:St) (H:Hp) (Q:Bool->Hp->Prop),rdG RT K Er mYes σ H Q->tYes σ H Q:=fun σ H Q ⟨g,ow,ρ,n,f,q⟩=>q true H (Kp.refl _ _) f.twn rfl
theorem zp{N N':List Str}{sc scope:Scope}{x:Str}{ifs:List Expr}{px:Pos}{tc:TT}(hc:X.calm=true)(hN:X.N=N)(hsc:X.env.scope=sc)(h:wg N sc scope x N'=true)(htc:∀σ H Q,rdG RT K Er mc σ H Q->tc σ H Q)
  (hi:DI true K Er X (.Name x px) it mi) (hf:∀C s H fp,PF (zT X scope N' C s H fp) ifs tc) (he:∀C s H fp,DE K Er (zT X scope N' C s H fp) elt m)
  (hs:∀x,foldedSetIterable it X.env x=pure x:=by intro _;rfl):DF K Er X (.ListComp elt [⟨.Name x px,it,ifs,0⟩] scope pos) (zw mi mc m):=(z26 hc hN hsc h hi hf he hs).imp fun σ H Q h=>z0V rfl htc h
theorem z0v{N N':List Str}{sc scope:Scope}{x:Str}{ifs:List Expr}{px:Pos}{tc:TT}(hc:X.calm=true)(hN:X.N=N)
  (hcap:∀y:Str,(sc.names.lookup y=some .cell\/sc.names.lookup y=some .free)->(X.env.scope.names.lookup y=some .cell\/X.env.scope.names.lookup y=some .free)) (h:wg N sc scope x N'=true) (htc:∀σ H Q,rdG RT K Er mc σ H Q->tc σ H Q)
  (hi:DI true K Er X (.Name x px) it mi) (hf:∀C s H fp,PF (zT X scope N' C s H fp) ifs tc) (he:∀C s H fp,DE K Er (zT X scope N' C s H fp) elt m)
  (hs:∀x,foldedSetIterable it X.env x=pure x:=by intro _;rfl):DF K Er X (.ListComp elt [⟨.Name x px,it,ifs,0⟩] scope pos) (zw mi mc m):=(z6n hc hN hcap h hi hf he hs).imp fun σ H Q h=>z0V rfl htc h
end
noncomputable def spD(K:W.Frag)(EW:Str->XK->Hp->Prop)(F:List D->Mx D):Sp:=fun vs H Q E=>∃g n ds,g.H0=H/\Scp K g H/\Twn g H n/\(∀a,g.S0 a->H a≠none)/\All2 (Rep g g.U H) ds vs/\
 AftG (fun _ H' d v=>Rep g g.U H' d v) g (fun c H'=>EW c E H') H (F ds n) Q
noncomputable abbrev EW0:Str->XK->Hp->Prop:=fun _ _ _=>False
theorem Rep.shift{g g':Gh}{S S':Addr->Prop}{H:Hp}{d:D}{v:V}(h1:g'.aS=g.aS)(h2:g'.aT=g.aT)(hS:∀a,S' a->S a)(h:Rep g S H d v)(h3:g'.ns=g.ns:=by rfl):Rep g' S' H d v:=by
 cases d with
 | p x=>exact DatS.kp (Kp.refl _ _) (fun a z=>.inl (hS a z)) h
 | scr ns=>show ns=g'.ns/\v=.ref g'.aS;rw[h1,h3];exact h
 | town=>show ∃a,g'.aT=some a/\v=.ref a;rw[h2];exact h
 | fn=>exact h
 | exc a C=>exact⟨h.1,fun z=>h.2.1 (hS a z),h.2.2⟩
noncomputable def imm:PyData->Bool
 | .list _=>false
 | .dict _=>false
 | .tuple ds=>immAll ds
 | _=>true
where immAll:List PyData->Bool
 | []=>true
 | d::r=>imm d && immAll r
mutual
theorem DatS.imm{S S':Addr->Prop}{H:Hp}:∀{d:PyData} {v:V},imm d=true->DatS S H d v->DatS S' H d v
 | .none,_,_,h=>by simp only[DatS]at h |-;exact h
 | .bool _,_,_,h=>by simp only[DatS]at h |-;exact h
 | .int _,_,_,h=>by simp only[DatS]at h |-;exact h
 | .str _,_,_,h=>by simp only[DatS]at h |-;exact h
 | .list _,_,c,_=>by simp[L2.imm]at c
 | .dict _,_,c,_=>by simp[L2.imm]at c
 | .tuple ds,_,c,h=>by
  simp only[DatS]at h |-;obtain⟨a,xs,e,h1,h2⟩:=h;exact⟨a,xs,e,h1,DatsS.imm (by simpa only[L2.imm]using c) h2⟩
theorem DatsS.imm{S S':Addr->Prop}{H:Hp}:∀{ds:List PyData} {xs:List V},imm.immAll ds=true->DatsS S H ds xs->DatsS S' H ds xs
 | [],_,_,h=>by simp only[DatsS]at h |-;exact h
 | _::_,_,c,h=>by
  simp only[DatsS]at h |-;obtain⟨x,r,e,h1,h2⟩:=h;simp only[L2.imm.immAll,Bool.and_eq_true]at c;exact⟨x,r,e,DatS.imm c.1 h1,DatsS.imm c.2 h2⟩
end
noncomputable def immD:D->Bool
 | .p x=>imm x
 | _=>false
section
variable{K:W.Frag}{Er:Str->Hp->Prop}{X:Cx}{e a b c tg it elt:Expr}{es rest:List Expr}{m ma mb:Env'->Mx D}{mc mt:Env'->Mx Bool}{ms:Env'->Mx (List D)}{mi:Env'->Mx (List PyData)}{pos p2:Pos}
noncomputable def zP(F:List D->Mx D)(ms:Env'->Mx (List D)):Env'->Mx D:=fun ρ=>ms ρ >>= F
noncomputable def uq(F:List D->Mx D)(ms:Env'->Mx (List D)):Env'->Mx D:=fun ρ=>ms ρ >>= fun ds=>F ds >>= fun r=>if immD r=true then pure r else Mx.bad
theorem z1q{F:List D->Mx D}{EW:Str->XK->Hp->Prop}{E:XK}(hE:∀c H',Er c H'->EW c E H'){σ:St}{H:Hp}{Q:VK}(h:rdG RE K Er (zP F ms) σ H Q):rdG RA K Er ms σ H fun vs H1=>spD K EW F (vs++[]) H1 Q E:=
 rd1 h (fun _ _ _ _ _ _ _ _ _ _ r=>r) fun g ow ρ n ds vs H0 H1 fr _ r q=>by
  rw[List.append_nil];refine⟨⟨g.aS,g.ns,g.aT,g.S ow,H1⟩,n,ds,rfl,fr.scp,fr.twn,fr.dom,r.imp fun d v z=>z.shift rfl rfl fun a z=>z.elim id fun z=>.inr (.inl z),?_⟩;generalize F ds n=o at q;cases o with
  | ok d n'=>exact fun v H' k t r=>q v H' k t (r.shift rfl rfl fun a z=>.inl z)
  | err c n'=>exact fun H' k t=>hE _ _ (q H' (fr.ext.trans k) t)
  | bad=>exact q
theorem z3u{F:List D->Mx D}{EW:Str->XK->Hp->Prop}{E:XK}(hE:∀c H',Er c H'->EW c E H'){σ:St}{H:Hp}{Q:VK}(h:rdG RE K Er (uq F ms) σ H Q):rdG RAW K Er ms σ H fun vs H1=>spD K EW F (vs++[]) H1 Q E:=
 rd1 h (fun _ _ _ _ _ _ _ _ _ _ r=>r) fun g ow ρ n ds vs H0 H1 fr _ r q=>by
  rw[List.append_nil];have hUS:∀a,g.U a->g.S ow a:=Gh.us;refine⟨⟨g.aS,g.ns,g.aT,g.S0,H1⟩,n,ds,rfl,fr.scp,fr.twn,fun a z=>fr.dom a (.inl z),r.imp fun d v z=>?_,?_⟩
  ·cases d with
   | p x=>
    show DatS (fun b=>g.S0 b\/g.aT=some b) H1 x v;have z:Dat1 g.U (g.S ow) H1 x v:=z;cases x<;>simp only[Dat1]at z
    case list=>obtain⟨a,xs,e,h0,h1,h2⟩:=z;simp only[DatS];exact⟨a,xs,e,h0,h1,DatsS.kp (Kp.refl _ _) (fun a z=>.inl (hUS a z)) h2⟩
    case dict=>obtain⟨a,xs,e,h0,h1,h2⟩:=z;simp only[DatS];exact⟨a,xs,e,h0,h1,DctS.kp (Kp.refl _ _) (fun a z=>.inl (hUS a z)) h2⟩
    all_goals exact DatS.kp (Kp.refl _ _) (fun a z=>.inl (hUS a z)) z
   | scr=>exact z
   | town=>exact z
   | fn=>exact z
   | exc a C=>exact⟨z.1,fun y=>z.2.1 (hUS a y),z.2.2⟩
  ·rw[Mx.bind_def]at q;cases o:F ds n with
   | ok d n'=>
    rw[o]at q;intro v H' k t r;have q:AftG (RE g (g.S ow)) g Er H1 ((if immD d=true then pure d else Mx.bad:Mx D) n') Q:=q;split at q
    next hi=>
     cases d with
     | p x=>exact q v H' k t (DatS.imm (S:=g.U) hi r)
     | scr=>cases hi
     | town=>cases hi
     | fn=>cases hi
     | exc=>cases hi
    next=>exact q.elim
   | err c n'=>rw[o]at q;exact fun H' k t=>hE _ _ (q H' (fr.ext.trans k) t)
   | bad=>rw[o]at q;exact q
theorem zF{F:List D->Mx D}{EW:Str->XK->Hp->Prop}{E:XK}{CX:CXT}{k:Nat}{f:Addr}{fd:FuncData}{ps:List Str}{x:Str}{p:Pos}(Fn:FnOk X.prog X.w X.K X.mg X.base CX k f fd ps (spD K EW F))(hE:∀c H',Er c H'->EW c E H')(hr:Room k X.A)(hg:Gl X x)(hm:X.mg x=some (.ref f))(hk:W.keepIn X.K (.ref f)=true)(hb:Binds X.K fd ps [])(hx:ua CX X E)
  (ha:DA K Er X (e::es) ms) (hdb:(x == ("__debug__":Str))=false:=by decide) (he:starEach (e::es) X.env=(false,eval e X.env)::starEach es X.env:=by rfl) (hpl:(backTo pos (starEach es X.env)).any (·.1)=false:=by rfl) :
  DE K Er X (.Call (.Name x p) (e::es) [] pos) (zP F ms):=(z4C Fn hr hg hm hk hb .nil hx ha hdb he hpl).imp fun σ H Q h=>z1q hE h
theorem z3H{F:List D->Mx D}{EW:Str->XK->Hp->Prop}{E:XK}{CX:CXT}{k:Nat}{f:Addr}{fd:FuncData}{ps:List Str}{x:Str}{p:Pos}(Fn:FnOk X.prog X.w X.K X.mg X.base CX k f fd ps (spD K EW F))(hE:∀c H',Er c H'->EW c E H')(hr:Room k X.A)(hg:Gl X x)(hm:X.mg x=some (.ref f))(hk:W.keepIn X.K (.ref f)=true)(hb:Binds X.K fd ps [])(hx:ua CX X E)
  (ha:DAW K Er X (e::es) ms) (hdb:(x == ("__debug__":Str))=false:=by decide) (he:starEach (e::es) X.env=(false,eval e X.env)::starEach es X.env:=by rfl) (hpl:(backTo pos (starEach es X.env)).any (·.1)=false:=by rfl) :
  DE K Er X (.Call (.Name x p) (e::es) [] pos) (uq F ms):=(z4C Fn hr hg hm hk hb .nil hx ha hdb he hpl).imp fun σ H Q h=>z3u hE h
structure Stp(g:Gh)(ow:Ix->Option Addr)(H:Hp)(ow':Ix->Option Addr)(H':Hp):Prop where
 kp:Kp (g.S ow) H H'
 ow:∀i a,ow' i=some a->(∃j,ow j=some a)\/H a=none
theorem Stp.refl{g:Gh}{ow:Ix->Option Addr}{H:Hp}:Stp g ow H ow H:=⟨Kp.refl _ _,fun i a h=>.inl ⟨i,h⟩⟩
theorem Stp.of{g:Gh}{ow:Ix->Option Addr}{H H':Hp}(k:Kp g.T H H'):Stp g ow H ow H':=⟨k.mono fun a z=>.inr (.inl z),fun i a h=>.inl ⟨i,h⟩⟩
theorem Stp.trans{g:Gh}{ow ow1 ow2:Ix->Option Addr}{H H1 H2:Hp}(dom:∀a,g.S ow1 a->H1 a≠none)(a:Stp g ow H ow1 H1)(b:Stp g ow1 H1 ow2 H2):Stp g ow H ow2 H2:=by
 refine⟨fun c o h k=>?_,fun i x h=>?_⟩
 ·rcases k with k | k
  ·refine b.kp c o (a.kp c o h (.inl k)) (.inl fun z=>?_);rcases z with z | z | ⟨j,z⟩
   ·exact k (.inl z)
   ·exact k (.inr (.inl z))
   ·rcases a.ow j c z with ⟨l,q⟩ | q
    ·exact k (.inr (.inr ⟨l,q⟩))
    ·rw[q]at h;cases h
  ·exact b.kp c o (a.kp c o h (.inr k)) (.inr k)
 ·rcases b.ow i x h with ⟨j,q⟩ | q
  ·exact a.ow j x q
  ·cases z:H x with
   | none=>exact .inr rfl
   | some o=>
    by_cases k:g.S ow x
    ·rcases k with k | k | k
     ·exact absurd q (dom x (.inl k))
     ·exact absurd q (dom x (.inr (.inl k)))
     ·exact .inl k
    ·rw[a.kp x o z (.inl k)]at q;cases q
def AftS(K:W.Frag)(g:Gh)(ow:Ix->Option Addr)(H:Hp)(Er:Str->Hp->Prop)(r:Res Out)(E:Ends):Prop:=match r with
 | .ok (.nx ρ') n'=>∀ow' σ' H',Frm K g ow' ρ' n' σ' H'->Stp g ow H ow' H'->E.nx σ' H'
 | .ok (.bk ρ') n'=>∀ow' σ' H',Frm K g ow' ρ' n' σ' H'->Stp g ow H ow' H'->E.bk σ' H'
 | .ok (.ct ρ') n'=>∀ow' σ' H',Frm K g ow' ρ' n' σ' H'->Stp g ow H ow' H'->E.ct σ' H'
 | .ok (.rt d) n'=>∀v H',Kp g.T g.H0 H'->Twn g H' n'->Rep g g.U H' d v->E.rt v H'
 | .err c n'=>∀H',Kp g.T g.H0 H'->Twn g H' n'->Er c H'
 | .bad=>False
theorem AftS.later{K:W.Frag}{g:Gh}{ow ow1:Ix->Option Addr}{H H1:Hp}{Er:Str->Hp->Prop}{r:Res Out}{E:Ends}(h:AftS K g ow H Er r E)(dom:∀a,g.S ow1 a->H1 a≠none)(s:Stp g ow H ow1 H1):AftS K g ow1 H1 Er r E:=by
 cases r with
 | ok o n=>
  cases o with
  | nx ρ=>exact fun ow' σ' H' f z=>h ow' σ' H' f (s.trans dom z)
  | bk ρ=>exact fun ow' σ' H' f z=>h ow' σ' H' f (s.trans dom z)
  | ct ρ=>exact fun ow' σ' H' f z=>h ow' σ' H' f (s.trans dom z)
  | rt d=>exact h
 | err c n=>exact h
 | bad=>exact h
noncomputable def rdS(K:W.Frag)(Er:Str->Hp->Prop)(m:Env'->Mx Out):TS:=fun E σ H=>∃g ow ρ n,Frm K g ow ρ n σ H/\AftS K g ow H Er (m ρ n) E
noncomputable abbrev DS(K:W.Frag)(Er:Str->Hp->Prop)(X:Cx)(s:Stmt)(m:Env'->Mx Out):Prop:=PS X s (rdS K Er m)
noncomputable abbrev DSs(K:W.Frag)(Er:Str->Hp->Prop)(X:Cx)(s:List Stmt)(m:Env'->Mx Out):Prop:=PSs X s (rdS K Er m)
theorem rs1{γ δ:Type}{R:RG γ δ}{m:Env'->Mx γ}{f:Env'->γ->Mx Out}{σ:St}{H:Hp}{E:Ends}{Z:δ->Hp->Prop}(h:rdS K Er (fun ρ=>m ρ >>= f ρ) E σ H)
  (k:∀g ow ρ n n1 x v H1,Frm K g ow ρ n σ H->Kp g.T H H1->Frm K g ow ρ n1 σ H1->R g (g.S ow) H H1 x v->AftS K g ow H1 Er (f ρ x n1) E->Z v H1):rdG R K Er m σ H Z:=by
 obtain⟨g,ow,ρ,n,fr,q⟩:=h;refine⟨g,ow,ρ,n,fr,?_⟩;dsimp only at q;rw[Mx.bind_def]at q;cases o:m ρ n with
 | ok x n1=>rw[o]at q;exact fun v H1 k1 t1 r1=>k g ow ρ n n1 x v H1 fr k1 (fr.kp k1 t1) r1 (AftS.later q (fr.kp k1 t1).dom (Stp.of k1))
 | err c n1=>rw[o]at q;exact q
 | bad=>rw[o]at q;exact q
theorem rs0{γ δ:Type}{R:RG γ δ}{m:Env'->Mx γ}{f:Env'->γ->Mx Out}{σ:St}{H:Hp}{E:Ends}{Z:δ->Hp->Prop}(h:rdS K Er (fun ρ=>m ρ >>= f ρ) E σ H)
  (k:∀g ow ρ n n1 x v H1,Frm K g ow ρ n σ H->Kp g.T H H1->Frm K g ow ρ n1 σ H1->R g (g.S ow) H H1 x v->AftS K g ow H Er (f ρ x n1) E->Z v H1):rdG R K Er m σ H Z:=by
 obtain⟨g,ow,ρ,n,fr,q⟩:=h;refine⟨g,ow,ρ,n,fr,?_⟩;dsimp only at q;rw[Mx.bind_def]at q;cases o:m ρ n with
 | ok x n1=>rw[o]at q;exact fun v H1 k1 t1 r1=>k g ow ρ n n1 x v H1 fr k1 (fr.kp k1 t1) r1 q
 | err c n1=>rw[o]at q;exact q
 | bad=>rw[o]at q;exact q
noncomputable def sNil:Env'->Mx Out:=fun ρ=>pure (.nx ρ)
noncomputable def sSeq(a b:Env'->Mx Out):Env'->Mx Out:=fun ρ=>a ρ >>= fun o=>match o with
 | .nx ρ'=>b ρ'
 | o=>pure o
variable{st:Stmt}{sts tts:List Stmt}{sa sb:Env'->Mx Out}
theorem yE:DSs K Er X [] sNil:=pss_nil.imp fun σ H E ⟨g,ow,ρ,n,f,q⟩=>q ow σ H f Stp.refl
theorem z6G{E:Ends}{σ:St}{H:Hp}(h:rdS K Er (sSeq sa sb) E σ H):tSeq (rdS K Er sa) (rdS K Er sb) E σ H:=by
 obtain⟨g,ow,ρ,n,f,q⟩:=h;refine⟨g,ow,ρ,n,f,?_⟩;unfold sSeq at q;rw[Mx.bind_def]at q;cases o:sa ρ n with
 | ok x n1=>
  rw[o]at q;cases x with
  | nx ρ'=>exact fun ow' σ' H' f' z=>⟨g,ow',ρ',n1,f',AftS.later q f'.dom z⟩
  | bk ρ'=>exact q
  | ct ρ'=>exact q
  | rt d=>exact q
 | err c n1=>rw[o]at q;exact q
 | bad=>rw[o]at q;exact q
theorem zA(h1:DS K Er X st sa)(h2:DSs K Er X sts sb):DSs K Er X (st::sts) (sSeq sa sb):=(xC h1 h2).imp fun σ H E h=>z6G h
theorem zH(h1:DS K Er X st sa):DSs K Er X [st] sa:=wT h1
noncomputable def sRet(m:Env'->Mx D):Env'->Mx Out:=fun ρ=>m ρ >>= fun d=>pure (.rt d)
theorem Rep1.rep{g:Gh}{ow:Ix->Option Addr}{H:Hp}{d:D}{v:V}(z:Rep1 g (g.S ow) H d v):Rep g g.U H d v:=by
 cases d with
 | p x=>
  show DatS g.U H x v;have z:Dat1 g.U (g.S ow) H x v:=z;have hUS:∀a,g.U a->g.S ow a:=Gh.us;cases x<;>simp only[Dat1]at z
  case list=>obtain⟨a,xs,e,h0,h1,h2⟩:=z;simp only[DatS];exact⟨a,xs,e,h0,h1,DatsS.kp (Kp.refl _ _) (fun a z=>.inl (hUS a z)) h2⟩
  case dict=>obtain⟨a,xs,e,h0,h1,h2⟩:=z;simp only[DatS];exact⟨a,xs,e,h0,h1,DctS.kp (Kp.refl _ _) (fun a z=>.inl (hUS a z)) h2⟩
  all_goals exact DatS.kp (Kp.refl _ _) (fun a z=>.inl (hUS a z)) z
 | scr=>exact z
 | town=>exact z
 | fn=>exact z
 | exc a C=>exact⟨z.1,fun y=>z.2.1 (Gh.us a y),z.2.2⟩
theorem zR(h:DW K Er X e m):DS K Er X (.Return (some e) pos) (sRet m):=(z1C h).imp fun σ H E h=>rs1 h fun g ow ρ n n1 x v H1 f k f1 r q=>q v H1 f1.ext f1.twn (Rep1.rep r)
noncomputable def sIf(c:Env'->Mx Bool)(a b:Env'->Mx Out):Env'->Mx Out:=fun ρ=>c ρ >>= fun t=>if t=true then a ρ else b ρ
theorem xI(hc:DT K Er X c mc)(ha:DSs K Er X sts sa)(hb:DSs K Er X tts sb):DS K Er X (.If c sts tts pos) (sIf mc sa sb):=(z9Y hc ha hb).imp fun σ H E h=>rs1 h fun g ow ρ n n1 x v H1 f k f1 r q=>by
 cases r;cases x with
 | true=>exact ite_tt ⟨g,ow,ρ,n1,f1,q⟩
 | false=>exact ite_ff ⟨g,ow,ρ,n1,f1,q⟩
noncomputable def wu(m:Env'->Mx D):Env'->Mx Out:=fun ρ=>m ρ >>= fun _=>pure (.nx ρ)
theorem yl(h:DE K Er X e m)(hs:swapsWith e none pos.line X.env=pure false:=by rfl):DS K Er X (.Expr e pos) (wu m):=(xK h hs).imp fun σ H E h=>rs1 h fun g ow ρ n n1 x v H1 f k f1 r q=>q ow σ H1 f1 Stp.refl
noncomputable def z1U:Env'->Mx Out:=fun _=>Mx.bad
theorem u4:DS K Er X st z1U:=ps_never.imp fun σ H E ⟨g,ow,ρ,n,f,q⟩=>q
noncomputable def putO(ow:Ix->Option Addr)(i:Nat)(o:Option Addr):Ix->Option Addr:=fun j=>if j.1=i then(if j.2=0 then o else none)else ow j
theorem z0g{ow:Ix->Option Addr}{i:Nat}{o:Option Addr}{j:Ix}(h:j.1≠i):putO ow i o j=ow j:=if_neg h
theorem z40{ow:Ix->Option Addr}{i:Nat}{o:Option Addr}:putO ow i o (i,0)=o:=by unfold putO;rw[if_pos rfl,if_pos rfl]
theorem yo{ow:Ix->Option Addr}{i:Nat}{j:Ix}{a:Addr}(h:putO ow i none j=some a):j.1≠i/\ow j=some a:=by
 unfold putO at h;split at h
 ·split at h<;>cases h
 next c=>exact⟨c,h⟩
theorem yb{ow:Ix->Option Addr}{i:Nat}{p:Addr}{j:Ix}{a:Addr}(h:putO ow i (some p) j=some a):(j=(i,0)/\a=p)\/(j.1≠i/\ow j=some a):=by
 unfold putO at h;split at h
 next c=>
  split at h
  next c2=>cases h;exact .inl ⟨Prod.ext c c2,rfl⟩
  next=>cases h
 next c=>exact .inr ⟨c,h⟩
theorem zS{α:Type}{l:List α}{i j:Nat}{x:α}:(l.set i x)[j]?=if j=i/\i<l.length then some x else l[j]?:=by
 rw[List.getElem?_set];by_cases h:i=j
 ·subst h;by_cases hi:i<l.length
  ·simp[hi]
  ·simp[hi]
 ·rw[if_neg h,if_neg (fun z=>h z.1.symm)]
theorem Frm.setVal{g:Gh}{ow:Ix->Option Addr}{ρ:Env'}{n:Nat}{σ:St}{H:Hp}{d:D}{v:V}{i:Nat}(f:Frm K g ow ρ n σ H)(r:Rep g (g.S ow) H d v):Frm K g (putO ow i none) (ρ.set i (some (Sl.val d))) n (σ.set i (some v)) H:=by
 have hS:∀a,g.S (putO ow i none) a->g.S ow a:=fun a z=>by
  rcases z with z | z | ⟨j,z⟩
  ·exact .inl z
  ·exact .inr (.inl z)
  ·exact .inr (.inr ⟨j,(yo z).2⟩)
 have mv:∀{d v},Rep g (g.S ow) H d v->Rep g (g.S (putO ow i none)) H d v:=fun z=>z.shift rfl rfl hS;refine⟨f.scr,f.twn,f.sub,f.ext,fun j d' e=>?_,fun j x e=>?_,fun j kl e=>?_,fun j a e=>?_,fun j k a h1 h2=>?_,by simp[f.len]⟩
 ·rw[zS]at e;split at e
  next c=>cases e;exact⟨v,by rw[zS,if_pos ⟨c.1,by rw[<-f.len];exact c.2⟩],mv r⟩
  next c=>
   obtain⟨v',e1,r1⟩:=f.val j d' e;exact⟨v',by rw[zS,if_neg (fun z=>c ⟨z.1,by rw[f.len];exact z.2⟩)];exact e1,mv r1⟩
 ·rw[zS]at e;split at e
  next c=>cases e
  next c=>
   obtain⟨a,e0,e1,r1⟩:=f.own j x e;have hj:j≠i:=fun z=>c ⟨z,by
    have:=(List.getElem?_eq_some_iff.mp e).1;rw[<-z];exact this⟩
   refine⟨a,by rw[z0g hj];exact e0,by rw[zS,if_neg (fun z=>hj z.1)];exact e1,?_⟩;exact r1.move (Kp.refl _ _) (fun a z=>.inl (hS a z)) fun b _ _ hb=>⟨fun o z=>z,hb⟩
 ·rw[zS]at e;split at e
  next c=>cases e
  next c=>
   obtain⟨v',e1,r1⟩:=f.dp j kl e;have hj:j≠i:=fun z=>c ⟨z,by
    have:=(List.getElem?_eq_some_iff.mp e).1;rw[<-z];exact this⟩
   exact⟨v',by rw[zS,if_neg (fun z=>hj z.1)];exact e1,r1.move (fun l a z=>by rw[z0g hj];exact z) (fun _ _ _ _ z=>z) (Kp.refl _ _) fun a z=>.inl (hS a z)⟩
 ·obtain⟨h1,h2,h3,h4⟩:=f.owi j a (yo e).2;exact⟨h1,h2,h3,by rw[List.length_set];exact h4⟩
 ·exact f.inj j k a (yo h1).2 (yo h2).2
theorem Stp.put{g:Gh}{ow:Ix->Option Addr}{i:Nat}{H:Hp}:Stp g ow H (putO ow i none) H:=⟨Kp.refl _ _,fun j a h=>.inl ⟨j,(yo h).2⟩⟩
noncomputable def sSet(i:Nat)(m:Env'->Mx D):Env'->Mx Out:=fun ρ=>m ρ >>= fun d=>pure (.nx (ρ.set i (some (Sl.val d))))
theorem zh{i:Nat}{x:Str}{pos':Pos}(hN:X.N.Nodup)(hi:X.N[i]?=some x)(hx:Loc X.env.scope x)(he:DE K Er X e m)(hs:swapsWith e (some (.Name x pos')) pos.line X.env=pure false:=by rfl)(hf:X.fn x=true\/X.env.scope.names.lookup x=some .local:=by first | exact .inl rfl | exact .inr rfl | assumption):
  DS K Er X (.Assign [.Name x pos'] e pos) (sSet i m):=(z06 hN hi hx he hs hf).imp fun σ H E h=>rs1 h fun g ow ρ n n1 d v H1 f k f1 r q=>q _ _ H1 (f1.setVal r) (Stp.put)
end
end L2
namespace L2
open PySem PySem.Spec PyProof.Rows
section
variable{K:W.Frag}{Er:Str->Hp->Prop}{X:Cx}{e a b c tg it elt:Expr}{es rest:List Expr}{m ma mb:Env'->Mx D}{mc mt:Env'->Mx Bool}{ms:Env'->Mx (List D)}{mi:Env'->Mx (List PyData)}{mf:Env'->Mx PyData}{pos p2:Pos}{st:Stmt}{sts tts:List Stmt}{sa sb:Env'->Mx Out}
variable{g:Gh}{ow:Ix->Option Addr}{ρ:Env'}{n n':Nat}{σ:St}{H H' H1:Hp}
theorem Frm.h0(f:Frm K g ow ρ n σ H){p:Addr}(h:H p=none):g.H0 p=none:=xz f.ext f.twn h
theorem Frm.setOwn{x:PyData}{p:Addr}{i:Nat}(f:Frm K g ow ρ n σ H)(hp:H p=none)(k:Kp g.T H H1)(t:Twn g H1 n')(d:Dat1 N0 (fun b=>g.S ow b\/b=p) H1 x (.ref p))(hi:i<ρ.length)(hx:Pl H1 p):Frm K g (putO ow i (some p)) (ρ.set i (some (Sl.own x))) n' (σ.set i (some (.ref p))) H1:=by
 have hS:∀a,g.S (putO ow i (some p)) a->g.S ow a\/H a=none:=fun a z=>by
  rcases z with z | z | ⟨j,z⟩
  ·exact .inl (.inl z)
  ·exact .inl (.inr (.inl z))
  ·rcases yb z with ⟨_,rfl⟩ | ⟨_,z⟩
   ·exact .inr hp
   ·exact .inl (.inr (.inr ⟨j,z⟩))
 have kS:Kp (g.S ow) H H1:=k.mono Gh.ts;have h0:=f.h0 hp;have hT:g.aT≠some p:=fun z=>by rw[f.twn p z]at hp;cases hp
 have hU:¬g.U p:=fun z=>z.elim (fun z=>f.sub p z h0) hT;have hS2:∀a,g.S (putO ow i (some p)) a->(g.S ow a\/a=p)\/H1 a=none:=fun a z=>by
  rcases z with z | z | ⟨j,z⟩
  ·exact .inl (.inl (.inl z))
  ·exact .inl (.inl (.inr (.inl z)))
  ·rcases yb z with ⟨_,rfl⟩ | ⟨_,z⟩
   ·exact .inl (.inr rfl)
   ·exact .inl (.inl (.inr (.inr ⟨j,z⟩)))
 refine⟨f.scr,t,f.sub,f.ext.trans k,fun j d' e=>?_,fun j y e=>?_,fun j kl e=>?_,fun j a e=>?_,fun j l a h1 h2=>?_,by simp[f.len]⟩
 ·rw[zS]at e;split at e
  next c=>cases e
  next c=>
   obtain⟨v',e1,r1⟩:=f.val j d' e;refine⟨v',by rw[zS,if_neg (fun z=>c ⟨z.1,by rw[f.len];exact z.2⟩)];exact e1,r1.kp kS hS⟩
 ·rw[zS]at e;split at e
  next c=>
   cases e;refine⟨p,by rw[c.1,z40],by rw[zS,if_pos ⟨c.1,by rw[<-f.len];exact c.2⟩],?_⟩;exact d.move (Kp.refl _ _) hS2 fun b e _ _=>⟨fun o z=>z,by cases e;exact hU⟩
  next c=>
   obtain⟨a,e0,e1,r1⟩:=f.own j y e;have hj:j≠i:=fun z=>c ⟨z,hi⟩;refine⟨a,by rw[z0g hj];exact e0,by rw[zS,if_neg (fun z=>hj z.1)];exact e1,?_⟩;exact r1.move kS hS fun b e _ hb=>⟨fun o z=>k _ _ z (.inl fun z=>hb (.inr z)),hb⟩
 ·rw[zS]at e;split at e
  next c=>cases e
  next c=>
   obtain⟨v',e1,r1⟩:=f.dp j kl e;have hj:j≠i:=fun z=>c ⟨z,hi⟩;exact⟨v',by rw[zS,if_neg (fun z=>hj z.1)];exact e1,r1.move (fun l a z=>by rw[z0g hj];exact z) (fun l a z o q=>k _ _ q (.inl (f.owi _ a z).2.2.1)) kS hS⟩
 ·rcases yb e with ⟨rfl,rfl⟩ | ⟨_,e⟩
  ·exact⟨h0,hx,hT,by rw[List.length_set];exact hi⟩
  ·obtain⟨h1,h2,h3,h4⟩:=f.owi j a e;exact⟨h1,h2.kp k h3,h3,by rw[List.length_set];exact h4⟩
 ·rcases yb h1 with ⟨z1,z2⟩ | ⟨_,g1⟩
  ·rcases yb h2 with ⟨z3,_⟩ | ⟨_,g2⟩
   ·rw[z1,z3]
   ·exact absurd hp (z2▸(f.owi l _ g2).2.1.some)
  ·rcases yb h2 with ⟨_,z2⟩ | ⟨_,g2⟩
   ·exact absurd hp (z2▸(f.owi j _ g1).2.1.some)
   ·exact f.inj j l a g1 g2
theorem Stp.own{i:Nat}{p:Addr}(hp:H p=none)(k:Kp g.T H H1):Stp g ow H (putO ow i (some p)) H1:=⟨k.mono fun a z=>.inr (.inl z),fun j a h=>by
 rcases yb h with ⟨_,rfl⟩ | ⟨_,h⟩
 ·exact .inr hp
 ·exact .inl ⟨j,h⟩⟩
noncomputable def sOwn(i:Nat)(m:Env'->Mx PyData):Env'->Mx Out:=fun ρ=>m ρ >>= fun x=>if i<ρ.length then pure (.nx (ρ.set i (some (Sl.own x))))else Mx.bad
theorem z6Z{i:Nat}{E:Ends}(h:rdS K Er (sOwn i mf) E σ H):rdG RF K Er mf σ H fun v H1=>E.nx (σ.set i (some v)) H1:=by
 refine rs0 h fun g ow ρ n n1 x v H1 f k f1 r q=>?_;obtain⟨p,rfl,hp,hpl,d⟩:=r;split at q
 next hi=>exact q _ _ _ (f.setOwn hp k f1.twn d hi hpl) (Stp.own hp k)
 next=>exact q.elim
theorem yp{i:Nat}{x:Str}{pos':Pos}(hN:X.N.Nodup)(hi:X.N[i]?=some x)(hx:Loc X.env.scope x)(he:DF K Er X e mf)(hs:swapsWith e (some (.Name x pos')) pos.line X.env=pure false:=by rfl)(hf:X.fn x=true\/X.env.scope.names.lookup x=some .local:=by first | exact .inl rfl | exact .inr rfl | assumption):
  DS K Er X (.Assign [.Name x pos'] e pos) (sOwn i mf):=(z06 hN hi hx he hs hf).imp fun σ H E h=>z6Z h
theorem z0W{i:Nat}{N N':List Str}{sc scope:Scope}{x y:Str}{ifs:List Expr}{px py spos:Pos}{tc:TT}(hc:X.calm=true)(hN:X.N=N)(hsc:X.env.scope=sc)(h:wg N sc scope x N'=true)(hnd:X.N.Nodup)(hy:X.N[i]?=some y)(hl:X.env.scope.names.lookup y=some .local)
  (htc:∀σ H Q,rdG RT K Er mc σ H Q->tc σ H Q) (hi:DI true K Er X (.Name x px) it mi) (hf:∀C s H fp,PF (zT X scope N' C s H fp) ifs tc) (he:∀C s H fp,DE K Er (zT X scope N' C s H fp) elt m)
  (hsw:swapsWith (.ListComp elt [⟨.Name x px,it,ifs,0⟩] scope pos) (some (.Name y py)) spos.line X.env=pure true:=by rfl)
  (hs:∀x,foldedSetIterable it X.env x=pure x:=by intro _;rfl):DS K Er X (.Assign [.Name y py] (.ListComp elt [⟨.Name x px,it,ifs,0⟩] scope pos) spos) (sSet i (mP (zw mi mc m))):=
 (z2F hc hN hsc h hnd hy hl hi hf he hsw hs).imp fun σ H E h=>z0V rfl htc (by
  have e:sSet i (mP (zw mi mc m))=fun ρ=>zw mi mc m ρ >>= fun z=>pure (.nx (ρ.set i (some (Sl.val (.p z))))):=by
   funext ρ;unfold sSet mP;rw[yX];rfl
  rw[e]at h;refine rs1 h fun g ow ρ n n1 z v H1 f k f1 r q=>?_;obtain⟨p,rfl,hp,_,d⟩:=r;have hn:¬g.S ow p:=fun z=>f.dom p z hp;refine q _ _ H1 (f1.setVal ?_) Stp.put;show DatS _ _ z _;cases z<;>simp only[Dat1,DatS]at d |-
  case list=>obtain⟨b,xs,e,_,h1,h2⟩:=d;cases e;exact⟨p,xs,rfl,hn,h1,DatsS.kp (Kp.refl _ _) (fun _ z=>.inl (.inl z)) h2⟩
  case dict=>obtain⟨b,xs,e,_,h1,h2⟩:=d;cases e;exact⟨p,xs,rfl,hn,h1,DctS.kp (Kp.refl _ _) (fun _ z=>.inl (.inl z)) h2⟩
  case tuple=>obtain⟨b,xs,e,h1,h2⟩:=d;exact⟨b,xs,e,h1,DatsS.kp (Kp.refl _ _) (fun _ z=>.inl (.inl z)) h2⟩
  all_goals cases d)
noncomputable def ownL(ρ:Env')(i:Nat):Option (List PyData):=match ρ[i]? with
 | some (some (Sl.own (.list l)))=>some l
 | _=>none
noncomputable def ownD(ρ:Env')(i:Nat):Option (List (PyData×PyData)):=match ρ[i]? with
 | some (some (Sl.own (.dict l)))=>some l
 | _=>none
theorem x9{i:Nat}{l:List PyData}(h:ownL ρ i=some l):ρ[i]?=some (some (Sl.own (.list l))):=by
 unfold ownL at h;split at h
 next l' e=>cases h;exact e
 next=>cases h
theorem z2G{i:Nat}{l:List (PyData×PyData)}(h:ownD ρ i=some l):ρ[i]?=some (some (Sl.own (.dict l))):=by
 unfold ownD at h;split at h
 next l' e=>cases h;exact e
 next=>cases h
theorem Frm.ownLst{i:Nat}{l:List PyData}(f:Frm K g ow ρ n σ H)(h:ownL ρ i=some l):∃a xs,ow (i,0)=some a/\σ[i]?=some (some (.ref a))/\H a=some (.lst xs)/\DatsS (g.S ow) H l xs:=by
 obtain⟨a,e1,e2,d⟩:=f.own i _ (x9 h);simp only[Dat1]at d;obtain⟨b,xs,e,_,h1,h2⟩:=d;cases e;exact⟨a,xs,e1,e2,h1,h2⟩
theorem Frm.kpOwn{i:Ix}{a:Addr}{o:HO}(f:Frm K g ow ρ n σ H)(hi:ow i=some a)(hm:∀xs,H a≠some (.tup xs)):Kp (g.S ow) H (upd H a o):=fun b u h k=>by
 by_cases e:b=a
 ·subst e;rcases k with k | ⟨xs,rfl⟩
  ·exact absurd (.inr (.inr ⟨i,hi⟩)) k
  ·exact absurd h (hm xs)
 ·rw[zB e];exact h
theorem Frm.updOwn{i:Nat}{a:Addr}{x x':PyData}{o:HO}(f:Frm K g ow ρ n σ H)(he:ρ[i]?=some (some (Sl.own x)))(hi:ow (i,0)=some a)(hm:∀xs,H a≠some (.tup xs))(d:Dat1 N0 (g.S ow) (upd H a o) x' (.ref a))(hpl:∀ob u,o≠.frz ob u:=by intro _ _ z;cases z):Frm K g ow (ρ.set i (some (Sl.own x'))) n σ (upd H a o):=by
 have kS:=f.kpOwn (o:=o) hi hm;obtain⟨h0,h1,h2,h3⟩:=f.owi _ a hi;have hU:¬g.U a:=fun z=>z.elim (fun z=>f.sub a z h0) h2;obtain⟨a',ea,es,_⟩:=f.own i x he;rw[hi]at ea;cases ea;refine⟨f.scr,fun b e=>?_,f.sub,fun b u h k=>?_,fun j d' e=>?_,fun j y e=>?_,fun j kl e=>?_,fun j b e=>?_,f.inj,by simp[f.len]⟩
 ·rw[zB (show b≠a from fun z=>h2 (by rw[<-z];exact e))];exact f.twn b e
 ·rw[zB (zM h h0)];exact f.ext b u h k
 ·rw[zS]at e;split at e
  next c=>cases e
  next c=>
   obtain⟨v',e1,r1⟩:=f.val j d' e;exact⟨v',e1,r1.kp kS fun _ z=>.inl z⟩
 ·rw[zS]at e;split at e
  next c=>
   cases e;rw[c.1];exact⟨a,hi,es,d.move (Kp.refl _ _) (fun _ z=>.inl z) fun b e _ _=>⟨fun o z=>z,by cases e;exact hU⟩⟩
  next c=>
   obtain⟨b,e0,e1,r1⟩:=f.own j y e;have hj:j≠i:=fun z=>c ⟨z,h3⟩;have hb:b≠a:=fun z=>hj (congrArg Prod.fst (f.inj (j,0) (i,0) a (z▸e0) hi));refine⟨b,e0,e1,r1.move kS (fun _ z=>.inl z) fun q e _ hq=>⟨fun o z=>by cases e;rw[zB hb];exact z,hq⟩⟩
 ·rw[zS]at e;split at e
  next c=>cases e
  next c=>
   obtain⟨v',e1,r1⟩:=f.dp j kl e;have hj:j≠i:=fun z=>c ⟨z,h3⟩;exact⟨v',e1,r1.move (fun l a z=>z) (fun l b z o q=>by rw[zB (show b≠a from fun y=>hj (congrArg Prod.fst (f.inj (j,l) (i,0) a (y▸z) hi)))];exact q) kS fun _ z=>.inl z⟩
 ·obtain⟨q0,q1,q2,q3⟩:=f.owi j b e;refine⟨q0,?_,q2,by rw[List.length_set];exact q3⟩;by_cases z:b=a
  ·subst z;exact Pl.upd hpl
  ·obtain⟨o,e,n⟩:=q1;exact⟨o,by rw[zB z];exact e,n⟩
theorem Stp.upd{i:Ix}{a:Addr}{o:HO}(f:Frm K g ow ρ n σ H)(hi:ow i=some a)(hm:∀xs,H a≠some (.tup xs)):Stp g ow H ow (upd H a o):=⟨f.kpOwn hi hm,fun j b h=>.inl ⟨j,h⟩⟩
noncomputable def sApp(i:Nat)(m:Env'->Mx D):Env'->Mx Out:=fun ρ=>Mx.opt (ownL ρ i) >>= fun l=>m ρ >>= fun d=>Mx.opt ((onP some d).bind fun y=>if l.length<lim then some (Out.nx (ρ.set i (some (Sl.own (.list (l++[y]))))))else none)
theorem xF{α:Type}{o:Option α}{f:α->Mx Out}{E:Ends}(h:AftS K g ow H Er ((Mx.opt o >>= f) n) E):∃a,o=some a/\AftS K g ow H Er (f a n) E:=by
 cases o with
 | none=>exact h.elim
 | some a=>exact⟨a,rfl,h⟩
theorem rs_o{o:Option Out}{E:Ends}(h:AftS K g ow H Er (Mx.opt o n) E):∃a,o=some a/\AftS K g ow H Er (.ok a n) E:=by
 cases o with
 | none=>exact h.elim
 | some a=>exact⟨a,rfl,h⟩
theorem xD{γ δ:Type}{R:RG γ δ}{m:Mx γ}{f:γ->Mx Out}{E:Ends}{Z:δ->Hp->Prop}(fr:Frm K g ow ρ n σ H)(q:AftS K g ow H Er ((m >>= f) n) E)
  (k:∀n1 x v H1,Kp g.T H H1->Frm K g ow ρ n1 σ H1->R g (g.S ow) H H1 x v->AftS K g ow H1 Er (f x n1) E->Z v H1):AftG (R g (g.S ow)) g Er H (m n) Z:=by
 rw[Mx.bind_def]at q;cases o:m n with
 | ok x n1=>rw[o]at q;exact fun v H1 k1 t1 r1=>k n1 x v H1 k1 (fr.kp k1 t1) r1 (AftS.later q (fr.kp k1 t1).dom (Stp.of k1))
 | err c n1=>rw[o]at q;exact q
 | bad=>rw[o]at q;exact q
theorem not_tup{xs:List V}{a:Addr}(h:H a=some (.lst xs)):∀ys,H a≠some (.tup ys):=fun ys z=>by rw[h]at z;cases z
theorem z2q{i:Nat}(h:PE X e (tBM X.K "list" uY (tVar i) (ym (rdG RE K Er m) tNil)))(hs:swapsWith e none pos.line X.env=pure false:=by rfl):DS K Er X (.Expr e pos) (sApp i m):=(xK h hs).imp fun σ H E h=>by
 obtain⟨g,ow,ρ,n,f,q⟩:=h;obtain⟨l,el,q⟩:=xF q;obtain⟨a,xs,e1,e2,e3,e4⟩:=f.ownLst el;refine⟨.ref a,e2,.inl ⟨rfl,xs,SqL.of e3⟩,g,ow,ρ,n,f,xD f q fun n1 d v H1 k f1 r q=>?_⟩;obtain⟨out,eo,q⟩:=rs_o q;obtain⟨y,ey,eo⟩:=Option.bind_eq_some_iff.mp eo;obtain⟨y',rfl,ey⟩:=zf ey;cases ey;split at eo
 next hl=>
  cases eo;obtain⟨a',xs',g1,g2,g3,g4⟩:=f1.ownLst el;rw[e1]at g1;cases g1;refine⟨a,xs',v,rfl,rfl,g3,Nat.lt_of_lt_of_le (by rw[<-g4.length];exact hl) (y4 (Nat.le_refl _)),?_⟩;have kS:=f1.kpOwn (o:=.lst (xs'++[v])) e1 (not_tup g3);refine q _ _ _ (f1.updOwn (x9 el) e1 (not_tup g3) ?_) (Stp.upd f1 e1 (not_tup g3));simp only[Dat1];exact⟨a,_,rfl,id,z7,(DatsS.kp kS (fun _ z=>.inl z) g4).append (.cons (DatS.kp kS (fun _ z=>.inl z) r) .nil)⟩
 next=>cases eo
end
section
variable{K:W.Frag}{Er:Str->Hp->Prop}{X:Cx}{e a b c tg it elt:Expr}{es rest:List Expr}{m ma mb:Env'->Mx D}{mc mt:Env'->Mx Bool}{ms:Env'->Mx (List D)}{mi:Env'->Mx (List PyData)}{mf:Env'->Mx PyData}{pos p2:Pos}{st:Stmt}{sts tts:List Stmt}{sa sb:Env'->Mx Out}
variable{g:Gh}{ow:Ix->Option Addr}{ρ:Env'}{n n':Nat}{σ:St}{H H' H1:Hp}
noncomputable def sExt(i:Nat)(m:Env'->Mx D):Env'->Mx Out:=fun ρ=>Mx.opt (ownL ρ i) >>= fun l=>m ρ >>= fun d=>Mx.opt ((onP (fun x=>match x with | .list z=>some z | _=>none) d).bind fun z=>if l.length+z.length<=lim then some (Out.nx (ρ.set i (some (Sl.own (.list (l++z))))))else none)
theorem zBR{i:Nat}(h:PE X e (tBM X.K "list" z46 (tVar i) (ym (rdG RE K Er m) tNil)))(hs:swapsWith e none pos.line X.env=pure false:=by rfl):DS K Er X (.Expr e pos) (sExt i m):=(xK h hs).imp fun σ H E h=>by
 obtain⟨g,ow,ρ,n,f,q⟩:=h;obtain⟨l,el,q⟩:=xF q;obtain⟨a,xs,e1,e2,e3,e4⟩:=f.ownLst el;refine⟨.ref a,e2,.inl ⟨rfl,xs,SqL.of e3⟩,g,ow,ρ,n,f,xD f q fun n1 d v H1 k f1 r q=>?_⟩;obtain⟨out,eo,q⟩:=rs_o q;obtain⟨y,ey,eo2⟩:=Option.bind_eq_some_iff.mp eo;obtain⟨y',rfl,ey2⟩:=zf ey;cases y'<;>simp only at ey2<;>cases ey2;split at eo2
 next hl=>
  cases eo2;obtain⟨a',xs',g1,g2,g3,g4⟩:=f1.ownLst el;rw[e1]at g1;cases g1;obtain⟨b,zs,rfl,hb,b1,b2⟩:=(show ∃b zs,v=.ref b/\¬g.S ow b/\H1 b=some (.lst zs)/\DatsS (g.S ow) H1 y zs by simpa only[Rep,DatS]using r);refine⟨a,b,xs',zs,rfl,rfl,g3,b1,y4 (by rw[<-g4.length,<-b2.length];exact hl),?_⟩;have kS:=f1.kpOwn (o:=.lst (xs'++zs)) e1 (not_tup g3);refine q _ _ _ (f1.updOwn (x9 el) e1 (not_tup g3) ?_) (Stp.upd f1 e1 (not_tup g3));simp only[Dat1];exact⟨a,_,rfl,id,z7,(DatsS.kp kS (fun _ z=>.inl z) g4).append (DatsS.kp kS (fun _ z=>.inl z) b2)⟩
 next=>cases eo2
theorem DatsS.erase{S:Addr->Prop}:∀{ds:List PyData} {xs:List V} (k:Nat),DatsS S H ds xs->DatsS S H (ds.eraseIdx k) (xs.eraseIdx k)
 | [],_,_,h=>by simp only[DatsS]at h;subst h;exact .nil
 | _::_,_,0,h=>by
  simp only[DatsS]at h;obtain⟨x,r,rfl,h1,h2⟩:=h;exact h2
 | _::_,_,k+1,h=>by
  simp only[DatsS]at h;obtain⟨x,r,rfl,h1,h2⟩:=h;exact .cons h1 (DatsS.erase k h2)
noncomputable def z1Z(i j:Nat)(m:Env'->Mx D):Env'->Mx Out:=fun ρ=>Mx.opt (ownL ρ j) >>= fun l=>m ρ >>= fun d=>Mx.opt ((onP (fun x=>match x with | .int k=>some k | _=>none) d).bind fun k=>if -1000000<=k/\k<=1000000/\i≠j then(seqIndex? k l.length).bind fun p=>l[p]?.map fun y=>Out.nx ((ρ.set j (some (Sl.own (.list (l.eraseIdx p))))).set i (some (Sl.val (.p y))))else none)
theorem z33{i j:Nat}{x:Str}{pos':Pos}(hN:X.N.Nodup)(hi:X.N[i]?=some x)(hx:Loc X.env.scope x)(h:PE X e (tBM X.K "list" z66 (tVar j) (ym (rdG RE K Er m) tNil)))(hs:swapsWith e (some (.Name x pos')) pos.line X.env=pure false:=by rfl)(hf:X.fn x=true\/X.env.scope.names.lookup x=some .local:=by first | exact .inl rfl | exact .inr rfl | assumption):
  DS K Er X (.Assign [.Name x pos'] e pos) (z1Z i j m):=(z06 hN hi hx h hs hf).imp fun σ H E h=>by
 obtain⟨g,ow,ρ,n,f,q⟩:=h;obtain⟨l,el,q⟩:=xF q;obtain⟨a,xs,e1,e2,e3,e4⟩:=f.ownLst el;refine⟨.ref a,e2,.inl ⟨rfl,xs,SqL.of e3⟩,g,ow,ρ,n,f,xD f q fun n1 d v H1 k f1 r q=>?_⟩;obtain⟨out,eo,q⟩:=rs_o q;obtain⟨y,ey,eo2⟩:=Option.bind_eq_some_iff.mp eo;obtain⟨y',rfl,ey2⟩:=zf ey;cases y'<;>simp only at ey2<;>cases ey2;split at eo2
 next hl=>
  obtain⟨p,ep,eo3⟩:=Option.bind_eq_some_iff.mp eo2;obtain⟨z,ez,eo4⟩:=Option.map_eq_some_iff.mp eo3;subst eo4;obtain⟨a',xs',g1,g2,g3,g4⟩:=f1.ownLst el;rw[e1]at g1;cases g1;obtain⟨u,eu,ru⟩:=g4.get ez;refine⟨a,xs',_,p,u,rfl,by rw[show v=.int _ by simpa only[Rep,DatS]using r],g3,by omega,by omega,by rw[<-g4.length];exact ep,eu,?_⟩;have kS:=f1.kpOwn (o:=.lst (xs'.eraseIdx p)) e1 (not_tup g3);have f2:=f1.updOwn (o:=.lst (xs'.eraseIdx p)) (x':=.list (l.eraseIdx p)) (x9 el) e1 (not_tup g3) (by
   simp only[Dat1];exact⟨a,_,rfl,id,z7,DatsS.kp kS (fun _ z=>.inl z) (g4.erase p)⟩)
  exact q _ _ _ (f2.setVal (i:=i) (d:=.p z) (DatS.kp kS (fun _ z=>.inl z) ru)) ((Stp.upd f1 e1 (not_tup g3)).trans f2.dom Stp.put)
 next=>cases eo2
noncomputable def sPop(i j:Nat):Env'->Mx Out:=fun ρ=>Mx.opt (ownL ρ j) >>= fun l=>Mx.opt (if i≠j then l[l.length - 1]?.map fun y=>Out.nx ((ρ.set j (some (Sl.own (.list l.dropLast)))).set i (some (Sl.val (.p y))))else none)
theorem DatsS.dropLast{S:Addr->Prop}{ds:List PyData}{xs:List V}(h:DatsS S H ds xs):DatsS S H ds.dropLast xs.dropLast:=by
 rw[List.dropLast_eq_take,List.dropLast_eq_take,h.length];exact h.take _
theorem zB1{i j:Nat}{x:Str}{pos':Pos}(hN:X.N.Nodup)(hi:X.N[i]?=some x)(hx:Loc X.env.scope x)(h:PE X e (tBM0 X.K "list" rPop (tVar j)))(hs:swapsWith e (some (.Name x pos')) pos.line X.env=pure false:=by rfl)(hf:X.fn x=true\/X.env.scope.names.lookup x=some .local:=by first | exact .inl rfl | exact .inr rfl | assumption):
  DS K Er X (.Assign [.Name x pos'] e pos) (sPop i j):=(z06 hN hi hx h hs hf).imp fun σ H E h=>by
 obtain⟨g,ow,ρ,n,f,q⟩:=h;obtain⟨l,el,q⟩:=xF q;obtain⟨a,xs,e1,e2,e3,e4⟩:=f.ownLst el;obtain⟨out,eo,q⟩:=rs_o q;split at eo
 next hl=>
  obtain⟨z,ez,eo⟩:=Option.map_eq_some_iff.mp eo;subst eo;obtain⟨u,eu,ru⟩:=e4.get ez;refine⟨.ref a,e2,.inl ⟨rfl,xs,SqL.of e3⟩,a,xs,u,rfl,rfl,e3,by rw[<-e4.length];exact eu,?_⟩;have kS:=f.kpOwn (o:=.lst xs.dropLast) e1 (not_tup e3);have f2:=f.updOwn (o:=.lst xs.dropLast) (x':=.list l.dropLast) (x9 el) e1 (not_tup e3) (by
   simp only[Dat1];exact⟨a,_,rfl,id,z7,DatsS.kp kS (fun _ z=>.inl z) e4.dropLast⟩)
  exact q _ _ _ (f2.setVal (i:=i) (d:=.p z) (DatS.kp kS (fun _ z=>.inl z) ru)) ((Stp.upd f e1 (not_tup e3)).trans f2.dom Stp.put)
 next=>cases eo
noncomputable def rdTg(K:W.Frag)(τ:Env'->PyData->Option Env'):TG:=fun v σ H Q=>∃g ow ρ n d ρ',Frm K g ow ρ n σ H/\DatS (g.S ow) H d v/\τ ρ d=some ρ'/\∀ow' σ',Frm K g ow' ρ' n σ' H->Stp g ow H ow' H->Q σ' H
noncomputable abbrev DTg(K:W.Frag)(X:Cx)(tg:Expr)(τ:Env'->PyData->Option Env'):Prop:=PG X tg (rdTg K τ)
theorem PG.imp{t t':TG}(h:PG X tg t)(k:∀v σ H Q,t' v σ H Q->t v σ H Q):PG X tg t':=fun pins s σ H v u Q I r q=>h pins s σ H v u Q I r (k v σ H Q q)
noncomputable def τ1(i:Nat):Env'->PyData->Option Env':=fun ρ d=>some (ρ.set i (some (Sl.val (.p d))))
theorem yO{i:Nat}(h:PG X tg (z12 i)):DTg K X tg (τ1 i):=h.imp fun v σ H Q ⟨g,ow,ρ,n,d,ρ',f,r,e,q⟩=>by
 cases e;exact q _ _ (f.setVal (d:=.p d) r) Stp.put
noncomputable def wj(k:Env'->Mx Out):Out->Mx Out
 | .nx ρ=>k ρ
 | .ct ρ=>k ρ
 | .bk ρ=>pure (.nx ρ)
 | .rt d=>pure (.rt d)
noncomputable def xQ(τ:Env'->PyData->Option Env')(body:Env'->Mx Out):List PyData->Env'->Mx Out
 | [],ρ=>pure (.nx ρ)
 | d::r,ρ=>Mx.opt (τ ρ d) >>= fun ρ1=>body ρ1 >>= wj (xQ τ body r)
noncomputable def sFor(mi:Env'->Mx (List PyData))(τ:Env'->PyData->Option Env')(body:Env'->Mx Out):Env'->Mx Out:=fun ρ=>mi ρ >>= fun ds=>xQ τ body ds ρ
theorem z1Q{E:Ends}{k:Env'->Mx Out}{mm:Mx Out}{N:St->Hp->Prop}(q:AftS K g ow H Er ((mm >>= wj k) n) E)
  (hN:∀ow' ρ' n' σ' H',Frm K g ow' ρ' n' σ' H'->Stp g ow H ow' H'->AftS K g ow' H' Er (k ρ' n') E->N σ' H'):AftS K g ow H Er (mm n) { E with nx:=N,ct:=N,bk:=E.nx }:=by
 rw[Mx.bind_def]at q;cases r:mm n with
 | ok o n'=>
  rw[r]at q;cases o with
  | nx ρ2=>exact fun ow' σ' H' f s=>hN ow' ρ2 n' σ' H' f s (AftS.later q f.dom s)
  | ct ρ2=>exact fun ow' σ' H' f s=>hN ow' ρ2 n' σ' H' f s (AftS.later q f.dom s)
  | bk ρ2=>exact q
  | rt d=>exact q
 | err c n'=>rw[r]at q;exact q
 | bad=>rw[r]at q;exact q
theorem z7R{τ:Env'->PyData->Option Env'}{E:Ends}(h:rdS K Er (sFor mi τ sa) E σ H):tFor (rdG (RI false) K Er mi) (rdTg K τ) (rdS K Er sa) E σ H:=by
 refine rs1 h fun g ow ρ n n1 ds J H1 f _ f1 ⟨hl,xs,hd,wk⟩ q=>?_;rw[if_neg Bool.false_ne_true]at wk;have hlen:=hd.length;refine⟨fun i mm σ' H'=>mm=xs.length - i/\i<=xs.length/\∃ow' ρ' n',Frm K g ow' ρ' n' σ' H'/\Stp g ow H1 ow' H'/\AftS K g ow' H' Er (xQ τ sa (ds.drop i) ρ' n') E,⟨xs.length,by simp,Nat.zero_le _,ow,ρ,n1,f1,Stp.refl,q⟩,?_⟩;rintro i mm σ' H' ⟨rfl,hi,ow',ρ',n',f',s',q'⟩;by_cases hlt:i<xs.length
 ·refine .inr ⟨wk.go i H' s'.kp hlt,fun σ2 H2=>∃ow2 ρ2 n2,Frm K g ow2 ρ2 n2 σ2 H2/\Stp g ow H1 ow2 H2/\AftS K g ow2 H2 Er (xQ τ sa (ds.drop (i+1)) ρ2 n2) E,fun σ2 H2 p=>⟨xs.length - (i+1),by omega,rfl,hlt,p⟩,fun x H2 y=>?_⟩;obtain⟨rfl,hx⟩:=wk.yld i H' x H2 s'.kp y;have hx:=hx hlt;have hid:i<ds.length:=by omega
  obtain⟨v',ev,rv⟩:=hd.get (List.getElem?_eq_getElem hid);rw[hx]at ev;cases ev;rw[List.drop_eq_getElem_cons hid]at q';simp only[xQ]at q';obtain⟨ρ1,e1,q1⟩:=xF q';have rv':DatS (g.S ow') H2 ds[i] x:=DatS.kp s'.kp (fun a z=>by
   rcases z with z | z | ⟨l,z⟩
   ·exact .inl (.inl z)
   ·exact .inl (.inr (.inl z))
   ·rcases s'.ow l a z with q | q
    ·exact .inl (.inr (.inr q))
    ·exact .inr q) rv
  refine⟨g,ow',ρ',n',ds[i],ρ1,f',rv',e1,fun ow3 σ3 f3 s3=>⟨g,ow3,ρ1,n',f3,?_⟩⟩;refine z1Q (k:=xQ τ sa (ds.drop (i+1))) (AftS.later q1 f3.dom s3) fun ow4 ρ4 n4 σ4 H4 f4 s4 q4=>⟨ow4,ρ4,n4,f4,s'.trans f'.dom (s3.trans f3.dom s4),q4⟩
 ·have e:i=xs.length:=by omega
  subst e;rw[List.drop_of_length_le (by omega)]at q';exact .inl ⟨wk.stop H' s'.kp,q' ow' σ' H' f' Stp.refl⟩
theorem xG{τ:Env'->PyData->Option Env'}(hp:PassesOwn (model X.prog X.w) X.A X.env X.xe)(hc:X.calm=true)(hi:DI false K Er X tg it mi)(hg:DTg K X tg τ)(hb:DSs K Er X sts sa)(hs:∀x,foldedSetIterable it X.env x=pure x:=by intro _;rfl):DS K Er X (.For tg it sts [] pos) (sFor mi τ sa):=
 (z7g hp hc hi hg hb hs).imp fun σ H E h=>z7R h
noncomputable def uf(c:Env'->Mx Bool)(body:Env'->Mx Out):Nat->Env'->Mx Out
 | 0,_=>Mx.bad
 | k+1,ρ=>c ρ >>= fun t=>if t=true then(body ρ >>= wj (uf c body k))else pure (.nx ρ)
noncomputable def wD(k:Nat)(c:Env'->Mx Bool)(body:Env'->Mx Out):Env'->Mx Out:=fun ρ=>uf c body k ρ
theorem z3V{k:Nat}{E:Ends}(h:rdS K Er (wD k mc sa) E σ H):z88 (rdG RT K Er mc) (rdS K Er sa) E σ H:=by
 obtain⟨g,ow,ρ,n,f,q⟩:=h;refine⟨fun mm σ' H'=>∃ow' ρ' n',Frm K g ow' ρ' n' σ' H'/\AftS K g ow' H' Er (uf mc sa mm ρ' n') E,⟨k,ow,ρ,n,f,q⟩,?_⟩;rintro mm σ' H' ⟨ow',ρ',n',f',q'⟩;cases mm with
 | zero=>exact q'.elim
 | succ mm=>
  simp only[uf]at q';refine⟨g,ow',ρ',n',f',xD f' q' fun n1 t t' H1 k1 f1 r1 q1=>?_⟩;cases r1;cases t with
  | false=>exact ite_ff (q1 ow' σ' H1 f1 Stp.refl)
  | true=>
   refine ite_tt ⟨fun σ2 H2=>∃ow2 ρ2 n2,Frm K g ow2 ρ2 n2 σ2 H2/\AftS K g ow2 H2 Er (uf mc sa mm ρ2 n2) E,fun σ2 H2 p=>⟨mm,Nat.lt_succ_self _,p⟩,g,ow',ρ',n1,f1,?_⟩;have q1:AftS K g ow' H1 Er ((sa ρ' >>= wj (uf mc sa mm)) n1) E:=q1;exact z1Q (k:=uf mc sa mm) q1 fun ow4 ρ4 n4 σ4 H4 f4 s4 q4=>⟨ow4,ρ4,n4,f4,q4⟩
theorem ww{k:Nat}(hp:PassesOwn (model X.prog X.w) X.A X.env X.xe)(hc:DT K Er X c mc)(hb:DSs K Er X sts sa):DS K Er X (.While c sts [] pos) (wD k mc sa):=(z7S hp hc hb).imp fun σ H E h=>z3V h
end
noncomputable def outD:Out->Mx D
 | .rt d=>pure d
 | .nx _=>pure (.p .none)
 | _=>Mx.bad
noncomputable def mFn(nn ar:Nat)(m:Env'->Mx Out)(ds:List D):Mx D:=if ds.length=ar then(m (ds.map (fun d=>some (Sl.val d))++List.replicate (nn - ar) none) >>= outD)else Mx.bad
theorem z4G{K:W.Frag}{g:Gh}{n nn:Nat}{ds:List D}{vs:List V}{H:Hp}(h0:g.H0=H)(hs:Scp K g H)(ht:Twn g H n)(hd:∀a,g.S0 a->H a≠none)(r:All2 (Rep g g.U H) ds vs):
  Frm K g (fun _=>none) (ds.map (fun d=>some (Sl.val d))++List.replicate (nn - ds.length) none) n (vs.map some++List.replicate (nn - vs.length) none) H:=by
 have hl:=r.length;have hS:∀a,g.S (fun _=>none) a->g.U a:=fun a z=>z.elim .inl fun z=>z.elim .inr fun⟨_,z⟩=>nomatch z;have get:∀{ds:List D} {vs:List V},All2 (Rep g g.U H) ds vs->∀(i:Nat) (d:D),ds[i]?=some d->∃v,vs[i]?=some v/\Rep g g.U H d v:=by
  intro ds vs r
  induction r with
  | nil=>intro i d e;simp at e
  | cons r1 _ ih=>
   intro i d e;cases i with
   | zero=>simp at e;subst e;exact⟨_,rfl,r1⟩
   | succ i=>simpa using ih i d (by simpa using e)
 have part:∀(i:Nat) (s:Sl),(ds.map (fun d=>some (Sl.val d))++List.replicate (nn - ds.length) none)[i]?=some (some s)->∃d,ds[i]?=some d/\s=Sl.val d:=fun i s e=>by
  by_cases hi:i<ds.length
  ·rw[List.getElem?_append_left (by simpa using hi),List.getElem?_map,List.getElem?_eq_getElem hi]at e;cases e;exact⟨_,List.getElem?_eq_getElem hi,rfl⟩
  ·rw[List.getElem?_append_right (by simpa using hi),List.getElem?_replicate]at e;split at e<;>cases e
 refine⟨by rw[h0];exact hs,ht,by rw[h0];exact hd,by rw[h0];exact Kp.refl _ _,fun i d e=>?_,fun i x e=>?_,fun i kl e=>?_,fun i a e=>(nomatch e),fun i j a e=>(nomatch e),by simp[hl]⟩
 ·obtain⟨d',e1,e2⟩:=part i _ e;cases e2;obtain⟨v,e3,r3⟩:=get r i d e1;have hi:i<vs.length:=(List.getElem?_eq_some_iff.mp e3).1;exact⟨v,by rw[List.getElem?_append_left (by simpa using hi),List.getElem?_map,e3];rfl,r3.shift rfl rfl hS⟩
 ·obtain⟨d',e1,e2⟩:=part i _ e;cases e2
 ·obtain⟨d',e1,e2⟩:=part i _ e;cases e2
section
variable{P:Program}{w:World}{K:W.Frag}{mg:Str->Option Value}{base:Heap}
theorem zBc{x qual:Str}{st:Stmt}{f:Addr}{fd:FuncData}{N ps:List Str}{k:Nat}{m:Env'->Mx Out}(F:Fun K x qual st f fd)(S:FnScope N ps (z6 st))
  (h:∀(cdv:Value) (A:Around) (outer:List Env) (s:Shared) (H:Hp) (E:XK),Room k (A.deeper (envOfC qual (z6 st) s.heap.objs.size f cdv))->DSs K (fun _ _=>False) (cxOf CX0 P w K mg base N qual (z6 st) f cdv A outer s H E).nox (yH st) m) :
  FnOk P w K mg base CX0 (k+1) f fd ps (spD K EW0 (mFn N.length ps.length m)):=by
 have alen:∀{vs:List V} {H:Hp} {Q:VK} {E:XK},spD K EW0 (mFn N.length ps.length m) vs H Q E->vs.length=ps.length:=fun{vs H Q E} ⟨g,n,ds,_,_,_,_,r,q⟩=>by
  by_cases e:ds.length=ps.length
  ·rw[<-r.length];exact e
  ·unfold mFn at q;rw[if_neg e]at q;exact q.elim
 refine F.ok S (fun vs H Q E h=>alen h) fun cdv A outer s H vs Q E hr hsp=>⟨_,h cdv A outer s H E hr,?_⟩;have hl:=alen hsp;obtain⟨g,n,ds,h0,hs,ht,hd,r,q⟩:=hsp;have e:ds.length=ps.length:=by rw[r.length];exact hl
 unfold mFn at q;rw[if_pos e,<-e]at q;refine⟨g,fun _=>none,ds.map (fun d=>some (Sl.val d))++List.replicate (N.length - ds.length) none,n,?_,?_⟩
 ·exact z4G (nn:=N.length) h0 hs ht hd r
 ·rw[Mx.bind_def]at q;subst h0;cases o:m (ds.map (fun d=>some (Sl.val d))++List.replicate (N.length - ds.length) none) n with
  | ok out n'=>
   rw[o]at q;cases out with
   | nx ρ=>exact fun ow' σ' H' f' _=>q .non H' f'.ext f'.twn (dn:DatS g.U H' .none .non)
   | rt d=>exact fun v H' k t r=>q v H' k t r
   | bk ρ=>exact q.elim
   | ct ρ=>exact q.elim
  | err c n'=>rw[o]at q;exact fun H' k t=>(q H' k t).elim
  | bad=>rw[o]at q;exact q
theorem zV{x qual:Str}{st:Stmt}{f:Addr}{fd:FuncData}{N ps:List Str}{k nn ar:Nat}{m:Env'->Mx Out}{F':List D->Mx D}(F:Fun K x qual st f fd)(S:FnScope N ps (z6 st))(hn:N.length=nn)(ha:ps.length=ar)(hF:F'=mFn nn ar m)
  (h:∀(cdv:Value) (A:Around) (outer:List Env) (s:Shared) (H:Hp) (E:XK),Room k (A.deeper (envOfC qual (z6 st) s.heap.objs.size f cdv))->DSs K (fun _ _=>False) (cxOf CX0 P w K mg base N qual (z6 st) f cdv A outer s H E).nox (yH st) m) :
  FnOk P w K mg base CX0 (k+1) f fd ps (spD K EW0 F'):=by
 subst hn ha hF;exact zBc F S h
end
section
variable{K:W.Frag}{Er:Str->Hp->Prop}{X:Cx}{e a b c tg it elt:Expr}{es rest:List Expr}{m ma mb mz:Env'->Mx D}{mc mt:Env'->Mx Bool}{ms:Env'->Mx (List D)}{mi:Env'->Mx (List PyData)}{mf:Env'->Mx PyData}{pos p2:Pos}{st:Stmt}{sts tts:List Stmt}{sa sb:Env'->Mx Out}
variable{g:Gh}{ow:Ix->Option Addr}{ρ:Env'}{n n':Nat}{σ:St}{H H' H1:Hp}
noncomputable def bool?:PyData->Option Bool
 | .bool b=>some b
 | _=>none
theorem bool?_eq{x:PyData}{k:Bool}(h:bool? x=some k):x=.bool k:=by
 cases x<;>simp only[bool?]at h<;>cases h;rfl
noncomputable def z1W(f f':PyData->PyData->Option PyData)(a b c:Env'->Mx D):Env'->Mx D:=fun ρ=>a ρ >>= fun x=>b ρ >>= fun y=>Mx.opt ((onP2 f x y).bind bool?) >>= fun k=>if k=true then(c ρ >>= fun z=>Mx.opt ((onP2 f' y z).map D.p))else pure (.p (.bool false))
theorem z3T{f f':PyData->PyData->Option PyData}{Q:VK}(h:rdG RE K Er (z1W f f' ma mb mz) σ H Q):z84 (rD2 f) (rD2 f') (rdG RW K Er ma) (rdG RW K Er mb) (rdG RW K Er mz) σ H Q:=by
 refine rd1 h (fun _ _ _ _ _ _ _ _ _ _ r=>r) fun g ow ρ n x v H0 H1 fr _ r q=>?_;refine⟨g,ow,ρ,n,fr,AftG.bind q fun y n2 u H2 k2 t2 r2 c2=>?_⟩;have fr2:=fr.kp k2 t2;obtain⟨k,e,q2⟩:=x8 (c2 (R3:=RE g (g.S ow)) fun _ _ _ z=>z);obtain⟨z,e1,e2⟩:=Option.bind_eq_some_iff.mp e;obtain⟨x',y',rfl,rfl,e3⟩:=zo e1;cases bool?_eq e2;have rx:=Rep1.kp k2 Gh.us r;refine⟨g.S ow,x',y',_,fr2.dom,Dat1.weak (Rep1.d1 rx),Dat1.weak (Rep1.d1 r2),e3,fun v3 H3 s3 d3=>⟨k,by simpa only[DatS]using d3,?_⟩⟩;have fr3:=fr2.kp (s3.kp) (s3.twn t2);cases k with
 | false=>exact ite_ff (q2 _ _ s3.kp (s3.twn t2) rb)
 | true=>
  have q3:AftG (RE g (g.S ow)) g Er H2 ((mz ρ >>= fun z=>Mx.opt ((onP2 f' (.p y') z).map D.p)) n2) Q:=q2;have q3:AftG (RE g (g.S ow)) g Er H3 ((mz ρ >>= fun z=>Mx.opt ((onP2 f' (.p y') z).map D.p)) n2) Q:=by
   generalize((mz ρ >>= fun z=>Mx.opt ((onP2 f' (.p y') z).map D.p)) n2)=o at q3;cases o with
   | ok d n4=>exact fun v4 H4 k4 t4 r4=>q3 v4 H4 (s3.kp.trans k4) t4 r4
   | err c n4=>exact q3
   | bad=>exact q3
  refine ite_tt ⟨g,ow,ρ,n2,fr3,AftG.bind q3 fun z n4 w H4 k4 t4 r4 c4=>?_⟩;obtain⟨r',e5,q5⟩:=yk t4 (c4 (R3:=RE g (g.S ow)) fun _ _ _ z=>z);obtain⟨y2,z',ey,rfl,e6⟩:=zo e5;cases ey;exact⟨g.S ow,y',z',r',(fr3.kp k4 t4).dom,Dat1.weak (Rep1.d1 (Rep1.kp k4 Gh.us (Rep1.kp s3.kp Gh.us r2))),Dat1.weak (Rep1.d1 r4),e6,q5⟩
theorem z3G{op op':CmpOp}{f f':PyData->PyData->Option PyData}(ho:OpR X (compareOp op) (rD2 f))(ho':OpR X (compareOp op') (rD2 f'))(ha:DW K Er X a ma)(hb:DW K Er X b mb)(hc:DW K Er X c mz)
  (hm:lastMarks [op,op'] [b,c]=false:=by with_unfolding_all rfl):DE K Er X (.Compare a [op,op'] [b,c] pos) (z1W f f' ma mb mz):=(z7b ho ho' ha hb hc hm).imp fun σ H Q h=>z3T h
noncomputable def fIsi:String->PyData->Option PyData
 | _,.dict _=>none
 | "bool",.bool _=>some (.bool true)
 | "bool",_=>some (.bool false)
 | "int",.bool _=>some (.bool true)
 | "int",.int _=>some (.bool true)
 | "int",_=>some (.bool false)
 | "tuple",.tuple _=>some (.bool true)
 | "tuple",_=>some (.bool false)
 | "list",.list _=>some (.bool true)
 | "list",_=>some (.bool false)
 | "str",.str _=>some (.bool true)
 | "str",_=>some (.bool false)
 | "dict",_=>some (.bool false)
 | _,_=>none
noncomputable def tyN:PyData->String
 | .none=>"NoneType"
 | .bool _=>"bool"
 | .int _=>"int"
 | .str _=>"str"
 | .list _=>"list"
 | .tuple _=>"tuple"
 | .dict _=>"dict"
noncomputable def z8n:PyData->Bool
 | .dict _=>false
 | _=>true
theorem zBx{T S:Addr->Prop}{d:PyData}{v:V}(hd:z8n d=true)(h:Dat1 T S H d v):TyOf K H v (.type (tyN d)):=by
 cases d with
 | none=>cases z4P h;exact .non
 | bool b=>cases z7T h;exact .bl _
 | int i=>cases za h;exact .int _
 | str x=>cases z1j h;exact .str _
 | list ds=>obtain⟨a,xs,rfl,h1,_⟩:=yD h;exact .lst h1
 | tuple ds=>obtain⟨a,xs,rfl,h1,_⟩:=yF h;exact .tup h1
 | dict ds=>
  obtain⟨a,xs,rfl,h1,_⟩:=ul h;exact(nomatch hd)
def IsiT(K:W.Frag)(T:String):Prop:=∀d:PyData,(z8n d=false/\fIsi T d=none)\/∃b,z8n d=true/\fIsi T d=some (.bool b)/\W.kitOne K (.type (tyN d)) (.type T)=some b
theorem z6T:IsiT K "bool":=fun d=>by cases d<;>first | exact .inl ⟨rfl,rfl⟩ | exact .inr ⟨_,rfl,rfl,rfl⟩
theorem z8w:IsiT K "int":=fun d=>by cases d<;>first | exact .inl ⟨rfl,rfl⟩ | exact .inr ⟨_,rfl,rfl,rfl⟩
theorem uR:IsiT K "tuple":=fun d=>by cases d<;>first | exact .inl ⟨rfl,rfl⟩ | exact .inr ⟨_,rfl,rfl,rfl⟩
theorem z1V{T:String}(hT:IsiT X.K T)(h:PE X e (tCB (fun xs H Q=>∃(x:V) (t:Value) (T:String) (b:Bool),xs=[x,.ty T]/\TyOf X.K H x t/\W.kitOne X.K t (.type T)=some b/\Q (.bl b) H) (ym (rdG RW K Er m) (ym (tC (.ty T)) tNil)))):DE K Er X e (mUn (fIsi T) m):=h.imp fun σ H Q h=>rd1 h (fun _ _ _ _ _ _ _ _ _ _ r=>r) fun g ow ρ n d v H0 H2 fr _ r q=>by
 obtain⟨z,e,q2⟩:=yk fr.twn q;obtain⟨x,rfl,e1⟩:=zf e;rcases hT x with ⟨_,e2⟩ | ⟨b,hd,e2,e3⟩
 ·rw[e2]at e1;cases e1
 rw[e2]at e1;cases e1;exact⟨v,_,T,b,rfl,zBx hd (Rep1.d1 r),e3,q2 _ _ (Same.refl _) db⟩
theorem zC4{i:Nat}{a:Addr}(z:g.S (putO ow i none) a):g.S ow a:=by
 rcases z with z | z | ⟨l,z⟩
 ·exact .inl z
 ·exact .inr (.inl z)
 ·exact .inr (.inr ⟨l,(yo z).2⟩)
end
section
variable{K:W.Frag}{Er:Str->Hp->Prop}{X:Cx}{e:Expr}{m:Env'->Mx D}{pos:Pos}
variable{g:Gh}{ow:Ix->Option Addr}{ρ:Env'}{n n':Nat}{σ:St}{H H' H1:Hp}
noncomputable def u8:Option (Option Sl)->Bool
 | some (some (Sl.val .town))=>true
 | _=>false
theorem z5G{o:Option (Option Sl)}(h:u8 o=true):o=some (some (Sl.val .town)):=by
 unfold u8 at h;split at h
 ·rfl
 ·cases h
theorem Frm.town{i:Nat}(f:Frm K g ow ρ n σ H)(h:u8 ρ[i]?=true):∃a,g.aT=some a/\σ[i]?=some (some (.ref a))/\H a=some (.lst (List.replicate n (.int 0))):=by
 obtain⟨v,e1,a,e2,e3⟩:=f.val i .town (z5G h);subst e3;exact⟨a,e2,e1,f.twn a e2⟩
noncomputable def z4Y(i:Nat):Env'->Mx Out:=fun ρ n=>if u8 ρ[i]?=true/\n<lim then .ok (.nx ρ) (n+1)else .bad
theorem z9N{i:Nat}(h:PE X e (tBM X.K "list" uY (tVar i) (ym (tC (.int 0)) tNil)))(hs:swapsWith e none pos.line X.env=pure false:=by rfl):DS K Er X (.Expr e pos) (z4Y i):=(xK h hs).imp fun σ H E h=>by
 obtain⟨g,ow,ρ,n,f,q⟩:=h;unfold z4Y at q;split at q
 next c=>
  obtain⟨a,e1,e2,e3⟩:=f.town c.1;refine⟨.ref a,e2,.inl ⟨rfl,_,SqL.of e3⟩,a,_,.int 0,rfl,rfl,e3,Nat.lt_of_lt_of_le (by rw[List.length_replicate];exact c.2) (y4 (Nat.le_refl _)),?_⟩;have k:Kp g.T H (upd H a (.lst (List.replicate n (.int 0)++[.int 0]))):=fun b o hb z=>by
   by_cases eb:b=a
   ·subst eb;rcases z with z | ⟨xs,rfl⟩
    ·exact absurd e1 z
    ·rw[e3]at hb;cases hb
   ·rw[zB eb];exact hb
  have t:Twn g (upd H a (.lst (List.replicate n (.int 0)++[.int 0]))) (n+1):=fun b eb=>by
   rw[e1]at eb;cases eb;rw[z7,List.replicate_succ']
  exact q ow σ _ (f.kp k t) (Stp.of k)
 next=>exact q.elim
noncomputable def z5B(i:Nat):Env'->Mx D:=fun ρ n=>if u8 ρ[i]?=true then .ok (.p (.int n)) n else .bad
theorem z9D{i:Nat}(h:PE X e (tCB (fun xs H Q=>∃p ys,xs=[.ref p]/\(SqL X.K H p ys\/SqT X.K H p ys)/\Q (.int ys.length) H) (ym (tVar i) tNil))):DE K Er X e (z5B i):=h.imp fun σ H Q ⟨g,ow,ρ,n,f,q⟩=>by
 unfold z5B at q;split at q
 next c=>
  obtain⟨a,e1,e2,e3⟩:=f.town c;exact⟨.ref a,e2,a,_,rfl,.inl (SqL.of e3),q _ _ (Kp.refl _ _) f.twn (by rw[List.length_replicate];exact(di:DatS (g.S ow) H (.int n) (.int n)))⟩
 next=>exact q.elim
end
theorem z6e{prog:Program}{w:World}{A:Around}{E:Value->Shared->Prop}{s:Shared}{env:Env}{k v:Expr}{pos:Pos}{Q:Value->Shared->Prop}
  (h:wpAny (model prog w) A (evalPairs (pairTrees [some k] [v] env pos)) (fun vs s₁=>∃ku vu,vs=[(ku,vu)]/\wpAny (model prog w) A (dictSet s.heap.objs.size ku vu) (fun _ s₂=>Q (.ref s.heap.objs.size) s₂) E s₁) E
   { s with heap:=s.heap.push { cls:=.type "dict",data:=.dict #[] } }):wpAny (model prog w) A (eval (.Dict [some k] [v] pos) env) Q E s:=by
 rw[arm_eval_Dict,zip_pairTrees [some k] [v] env pos rfl rfl,dictDisplay_pairs _ (by simp[pairTrees]) (by simp[pairTrees])];refine wpAny_bind (wpAny_standAt (wpAny_bind ?_));unfold subDict;refine wpAny_bind (wpAny_alloc ?_);refine wpAny_bind (wpAny_holding ?_);rw[if_pos (by simp[pairTrees])];refine wpAny_bind (wpAny_mono h (fun vs s₁ h₁=>?_) fun _ _ e=>e);obtain⟨ku,vu,rfl,h₁⟩:=h₁;refine wpAny_holding ?_;rw[List.forIn_cons];refine wpAny_bind (wpAny_bind (wpAny_bind (wpAny_mono h₁ (fun _ s₂ h₂=>wpAny_pure ?_) fun _ _ e=>e)));dsimp only;rw[List.forIn_nil];exact wpAny_pure (wpAny_pure (wpAny_pure (wpAny_pure h₂)))
section
variable{X:Cx}{pins:List (Addr×Obj)}{σ:St}{H:Hp}{s:Shared}{a:Addr}{y v:V}{u r:Value}{A:Around}{E:Value->Shared->Prop}
theorem Inv.relT(I:Inv X pins σ H s)(h:H a=some (.dK [])):Inv X pins σ (upd H a (.dT [])) s:=by
 obtain⟨z,hd,vs,rel,dd⟩:=z6J I.hok h;cases rel;obtain⟨o,es,ep,h1,h2,h3,h4,h5,h6⟩:=dd;have e:es.toList=[]:=by
  cases q:es.toList with
  | nil=>rfl
  | cons x r=>rw[q]at h5;exact nomatch h5
 exact I.write (x:=a) (e:=a) (t':=s.toks) (h':=s.heap) (by rw[h];exact True.intro) (.inl rfl) (fun b u _ q=>q) ⟨o,h1⟩ ⟨Nat.zero_le _,hd,[],.nil,o,es,ep,h1,h2,h3,e,List.nodup_nil⟩
noncomputable def tD1(tk tv:TE):TE:=fun σ H Q=>∀p,H p=none->tk σ (upd H p (.dK [])) fun x H1=>tv σ H1 fun y H2=>H2 p=some (.dK [])/\
 ((∃k,x=kV k/\Q (.ref p) (upd H2 p (.dK [(k,y)])))\/∃k b,x=.ref b/\H2 b=some (.tup (k.map kV))/\Q (.ref p) (upd H2 p (.dT [(k,y)])))
theorem zC1{k v:Expr}{tk tv:TE}{pos:Pos}(hu:X.A.units+1<cLine)(hk:PE X k tk)(hv:PE X v tv):PE X (.Dict [some k] [v] pos) (tD1 tk tv):=by
 intro pins s σ H Q I q;have hn:=I.hok.fresh (Nat.le_refl s.heap.objs.size);have I1:=I.laid (a:=s.heap.objs.size) (o:=.dK []) (h':=s.heap.push { cls:=.type "dict",data:=.dict #[] }) (t':=s.toks) (fun _ _ q=>Heap.get?_push_of_some _ q) (Nat.le_refl _) (z2g s.heap I.big);refine z6e (pairTrees_cons_walk (thn (hk pins _ σ _ _ I1 (q _ hn)) fun ku s1 ⟨x,H1,I2,rx,q1⟩=>thn (hv pins s1 σ H1 _ I2 q1) fun vu s2 ⟨y,H2,I3,ry,e,q2⟩=>pairTrees_nil_walk ⟨ku,vu,rfl,?_⟩));rcases q2 with ⟨k,rfl,q2⟩ | ⟨k,b,rfl,hb,q2⟩
 ·obtain⟨z,hd,vs,rel,dd⟩:=z6J I3.hok e;cases rel;refine wpAny_dictSet_pairs (hsz:=Nat.zero_le _) (z2O rx) dd fun h' dd' hs=>⟨.ref s.heap.objs.size,_,?_,rfl,q2⟩;have he:∃q,h'.get? s.heap.objs.size=some q:=let⟨q,_,_,hq,_⟩:=dd';⟨q,hq⟩
  exact wY I3 (by rw[e];exact True.intro) hs he (z5C (by show 1<=sizeLine;rw[sizeLine_eq];decide) hd (KV.put (kvs:=[]) .nil k ry) dd')
 ·cases(show ku=Value.ref b from rx);have I4:=I3.relT e;have hbp:b≠s.heap.objs.size:=z3x hb e (fun z=>nomatch z);obtain⟨z,hd,xs,rel,dd⟩:=z9V I4.hok (a:=s.heap.objs.size) (kvs:=[]) z7;cases rel;refine wpAny_dictSet_heap (hsz:=Nat.zero_le _) (show X.A.units<cLine by omega) (uP I4.hok (by rw[zB hbp];exact hb)) dd fun h' dd' hs=>⟨.ref s.heap.objs.size,_,?_,rfl,q2⟩;obtain⟨q,es,ep,hq,h2,h3,h4,_,h5⟩:=dd'
  have:=wY (ob:=.dT [(k,y)]) (t':=s2.toks+(tupleKind (zn X.prog X.w)).draws k) I4 (by rw[z7];exact True.intro) hs ⟨q,hq⟩ ⟨by show 1<=sizeLine;rw[sizeLine_eq];decide,hd,_,.cons ⟨rfl,by rw[zB hbp,zB hbp];exact hb,ry⟩ .nil,q,es,ep,hq,h2,h3,h4,h5⟩;rw[uM]at this;exact this
end
section
variable{X:Cx}{pins:List (Addr×Obj)}{σ:St}{H:Hp}{s:Shared}{a:Addr}{y v:V}{u r:Value}{A:Around}{E:Value->Shared->Prop}
theorem Inv.relK(I:Inv X pins σ H s)(h:H a=some (.dT [])):Inv X pins σ (upd H a (.dK [])) s:=by
 obtain⟨z,hd,xs,rel,o,es,ep,h1,h2,h3,h4,h5⟩:=(show ObjOk X.prog X.w H s.heap a (.dT []) from I.hok a _ h);cases rel;have e:es=#[]:=by
  have:es.toList=[]:=h4;cases es;simp at this;subst this;rfl
 subst e;exact I.write (x:=a) (e:=a) (t':=s.toks) (h':=s.heap) (by rw[h];exact True.intro) (.inl rfl) (fun b u _ q=>q) ⟨o,h1⟩ ⟨Nat.zero_le _,hd,[],.nil,o,#[],ep,h1,h2,h3,fun x hx=>by simp at hx,.nil,List.nodup_nil⟩
def DPutR(H:Hp)(a:Addr)(y v:V)(H':Hp):Prop:=DPut H a y v H'\/(∃k b,H a=some (.dK [])/\y=.ref b/\H b=some (.tup (k.map kV))/\H'=upd H a (.dT [(k,v)]))\/∃k,H a=some (.dT [])/\y=kV k/\H'=upd H a (.dK [(k,v)])
theorem z3q{H':Hp}{Q:Unit->Shared->Prop}(hu:A.units+1<cLine)(I:Inv X pins σ H s)(g:DPutR H a y v H')(ry:RelV y u)(rv:RelV v r)(h:∀s',Inv X pins σ H' s'->Q () s'):wpAny (model X.prog X.w) A (setItem (.ref a) u r) Q E s:=by
 rcases g with g | ⟨k,b,e,rfl,hb,rfl⟩ | ⟨k,e,rfl,rfl⟩
 ·exact uX hu I g ry rv h
 ·have hba:b≠a:=z3x hb e (fun z=>nomatch z);refine uX hu (I.relT e) (DPut.t (kvs:=[]) z7 (by rw[zB hba];exact hb) (by show 0<sizeLine;rw[sizeLine_eq];decide)) ry rv fun s' I'=>h s' ?_;rw[uM]at I';exact I'
 ·refine uX hu (I.relK e) (DPut.k (kvs:=[]) z7 (by show 0<sizeLine;rw[sizeLine_eq];decide)) ry rv fun s' I'=>h s' ?_;rw[uM]at I';exact I'
noncomputable def zA4(td ty tv:TE):TS:=fun D σ H=>tv σ H fun v H1=>td σ H1 fun x H2=>ty σ H2 fun y H3=>∃a H4,x=.ref a/\DPutR H3 a y v H4/\D.nx σ H4
theorem z6r{o i value:Expr}{pos pos':Pos}{td ty tv:TE}(hu:X.A.units+1<cLine)(ho:PE X o td)(hi:PE X i ty)(hv:PE X value tv)(hs:swapsWith value (some (.Subscript o i pos')) pos.line X.env=pure false):
  PS X (.Assign [.Subscript o i pos'] value pos) (zA4 td ty tv):=by
 intro pins s σ H D I h;refine wpAny_Assign_Subscript (thn (hv pins s σ H _ I h) fun r s1 ⟨v,H1,I1,rv,q1⟩=>thn (ho pins s1 σ H1 _ I1 q1) fun u s2 ⟨x,H2,I2,rx,q2⟩=>thn (hi pins s2 σ H2 _ I2 q2) fun iv s3 ⟨y,H3,I3,ry,a,H4,ex,g,q3⟩=>?_) hs;subst ex;obtain rfl:u=Value.ref a:=rx;exact z3q hu I3 g ry rv fun s4 I4=>⟨σ,H4,I4,q3⟩
end
noncomputable def zb(kvs:List (PyData×PyData)):PyData->Bool
 | .tuple ds=>(z1K ds).isSome && kvs.all (fun kv=>yC kv.1)
 | x=>(keyD x).isSome && kvs.all (fun kv=>!yC kv.1)
noncomputable def dPut(kvs:List (PyData×PyData))(k v:PyData):List (PyData×PyData):=
 if (kvs.any fun kv=>PyData.eqv kv.1 k)=true then kvs.map (fun kv=>if PyData.eqv kv.1 k=true then(kv.1,v)else kv)else kvs++[(k,v)]
theorem DctS.append{S:Addr->Prop}{H:Hp}:∀{ds es:List (PyData×PyData)} {xs ys:List (PyData×V)},DctS S H ds xs->DctS S H es ys->DctS S H (ds++es) (xs++ys)
 | [],_,_,_,h,k=>by simp only[DctS]at h;subst h;exact k
 | (_,_)::_,_,_,_,h,k=>by
  simp only[DctS]at h;obtain⟨x,r,rfl,h1,h2⟩:=h;show DctS S H ((_,_)::(_++_)) _;simp only[DctS];exact⟨x,_,rfl,h1,DctS.append h2 k⟩
theorem DctS.one{S:Addr->Prop}{H:Hp}{k d:PyData}{v:V}(h:DatS S H d v):DctS S H [(k,d)] [(k,v)]:=by
 simp only[DctS];exact⟨v,[],rfl,h,rfl⟩
theorem DctS.put{S:Addr->Prop}{H:Hp}{κ:Type}[DecidableEq κ]{j:κ->PyData}(hj:∀a b,PyData.eqv (j a) (j b)=decide (a=b)){k:κ}{d:PyData}{v:V}(hd:DatS S H d v){kvs:List (PyData×PyData)}{l:List (κ×V)}
  (h:DctS S H kvs (l.map fun kv=>(j kv.1,kv.2))):DctS S H (dPut kvs (j k) d) ((putK l k v).map fun kv=>(j kv.1,kv.2)):=by
 have any:∀{kvs:List (PyData×PyData)} {l:List (κ×V)},DctS S H kvs (l.map fun kv=>(j kv.1,kv.2))->(kvs.any fun kv=>PyData.eqv kv.1 (j k))=(l.any fun kv=>decide (kv.1=k)):=by
  intro kvs
  induction kvs with
  | nil=>intro l h;cases l with
   | nil=>rfl
   | cons _ _=>simp[DctS]at h
  | cons p r ih=>
   intro l h;obtain⟨c,x⟩:=p;cases l with
   | nil=>simp[DctS]at h
   | cons q s=>
    simp only[DctS,List.map_cons]at h;obtain⟨y,t,e,h1,h2⟩:=h;cases e;rw[List.any_cons,List.any_cons,ih h2,hj]
 have mp:∀{kvs:List (PyData×PyData)} {l:List (κ×V)},DctS S H kvs (l.map fun kv=>(j kv.1,kv.2))->DctS S H (kvs.map fun kv=>if PyData.eqv kv.1 (j k)=true then(kv.1,d)else kv) ((l.map fun kv=>if kv.1=k then(kv.1,v)else kv).map fun kv=>(j kv.1,kv.2)):=by
  intro kvs
  induction kvs with
  | nil=>intro l h;cases l with
   | nil=>exact h
   | cons _ _=>simp[DctS]at h
  | cons p r ih=>
   intro l h;obtain⟨c,x⟩:=p;cases l with
   | nil=>simp[DctS]at h
   | cons q s=>
    obtain⟨q1,q2⟩:=q;simp only[DctS,List.map_cons]at h;obtain⟨y,t,e,h1,h2⟩:=h;cases e;rw[List.map_cons,List.map_cons,List.map_cons];have e2:=hj q1 k;by_cases hk:q1=k
    ·rw[if_pos hk,if_pos (by rw[e2];exact decide_eq_true hk)];simp only[DctS];exact⟨v,_,rfl,hd,ih h2⟩
    ·rw[if_neg hk,if_neg (by rw[e2,decide_eq_false hk];exact Bool.false_ne_true)];simp only[DctS];exact⟨q2,_,rfl,h1,ih h2⟩
 unfold dPut putK;rw[any h];split
 ·exact mp h
 ·rw[List.map_append];exact h.append (DctS.one hd)
theorem z5J{S:Addr->Prop}{H:Hp}{a:Addr}{ks:List (PyData×V)}{kvs:List (PyData×PyData)}{x d:PyData}{y v:V}(hSa:S a)(hpl:Pl H a)(h1:DctAt H a ks)(h2:DctS S H kvs ks)(hx:DatS S H x y)(hd:DatS S H d v)(ok:zb kvs x=true)(hl:kvs.length<lim):
  ∃o ks',DPutR H a y v (upd H a o)/\DctAt (upd H a o) a ks'/\DctS S H (dPut kvs x d) ks'/\∀ob u,o≠.frz ob u:=by
 have hlen:∀{kvs:List (PyData×PyData)} {ks:List (PyData×V)},DctS S H kvs ks->kvs.length=ks.length:=by
  intro kvs
  induction kvs with
  | nil=>intro ks h;simp only[DctS]at h;subst h;rfl
  | cons p r ih=>
   intro ks h;obtain⟨c,x⟩:=p;simp only[DctS]at h;obtain⟨y,t,rfl,h1,h2⟩:=h;simp[ih h2]
 have small:∀{n:Nat},n=kvs.length->n<sizeLine:=fun e=>Nat.lt_of_lt_of_le (by rw[e];exact hl) (y4 (Nat.le_refl _));have hk:=hlen h2;have tk:∀{P:PyData->Bool} (hP:kvs.all (fun kv=>P kv.1)=true) {κ:Type} {j:κ->PyData} {l:List (κ×V)},ks=l.map (fun kv=>(j kv.1,kv.2))->l=[]\/∃c,P (j c)=true:=fun{P} hP {κ j l} e=>by
  subst e;cases l with
  | nil=>exact .inl rfl
  | cons q s=>
   cases kvs with
   | nil=>simp[DctS]at h2
   | cons p r=>
    obtain⟨p1,p2⟩:=p;simp only[DctS,List.map_cons]at h2;obtain⟨_,_,e,_⟩:=h2;cases e;rw[List.all_cons,Bool.and_eq_true]at hP;exact .inr ⟨q.1,hP.1⟩
 have plain:∀k:Key,x=kD k->kvs.all (fun kv=>!yC kv.1)=true->∃o ks',DPutR H a y v (upd H a o)/\DctAt (upd H a o) a ks'/\DctS S H (dPut kvs x d) ks'/\∀ob u,o≠.frz ob u:=fun k e hA=>by
  have ey:y=kV k:=by rw[e]at hx;exact u5 hx
  rcases h1 with ⟨l,g,rfl⟩ | ⟨l,g,e2⟩
  ·refine⟨.dK (putK l k v),_,.inl (by rw[ey];exact DPut.k (hpl.rd g) (small (by rw[hk,List.length_map]))),.inl ⟨_,.inl z7,rfl⟩,?_,fun _ _ z=>by cases z⟩;rw[e];exact DctS.put z1c hd h2
  ·rcases tk (P:=fun d=>!yC d) hA e2 with rfl | ⟨c,hc⟩
   ·rw[e2]at h2;have ekv:kvs=[]:=by
     cases kvs with
     | nil=>rfl
     | cons p r=>obtain⟨_,_⟩:=p;simp[DctS]at h2
    subst ekv;exact⟨.dK [(k,v)],_,.inr (.inr ⟨k,hpl.rd g,ey,rfl⟩),.inl ⟨_,.inl z7,rfl⟩,by rw[e];exact DctS.one hd,fun _ _ z=>by cases z⟩
   ·simp[kT,yC]at hc
 cases x with
 | tuple ds=>
  simp only[zb,Bool.and_eq_true]at ok;obtain⟨o1,o2⟩:=ok;obtain⟨k,ek⟩:=Option.isSome_iff_exists.mp o1;have ed:=xY ek;simp only[DatS]at hx;obtain⟨b,xs,rfl,hb,hxs⟩:=hx;rw[ed]at hxs;rw[wX hxs]at hb;rcases h1 with ⟨l,g,e2⟩ | ⟨l,g,rfl⟩
  ·rcases tk (P:=yC) o2 e2 with rfl | ⟨c,hc⟩
   ·rw[e2]at h2;have ekv:kvs=[]:=by
     cases kvs with
     | nil=>rfl
     | cons p r=>obtain⟨_,_⟩:=p;simp[DctS]at h2
    subst ekv;exact⟨.dT [(k,v)],_,.inr (.inl ⟨k,b,hpl.rd g,rfl,hb,rfl⟩),.inr ⟨_,.inl z7,rfl⟩,by rw[ed];exact DctS.one hd,fun _ _ z=>by cases z⟩
   ·cases c<;>simp[kD,yC]at hc
  ·refine⟨.dT (putK l k v),_,.inl (DPut.t (hpl.rd g) hb (small (by rw[hk,List.length_map]))),.inr ⟨_,.inl z7,rfl⟩,?_,fun _ _ z=>by cases z⟩;rw[ed];exact DctS.put z2Z hd h2
 | int i=>
  simp only[zb,Bool.and_eq_true]at ok;exact plain (.inl i) rfl ok.2
 | str i=>
  simp only[zb,Bool.and_eq_true]at ok;exact plain (.inr i) rfl ok.2
 | none=>simp[zb,keyD]at ok
 | bool _=>simp[zb,keyD]at ok
 | list _=>simp[zb,keyD]at ok
 | dict _=>simp[zb,keyD]at ok
noncomputable def putD(kvs:List (PyData×PyData))(k v:PyData):Option (List (PyData×PyData)):=if zb kvs k=true/\kvs.length<lim then some (dPut kvs k v)else none
section
variable{K:W.Frag}{Er:Str->Hp->Prop}{X:Cx}{e k v o:Expr}{mk mv:Env'->Mx D}{pos:Pos}
variable{g:Gh}{ow:Ix->Option Addr}{ρ:Env'}{n n':Nat}{σ:St}{H H' H1:Hp}
noncomputable def uk(i:Nat)(mk mv:Env'->Mx D):Env'->Mx Out:=fun ρ=>mv ρ >>= fun v=>Mx.opt (ownD ρ i) >>= fun kvs=>mk ρ >>= fun k=>Mx.opt ((onP2 (putD kvs) k v).map fun z=>Out.nx (ρ.set i (some (Sl.own (.dict z)))))
theorem z25{i:Nat}{pos':Pos}(hu:X.A.units+1<cLine)(ho:PE X o (tVar i))(hk:DE K Er X k mk)(hv:DE K Er X v mv)(hs:swapsWith v (some (.Subscript o k pos')) pos.line X.env=pure false):
  DS K Er X (.Assign [.Subscript o k pos'] v pos) (uk i mk mv):=(z6r hu ho hk hv hs).imp fun σ H E h=>rs1 h fun g ow ρ n n1 d v H1 f k f1 r q=>by
 obtain⟨kvs,ek,q⟩:=xF q;obtain⟨a,e1,e2,dd⟩:=f1.own i _ (z2G ek);refine⟨.ref a,e2,g,ow,ρ,n1,f1,xD f1 q fun n2 x y H2 k2 f2 r2 q2=>?_⟩;obtain⟨out,eo,q3⟩:=rs_o q2;obtain⟨z,ez,eo2⟩:=Option.map_eq_some_iff.mp eo;subst eo2;obtain⟨x',d',rfl,rfl,e3⟩:=zo ez;unfold putD at e3;split at e3
 next c=>
  cases e3;obtain⟨a',g1,g2,g3⟩:=f2.own i _ (z2G ek);rw[e1]at g1;cases g1;obtain⟨b,ks,eb,h1,h2⟩:=ul g3;cases eb;have rd:DatS (g.S ow) H2 d' v:=Rep.kp (g:=g) (d:=.p d') (k2.mono Gh.ts) (fun _ z=>.inl z) r;obtain⟨ob,ks',p1,p2,p3,p4⟩:=z5J (S:=g.S ow) (.inr (.inr ⟨(i,0),e1⟩)) (f2.owi _ a e1).2.1 h1 h2 r2 rd c.1 c.2;have nt:=h1.not_tup;have kS:=f2.kpOwn (o:=ob) e1 nt;refine⟨a,_,rfl,p1,q3 _ _ _ (f2.updOwn (z2G ek) e1 nt ?_ p4) (Stp.upd f2 e1 nt)⟩;simp only[Dat1];exact⟨a,ks',rfl,id,p2,DctS.kp kS (fun _ z=>.inl z) p3⟩
 next=>cases e3
noncomputable def Gh.add(g:Gh)(p:Addr)(o:HO):Gh:=⟨g.aS,g.ns,g.aT,fun b=>g.S0 b\/b=p,upd g.H0 p o⟩
theorem Frm.protect{p:Addr}{o:HO}(f:Frm K g ow ρ n σ H)(hp:H p=none):Frm K (g.add p o) ow ρ n σ (upd H p o):=by
 have h0:=f.h0 hp;have s:=Same.new (o:=o) hp;have hS:∀a,(g.add p o).S ow a->g.S ow a\/H a=none:=fun a z=>by
  rcases z with (z | z) | z | z
  ·exact .inl (.inl z)
  ·exact .inr (by rw[z];exact hp)
  ·exact .inl (.inr (.inl z))
  ·exact .inl (.inr (.inr z))
 have s0:Same g.H0 (upd g.H0 p o):=Same.new h0;refine⟨?_,fun a e=>s _ _ (f.twn a e),fun a z=>?_,fun b u h k=>?_,fun i d e=>?_,fun i x e=>?_,fun i kl e=>?_,fun i a e=>?_,f.inj,f.len⟩
 ·rcases f.scr with h | ⟨h1,h2⟩
  ·exact .inl h
  ·exact .inr ⟨h1,s0.seq h2⟩
 ·show upd g.H0 p o a≠none;rcases z with z | z
  ·cases q:g.H0 a with
   | none=>exact absurd q (f.sub a z)
   | some u=>rw[s0 _ _ q];intro z;cases z
  ·rw[z,z7];intro z;cases z
 ·have h:upd g.H0 p o b=some u:=h;by_cases e:b=p
  ·subst e;rw[z7]at h |-;exact h
  ·rw[zB e]at h |-;exact f.ext b u h k
 ·obtain⟨v,e1,r⟩:=f.val i d e;exact⟨v,e1,(r.kp (Kp.of s) hS).shift rfl rfl fun _ z=>z⟩
 ·obtain⟨a,e0,e1,r⟩:=f.own i x e;refine⟨a,e0,e1,r.move (Kp.of s) hS fun b eb hb hU=>⟨fun o z=>s _ _ z,fun z=>?_⟩⟩;rcases z with (z | z) | z
  ·exact hU (.inl z)
  ·exact hb (by rw[z];exact hp)
  ·exact hU (.inr z)
 ·obtain⟨v,e1,r⟩:=f.dp i kl e;exact⟨v,e1,r.move (fun _ _ z=>z) (fun _ _ _ _ z=>s _ _ z) (Kp.of s) hS⟩
 ·obtain⟨h1,h2,h3,h4⟩:=f.owi i a e;have hap:a≠p:=fun z=>h2.some (by rw[z];exact hp);exact⟨by show upd g.H0 p o a=none;rw[zB hap];exact h1,(by obtain⟨o',e',n'⟩:=h2;exact⟨o',by rw[zB hap];exact e',n'⟩),h3,h4⟩
noncomputable def mD1(mk mv:Env'->Mx D):Env'->Mx PyData:=fun ρ=>mk ρ >>= fun k=>mv ρ >>= fun v=>Mx.opt (onP2 (fun k v=>if zb [] k=true then some (.dict [(k,v)])else none) k v)
theorem zBC(hu:X.A.units+64<cLine)(hk:DE K Er X k mk)(hv:DE K Er X v mv):DF K Er X (.Dict [some k] [v] pos) (mD1 mk mv):=(zC1 (by omega) hk hv).imp fun σ H Q ⟨g,ow,ρ,n,f,q⟩ p hp=>by
 have f1:=f.protect (o:=.dK []) hp;have er:∀{c n'},(∀H',Kp g.T g.H0 H'->Twn g H' n'->Er c H')->∀H',Kp (g.add p (.dK [])).T (g.add p (.dK [])).H0 H'->Twn (g.add p (.dK [])) H' n'->Er c H':=fun h H' k t=>h H' ((Same.new (f.h0 hp)).kp.trans k) t;have hT:g.aT≠some p:=fun z=>by rw[f.twn p z]at hp;cases hp
 unfold mD1 at q;rw[Mx.bind_def]at q;refine⟨g.add p (.dK []),ow,ρ,n,f1,?_⟩;cases e1:mk ρ n with
 | err c n1=>rw[e1]at q;exact er q
 | bad=>rw[e1]at q;exact q
 | ok kd n1=>
  rw[e1]at q;intro kv H1 k1 t1 r1;have f2:=f1.kp k1 t1;have q:AftG (RF g (g.S ow)) g Er H ((mv ρ >>= fun v=>Mx.opt (onP2 (fun k v=>if zb [] k=true then some (.dict [(k,v)])else none) kd v)) n1) Q:=q;rw[Mx.bind_def]at q;refine⟨g.add p (.dK []),ow,ρ,n1,f2,?_⟩;cases e2:mv ρ n1 with
  | err c n2=>rw[e2]at q;exact er q
  | bad=>rw[e2]at q;exact q
  | ok vd n2=>
   rw[e2]at q;intro vv H2 k2 t2 r2;obtain⟨z,ez,q2⟩:=wv (show AftG (RF g (g.S ow)) g Er H (Mx.opt (onP2 (fun k v=>if zb [] k=true then some (.dict [(k,v)])else none) kd vd) n2) Q from q);obtain⟨kx,vx,rfl,rfl,e3⟩:=zo ez;have hp2:H2 p=some (.dK []):=k2 _ _ (k1 _ _ z7 (.inl hT)) (.inl hT);split at e3
   next c=>
    cases e3;refine⟨hp2,?_⟩;have rk:DatS ((g.add p (.dK [])).S ow) H2 kx kv:=Rep.kp (g:=g.add p (.dK [])) (d:=.p kx) (k2.mono Gh.ts) (fun _ z=>.inl z) r1;have hSp:(g.add p (.dK [])).S ow p:=.inl (.inr rfl);have fin:∀o ks',(∀ob u,o≠.frz ob u)->DctAt (upd H2 p o) p ks'->DctS ((g.add p (.dK [])).S ow) H2 [(kx,vx)] ks'->Q (.ref p) (upd H2 p o):=fun o ks' a0 a1 a2=>by
     have kS:Kp ((g.add p (.dK [])).S ow) H2 (upd H2 p o):=fun b u h z=>by
      by_cases e:b=p
      ·subst e;rcases z with z | ⟨xs,rfl⟩
       ·exact absurd hSp z
       ·rw[hp2]at h;cases h
      ·rw[zB e];exact h
     refine q2 (.ref p) _ (fun b u h z=>?_) (fun b e=>?_) ⟨p,rfl,hp,Pl.upd a0,?_⟩
     ·have hb:=zM h hp;rw[zB hb];exact k2 _ _ (k1 _ _ (by rw[zB hb];exact h) z) z
     ·have hbp:b≠p:=fun z=>hT (by rw[<-z];exact e);rw[zB hbp];exact t2 b e
     ·simp only[Dat1];refine⟨p,ks',rfl,id,a1,DctS.kp kS (fun b z=>?_) a2⟩;rcases z with (z | z | z) | z
      ·exact .inl (.inl (.inl z))
      ·exact .inl (.inr (.inl z))
      ·exact .inl (.inr (.inr z))
      ·exact .inl (.inl (.inr z))
    cases kx with
    | tuple ds=>
     simp only[zb,Bool.and_eq_true]at c;obtain⟨kk,ek⟩:=Option.isSome_iff_exists.mp c.1;have ed:=xY ek;obtain⟨b,xs,rfl,hb,hxs⟩:=yF (T:=N0) (DatS.one (fun _ z=>z.elim) rk);rw[ed]at hxs;rw[wX hxs]at hb;exact .inr ⟨kk,b,rfl,hb,fin _ _ (fun _ _ z=>by cases z) (.inr ⟨_,.inl z7,rfl⟩) (by rw[ed];exact DctS.one r2)⟩
    | int i=>exact .inl ⟨.inl i,u5 (k:=.inl i) rk,fin _ _ (fun _ _ z=>by cases z) (.inl ⟨_,.inl z7,rfl⟩) (DctS.one r2)⟩
    | str i=>exact .inl ⟨.inr i,u5 (k:=.inr i) rk,fin _ _ (fun _ _ z=>by cases z) (.inl ⟨_,.inl z7,rfl⟩) (DctS.one r2)⟩
    | none=>simp[zb,keyD]at c
    | bool _=>simp[zb,keyD]at c
    | list _=>simp[zb,keyD]at c
    | dict _=>simp[zb,keyD]at c
   next=>cases e3
end
end L2
namespace PySem
open AutoSeq1 (wpAny_loadPart')
section
variable{prog:Program}{w:World}{A:Around}{E:Value->Shared->Prop}{s:Shared}
theorem z2V{Q:List Value->Shared->Prop}{r:Addr}{a b:Int}{t u v:Tok}{n:Nat}(hh:A.handled=none)(hr:IsRange s.heap r a b 1 t u v)(hsmall:Builtin.Range.small a b 1=true)(hn:Builtin.Range.rangeSize a b 1=n)(hlen:n<=2 ^ 24)
  (hQ:∀h' tk acc,(∀b o',s.heap.get? b=some o'->h'.get? b=some o')->ItemsOf (fun i v=>∃t,v=.int (a+i*1) t) acc n->Q acc.toList { s with heap:=h',toks:=tk }):wpAny (model prog w) A (collect (.ref r)) Q E s:=by
 unfold collect;refine wpAny_bind (wpAny_runValue (codeAny_builtin F.entry_proto_collect ?_));rw[Around.under_plainId F.plain_proto_collect _];show wpAny _ A.in1 (newList [] >>= fun l=>again (.builtin "list.__iadd__" ⟨[l,.ref r],[]⟩)) _ _ s;refine wpAny_bind (wpAny_newObj_type ?_);refine wpAny_pure ⟨plainId_quiet F.plain_list_iadd _,codeAny_builtin F.entry_list_iadd ?_⟩;rw[Around.under_plainId F.plain_list_iadd _];show wpAny _ A.in1 (Builtin.List.listExtendWith (.ref s.heap.objs.size) (.ref r) (.ref s.heap.objs.size)) _ _ _;have hS:(s.heap.push { cls:=.type "list",data:=.seq ([]:List Value).toArray }).get? s.heap.objs.size=some { cls:=.type "list",data:=.seq #[] 0 }:=Heap.get?_push_size _ rfl;have fin':∀h' tk acc' c',(∀b o,b≠s.heap.objs.size->(s.heap.push { cls:=.type "list",data:=.seq ([]:List Value).toArray }).get? b=some o->h'.get? b=some o)->h'.get? s.heap.objs.size=some { cls:=.type "list",dict:=none,data:=.seq acc' c',slots:=#[] }->
   ItemsOf (fun i v=>∃t,v=.int (a+i*1) t) acc' n->wpAny (model prog w) A (match Value.ref s.heap.objs.size with
   | Value.ref a=>do
    match (<-load a).data with
     | Data.seq xs _=>pure xs.toList
     | _=>unsupported "internal:collect"
   | _=>unsupported "internal:collect") Q E { s with heap:=h',toks:=tk }:=fun h' tk acc' c' hk hs hacc=>by
  show wpAny _ A (load s.heap.objs.size >>= _) _ _ _;refine wpAny_bind (wpAny_load hs ?_);exact wpAny_pure (hQ h' tk acc' (fun b o e=>hk b o (Nat.ne_of_lt (Heap.lt_size e)) (Heap.get?_push_of_some _ e)) hacc)
 refine wpAny_mono (wpAny_extend_range (A:=A) (R:=fun r s'=>r=.ok (.ret (.ref s.heap.objs.size))/\wpAny (model prog w) A (match Value.ref s.heap.objs.size with
   | Value.ref a=>do
    match (<-load a).data with
     | Data.seq xs _=>pure xs.toList
     | _=>unsupported "internal:collect"
   | _=>unsupported "internal:collect") Q E s')
  (s:={ s with heap:=s.heap.push { cls:=.type "list",data:=.seq ([]:List Value).toArray } }) hh (Heap.get?_push_of_some _ hr) hsmall hn hlen _ _ 0 hS fun h' tk acc' c' hk hs hacc=>⟨rfl,fin' h' tk acc' c' hk hs hacc⟩) (fun fin s' h=>?_) (fun e s' h=>?_)
 ·cases fin with
  | done f=>
   obtain⟨e,h⟩:=h;cases e;exact h
  | again c'=>exact⟨h.1,codeAny_mono h.2 fun r s'' hr=>by obtain⟨rfl,hr⟩:=hr;exact hr⟩
 ·exact absurd h.1 (by simp)
theorem xN(r:Addr)(o:Obj)(a b:Int)(t u v:Tok)(n:Nat)(ho:o={ cls:=.type "range",data:=.fields #[.int a t,.int b u,.int 1 v] })(hsmall:Builtin.Range.small a b 1=true)(hn:Builtin.Range.rangeSize a b 1=n)(hlen:n<=2 ^ 24):
  Meets (Builtin.«tuple.__new__» ⟨[.type "tuple",.ref r],[]⟩)
   (fun A R s=>A.handled=none/\s.heap.get? r=some o/\∀(h':Heap) (tk:Nat) (acc:Array Value),(∀b o',s.heap.get? b=some o'->h'.get? b=some o')->ItemsOf (fun i v=>∃t,v=.int (a+i*1) t) acc n->R (.ok (.ret (.ref h'.objs.size))) { s with heap:=h'.push { cls:=.type "tuple",data:=.seq acc },toks:=tk }):=
 .of_wp fun prog w A R s h=>by
  obtain⟨hp,g,d,tk,os⟩:=s;obtain⟨hh,ht,h⟩:=h;have hsub:=sub_tuple_self;have hinit:=init_tuple_lookup;have hmh:=madeHere_tuple;have hT:Shared.TypeIs ⟨hp,g,d,tk,os⟩ (.ref r) "range":=⟨o,ht,by rw[ho]⟩
  wp_walk using wpAny_loadPart' ht,wpAny_typeOf hT,z2V (A:=A.in1) hh (by rw[ho]at ht;exact ht) hsmall hn hlen
  intro h' tk' acc hk hacc;show wpAny _ _ (Builtin.Tuple.tupleExact acc.toList.toArray >>= fun v=>ret v) _ _ _;unfold Builtin.Tuple.tupleExact;refine wpAny_bind (wpAny_newObj_type ?_ (by show acc.toList.toArray.size<=sizeLine;rw[sizeLine_eq];simp;rw[hacc.1];omega));refine wpAny_pure ⟨_,rfl,?_⟩;have e:acc.toList.toArray=acc:=by simp
  rw[e];exact h h' tk' acc hk hacc
theorem uh{r:Addr}{a b:Int}{t u v:Tok}{n:Nat}{Q:Value->Shared->Prop}(hh:A.handled=none)(hr:IsRange s.heap r a b 1 t u v)(hsmall:Builtin.Range.small a b 1=true)(hn:Builtin.Range.rangeSize a b 1=n)(hlen:n<=2 ^ 24)
  (h:∀(h':Heap) (tk:Nat) (acc:Array Value),(∀b o',s.heap.get? b=some o'->h'.get? b=some o')->ItemsOf (fun i v=>∃t,v=.int (a+i*1) t) acc n->Q (.ref h'.objs.size) { s with heap:=h'.push { cls:=.type "tuple",data:=.seq acc },toks:=tk }) :
  wpAny (model prog w) A (call (.type "tuple") [.ref r]) Q E s:=
 callType_new F.called_tuple (by decide) (F.typeCall_tuple_1 _) (F.newCall_tuple_1 _) (fun obj=>F.args_object_init_2 obj _) F.entry_tuple_new
  (xN r _ a b t u v n rfl hsmall hn hlen) ⟨hh,hr,fun h' tk acc hk hacc=>⟨⟨_,Heap.get?_push_size _ rfl,rfl⟩,h h' tk acc hk hacc⟩⟩
end
end PySem
namespace L2
open PySem PySem.Spec PyProof.Rows
noncomputable def rngV(lo:Int)(n:Nat):List V:=(List.range n).map fun(i:Nat)=>V.int (lo+(i:Int))
theorem z6W{acc:Array Value}{lo:Int}{n:Nat}(h:ItemsOf (fun i v=>∃t,v=.int (lo+i*1) t) acc n):Vals (rngV lo n) acc.toList:=by
 have gen:∀(l:List Value) (k:Nat),(∀(j:Nat) (v:Value),l[j]?=some v->∃t,v=Value.int (lo+((k+j:Nat):Int)) t)->Vals ((List.range' k l.length).map fun(i:Nat)=>V.int (lo+(i:Int))) l:=by
  intro l
  induction l with
  | nil=>intro k _;exact .nil
  | cons x r ih=>
   intro k hk;rw[List.length_cons,List.range'_succ,List.map_cons];refine .cons ?_ (ih (k+1) fun j v e=>?_)
   ·obtain⟨t,e⟩:=hk 0 x rfl;exact⟨t,by simpa using e⟩
   ·obtain⟨t,e2⟩:=hk (j+1) v (by simpa using e);exact⟨t,by rw[e2,show k+(j+1)=k+1+j by omega]⟩
 have:=gen acc.toList 0 fun j v e=>by
  obtain⟨t,e2⟩:=h.2 j v (by simpa using e);exact⟨t,by rw[e2];simp⟩
 unfold rngV;rw[List.range_eq_range',<-h.1];simpa using this
section
variable{X:Cx}{a b:Expr}{ta:TA}{p pos:Pos}
noncomputable def z9h(ta:TA):TE:=fun σ H Q=>ta σ H fun vs H1=>∃j:Int,vs=[.int j]/\∀q,H1 q=none->Q (.ref q) (upd H1 q (.rng 0 j))
noncomputable def zBK(ta:TA):TE:=fun σ H Q=>ta σ H fun vs H1=>∃i j:Int,vs=[.int i,.int j]/\∀q,H1 q=none->Q (.ref q) (upd H1 q (.rng i j))
theorem z4q(hg:Gl X "range")(hm:X.mg "range"=none)(ha:PA X [a] ta)(hs:starEach [a] X.env=[(false,eval a X.env)]:=by rfl):PE X (.Call (.Name "range" p) [a] [] pos) (z9h ta):=by
 intro pins s σ H Q I h;refine Call_ (wb I hg hm boot_range (PyProof.Rows.callWith_type1 (thn (ha pos pins s σ H _ I h) fun us s1 ⟨vs,H1,I1,r1,q1⟩=>?_) hs rfl));obtain⟨j,e,q⟩:=q1;subst e;cases r1 with
 | cons r rr=>
  cases rr;obtain⟨t,rfl⟩:=r;refine call_range_1 ⟨.ref s1.heap.objs.size,_,I1.laid (t':=s1.toks+1+1) (o:=.rng 0 j) (fun b o e=>Heap.get?_push_of_some _ e) (Nat.le_refl _) ?_,rfl,q _ (I1.hok.fresh (Nat.le_refl _))⟩;exact⟨_,_,_,Heap.get?_push_size _ rfl⟩
theorem z9B(hg:Gl X "range")(hm:X.mg "range"=none)(ha:PA X [a,b] ta)(hs:starEach [a,b] X.env=[(false,eval a X.env),(false,eval b X.env)]:=by rfl)(hs2:starEach [b] X.env=[(false,eval b X.env)]:=by rfl):PE X (.Call (.Name "range" p) [a,b] [] pos) (zBK ta):=by
 intro pins s σ H Q I h;refine Call_ (wb I hg hm boot_range (PyProof.Rows.callWith_type1 (thn (ha pos pins s σ H _ I h) fun us s1 ⟨vs,H1,I1,r1,q1⟩=>?_) (by rw[hs,hs2]) (by rw[hs2];rfl)));obtain⟨i,j,e,q⟩:=q1;subst e;cases r1 with
 | cons r rr=>
  cases rr with
  | cons r' rr=>
   cases rr;obtain⟨t,rfl⟩:=r;obtain⟨t',rfl⟩:=r';refine call_range_2 ⟨.ref s1.heap.objs.size,_,I1.laid (o:=.rng i j) (fun b o e=>Heap.get?_push_of_some _ e) (Nat.le_refl _) ?_,rfl,q _ (I1.hok.fresh (Nat.le_refl _))⟩;exact⟨_,_,_,Heap.get?_push_size _ rfl⟩
theorem xn(hc:X.calm=true):CallR X (.type "tuple") (fun xs H Q=>∃q lo hi,xs=[.ref q]/\H q=some (.rng lo hi)/\(-1000000<=lo/\lo<=1000000)/\(-1000000<=hi/\hi<=1000000)/\∀l H',Same H H'->H' l=some (.tup (rngV lo (hi - lo).toNat))->Q (.ref l) H'):=by
 intro pins s σ H xs us Q I r h;obtain⟨q,lo,hi,rfl,hq,h1,h2,k⟩:=h;obtain⟨u,rfl,rx⟩:=xO r;cases rx;obtain⟨t,u,v,e⟩:=(show ObjOk X.prog X.w H s.heap q (.rng lo hi) from I.hok q _ hq);have hn:Builtin.Range.rangeSize lo hi 1=((hi - lo).toNat:Nat):=by rw[rangeSize_one];split<;>omega
 refine uh (I.ok.hd hc) e (small_one (by omega) (by omega) (by omega) (by omega)) hn (by omega) fun h' tk acc hk hacc=>?_;have I1:Inv X pins σ H { s with heap:=h',toks:=tk }:=I.kept hk;have rv:=z6W hacc;have I2:Inv X pins σ (upd H h'.objs.size (.tup (rngV lo (hi - lo).toNat))) { s with heap:=h'.push { cls:=.type "tuple",data:=.seq acc },toks:=tk }:=
  I1.laid (fun b o e=>Heap.get?_push_of_some _ e) (Nat.le_refl _) (show ObjOk X.prog X.w _ _ _ (.tup (rngV lo (hi - lo).toNat)) from⟨⟨by rw[rv.length,Array.length_toList,hacc.1,sizeLine_eq];omega,_,Heap.get?_push_size _ rfl,rfl⟩,acc.toList,rv,⟨_,Heap.get?_push_size _ rfl,rfl,_,rfl⟩⟩)
 exact⟨.ref h'.objs.size,_,I2,rfl,k _ _ (Same.new (I1.hok.fresh (Nat.le_refl _))) z7⟩
end
section
variable{K:W.Frag}{Er:Str->Hp->Prop}{X:Cx}{e a b:Expr}{es:List Expr}{ms:Env'->Mx (List D)}{pos:Pos}
variable{g:Gh}{ow:Ix->Option Addr}{ρ:Env'}{n n':Nat}{σ:St}{H H' H1:Hp}
noncomputable def fRg1(j:List PyData->PyData):List PyData->Option PyData:=fun ds=>(yr ds).map j
noncomputable def fRg2(j:List PyData->PyData):List PyData->Option PyData:=fun ds=>(z0X ds).map j
theorem z1m{S:Addr->Prop}{lo hi:Int}:DatsS S H (rngD lo hi) (rngV lo (hi - lo).toNat):=wx (fun i=>lo+(i:Int)) _
theorem z6V{ds:List PyData}{r:List PyData}(h:yr ds=some r):∃j,ds=[.int j]/\(-1000000<=j/\j<=1000000)/\r=rngD 0 j:=by
 unfold yr at h;split at h
 next j=>
  split at h
  next hl=>cases h;exact⟨j,rfl,hl,rfl⟩
  next=>cases h
 next=>cases h
theorem z6t{ds:List PyData}{r:List PyData}(h:z0X ds=some r):∃i j,ds=[.int i,.int j]/\(-1000000<=i/\i<=1000000)/\(-1000000<=j/\j<=1000000)/\r=rngD i j:=by
 unfold z0X at h;split at h
 next i j=>
  split at h
  next hl=>cases h;exact⟨i,j,rfl,hl.1,hl.2.1,rfl⟩
  next=>cases h
 next=>cases h
noncomputable abbrev zBO:List V->Hp->VK->Prop:=fun xs H Q=>∃q lo hi,xs=[.ref q]/\H q=some (.rng lo hi)/\(-1000000<=lo/\lo<=1000000)/\(-1000000<=hi/\hi<=1000000)/\∀l H',Same H H'->H' l=some (.tup (rngV lo (hi - lo).toNat))->Q (.ref l) H'
theorem wm(h:PE X e (tCB zBO (ym (z9h (rdG RAW K Er ms)) tNil))):DE K Er X e (zO (fRg1 PyData.tuple) ms):=z7I (fun σ H Q hq=>by
 obtain⟨g,ow,ρ,n,f,q⟩:=hq;refine⟨g,ow,ρ,n,f,q.imp (fun _ _ _ z=>z) fun vs H1 ⟨S,ds,r,hS,h1,hf,q⟩=>?_⟩;obtain⟨z,ez,ez2⟩:=Option.map_eq_some_iff.mp hf;obtain⟨j,rfl,hj,rfl⟩:=z6V ez;subst ez2;obtain⟨v,rfl,rv⟩:=all1 h1;refine⟨j,by rw[za rv],fun p hp=>⟨p,0,j,rfl,z7,⟨by decide,by decide⟩,hj,fun l H' s hl=>q _ _ ((Same.new hp).trans s) (xi hl z1m)⟩⟩) h
theorem z1G(h:PE X e (tCB zBO (ym (zBK (rdG RAW K Er ms)) tNil))):DE K Er X e (zO (fRg2 PyData.tuple) ms):=z7I (fun σ H Q hq=>by
 obtain⟨g,ow,ρ,n,f,q⟩:=hq;refine⟨g,ow,ρ,n,f,q.imp (fun _ _ _ z=>z) fun vs H1 ⟨S,ds,r,hS,h1,hf,q⟩=>?_⟩;obtain⟨z,ez,ez2⟩:=Option.map_eq_some_iff.mp hf;obtain⟨i,j,rfl,hi,hj,rfl⟩:=z6t ez;subst ez2;obtain⟨v,u,rfl,rv,ru⟩:=all2 h1;refine⟨i,j,by rw[za rv,za ru],fun p hp=>⟨p,i,j,rfl,z7,hi,hj,fun l H' s hl=>q _ _ ((Same.new hp).trans s) (xi hl z1m)⟩⟩) h
noncomputable def z13(f:List PyData->Option (List PyData))(ms:Env'->Mx (List D)):Env'->Mx PyData:=fun ρ=>ms ρ >>= fun ds=>Mx.opt ((onPs f ds).map PyData.list)
theorem z8H{f:List PyData->Option (List PyData)}{t:TE}(hp:PE X e t)
  (h:∀σ H Q,rdG RAW K Er ms σ H (fun vs H1=>∃S ds zs,(∀a,S a->H1 a≠none)/\All2 (Dat1 N0 S H1) ds vs/\f ds=some zs/\∀p H2 ys,Same H1 H2->H2 p=none->DatsS S H2 zs ys->Q (.ref p) (upd H2 p (.lst ys)))->t σ H Q):DF K Er X e (z13 f ms):=hp.imp fun σ H Q hq=>h σ H Q (rd1 hq wP fun g ow ρ n ds vs H0 H2 fr _ r q=>by
 obtain⟨z,e,q2⟩:=wv q;obtain⟨zs,ez,ez2⟩:=Option.map_eq_some_iff.mp e;subst ez2;obtain⟨xs,e1,e2⟩:=Option.bind_eq_some_iff.mp ez;refine⟨g.S ow,xs,zs,fr.dom,z4p e1 r,e2,fun p H3 ys s hn dd=>?_⟩;have s2:=Same.new (o:=.lst ys) hn;refine q2 (.ref p) _ (s.trans s2).kp ((s.trans s2).twn fr.twn) ⟨p,rfl,s.free hn,Pl.upd,?_⟩;simp only[Dat1];exact⟨p,ys,rfl,id,z7,DatsS.kp (Kp.of s2) (fun b z=>z.elim .inl fun e=>.inr (e▸hn)) dd⟩)
noncomputable def z5f:List PyData->Option (List PyData)
 | [.list ds]=>some ds
 | [.tuple ds]=>some ds
 | _=>none
theorem z9J(h:PE X e (tCB (fun xs H Q=>∃p ys,xs=[.ref p]/\(SqL X.K H p ys\/SqT X.K H p ys)/\∀l,H l=none->Q (.ref l) (upd H l (.lst ys))) (rdG RAW K Er ms))):DF K Er X e (z13 z5f ms):=z8H h fun σ H Q hq=>by
 obtain⟨g,ow,ρ,n,f,q⟩:=hq;refine⟨g,ow,ρ,n,f,q.imp (fun _ _ _ z=>z) fun vs H1 ⟨S,ds,zs,hS,h1,hf,q⟩=>?_⟩
 match ds,hf,h1 with
 | [.list xs],hf,h1=>
  cases hf;obtain⟨v,rfl,r⟩:=all1 h1;obtain⟨a,ys,rfl,g1,k1⟩:=yD r;exact⟨a,ys,rfl,.inl (SqL.of g1),fun l hl=>q l _ _ (Same.refl _) hl k1⟩
 | [.tuple xs],hf,h1=>
  cases hf;obtain⟨v,rfl,r⟩:=all1 h1;obtain⟨a,ys,rfl,g1,k1⟩:=yF r;exact⟨a,ys,rfl,.inr (SqT.of g1),fun l hl=>q l _ _ (Same.refl _) hl k1⟩
noncomputable def fSum:List PyData->Option PyData
 | [.list ds]=>(yZ ds).bind fun ns=>if ns.length<=1000/\ns.all (fun n=>decide (0<=n/\n<=1000000))=true then some (.int ns.sum)else none
 | _=>none
theorem z9q(hc:X.calm=true):CallR X (.builtin "sum") (rDn fSum):=(z5K hc).imp fun vs H Q ⟨S,ds,r,hS,h1,hf,q⟩=>by
 match ds,hf,h1 with
 | [.list xs],hf,h1=>
  obtain⟨ns,e,e2⟩:=Option.bind_eq_some_iff.mp hf;split at e2
  next c=>
   cases e2;obtain⟨v,rfl,r⟩:=all1 h1;obtain⟨a,ys,rfl,g1,k1⟩:=yD r;rw[yL e]at k1;rw[k1.ints]at g1;exact⟨a,ns,rfl,SqL.of g1,c.1,fun n hn=>of_decide_eq_true (List.all_eq_true.mp c.2 n hn),q _ _ (Same.refl _) di⟩
  next=>cases e2
noncomputable def z77:List PyData->Option PyData
 | [.int i,.int j]=>some (.int (if j>i then j else i))
 | _=>none
noncomputable def z6a:List PyData->Option PyData
 | [.int i,.int j]=>some (.int (if j<i then j else i))
 | _=>none
theorem z8P(hc:X.calm=true):CallR X (.builtin "max") (rDn z77):=(z5X hc).imp fun vs H Q ⟨S,ds,r,hS,h1,hf,q⟩=>by
 match ds,hf,h1 with
 | [.int i,.int j],hf,h1=>
  cases hf;obtain⟨v,u,rfl,r1,r2⟩:=all2 h1;exact⟨i,j,by rw[za r1,za r2],q _ _ (Same.refl _) di⟩
theorem z95(hc:X.calm=true):CallR X (.builtin "min") (rDn z6a):=(z4y hc).imp fun vs H Q ⟨S,ds,r,hS,h1,hf,q⟩=>by
 match ds,hf,h1 with
 | [.int i,.int j],hf,h1=>
  cases hf;obtain⟨v,u,rfl,r1,r2⟩:=all2 h1;exact⟨i,j,by rw[za r1,za r2],q _ _ (Same.refl _) di⟩
noncomputable def sPar(i j:Nat)(ms:Env'->Mx (List D)):Env'->Mx Out:=fun ρ=>ms ρ >>= fun ds=>match ds with
 | [x,y]=>pure (.nx ((ρ.set i (some (Sl.val x))).set j (some (Sl.val y))))
 | _=>Mx.bad
theorem zAn{i j:Nat}{x y:Str}{px py pt:Pos}{kt k2 pt2}(hc:X.calm=true)(hN:X.N.Nodup)(hi:X.N[i]?=some x)(hj:X.N[j]?=some y)(hij:i≠j)
  (hx:X.env.scope.names.lookup x=some .local) (hy:X.env.scope.names.lookup y=some .local) (ha:DA K Er X [a,b] ms)
  (hw:swappedStores [.Tuple [.Name x px,.Name y py] kt pt] (.Tuple [a,b] k2 pt2) X.env=pure (some [x,y]))
  (hs:swapsWithSole [.Tuple [.Name x px,.Name y py] kt pt] (.Tuple [a,b] k2 pt2) pos.line X.env=pure false:=by rfl) :
  DS K Er X (.Assign [.Tuple [.Name x px,.Name y py] kt pt] (.Tuple [a,b] k2 pt2) pos) (sPar i j ms):=(zAg hc hN hi hj hij hx hy ha hw hs).imp fun σ H E h=>rs1 h fun g ow ρ n n1 ds vs H1 f k f1 r q=>by
 match ds,q,r with
 | [x,y],q,r=>
  obtain⟨v,u,rfl,r1,r2⟩:=all2 r;refine⟨v,u,rfl,?_⟩;have f2:=f1.setVal (i:=i) r1;exact q _ _ _ (f2.setVal (i:=j) (r2.shift rfl rfl fun a z=>zC4 z)) (Stp.put.trans f2.dom Stp.put)
 | [],q,_=>exact q.elim
 | [_],q,_=>exact q.elim
 | _::_::_::_,q,_=>exact q.elim
end
noncomputable def z5H(K:W.Frag):Sp:=fun vs H Q _=>∃(a:Addr) (ns:List Int),vs=[.ref a]/\SqL K H a (ns.map V.int)/\ns.length<=63/\∀H',Q (.bl true) H'
noncomputable def wI(nn:Nat)(ns:List Int):Env':=some (Sl.val (.scr ns))::some (Sl.val .town)::List.replicate (nn - 2) none
def z8t(nn:Nat)(m:Env'->Mx Out):Prop:=∀ns:List Int,ns.length<=63->∃n',m (wI nn ns) 0=.ok (.rt (.p (.bool true))) n'
theorem z4Q{K:W.Frag}{Er:Str->Hp->Prop}{m:Env'->Mx Out}{nn:Nat}{ns:List Int}{a tw:Addr}{H:Hp}{σ:St}{E:Ends}(hσ:σ=some (.ref a)::some (.ref tw)::List.replicate (nn - 2) none)(hS:SqL K H a (ns.map V.int))(htw:H tw=none)
  (hm:∃n',m (wI nn ns) 0=.ok (.rt (.p (.bool true))) n') (hE:∀H',E.rt (.bl true) H'):rdS K Er m E σ (upd H tw (.lst [])):=by
 obtain⟨n',hm⟩:=hm;subst hσ;refine⟨⟨a,ns,some tw,fun _=>False,upd H tw (.lst [])⟩,fun _=>none,wI nn ns,0,⟨?_,?_,fun _ z=>z.elim,Kp.refl _ _,fun i d e=>?_,fun i x e=>?_,fun i kl e=>?_,fun i a e=>(nomatch e),fun i j a e=>(nomatch e),?_⟩,?_⟩
 ·rcases hS with hS | hS
  ·refine .inr ⟨fun z=>?_,(Same.new htw).seq (.inl hS)⟩;have z:tw=a:=Option.some.inj z;rcases hS with z2 | ⟨o,z2⟩
   ·rw[<-z,htw]at z2;cases z2
   ·rw[<-z,htw]at z2;cases z2
  ·exact .inl fun _=>.inr hS
 ·intro b e;have e:tw=b:=Option.some.inj e;rw[<-e,z7];rfl
 ·unfold wI at e
  match i,e with
  | 0,e=>cases e;exact⟨.ref a,rfl,rfl,rfl⟩
  | 1,e=>cases e;exact⟨.ref tw,rfl,tw,rfl,rfl⟩
  | i+2,e=>
   have e:(List.replicate (nn - 2) (none:Option Sl))[i]?=some (some (Sl.val d)):=e;rw[List.getElem?_replicate]at e;split at e<;>cases e
 ·unfold wI at e
  match i,e with
  | 0,e=>cases e
  | 1,e=>cases e
  | i+2,e=>
   have e:(List.replicate (nn - 2) (none:Option Sl))[i]?=some (some (Sl.own x)):=e;rw[List.getElem?_replicate]at e;split at e<;>cases e
 ·unfold wI at e
  match i,e with
  | 0,e=>cases e
  | 1,e=>cases e
  | i+2,e=>
   have e:(List.replicate (nn - 2) (none:Option Sl))[i]?=some (some (Sl.deep kl)):=e;rw[List.getElem?_replicate]at e;split at e<;>cases e
 ·simp[wI]
 ·rw[hm];intro v H' _ _ r
  have:v=.bl true:=by simpa only[Rep,DatS]using r
  rw[this];exact hE H'
theorem zBS{P:Program}{w:World}{K:W.Frag}{mg:Str->Option Value}{base:Heap}{x qual:Str}{st:Stmt}{f:Addr}{fd:FuncData}{N:List Str}{k nn:Nat}{m:Env'->Mx Out}{s0:Stmt}{rest:List Stmt}(F:Fun K x qual st f fd)(S:FnScope N ["_law_script"] (z6 st))(hn:N.length=nn)(h2:2<=nn)(hb:yH st=s0::rest)
  (h0:∀(cdv:Value) (A:Around) (outer:List Env) (s:Shared) (H:Hp) (E:XK),PS (cxOf CX0 P w K mg base N qual (z6 st) f cdv A outer s H E).nox s0 (tAsg (tLst tNil) (z12 1)))
  (h:∀(cdv:Value) (A:Around) (outer:List Env) (s:Shared) (H:Hp) (E:XK),Room k (A.deeper (envOfC qual (z6 st) s.heap.objs.size f cdv))->DSs K (fun _ _=>False) (cxOf CX0 P w K mg base N qual (z6 st) f cdv A outer s H E).nox rest m) (tells:z8t nn m) :
  FnOk P w K mg base CX0 (k+1) f fd ["_law_script"] (z5H K):=by
 subst hn;refine F.ok S (fun vs H Q E h=>?_) fun cdv A outer s H vs Q E hr hsp=>?_
 ·obtain⟨a,ns,rfl,_⟩:=h;rfl
 ·obtain⟨a,ns,rfl,hS,hl,hq⟩:=hsp;rw[hb];refine⟨_,xC (h0 cdv A outer s H E) (h cdv A outer s H E hr),Nat.zero_le _,fun tw htw=>?_⟩;refine z4Q (nn:=N.length) ?_ hS htw (tells ns hl) fun H'=>hq H';unfold start;obtain⟨j,hj⟩:∃j,N.length=j+2:=⟨N.length - 2,by omega⟩;rw[hj];rfl
open PySem
set_option genInjectivity false in
set_option genSizeOfSpec false in
structure Fn1 where
 a:Addr
 d:FuncData
structure FT(K:W.Frag)(mg:Str->Option Value)(x:Str)(ps:List Str)(st:Stmt)(t:Fn1):Prop where
 F:Fun K x x st t.a t.d
 m:mg x=some (.ref t.a)
 k:W.keepIn K (.ref t.a)=true
 d:Binds K t.d ps []
set_option genInjectivity false in
set_option genSizeOfSpec false in
structure Hd where
 f:Addr
 oc:Value
 od:Option Addr
 an:Option Addr
 sl:Array (Option Value)
 kV:Value
 dc:Value
 pm:Value
 cd:Value
 ct:Value
noncomputable def Hd.t(y:Hd)(x:Str)(st:Stmt):Fn1:=⟨y.f,W.fnOf x x (xE st) (yH st) (z6 st) .none y.kV y.dc y.pm y.an y.cd y.ct⟩
structure Giv(K:W.Frag)(x:Str)(st:Stmt)(y:Hd):Prop where
 a:W.nsIn K mainGlobals x=some (some (.ref y.f))
 l:K.lookup y.f=some ⟨y.oc,y.od,.func (y.t x st).d,y.sl⟩
 c:W.codeIn K y.cd x=true
 k:W.keepIn K (.ref y.f)=true
theorem Giv.of{K:W.Frag}{x:Str}{st:Stmt}{f:Addr}{oc kV dc pm cd ct:Value}{od an:Option Addr}{sl:Array (Option Value)}(a:W.nsIn K mainGlobals x=some (some (.ref f)))
  (l:K.lookup f=some ⟨oc,od,.func (W.fnOf x x (xE st) (yH st) (z6 st) .none kV dc pm an cd ct),sl⟩) (c:W.codeIn K cd x=true) (k:W.keepIn K (.ref f)=true):Giv K x st ⟨f,oc,od,an,sl,kV,dc,pm,cd,ct⟩:=⟨a,l,c,k⟩
theorem Giv.fn{K:W.Frag}{x:Str}{st:Stmt}{y:Hd}(g:Giv K x st y):Fun K x x st (y.t x st).a (y.t x st).d:=z9s (st:=st) g.l g.c g.k
theorem Giv.ft{K:W.Frag}{h:Heap}{mg:Str->Option Value}{x:Str}{st:Stmt}{y:Hd}{ps:List Str}(g:Giv K x st y)(X:K.In h)(G:h.Ns mainGlobals mg)(b:Binds K (y.t x st).d ps []):FT K mg x ps st (y.t x st):=⟨g.fn,W.mg_of X G g.a,g.k,b⟩
theorem Giv.f1{K:W.Frag}{h:Heap}{mg:Str->Option Value}{x p0:Str}{st:Stmt}{y:Hd}(g:Giv K x st y)(X:K.In h)(G:h.Ns mainGlobals mg)(b:∀(kV doc pm:Value) (an:Option Addr) (cdv ct u0:Value),bindArgs (W.fnOf x x (xE st) (yH st) (z6 st) .none kV doc pm an cdv ct) ⟨[u0],[]⟩=pure [(p0,u0)]):FT K mg x [p0] st (y.t x st):=
 g.ft X G (g.fn.binds fun kV doc pm an cdv ct us hl=>by
  match us,hl with
  | [u0],_=>exact b ..)
theorem Giv.f2{K:W.Frag}{h:Heap}{mg:Str->Option Value}{x p0 p1:Str}{st:Stmt}{y:Hd}(g:Giv K x st y)(X:K.In h)(G:h.Ns mainGlobals mg)(b:∀(kV doc pm:Value) (an:Option Addr) (cdv ct u0 u1:Value),bindArgs (W.fnOf x x (xE st) (yH st) (z6 st) .none kV doc pm an cdv ct) ⟨[u0,u1],[]⟩=pure [(p0,u0),(p1,u1)]):FT K mg x [p0,p1] st (y.t x st):=
 g.ft X G (g.fn.binds fun kV doc pm an cdv ct us hl=>by
  match us,hl with
  | [u0,u1],_=>exact b ..)
theorem Giv.f3{K:W.Frag}{h:Heap}{mg:Str->Option Value}{x p0 p1 p2:Str}{st:Stmt}{y:Hd}(g:Giv K x st y)(X:K.In h)(G:h.Ns mainGlobals mg)(b:∀(kV doc pm:Value) (an:Option Addr) (cdv ct u0 u1 u2:Value),bindArgs (W.fnOf x x (xE st) (yH st) (z6 st) .none kV doc pm an cdv ct) ⟨[u0,u1,u2],[]⟩=pure [(p0,u0),(p1,u1),(p2,u2)]):FT K mg x [p0,p1,p2] st (y.t x st):=
 g.ft X G (g.fn.binds fun kV doc pm an cdv ct us hl=>by
  match us,hl with
  | [u0,u1,u2],_=>exact b ..)
theorem z5u(b:List Int):HT.lexLt b []=false:=by cases b<;>rfl
theorem xq:∀a:List Int,HT.lexLt a a=false
 | []=>rfl
 | x::r=>by rw[HT.lexLt_cons,if_pos rfl];exact xq r
theorem uG:∀{a b:List Int},HT.lexLt a b=false->HT.lexLt b a=false->a=b
 | [],[],_,_=>rfl
 | [],_::_,h,_=>by cases h
 | _::_,[],_,h=>by cases h
 | x::r,y::s,h,k=>by
  rw[HT.lexLt_cons]at h k;by_cases e:x=y
  ·subst e;rw[if_pos rfl]at h k;rw[uG h k]
  ·rw[if_neg e]at h;rw[if_neg (Ne.symm e)]at k;have h1:=of_decide_eq_false h;have h2:=of_decide_eq_false k;omega
theorem yM:∀{a b c:List Int},HT.lexLt a b=true->HT.lexLt b c=true->HT.lexLt a c=true
 | a,b,[],_,k=>by rw[z5u]at k;cases k
 | a,[],_::_,h,_=>by rw[z5u]at h;cases h
 | [],_::_,_::_,_,_=>rfl
 | x::r,y::s,z::t,h,k=>by
  rw[HT.lexLt_cons]at h k |-;by_cases e1:x=y
  ·subst e1;rw[if_pos rfl]at h;by_cases e2:x=z
   ·subst e2;rw[if_pos rfl]at k |-;exact yM h k
   ·rw[if_neg e2]at k |-;exact k
  ·rw[if_neg e1]at h;have h1:=of_decide_eq_true h;by_cases e2:y=z
   ·subst e2;rw[if_neg e1];exact h
   ·rw[if_neg e2]at k;have h2:=of_decide_eq_true k;rw[if_neg (by omega)];exact decide_eq_true (by omega)
noncomputable def rank(k:Nat->List Int)(n i:Nat):Int:=(((List.range n).filter fun j=>HT.lexLt (k j) (k i)).length:Nat)
theorem uA{α:Type}{p q:α->Bool}:∀{l:List α},(∀x∈l,p x=true->q x=true)->(l.filter p).length<=(l.filter q).length
 | [],_=>Nat.le_refl _
 | x::r,h=>by
  have ih:=uA (l:=r) fun y hy=>h y (List.mem_cons_of_mem _ hy);rw[List.filter_cons,List.filter_cons];by_cases hp:p x=true
  ·rw[if_pos hp,if_pos (h x List.mem_cons_self hp)];simp only[List.length_cons];omega
  ·rw[if_neg hp];split
   ·simp only[List.length_cons];omega
   ·exact ih
theorem z1X{α:Type}{p q:α->Bool}{z:α}(hz:p z=false)(hq:q z=true):∀{l:List α},z∈l->(∀x∈l,p x=true->q x=true)->(l.filter p).length<(l.filter q).length
 | [],m,_=>nomatch m
 | x::r,m,h=>by
  have h':∀y∈r,p y=true->q y=true:=fun y hy=>h y (List.mem_cons_of_mem _ hy);rw[List.filter_cons,List.filter_cons];rcases List.mem_cons.mp m with e | m
  ·subst e;rw[if_neg (by rw[hz];exact Bool.false_ne_true),if_pos hq,List.length_cons]
   have:=uA h';omega
  ·have ih:=z1X hz hq m h';by_cases hp:p x=true
   ·rw[if_pos hp,if_pos (h x List.mem_cons_self hp),List.length_cons,List.length_cons];omega
   ·rw[if_neg hp];split
    ·rw[List.length_cons];omega
    ·exact ih
theorem z2U{k:Nat->List Int}{n i j:Nat}(hi:i<n):decide (rank k n i<rank k n j)=HT.lexLt (k i) (k j):=by
 unfold rank;cases h:HT.lexLt (k i) (k j)with
 | true=>
  refine decide_eq_true ?_
  have:=z1X (p:=fun x=>HT.lexLt (k x) (k i)) (q:=fun x=>HT.lexLt (k x) (k j)) (z:=i) (xq _) h (List.mem_range.mpr hi) fun x _ hx=>yM hx h;omega
 | false=>
  refine decide_eq_false ?_
  have:=uA (l:=List.range n) (p:=fun x=>HT.lexLt (k x) (k j)) (q:=fun x=>HT.lexLt (k x) (k i)) fun x _ hx=>by
   cases h2:HT.lexLt (k j) (k i)with
   | true=>exact yM hx h2
   | false=>rw[uG h h2];exact hx
  omega
theorem xf{α:Type}{key:α->List Int}:∀{l1 l2:List α},l1.Perm l2->l1.Pairwise (fun a b=>HT.lexLt (key b) (key a)=false)->l2.Pairwise (fun a b=>HT.lexLt (key b) (key a)=false)->(∀a∈l1,∀b∈l1,key a=key b->a=b)->l1=l2
 | [],l2,p,_,_,_=>(List.nil_perm.mp p).symm
 | a::r,[],p,_,_,_=>by have:=p.length_eq;simp at this
 | a::r,b::s,p,h1,h2,hk=>by
  obtain⟨a1,a2⟩:=List.pairwise_cons.mp h1;obtain⟨b1,b2⟩:=List.pairwise_cons.mp h2;have mb:b∈a::r:=p.mem_iff.mpr List.mem_cons_self;have ma:a∈b::s:=p.mem_iff.mp List.mem_cons_self;have e1:HT.lexLt (key b) (key a)=false:=by
   rcases List.mem_cons.mp mb with e | m
   ·rw[e];exact xq _
   ·exact a1 b m
  have e2:HT.lexLt (key a) (key b)=false:=by
   rcases List.mem_cons.mp ma with e | m
   ·rw[e];exact xq _
   ·exact b1 a m
  have e:a=b:=hk a List.mem_cons_self b mb (uG e2 e1);subst e;rw[xf ((List.perm_cons a).mp p) a2 b2 fun x hx y hy=>hk x (List.mem_cons_of_mem _ hx) y (List.mem_cons_of_mem _ hy)]
noncomputable def insB{α:Type}(key:α->List Int)(x:α):List α->List α
 | []=>[x]
 | y::r=>if HT.lexLt (key x) (key y)=true then x::y::r else y::insB key x r
noncomputable def z0x{α:Type}(key:α->List Int):List α->List α
 | []=>[]
 | x::r=>insB key x (z0x key r)
theorem insB_perm{α:Type}{key:α->List Int}{x:α}:∀{l:List α},(insB key x l).Perm (x::l)
 | []=>List.Perm.refl _
 | y::r=>by
  unfold insB;split
  ·exact List.Perm.refl _
  ·exact((insB_perm (l:=r)).cons y).trans (List.Perm.swap x y r)
theorem z0B{α:Type}{key:α->List Int}:∀(l:List α),(z0x key l).Perm l
 | []=>List.Perm.refl _
 | x::r=>insB_perm.trans ((z0B r).cons x)
theorem uI{α:Type}{key:α->List Int}{x:α}:∀{l:List α},l.Pairwise (fun a b=>HT.lexLt (key b) (key a)=false)->(insB key x l).Pairwise (fun a b=>HT.lexLt (key b) (key a)=false)
 | [],_=>List.pairwise_singleton _ _
 | y::r,h=>by
  obtain⟨h1,h2⟩:=List.pairwise_cons.mp h;unfold insB;split
  next c=>
   refine List.pairwise_cons.mpr ⟨fun z hz=>?_,h⟩;rcases List.mem_cons.mp hz with e | m
   ·subst e;cases q:HT.lexLt (key z) (key x)with
    | false=>rfl
    | true=>rw[<-xq (key x),yM c q]
   ·cases q:HT.lexLt (key z) (key x)with
    | false=>rfl
    | true=>rw[<-h1 z m,yM q c]
  next c=>
   refine List.pairwise_cons.mpr ⟨fun z hz=>?_,uI h2⟩;rcases List.mem_cons.mp (insB_perm.mem_iff.mp hz)with e | m
   ·subst e;simpa using c
   ·exact h1 z m
theorem wa{α:Type}{key:α->List Int}:∀(l:List α),(z0x key l).Pairwise (fun a b=>HT.lexLt (key b) (key a)=false)
 | []=>List.Pairwise.nil
 | x::r=>uI (wa r)
open PySem.W (KasT kas_sort kas_ask kat_run kat_snds kat_kind kat_lt KatTups KatLex kat_nil kat_cons kat_go kat_yes kat_no kat_one kat_lt_int)
section
variable{prog:Program}{w:World}{A:Around}{E:Value->Shared->Prop}{s:Shared}
theorem z27{x:Value}{vs:List Value}{Q:Value->Shared->Prop}{f:Nat->Int}{κ:SortKind}(h64:vs.length<64)
  (hcol:∀(Q':List Value->Shared->Prop),(∀h' tk,(∀b o,s.heap.get? b=some o->h'.get? b=some o)->Q' vs { s with heap:=h',toks:=tk })->wpAny (model prog w) A.in1 (collect x) Q' E s)
  (kind:∀(s':Shared) (Q:SortKind->Shared->Prop) (E:Value->Shared->Prop),2<=vs.length->(∀b o,s.heap.get? b=some o->s'.heap.get? b=some o)->Q κ s'->wpAny (model prog w) A.in1.in1 (keyKind' vs.toArray) Q E s')
  (cmp:∀(i j:Nat) (s':Shared) (Q:Bool->Shared->Prop) (E:Value->Shared->Prop),i<vs.length->j<vs.length->(∀b o,s.heap.get? b=some o->s'.heap.get? b=some o)->Q (decide (f i<f j)) s'->wpAny (model prog w) A.in1.in1 (keyLt' κ (vs.getD i Value.none) (vs.getD j Value.none)) Q E s')
  (h:∀(p:Array Nat) (h' hf:Heap) (e tk:Nat),p.Perm (List.toArray (List.range vs.length))->My.Up f p vs.length->(∀b o,s.heap.get? b=some o->h'.get? b=some o)->(∀b o,h'.get? b=some o->hf.get? b=some o)->hf.get? h'.objs.size=some (seqObj "list" (z1y vs p) e)->Q (.ref h'.objs.size) { s with heap:=hf,toks:=tk }) :
  wpAny (model prog w) A (call (.builtin "sorted") [x]) Q E s:=by
 refine Calls.call_function_entry kind_sorted plain_sorted entry_sorted (args_sorted1 _) ?_;unfold Builtin.«sorted»;refine wpAny_bind (m:=checkCount "sorted" 1 1 _) (wpAny_pure ?_);refine wpAny_bind (hcol _ fun h' tk kp0=>?_);refine wpAny_bind (wpAny_newList ?_ (by rw[sizeLine_eq];omega));have hoL:(h'.push (seqObj "list" vs.toArray 0)).get? h'.objs.size=some (seqObj "list" vs.toArray 0):=Heap.get?_push_size _ rfl;have kp:∀b o,s.heap.get? b=some o->(h'.push (seqObj "list" vs.toArray 0)).get? b=some o:=fun b o e=>Heap.get?_push_of_some _ (kp0 b o e);have ne:∀b o,s.heap.get? b=some o->b≠h'.objs.size:=fun b o e=>Nat.ne_of_lt (Heap.lt_size (kp0 b o e));show wpAny _ _ _ _ _ { s with heap:=h'.push (seqObj "list" vs.toArray 0),toks:=tk };refine wpAny_bind (wpAny_holding (wpAny_call_entry slot_list_sort ⟨_,hoL,rfl⟩ entry_list_sort (zBo (f:=f) (κ:=κ) hoL h64 (fun s' Q' E' h2 k' hq=>kind s' Q' E' h2 (fun b o e=>k' b o (ne b o e) (kp b o e)) hq)
  (fun i j s' Q' E' hi hj k' hq=>cmp i j s' Q' E' hi hj (fun b o e=>k' b o (ne b o e) (kp b o e)) hq) fun p hp hup=>⟨_,rfl,?_⟩) (args_list_sort _)))
 obtain⟨e,he⟩:=sortedHeap_at (h:=h'.push (seqObj "list" vs.toArray 0)) (out:=z1y vs p) hoL;refine wpAny_pure ⟨_,rfl,h p h' _ e tk hp hup kp0 (fun b o eb=>?_) he⟩;rw[sortedHeap_old (Nat.ne_of_lt (Heap.lt_size eb)) (by rw[size_push'];exact Nat.lt_succ_of_lt (Heap.lt_size eb))];exact Heap.get?_push_of_some _ eb
theorem uV{fin:Bool}{Q:Bool->Shared->Prop}:∀{ns ms:List Int} {us ws:List Value} {i:Nat},Vals (ns.map V.int) us->Vals (ms.map V.int) ws->(fin=decide (i+ns.length<i+ms.length))->Q (HT.lexLt ns ms) s->KatLex prog w A true fin Q (us.zip ws) i s
 | [],[],_,_,i,.nil,.nil,hf,q=>kat_nil (by rw[hf,show decide (i+([]:List Int).length<i+([]:List Int).length)=false from decide_eq_false (by simp)];exact q)
 | [],_::_,_,_,i,.nil,.cons _ _,hf,q=>kat_nil (by rw[hf,decide_eq_true (by simp)];exact q)
 | _::_,[],_,_,i,.cons _ _,.nil,hf,q=>kat_nil (by rw[hf,show decide (i+(_::_:List Int).length<i+([]:List Int).length)=false from decide_eq_false (by simp)];exact q)
 | n::ns,m::ms,_,_,i,.cons ⟨t,e1⟩ r1,.cons ⟨t2,e2⟩ r2,hf,q=>by
  subst e1 e2;refine kat_cons (wpAny_eqBool_int (kat_go (fun he=>kat_yes ?_) fun he=>kat_no ?_))
  ·have he':n=m:=by simpa using he
   subst he';refine uV (i:=i+1) r1 r2 (by rw[hf];exact decide_eq_decide.mpr (by simp only[List.length_cons];omega)) ?_
   rwa [HT.lexLt_cons,if_pos rfl]at q
  ·have he':n≠m:=by simpa using he
   rw[HT.lexLt_cons,if_neg he']at q;cases hi:(true && i == 0)with
   | true=>
    have z:=kat_lt_int (prog:=prog) (w:=w) (A:=A) (E:=fun _ _=>False) (s:=s) (x:=n) (y:=m) (t:=t) (u:=t2) (Q:=Q) q;rw[keyLt'_oneType]at z;exact z
   | false=>exact kat_one _ _ (PyProof.Rows.lt_int q)
end
noncomputable def keyI:PyData->List Int
 | .int i=>[i]
 | .tuple ds=>(yZ ds).getD []
 | _=>[]
noncomputable def isInt:PyData->Bool
 | .int _=>true
 | _=>false
noncomputable def z09:PyData->Bool
 | .tuple ds=>(yZ ds).isSome && !ds.isEmpty
 | _=>false
noncomputable def yU(ds:List PyData):Bool:=(ds.all isInt || ds.all z09) && decide (ds.length<64)
noncomputable def uB:List PyData->Option PyData
 | [.list ds]=>if yU ds=true then some (.list (z0x keyI ds))else none
 | [.tuple ds]=>if yU ds=true then some (.list (z0x keyI ds))else none
 | _=>none
theorem z7G{ds:List PyData}(h:yU ds=true):∀a∈ds,∀b∈ds,keyI a=keyI b->a=b:=by
 unfold yU at h;rw[Bool.and_eq_true,Bool.or_eq_true,List.all_eq_true,List.all_eq_true]at h;intro a ha b hb e;rcases h.1 with h1 | h1
 ·have a1:=h1 a ha;have b1:=h1 b hb;cases a<;>simp only[isInt]at a1<;>try cases a1
  cases b<;>simp only[isInt]at b1<;>try cases b1
  simp only[keyI]at e;cases e;rfl
 ·have a1:=h1 a ha;have b1:=h1 b hb;cases a<;>simp only[z09]at a1<;>try cases a1
  cases b<;>simp only[z09]at b1<;>try cases b1
  rename_i xs ys
  rw[Bool.and_eq_true]at a1 b1;obtain⟨ns,e1⟩:=Option.isSome_iff_exists.mp a1.1;obtain⟨ms,e2⟩:=Option.isSome_iff_exists.mp b1.1;simp only[keyI,e1,e2,Option.getD_some]at e;rw[yL e1,yL e2,e]
theorem uJ{f:Nat->Int}{p:Array Nat}{n:Nat}(hs:p.size=n)(h:My.Up f p n):p.toList.Pairwise fun i j=>f i<=f j:=by
 rw[List.pairwise_iff_getElem];intro i j hi hj hij
 have:=h.le (Nat.le_of_lt hij) (by rw[<-hs];simpa using hj);have hi':i<p.size:=by simpa using hi
 have hj':j<p.size:=by simpa using hj
 simpa[My.at_,hi',hj']using this
theorem z4L{S:Addr->Prop}{H:Hp}{ds:List PyData}{xs:List V}{its:List Value}(hd:DatsS S H ds xs)(rv:Vals xs its)(hs:yU ds=true){p:Array Nat}(hp:p.Perm (List.toArray (List.range its.length)))(hup:My.Up (rank (fun i=>keyI (ds.getD i .none)) ds.length) p its.length):
  ∃ys,Vals ys (p.toList.map fun i=>its.getD i Value.none)/\DatsS S H (z0x keyI ds) ys/\ys.length=ds.length:=by
 have l1:=hd.length;have l2:=rv.length;have hpl:p.toList.Perm (List.range ds.length):=by
  have:=hp.toList;rw[<-l2,<-l1]at this;simpa using this
 have hmem:∀i∈p.toList,i<ds.length:=fun i hi=>List.mem_range.mp (hpl.mem_iff.mp hi);have hn:p.toList.length=ds.length:=by rw[hpl.length_eq,List.length_range]
 have gen:∀l:List Nat,(∀i∈l,i<ds.length)->Vals (l.map fun i=>xs.getD i .non) (l.map fun i=>its.getD i Value.none)/\DatsS S H (l.map fun i=>ds.getD i .none) (l.map fun i=>xs.getD i .non):=fun l=>by
  induction l with
  | nil=>intro _;exact⟨.nil,.nil⟩
  | cons i l ih=>
   intro hl;obtain⟨g1,g2⟩:=ih fun j hj=>hl j (List.mem_cons_of_mem _ hj);have hi:=hl i List.mem_cons_self;obtain⟨v,e1,r1⟩:=hd.get (List.getElem?_eq_getElem hi);obtain⟨u,e2,r2⟩:=rv.get e1;have a1:ds.getD i .none=ds[i]:=by rw[List.getD_eq_getElem?_getD,List.getElem?_eq_getElem hi];rfl
   have a2:xs.getD i .non=v:=by rw[List.getD_eq_getElem?_getD,e1];rfl
   have a3:its.getD i Value.none=u:=by rw[List.getD_eq_getElem?_getD,e2];rfl
   refine⟨.cons (by show RelV (xs.getD i .non) (its.getD i Value.none);rw[a2,a3];exact r2) g1,.cons (by show DatS S H (ds.getD i .none) (xs.getD i .non);rw[a1,a2];exact r1) g2⟩
 obtain⟨g1,g2⟩:=gen p.toList hmem;have e2:(List.range ds.length).map (fun i=>ds.getD i .none)=ds:=by
  refine List.ext_getElem (by simp) fun i a b=>?_;simp[List.getD_eq_getElem?_getD,b]
 have perm:(p.toList.map fun i=>ds.getD i .none).Perm ds:=by
  have:=hpl.map fun i=>ds.getD i .none
  rwa [e2]at this
 have pw:(p.toList.map fun i=>ds.getD i .none).Pairwise fun a b=>HT.lexLt (keyI b) (keyI a)=false:=by
  rw[List.pairwise_map];refine(uJ (n:=its.length) (by simpa[<-l2,<-l1]using hn) hup).imp_of_mem fun{i j} hi hj hle=>?_;rw[<-z2U (n:=ds.length) (k:=fun i=>keyI (ds.getD i .none)) (hmem j hj)];exact decide_eq_false (by omega)
 have e3:=xf (perm.trans (z0B ds).symm) pw (wa ds) fun a ha b hb=>z7G hs a (perm.mem_iff.mp ha) b (perm.mem_iff.mp hb);refine⟨_,g1,by rw[<-e3];exact g2,by rw[List.length_map,hn]⟩
variable{X:Cx}
theorem yy{S:Addr->Prop}{H:Hp}:∀{ds:List PyData} {ns:List Int} {ys:List V},yZ ds=some ns->DatsS S H ds ys->ys=ns.map V.int:=fun{ds ns ys} e h=>by
 rw[yL e]at h;clear e
 induction ns generalizing ys with
 | nil=>simpa only[List.map_nil,DatsS]using h
 | cons n ns ih=>
  simp only[List.map_cons,DatsS]at h;obtain⟨x,r,rfl,h1,h2⟩:=h;simp only[DatS]at h1;rw[h1,ih h2];rfl
theorem xj{pins:List (Addr×Obj)}{s:Shared}{σ:L2.St}{H:Hp}{Q:VK}{S:Addr->Prop}{x:Value}{ds:List PyData}{xs:List V}{its:List Value}(I:L2.Inv X pins σ H s)(hS:∀a,S a->H a≠none)(hd:DatsS S H ds xs)(rv:Vals xs its)(hs:yU ds=true)
  (hcol:∀(Q':List Value->Shared->Prop),(∀h' tk,(∀b o,s.heap.get? b=some o->h'.get? b=some o)->Q' its { s with heap:=h',toks:=tk })->wpAny (model X.prog X.w) X.A.in1 (collect x) Q' X.xe s)
  (q:∀v H',Same H H'->DatS S H' (.list (z0x keyI ds)) v->Q v H'):wpAny (model X.prog X.w) X.A (call (.builtin "sorted") [x]) (EP X pins σ Q) X.xe s:=by
 have l1:=hd.length;have l2:=rv.length;have hs':=hs;unfold yU at hs';rw[Bool.and_eq_true,Bool.or_eq_true,List.all_eq_true,List.all_eq_true]at hs';have h64:its.length<64:=by
  have:=of_decide_eq_true hs'.2;omega
 have fin:∀(p:Array Nat) (h' hf:Heap) (e tk:Nat),p.Perm (List.toArray (List.range its.length))->My.Up (rank (fun i=>keyI (ds.getD i .none)) ds.length) p its.length->(∀b o,s.heap.get? b=some o->h'.get? b=some o)->(∀b o,h'.get? b=some o->hf.get? b=some o)->hf.get? h'.objs.size=some (seqObj "list" (z1y its p) e)->EP X pins σ Q (.ref h'.objs.size) { s with heap:=hf,toks:=tk }:=fun p h' hf e tk hp hup k1 k2 ho=>by
  obtain⟨ys,rv',dv,hl⟩:=z4L hd rv hs hp hup;have I1:=I.kept (t':=tk) k1;refine⟨.ref h'.objs.size,_,I1.laid (t':=tk) (a:=h'.objs.size) (o:=.lst ys) (h':=hf) k2 (Nat.le_refl _) ⟨by rw[hl,sizeLine_eq];omega,_,e,rv',ho⟩,rfl,q _ _ (Same.new (I1.hok.fresh (Nat.le_refl _))) (wJ hS (I1.hok.fresh (Nat.le_refl _)) dv)⟩
 have at1:∀i,i<its.length->∃d v u,ds[i]?=some d/\ds.getD i .none=d/\d∈ds/\DatS S H d v/\RelV v u/\its.getD i Value.none=u:=fun i hi=>by
  have hi':i<ds.length:=by omega
  obtain⟨v,e1,r1⟩:=hd.get (List.getElem?_eq_getElem hi');obtain⟨u,e2,r2⟩:=rv.get e1;exact⟨ds[i],v,u,List.getElem?_eq_getElem hi',by rw[List.getD_eq_getElem?_getD,List.getElem?_eq_getElem hi'];rfl,List.getElem_mem hi',r1,r2,by rw[List.getD_eq_getElem?_getD,e2];rfl⟩
 rcases hs'.1 with h1 | h1
 ·have getv:∀i,i<its.length->∃n t,its.getD i Value.none=.int n t/\keyI (ds.getD i .none)=[n]:=fun i hi=>by
   obtain⟨d,v,u,e0,e1,hm,r1,r2,e2⟩:=at1 i hi;have a1:=h1 d hm;cases d<;>simp only[isInt]at a1<;>try cases a1
   simp only[DatS]at r1;subst r1;obtain⟨t,rfl⟩:=r2;exact⟨_,t,e2,by rw[e1];rfl⟩
  refine z27 (κ:=oneType') (f:=rank (fun i=>keyI (ds.getD i .none)) ds.length) h64 hcol (fun s' Q' E' h2 kp hq'=>?_) (fun i j s' Q' E' hi hj kp hq'=>?_) fin
  ·refine W.kas_kind (T:=.type "int") h2 (fun v hv=>?_) rfl rfl hq';obtain⟨i,hi,rfl⟩:=List.mem_iff_getElem.mp hv;obtain⟨n,t,e,_⟩:=getv i hi;rw[List.getD_eq_getElem?_getD,List.getElem?_eq_getElem hi]at e;have e':its[i]=.int n t:=e;rw[e'];exact W.Looks.of_pure rfl
  ·obtain⟨n,t,e1,k1⟩:=getv i hi;obtain⟨m,t2,e2,k2⟩:=getv j hj;rw[e1,e2];refine kat_lt_int ?_;rw[z2U (by omega)]at hq'
   have:HT.lexLt (keyI (ds.getD i .none)) (keyI (ds.getD j .none))=decide (n<m):=by
    rw[k1,k2,HT.lexLt_cons];split
    next he=>subst he;simp[HT.lexLt]
    next=>rfl
   rwa [this]at hq'
 ·have item:∀i,i<its.length->∃a ns us,its.getD i Value.none=.ref a/\keyI (ds.getD i .none)=ns/\ns≠[]/\Vals (ns.map V.int) us/\IsTup s.heap a us.toArray:=fun i hi=>by
   obtain⟨d,v,u,e0,e1,hm,r1,r2,e2⟩:=at1 i hi;have a1:=h1 d hm;cases d<;>simp only[z09]at a1<;>try cases a1
   rename_i ts
   rw[Bool.and_eq_true]at a1;obtain⟨ns,en⟩:=Option.isSome_iff_exists.mp a1.1;simp only[DatS]at r1;obtain⟨a,ys,rfl,hA,dy⟩:=r1;cases r2;have ey:=yy en dy;subst ey;obtain⟨us,rus,tp,_⟩:=I.tuple (SqT.of hA);refine⟨a,ns,us,e2,by rw[e1];simp only[keyI,en,Option.getD_some],fun z=>?_,rus,tp⟩
   have:=yL en;rw[z]at this;rw[this]at a1;simp at a1
  have up:∀{s':Shared} {c:Addr} {xs:Array Value},(∀b o,s.heap.get? b=some o->s'.heap.get? b=some o)->IsTup s.heap c xs->IsTup s'.heap c xs:=fun{s' c xs} kp t=>by
   obtain⟨o,e,r⟩:=t;exact⟨o,kp _ _ e,r⟩
  refine z27 (κ:=tuples' true) (f:=rank (fun i=>keyI (ds.getD i .none)) ds.length) h64 hcol (fun s' Q' E' h2 kp hq'=>?_) (fun i j s' Q' E' hi hj kp hq'=>?_) fin
  ·have tups:∀(l:List Nat),(∀i∈l,i<its.length)->∃fs:List Value,KatTups s'.heap (l.map fun i=>its.getD i Value.none) fs/\fs.length=l.length/\∀v∈fs,∃n t,v=.int n t:=fun l=>by
    induction l with
    | nil=>intro _;exact⟨[],trivial,rfl,fun v hv=>nomatch hv⟩
    | cons i l ih=>
     intro hl';obtain⟨fs,k1,k2,k3⟩:=ih fun j hj=>hl' j (List.mem_cons_of_mem _ hj);have hi:=hl' i List.mem_cons_self;obtain⟨a,ns,us,e1,ek,nn,rus,tp⟩:=item i hi;obtain⟨o,b1,b2,n,b3⟩:=up kp tp;cases ns with
     | nil=>exact absurd rfl nn
     | cons m ms=>
      cases rus with
      | cons ru1 ru2=>
       obtain⟨t,rfl⟩:=ru1;refine⟨.int m t::fs,?_,by simp[k2],fun v hv=>?_⟩
       ·rw[List.map_cons,e1];exact KatTups.cons b1 b2 b3 rfl k1
       ·rcases List.mem_cons.mp hv with rfl | hv
        ·exact⟨_,_,rfl⟩
        ·exact k3 v hv
   obtain⟨fs,k1,k2,k3⟩:=tups (List.range its.length) fun i hi=>List.mem_range.mp hi;have e:(List.range its.length).map (fun i=>its.getD i Value.none)=its:=by
    refine List.ext_getElem (by simp) fun i a b=>?_;simp[List.getD_eq_getElem?_getD,b]
   rw[e]at k1;rw[List.length_range]at k2;refine kat_kind (T:=.type "int") k1 (by omega) (fun v hv=>?_) rfl hq';obtain⟨n,t,rfl⟩:=k3 v hv;exact W.Looks.of_pure rfl
  ·obtain⟨a,ns,us,e1,ek1,nn1,rus1,tp1⟩:=item i hi;obtain⟨b,ms,ws,e2,ek2,nn2,rus2,tp2⟩:=item j hj;obtain⟨o,a1,a2,n,a3⟩:=up kp tp1;obtain⟨o',b1,b2,n',b3⟩:=up kp tp2;rw[e1,e2];refine kat_lt a1 a3 b1 b3 ?_;rw[z2U (by omega),ek1,ek2]at hq';have g1:=rus1.length;have g2:=rus2.length;rw[List.length_map]at g1 g2;exact uV (i:=0) rus1 rus2 (decide_eq_decide.mpr (by simp[g1,g2])) hq'
theorem z4Z(hu:X.A.units+64<cLine):CallR X (.builtin "sorted") (rDn uB):=by
 intro pins s σ H xs us Q I r h;obtain⟨S,ds,rr,hS,h1,hf,q⟩:=h
 match ds,hf,h1 with
 | [.list xs],hf,h1=>
  simp only[uB]at hf;split at hf
  next hs=>
   cases hf;obtain⟨v,rfl,r1⟩:=all1 h1;obtain⟨a,ys,rfl,g1,k1⟩:=yD r1;obtain⟨u,rfl,ru⟩:=xO r;cases ru;obtain⟨its,rv,pl,hz⟩:=I.list (SqL.of g1);refine xj I hS k1 rv hs (fun Q' hq'=>?_) q;obtain⟨o,e1,e2,n,e3⟩:=pl.isList;exact wpAny_collect_seq a (.inl rfl) e1 e2 e3 (fun h' k=>hq' h' s.toks k) (by simpa[<-rv.length]using hz)
  next=>cases hf
 | [.tuple xs],hf,h1=>
  simp only[uB]at hf;split at hf
  next hs=>
   cases hf;obtain⟨v,rfl,r1⟩:=all1 h1;obtain⟨a,ys,rfl,g1,k1⟩:=yF r1;obtain⟨u,rfl,ru⟩:=xO r;cases ru;obtain⟨its,rv,pl,hz⟩:=I.tuple (SqT.of g1);refine xj I hS k1 rv hs (fun Q' hq'=>?_) q;obtain⟨o,e1,e2,n,e3⟩:=pl;exact wpAny_collect_seq a (.inr rfl) e1 e2 e3 (fun h' k=>hq' h' s.toks k) (by simpa[<-rv.length]using hz)
  next=>cases hf
end L2
namespace L2
open PySem PySem.Spec PyProof.Rows
variable{X:Cx}
end L2
namespace L2
open PySem PySem.Spec PyProof.Rows
theorem z05(a v:Value):argsOk "min" ⟨[a],[("default",v)]⟩:=by unfold argsOk;kernel_rfl
section
variable{prog:Program}{w:World}{A:Around}{R:Result->Shared->Prop}
theorem z2I{d:Value}(hh:A.in1.handled=none){l I S:Addr}{vs:List Value}{g:Heap}{bt:Nat->Nat->Bool}(hlI:l≠I)(hlS:l≠S)(hSI:S≠I)(hl:g.IsList l vs.toArray)
  (cmp:∀i j vi vj (s:Shared) (Q:Value->Shared->Prop) (E:Value->Shared->Prop),vs[i]?=some vi->vs[j]?=some vj->(∀b o,b≠I->b≠S->g.get? b=some o->s.heap.get? b=some o)->Q (.bool (bt i j)) s->wpAny (model prog w) A.in1 (richCompare .Lt vi vj) Q E s) :
  ∀(k j:Nat) (s:Shared) (vb:Value) (c:Nat),vs.length - (j+1)=k->j+1<=vs.length->s.heap.IsListIter I l (j+1)->(∀b o,b≠I->b≠S->g.get? b=some o->s.heap.get? b=some o)->vs[argBest bt j]?=some vb->
  s.heap.get? S=some { cls:=.type "list",dict:=none,data:=.seq #[vb,vb] c,slots:=#[] }->
  (∀v h' tk,vs[argBest bt (vs.length - 1)]?=some v->(∀b o,b≠I->b≠S->g.get? b=some o->h'.get? b=some o)->R (.ok (.ret v)) { s with heap:=h',toks:=tk })->
  codeAny (model prog w) A (.builtin "min.loop" ⟨[.ref I,.none,.ref S],[("default",d)]⟩) R s:=by
 have hname:(toString "min"++toString ".loop":String)="min.loop":=by decide
 have lis:∀{h:Heap},(∀b o,b≠I->b≠S->g.get? b=some o->h.get? b=some o)->h.IsList l vs.toArray:=fun{h} k=>by
  obtain⟨o,e,r⟩:=hl;exact⟨o,k l o hlI hlS e,r⟩
 intro k
 induction k with
 | zero=>
  intro j s vb c hk hj hit kp hv hS hR;have hin:j+1=vs.length:=by omega
  refine codeAny_builtin F.entry_min_loop ?_;rw[Around.under_plainId F.plain_min_loop _];show wpAny _ A.in1 (seqItems? (.ref S) >>= _) _ _ s;refine wpAny_bind (wpAny_seqItems hS rfl ?_);show wpAny _ A.in1 (tryCatch (pyNext (.ref I)) _ >>= _) _ _ s;refine wpAny_bind (wpAny_tryCatch (wpAny_pyNext_list_end hh hit (lis kp) (by simp;omega) fun h' eb=>?_));have hS':=eb S _ hSI hS;show wpAny _ A.in1 (updateSeq S (fun _=>#[]) >>= _) _ _ _;refine wpAny_bind ?_;refine wpAny_updateSeq hS' rfl (wpAny_bind (wpAny_letGo (wpAny_pure ?_)));exact hR vb _ s.toks (by rw[<-hin];exact hv) fun b o hI hS2 e=>(Heap.get?_update_other _ _ (Ne.symm hS2)).trans (eb b o hI (kp b o hI hS2 e))
 | succ k ih=>
  intro j s vb c hk hj hit kp hv hS hR;have hlt:j+1<vs.length:=by omega
  refine codeAny_builtin F.entry_min_loop ?_;rw[Around.under_plainId F.plain_min_loop _];show wpAny _ A.in1 (seqItems? (.ref S) >>= _) _ _ s;refine wpAny_bind (wpAny_seqItems hS rfl ?_);show wpAny _ A.in1 (tryCatch (pyNext (.ref I)) _ >>= _) _ _ s;refine wpAny_bind (wpAny_tryCatch (wpAny_pyNext_list_item (x:=vs[j+1]) hit (lis kp) (by simp[hlt]) fun h' hit' sb=>?_));have hS':h'.get? S=_:=(sb.2 S hSI).trans hS;have kp':∀b o,b≠I->b≠S->g.get? b=some o->h'.get? b=some o:=fun b o hI hS2 e=>(sb.2 b hI).trans (kp b o hI hS2 e);show wpAny _ A.in1 (tryCatch (holding [vs[j+1],vs[j+1]] (richCompare .Lt vs[j+1] vb >>= _)) _ >>= _) _ _ _;refine wpAny_bind (wpAny_tryCatch (wpAny_holding (wpAny_bind (cmp (j+1) (argBest bt j) _ vb _ _ _ (List.getElem?_eq_getElem hlt) hv kp' ?_))));refine wpAny_bind (wpAny_holding (wpAny_truthy_bool ?_));refine wpAny_bind (wpAny_letGo (wpAny_pure ?_));cases hb:bt (j+1) (argBest bt j)with
  | true=>
   simp only[if_true];refine wpAny_bind ?_;refine wpAny_updateSeq hS' rfl (wpAny_bind (wpAny_letGo ?_));rw[hname];have kp2:∀b o,b≠I->b≠S->g.get? b=some o->(h'.update S (Obj.mapSeq fun _=>#[vs[j+1],vs[j+1]])).get? b=some o:=fun b o hI hS2 e=>(Heap.get?_update_other _ _ (Ne.symm hS2)).trans (kp' b o hI hS2 e);refine wpAny_pure ⟨plainId_quiet F.plain_min_loop _,ih (j+1) _ vs[j+1] _ (by omega) hlt ?_ kp2 (by simp only[argBest,hb,if_true];exact List.getElem?_eq_getElem hlt) (Heap.get?_update_self _ hS' rfl) fun v h2 tk hv2 k2=>hR v h2 tk hv2 k2⟩;obtain⟨oi,e1,e2⟩:=hit';exact⟨oi,(Heap.get?_update_other _ _ hSI).trans e1,e2⟩
  | false=>
   simp only[Bool.false_eq_true,if_false];refine wpAny_bind (wpAny_letGo ?_);rw[hname];exact wpAny_pure ⟨plainId_quiet F.plain_min_loop _,ih (j+1) _ vb c (by omega) hlt hit' kp' (by simp only[argBest,hb,Bool.false_eq_true,if_false];exact hv) hS' fun v h2 tk hv2 k2=>hR v h2 tk hv2 k2⟩
theorem z1R{E:Value->Shared->Prop}{s:Shared}{Q:Value->Shared->Prop}{d:Value}(hh:A.in1.handled=none){l:Addr}{vs:List Value}{bt:Nat->Nat->Bool}(hl:s.heap.IsList l vs.toArray)(hn:0<vs.length)
  (cmp:∀i j vi vj (s':Shared) (Q:Value->Shared->Prop) (E:Value->Shared->Prop),vs[i]?=some vi->vs[j]?=some vj->(∀b o,s.heap.get? b=some o->s'.heap.get? b=some o)->Q (.bool (bt i j)) s'->wpAny (model prog w) A.in1 (richCompare .Lt vi vj) Q E s')
  (h:∀v h' tk,vs[argBest bt (vs.length - 1)]?=some v->(∀b o,s.heap.get? b=some o->h'.get? b=some o)->Q v { s with heap:=h',toks:=tk }) :
  wpAny (model prog w) A (call (.builtin "min") [.ref l] [("default",d)]) Q E s:=by
 have hname:(toString "min"++toString ".loop":String)="min.loop":=by decide
 have hlt:l<s.heap.objs.size:=by obtain⟨o,e,_⟩:=hl;exact Heap.lt_size e
 refine kmk_tree F.kind_min F.plain_min F.entry_min (z05 _ _) ?_;show wpAny _ A.in1 (Builtin.Builtins.bindParams "min" ["key","default"] 0 ⟨[],[("default",d)]⟩ >>= _) _ _ s;refine wpAny_bind (wpAny_of_eq (show Builtin.Builtins.bindParams "min" ["key","default"] 0 ⟨[],[("default",d)]⟩=pure [none,some d] from rfl) ?_);refine wpAny_bind (wpAny_pure ?_);refine wpAny_bind (wpAny_pyIter_list hl ?_);refine wpAny_bind (wpAny_newObj_type ?_);rw[hname];generalize hg1:s.heap.push { cls:=.type "list_iterator",data:=.fields #[.ref l,.int 0 0] }=g1;have z1:g1.objs.size=s.heap.objs.size+1:=by rw[<-hg1,Heap.size_push]
 have k1:∀b o,s.heap.get? b=some o->g1.get? b=some o:=fun b o e=>by rw[<-hg1];exact Heap.get?_push_of_some _ e
 have hit:g1.IsListIter s.heap.objs.size l 0:=⟨_,by rw[<-hg1];exact Heap.get?_push_size _ rfl,rfl,rfl⟩;have ne:∀b o,s.heap.get? b=some o->b≠s.heap.objs.size/\b≠g1.objs.size:=fun b o e=>by
  have:=Heap.lt_size e;exact⟨Nat.ne_of_lt this,Nat.ne_of_lt (by rw[z1];exact Nat.lt_succ_of_lt this)⟩
 have hl1:g1.IsList l vs.toArray:=by obtain⟨o,e,r⟩:=hl;exact⟨o,k1 _ _ e,r⟩
 refine wpAny_pure ⟨plainId_quiet F.plain_min_loop _,?_⟩;refine codeAny_builtin F.entry_min_loop ?_;rw[Around.under_plainId F.plain_min_loop _];show wpAny _ A.in1 (seqItems? (.ref g1.objs.size) >>= _) _ _ _;have hS0:(g1.push { cls:=.type "list",data:=.seq #[] }).get? g1.objs.size=some { cls:=.type "list",data:=.seq #[] }:=Heap.get?_push_size _ rfl;refine wpAny_bind (wpAny_seqItems hS0 rfl ?_);show wpAny _ A.in1 (tryCatch (pyNext (.ref s.heap.objs.size)) _ >>= _) _ _ _;have hitP:(g1.push { cls:=.type "list",data:=.seq #[] }).IsListIter s.heap.objs.size l 0:=by obtain⟨o,e,r⟩:=hit;exact⟨o,Heap.get?_push_of_some _ e,r⟩
 have hlP:(g1.push { cls:=.type "list",data:=.seq #[] }).IsList l vs.toArray:=by obtain⟨o,e,r⟩:=hl1;exact⟨o,Heap.get?_push_of_some _ e,r⟩
 have hSI:g1.objs.size≠s.heap.objs.size:=by rw[z1];omega
 refine wpAny_bind (wpAny_tryCatch (wpAny_pyNext_list_item (x:=vs[0]) hitP hlP (by simp[hn]) fun h' hit' sb=>?_));have hS':h'.get? g1.objs.size=_:=(sb.2 _ hSI).trans hS0;show wpAny _ A.in1 (updateSeq g1.objs.size (fun _=>#[vs[0],vs[0]]) >>= _) _ _ _;refine wpAny_bind ?_;refine wpAny_updateSeq hS' rfl ?_;rw[hname];have kp:∀b o,b≠s.heap.objs.size->b≠g1.objs.size->s.heap.get? b=some o->(h'.update g1.objs.size (Obj.mapSeq fun _=>#[vs[0],vs[0]])).get? b=some o:=fun b o hI hS2 e=>
  (Heap.get?_update_other _ _ (Ne.symm hS2)).trans ((sb.2 b hI).trans (Heap.get?_push_of_some _ (k1 b o e)))
 refine wpAny_pure ⟨plainId_quiet F.plain_min_loop _,z2I (g:=s.heap) (bt:=bt) (vs:=vs) hh (Nat.ne_of_lt hlt) (Nat.ne_of_lt (by rw[z1];exact Nat.lt_succ_of_lt hlt)) hSI hl (fun i j vi vj s' Q' E' e1 e2 k' hq=>cmp i j vi vj s' Q' E' e1 e2 (fun b o e=>k' b o (ne b o e).1 (ne b o e).2 e) hq)
  _ 0 _ vs[0] _ rfl hn ?_ kp (List.getElem?_eq_getElem hn) (Heap.get?_update_self _ hS' rfl) fun v h2 tk hv k2=>h v h2 tk hv fun b o e=>k2 b o (ne b o e).1 (ne b o e).2 e⟩
 obtain⟨oi,e1,e2⟩:=hit';exact⟨oi,(Heap.get?_update_other _ _ hSI).trans e1,e2⟩
end
section
variable{prog:Program}{w:World}{A:Around}
theorem z3r{E:Value->Shared->Prop}{s:Shared}{Q:Value->Shared->Prop}{d:Value}(hh:A.in1.handled=none){l:Addr}(hl:s.heap.IsList l #[])
  (h:∀h' tk,(∀b o,s.heap.get? b=some o->h'.get? b=some o)->Q d { s with heap:=h',toks:=tk }) :
  wpAny (model prog w) A (call (.builtin "min") [.ref l] [("default",d)]) Q E s:=by
 have hname:(toString "min"++toString ".loop":String)="min.loop":=by decide
 refine kmk_tree F.kind_min F.plain_min F.entry_min (z05 _ _) ?_;show wpAny _ A.in1 (Builtin.Builtins.bindParams "min" ["key","default"] 0 ⟨[],[("default",d)]⟩ >>= _) _ _ s;refine wpAny_bind (wpAny_of_eq (show Builtin.Builtins.bindParams "min" ["key","default"] 0 ⟨[],[("default",d)]⟩=pure [none,some d] from rfl) ?_);refine wpAny_bind (wpAny_pure ?_);refine wpAny_bind (wpAny_pyIter_list hl ?_);refine wpAny_bind (wpAny_newObj_type ?_);rw[hname];generalize hg1:s.heap.push { cls:=.type "list_iterator",data:=.fields #[.ref l,.int 0 0] }=g1;have z1:g1.objs.size=s.heap.objs.size+1:=by rw[<-hg1,Heap.size_push]
 have k1:∀b o,s.heap.get? b=some o->g1.get? b=some o:=fun b o e=>by rw[<-hg1];exact Heap.get?_push_of_some _ e
 have hit:g1.IsListIter s.heap.objs.size l 0:=⟨_,by rw[<-hg1];exact Heap.get?_push_size _ rfl,rfl,rfl⟩;have hl1:g1.IsList l #[]:=by obtain⟨o,e,r⟩:=hl;exact⟨o,k1 _ _ e,r⟩
 refine wpAny_pure ⟨plainId_quiet F.plain_min_loop _,?_⟩;refine codeAny_builtin F.entry_min_loop ?_;rw[Around.under_plainId F.plain_min_loop _];show wpAny _ A.in1 (seqItems? (.ref g1.objs.size) >>= _) _ _ _;have hS0:(g1.push { cls:=.type "list",data:=.seq #[] }).get? g1.objs.size=some { cls:=.type "list",data:=.seq #[] }:=Heap.get?_push_size _ rfl;refine wpAny_bind (wpAny_seqItems hS0 rfl ?_);show wpAny _ A.in1 (tryCatch (pyNext (.ref s.heap.objs.size)) _ >>= _) _ _ _;have hitP:(g1.push { cls:=.type "list",data:=.seq #[] }).IsListIter s.heap.objs.size l 0:=by obtain⟨o,e,r⟩:=hit;exact⟨o,Heap.get?_push_of_some _ e,r⟩
 have hlP:(g1.push { cls:=.type "list",data:=.seq #[] }).IsList l #[]:=by obtain⟨o,e,r⟩:=hl1;exact⟨o,Heap.get?_push_of_some _ e,r⟩
 refine wpAny_bind (wpAny_tryCatch (wpAny_pyNext_list_end hh hitP hlP (by simp) fun h' eb=>?_));show wpAny _ A.in1 (rule (toString "min"++toString ".default") >>= fun _=>ret d) _ _ _;refine wpAny_bind (wpAny_rule (wpAny_pure ?_));exact h _ _ fun b o e=>eb b o (Nat.ne_of_lt (Heap.lt_size e)) (Heap.get?_push_of_some _ (k1 b o e))
end
section
variable{X:Cx}
def z8D(X:Cx)(f:Value)(ks:List Str)(r:List V->List V->Hp->VK->Prop):Prop:=∀(pins:List (Addr×Obj)) (s:Shared) (σ:St) (H:Hp) (xs:List V) (us:List Value) (zs:List V) (ws:List Value) (Q:VK),Inv X pins σ H s->Vals xs us->Vals zs ws->r xs zs H Q->wpAny (model X.prog X.w) X.A (call f us (ks.zip ws)) (EP X pins σ Q) X.xe s
theorem z4R{x:Str}{id:String}{ks:List Str}{p pos:Pos}{e:Expr}{es:List Expr}{kws:List Keyword}{t tk:TA}{r:List V->List V->Hp->VK->Prop}(hc:z8D X (.builtin id) ks r)(hg:Gl X x)(hm:X.mg x=none)(hv:bootBuiltins x=some (.builtin id))(ha:PA X (e::es) t)(hk:PK X kws tk)
  (hks:(backToKw pos (keywordEach kws X.env)).filterMap (·.1)=ks:=by rfl) (hn:x≠"__name__":=by decide) (hdb:(x == ("__debug__":Str))=false:=by decide)
  (he:backTo pos (starEach (e::es) X.env)=(false,eval e X.env)::backTo pos (starEach es X.env):=by rfl) (hplain:(backTo pos (starEach (e::es) X.env)).any (·.1)=false:=by rfl)
  (hall:(backToKw pos (keywordEach kws X.env)).all (·.1.isSome)=true:=by rfl) (hkw:(backToKw pos (keywordEach kws X.env)).any (·.1.isNone)=false:=by rfl) :
  PE X (.Call (.Name x p) (e::es) kws pos) (fun σ H Q=>t σ H fun vs H1=>tk σ H1 fun zs H2=>r vs zs H2 Q):=by
 intro pins s σ H Q I h;refine wpAny_Call_Name_kw (wb I hg hm hv ?_ hn hdb);refine PyProof.Rows.callWith_kw (thn (ha pos pins s σ H _ I h) fun us s1 ⟨vs,H1,I1,r1,q1⟩=>thn (hk pos pins s1 σ H1 _ I1 q1) fun ws s2 ⟨zs,H2,I2,rz,q2⟩=>?_) he hplain hall hkw;rw[hks];exact hc pins s2 σ H2 vs us zs ws Q I2 r1 rz q2
noncomputable def z63:PyData->PyData->Option PyData
 | .list [],d=>some d
 | .list (x::r),_=>match yZ (x::r)with
  | some ns=>ns.min?.map PyData.int
  | none=>if (x::r).all z09=true then some ((x::r).getD (argBest (fun i j=>HT.lexLt (keyI ((x::r).getD i .none)) (keyI ((x::r).getD j .none))) r.length) .none)else none
 | _,_=>none
theorem z5v(hc:X.calm=true)(hu':X.A.units+64<cLine):z8D X (.builtin "min") ["default"] (fun xs zs H Q=>∃(S:Addr->Prop) (ds:List PyData) (d r:PyData) (v0 dv:V),xs=[v0]/\zs=[dv]/\Dat1 N0 S H (.list ds) v0/\DatS S H d dv/\z63 (.list ds) d=some r/\∀v,DatS S H r v->Q v H):=by
 have hu:X.A.in1.units<cLine:=by
  have:X.A.in1.units=X.A.units+1:=rfl;omega
 intro pins s σ H xs us zs ws Q I r rz h;obtain⟨S,ds,d,rr,v0,dv,rfl,rfl,h1,h2,hf,q⟩:=h;obtain⟨a,ys,rfl,g1,k1⟩:=yD h1;obtain⟨u,rfl,ru⟩:=xO r;obtain⟨wd,rfl,rw⟩:=xO rz;cases ru;have hh:X.A.in1.handled=none:=by simpa using I.ok.hd hc
 obtain⟨its,rv,pl,hz⟩:=I.list (SqL.of (K:=X.K) g1);have l1:=k1.length;have l2:=rv.length;show wpAny _ _ (call (.builtin "min") [.ref a] [("default",wd)]) _ _ _;cases ds with
 | nil=>
  simp only[z63]at hf;cases hf;have e0:its=[]:=by
   cases its with
   | nil=>rfl
   | cons _ _=>simp at l1 l2;omega
  subst e0;refine z3r hh pl.isList fun h' tk hk=>⟨dv,H,I.kept (t':=tk) hk,rw,q _ h2⟩
 | cons x0 xr=>
  simp only[z63]at hf;generalize hxs:x0::xr=xs at hf k1 l1;have hn:0<xs.length:=by rw[<-hxs];simp
  have hxr:xr.length=xs.length - 1:=by rw[<-hxs];simp
  cases e:yZ xs with
  | some ns=>
   rw[e]at hf;dsimp only at hf;cases em:ns.min? with
   | none=>rw[em]at hf;cases hf
   | some M=>
    rw[em]at hf;cases hf;have ey:=yy e k1;subst ey;have l3:ns.length=its.length:=by simpa using l2
    have at_:∀{i:Nat} {v:Value},its[i]?=some v->∃t,v=.int (ns.getD i 0) t:=fun{i v} ev=>by
     obtain⟨y,e1,r1⟩:=rv.back ev;rw[List.getElem?_map]at e1;cases e2:ns[i]? with
     | none=>rw[e2]at e1;cases e1
     | some k=>
      rw[e2]at e1;cases e1;obtain⟨t,r1⟩:=r1;exact⟨t,by rw[r1,List.getD_eq_getElem?_getD,e2];rfl⟩
    refine z1R (bt:=fun i j=>decide (ns.getD i 0<ns.getD j 0)) hh pl.isList (by omega) (fun i j vi vj s' Q' E' e1 e2 kp hq'=>?_) fun v h' tk hv kp=>?_
    ·obtain⟨t1,rfl⟩:=at_ e1;obtain⟨t2,rfl⟩:=at_ e2;exact HT.rcLt_int _ _ _ _ _ _ _ _ _ _ hq'
    ·obtain⟨t,rfl⟩:=at_ hv;obtain⟨b1,b2⟩:=argBest_lt (fun i=>ns.getD i 0) (its.length - 1);obtain⟨m1,m2⟩:=List.min?_eq_some_iff.mp em;have hM:ns.getD (argBest (fun i j=>decide (ns.getD i 0<ns.getD j 0)) (its.length - 1)) 0=M:=by
      refine Int.le_antisymm ?_ (m2 _ (getD_mem (by omega)));obtain⟨j,hj,ej⟩:=mem_getD m1
      have:=b2 j (by omega);rw[ej]at this;exact this
     refine⟨.int M,H,I.kept (t':=tk) kp,⟨t,by rw[hM]⟩,q _ di⟩
  | none=>
   rw[e]at hf;simp only at hf;split at hf
   next ht=>
    cases hf;have ht':=List.all_eq_true.mp ht;have item:∀i,i<xs.length->∃b ns,ys[i]?=some (.ref b)/\keyI (xs.getD i .none)=ns/\H b=some (.tup (ns.map V.int))/\DatS S H (xs.getD i .none) (.ref b):=fun i hi=>by
     obtain⟨v,e1,d1⟩:=k1.get (List.getElem?_eq_getElem hi);have ed:xs.getD i .none=xs[i]:=by rw[List.getD_eq_getElem?_getD,List.getElem?_eq_getElem hi];rfl
     have a1:=ht' _ (List.getElem_mem hi);rw[ed];cases ex:xs[i]<;>rw[ex]at a1 d1<;>simp only[z09]at a1<;>try cases a1
     rename_i ts
     rw[Bool.and_eq_true]at a1;obtain⟨ns,en⟩:=Option.isSome_iff_exists.mp a1.1;have d2:=d1;simp only[DatS]at d2;obtain⟨b,zs,rfl,hb,dz⟩:=d2;have ez:=yy en dz;subst ez;exact⟨b,ns,e1,by simp only[keyI,en,Option.getD_some],hb,d1⟩
    refine z1R (bt:=fun i j=>HT.lexLt (keyI (xs.getD i .none)) (keyI (xs.getD j .none))) hh pl.isList (by omega) (fun i j vi vj s' Q' E' e1 e2 kp hq'=>?_) fun v h' tk hv kp=>?_
    ·have hi:i<xs.length:=by rw[l1,l2];exact(List.getElem?_eq_some_iff.mp e1).1
     have hj:j<xs.length:=by rw[l1,l2];exact(List.getElem?_eq_some_iff.mp e2).1
     obtain⟨b,ns,y1,n1,t1,_⟩:=item i hi;obtain⟨c,ms,y2,n2,t2,_⟩:=item j hj;obtain⟨v1,e3,rr1⟩:=rv.get y1;obtain⟨v2,e4,rr2⟩:=rv.get y2;rw[e3]at e1;cases e1;rw[e4]at e2;cases e2;cases rr1;cases rr2;obtain⟨its1,q1,p1,_⟩:=I.tuple (SqT.of (K:=X.K) t1);obtain⟨its2,q2,p2,_⟩:=I.tuple (SqT.of (K:=X.K) t2);have up:∀{c:Addr} {xs:Array Value},IsTup s.heap c xs->IsTup s'.heap c xs:=fun{c xs} t=>by
      obtain⟨o,e,r⟩:=t;exact⟨o,kp _ _ e,r⟩
     rw[n1,n2]at hq';exact HT.lt_tupInts (up p1) (up p2) (L2.intsAre_of q1) (L2.intsAre_of q2) hu hq'
    ·have hb:argBest (fun i j=>HT.lexLt (keyI (xs.getD i .none)) (keyI (xs.getD j .none))) (its.length - 1)<xs.length:=by rw[l1,l2];exact(List.getElem?_eq_some_iff.mp hv).1
     obtain⟨b,ns,y1,n1,t1,d1⟩:=item _ hb;obtain⟨v1,e3,rr1⟩:=rv.get y1;rw[e3]at hv;cases hv;cases rr1;refine⟨.ref b,H,I.kept (t':=tk) kp,rfl,q _ ?_⟩;rw[hxr,show xs.length=its.length by rw[l1,l2]];exact d1
   next=>cases hf
noncomputable def zBJ(m md:Env'->Mx D):Env'->Mx D:=fun ρ=>m ρ >>= fun x=>md ρ >>= fun d=>Mx.opt ((onP2 z63 x d).map D.p)
theorem z8Z{K:W.Frag}{Er:Str->Hp->Prop}{e dx:Expr}{m md:Env'->Mx D}{p pos kpos:Pos}(hc:X.calm=true)(hu:X.A.units+64<cLine)(hg:Gl X "min")(hm:X.mg "min"=none)(hv:bootBuiltins "min"=some (.builtin "min"))(he:DW K Er X e m)(hd:DE K Er X dx md)(hs:starEach [e] X.env=(false,eval e X.env)::starEach [] X.env:=by rfl)
  (h1:backTo pos (starEach [e] X.env)=(false,eval e X.env)::backTo pos (starEach [] X.env):=by rfl) (h2:(backTo pos (starEach [e] X.env)).any (·.1)=false:=by rfl) :
  DE K Er X (.Call (.Name "min" p) [e] [⟨some "default",dx,kpos⟩] pos) (zBJ m md):=
 (z4R (ks:=["default"]) (z5v hc hu) hg hm hv (zI he pa_nil hs) (z90 hd zBA) rfl (by decide) (by decide) h1 h2 rfl rfl).imp fun σ H Q h=>rd1 h (fun _ _ _ _ _ _ _ _ _ _ r=>r) fun g ow ρ n d v H0 H1 fr _ r q=>by
  refine⟨g,ow,ρ,n,fr,AftG.bind q fun d2 n2 v2 H2 k2 t2 r2 c2=>?_⟩;have q2:=c2 (R3:=RE g (g.S ow)) fun _ _ _ z=>z;obtain⟨z,e,q3⟩:=yk t2 q2;obtain⟨x,y,rfl,rfl,e1⟩:=zo e;have r1:Dat1 g.U (g.S ow) H2 x v:=Rep1.d1 (Rep1.kp k2 Gh.us r);cases x<;>simp only[z63]at e1<;>try (cases e1;done)
  rename_i ds
  exact⟨g.S ow,ds,y,z,v,v2,rfl,rfl,Dat1.weak r1,r2,e1,fun v hv=>q3 v H2 (Same.refl _) hv⟩
end
section
variable{prog:Program}{w:World}{A:Around}{R:Result->Shared->Prop}
end
section
variable{X:Cx}
variable{K:W.Frag}{Er:Str->Hp->Prop}{m:Env'->Mx D}
end
section
variable{X:Cx}{pins:List (Addr×Obj)}{σ:St}{H:Hp}{s:Shared}{scope:Scope}{N':List Str}{xs:List Str}{fp:List Addr}
noncomputable def g2(K:W.Frag)(i:Nat):TG:=gTup K 2 (zA8 (z12 i) (zA8 (z12 (i+1)) gNil))
end
section
variable{prog:Program}{w:World}{A:Around}{E:Value->Shared->Prop}{s:Shared}
def DictIs(h:Heap)(d:Addr)(es:Array DictEntry)(ep:Nat):Prop:=∃o,h.get? d=some o/\o.ExactDict/\o.data=.dict es ep
theorem DictIs.at{h h':Heap}{d:Addr}{es:Array DictEntry}{ep:Nat}(x:DictIs h d es ep)(e:∀o,h.get? d=some o->h'.get? d=some o):DictIs h' d es ep:=by
 obtain⟨o,ho,r⟩:=x;exact⟨o,e _ ho,r⟩
theorem DictIs.typeIs{d:Addr}{es:Array DictEntry}{ep:Nat}(x:DictIs s.heap d es ep):s.TypeIs (.ref d) "dict":=by
 obtain⟨o,ho,hc,_⟩:=x;exact⟨o,ho,hc.1⟩
theorem z49{it d:Addr}{i ep:Nat}{es:Array DictEntry}{Q:Option Value->Shared->Prop}(hit:s.heap.IsKeyIter it d i es.size ep)(hm:DictIs s.heap d es ep)(hlt:i<es.size)
  (hQ:∀h',h'.IsKeyIter it d (i+1) es.size ep->Heap.SameBut it s.heap h'->Q (some es[i].key) { s with heap:=h' }):wpAny (model prog w) A (pyNext (.ref it)) Q E s:=by
 obtain⟨o,ho,hc,hd⟩:=id hit;obtain⟨od,hod,hcd,hdd⟩:=id hm;unfold pyNext;refine wpAny_bind (wpAny_attempt (wpAny_callSpecial?_slot (name:=Str.ofString "__next__") hit.typeIs F.slot_dict_keyiterator_next (wpAny_call_entry F.slot_dict_keyiterator_next hit.typeIs F.entry_dict_keyiterator_next ?_ (F.args_dict_keyiterator_next_1 _))));refine wpAny_bind (wpAny_pure (wpAny_bind (wpAny_bind ?_)));refine wpAny_bind (wpAny_typeNameOfWhole_keyiter hit.typeIs (wpAny_pure ?_));refine wpAny_bind (wpAny_fieldsOf ho hd ?_);have hown:Builtin.Dict_items.ownsTuple "dict_keyiterator"=false:=by decide
 simp only[hown,Bool.false_eq_true,if_false];show wpAny _ _ (if (Value.ref d == Value.none)=true then _ else _) _ _ s;rw[if_neg (show ¬((Value.ref d == Value.none)=true) from Bool.false_ne_true)];refine wpAny_bind (wpAny_pure (wpAny_bind (wpAny_dictEntries hod hdd ?_)));rw[if_neg (by simp)];refine wpAny_bind (wpAny_pure (wpAny_bind (wpAny_dictEpoch hod hdd ?_)));rw[if_neg (by simp)];refine wpAny_pure ?_;simp only[show ¬((i:Int)<0) from by omega,if_false,Int.toNat_natCast,Array.getElem?_eq_getElem hlt];refine wpAny_bind (wpAny_bind (wpAny_typeNameOfWhole_keyiter hit.typeIs (wpAny_pure ?_)));refine wpAny_bind (wpAny_isOneOf_keyiter hit.typeIs ?_);show wpAny _ _ (setField (.ref it) 1 (rawInt ((i:Int)+1)) >>= _) _ _ s;refine wpAny_bind (wpAny_setField ho hd (by simp) ?_);have hit':(s.heap.update it (Obj.mapFields (·.setIfInBounds 1 (rawInt ((i:Int)+1))))).IsKeyIter it d (i+1) es.size ep:=
  ⟨_,Heap.get?_update_self _ ho (Obj.isFreed_of_fields (Obj.data_mapFields hd _)),(Obj.cls_mapFields ..).trans hc,by rw[Obj.data_mapFields hd];simp[rawInt]⟩
 refine wpAny_bind (wpAny_holding ?_);refine wpAny_bind (wpAny_isOneOf_keyiter (s:={ s with heap:=s.heap.update it (Obj.mapFields (·.setIfInBounds 1 (rawInt ((i:Int)+1)))) }) hit'.typeIs ?_);show wpAny _ _ (pure es[i].key) _ _ _;exact wpAny_pure (wpAny_pure ⟨_,rfl,wpAny_pure (hQ _ hit' (Heap.SameBut.update ..))⟩)
theorem z8B{it d:Addr}{ep:Nat}{es:Array DictEntry}{Q:Option Value->Shared->Prop}(hh:A.handled=none)(hit:s.heap.IsKeyIter it d es.size es.size ep)(hm:DictIs s.heap d es ep)
  (hQ:∀h',Heap.ExtBut it s.heap h'->Q none { s with heap:=h' }):wpAny (model prog w) A (pyNext (.ref it)) Q E s:=by
 obtain⟨o,ho,hc,hd⟩:=id hit;obtain⟨od,hod,hcd,hdd⟩:=id hm;unfold pyNext;refine wpAny_bind (wpAny_attempt (wpAny_callSpecial?_slot (name:=Str.ofString "__next__") hit.typeIs F.slot_dict_keyiterator_next (wpAny_call_entry F.slot_dict_keyiterator_next hit.typeIs F.entry_dict_keyiterator_next ?_ (F.args_dict_keyiterator_next_1 _))));refine wpAny_bind (wpAny_pure (wpAny_bind (wpAny_bind ?_)));refine wpAny_bind (wpAny_typeNameOfWhole_keyiter hit.typeIs (wpAny_pure ?_));refine wpAny_bind (wpAny_fieldsOf ho hd ?_);have hown:Builtin.Dict_items.ownsTuple "dict_keyiterator"=false:=by decide
 simp only[hown,Bool.false_eq_true,if_false];show wpAny _ _ (if (Value.ref d == Value.none)=true then _ else _) _ _ s;rw[if_neg (show ¬((Value.ref d == Value.none)=true) from Bool.false_ne_true)];refine wpAny_bind (wpAny_pure (wpAny_bind (wpAny_dictEntries hod hdd ?_)));rw[if_neg (by simp)];refine wpAny_bind (wpAny_pure (wpAny_bind (wpAny_dictEpoch hod hdd ?_)));rw[if_neg (by simp)];refine wpAny_pure ?_;simp only[show ¬((es.size:Int)<0) from by omega,if_false,Int.toNat_natCast,Array.getElem?_eq_none (Nat.le_refl es.size)];refine wpAny_bind (wpAny_bind (wpAny_typeNameOfWhole_keyiter hit.typeIs (wpAny_pure ?_)));show wpAny _ _ (setField (.ref it) 0 .none >>= _) _ _ s;refine wpAny_bind (wpAny_setField ho hd (by simp) ?_);show wpAny _ _ (newExc (.type "StopIteration") [] >>= _) _ _ _;refine wpAny_bind ?_;simp only[newExc,newTuple];refine wpAny_bind (wpAny_newObj_type ?_ (by size_fits));refine wpAny_bind (m:=firstArgMember _ _) (wpAny_of_eq (a:=Value.none) (by first | rfl | (simp only[firstArgMember];rfl)) ?_);refine wpAny_newObj_type ?_ (by size_fits);simp only[raiseNew];refine wpAny_bind (wpAny_handled ?_);rw[show A.in1.handled=none from hh];refine wpAny_bind (wpAny_pure (wpAny_throw ?_));refine wpAny_bind (wpAny_isInstance (T:="StopIteration") (b:=true) ⟨_,Heap.get?_push_size _ rfl,rfl⟩ isSubtype_stop ?_);exact wpAny_pure (hQ _ (((Heap.SameBut.update ..).extBut.push _).push _))
theorem z8C(hh:A.handled=none)(I d:Addr)(hne:d≠I){ep:Nat}{es:Array DictEntry}:
  PySem.Walks prog w A I [I,d] [I] es.size (fun i v=>(es[i]?.map (·.key))=some v) (fun i h=>h.IsKeyIter I d i es.size ep/\DictIs h d es ep) where
 sub:=fun b hb=>by simp at hb;simp[hb]
 frame:=fun _ _ _ st hk=>⟨st.1.at fun o e=>hk I (by simp) o e,st.2.at fun o e=>hk d (by simp) o e⟩
 item:=fun i s Q E hi st hQ=>by
  refine z49 st.1 st.2 hi fun h' hit' hs'=>?_;exact hQ _ h' s.toks (by rw[Array.getElem?_eq_getElem hi];rfl) ⟨hit',st.2.at fun o e=>hs'.extBut d o hne e⟩ fun b o hb e=>hs'.extBut b o (fun h=>hb (by simp[h])) e
 done:=fun s Q E st hQ=>z8B hh st.1 st.2 fun h' he'=>hQ h' s.toks fun b o hb e=>he' b o (fun h=>hb (by simp[h])) e
 self:=fun _ _ _ _ st hQ=>wpAny_pyIter_keyiter st.1 hQ
theorem z8s{d:Addr}{es:Array DictEntry}{ep:Nat}{Q:Value->Shared->Prop}(hd:(d == sysModules)=false)(hm:DictIs s.heap d es ep)
  (hQ:Q (.ref s.heap.objs.size) { s with heap:=s.heap.push { cls:=.type "dict_keyiterator",data:=.fields #[.ref d,.int 0 0,.int (es.size:Int) 0,.int (ep:Int) 0] } }):wpAny (model prog w) A (pyIter (.ref d)) Q E s:=by
 obtain⟨o,ho,hc,hdat⟩:=id hm;have hT:=hm.typeIs;refine wpAny_pyIter_slot hT F.slot_dict_iter (wpAny_call_entry F.slot_dict_iter hT F.entry_dict_iter ?_ (F.args_dict_iter_1 _));unfold Builtin.«dict.__iter__»;refine wpAny_bind ?_;unfold Builtin.Dict.dictSlotNone;refine wpAny_bind (wpAny_notOrdered_dict hT ?_);show wpAny _ _ (pure (Value.ref d)) _ _ s;refine wpAny_pure ?_;show wpAny _ _ (Builtin.Dict.showsAll d >>= _) _ _ s;unfold Builtin.Dict.showsAll;rw[if_neg (by rw[hd];exact Bool.false_ne_true)];refine wpAny_bind (wpAny_pure (wpAny_bind (wpAny_dictEntries ho hdat (wpAny_bind (wpAny_dictEpoch ho hdat ?_)))));exact wpAny_bind (wpAny_newObj_type (wpAny_pure ⟨_,rfl,"dict_keyiterator",_,⟨_,Heap.get?_push_size _ rfl,rfl⟩,F.slot_dict_keyiterator_next.lookup,hQ⟩))
end
theorem z80:typeLookup (.type "dict") "__len__"=pure (some (.builtin "dict.__len__")):=by rw[typeLookup_type,builtinLookup_eq_fast];kernel_rfl
section
variable{prog:Program}{w:World}{A:Around}{E:Value->Shared->Prop}{s:Shared}
theorem z7N{S:Addr}{ep:Nat}{es:Array DictEntry}{Q:List Value->Shared->Prop}(hh:A.handled=none)(hsys:(S == sysModules)=false)(hz:es.size<=sizeLine)(hS:DictIs s.heap S es ep)
  (hQ:∀h' tk,(∀b o,s.heap.get? b=some o->h'.get? b=some o)->Q (es.toList.map (·.key)) { s with heap:=h',toks:=tk }) :
  wpAny (model prog w) A (collect (.ref S)) Q E s:=by
 obtain⟨o,ho,hex,hd⟩:=id hS;have hSlt:=Heap.lt_size ho;unfold collect;refine wpAny_bind (wpAny_runValue (codeAny_builtin F.entry_proto_collect ?_));rw[Around.under_plainId F.plain_proto_collect _];show wpAny _ A.in1 (newList [] >>= fun l=>again (.builtin "list.__iadd__" ⟨[l,.ref S],[]⟩)) _ _ s;refine wpAny_bind (wpAny_newObj_type ?_);refine wpAny_pure ⟨plainId_quiet F.plain_list_iadd _,codeAny_builtin F.entry_list_iadd ?_⟩;rw[Around.under_plainId F.plain_list_iadd _];show wpAny _ A.in1 (Builtin.List.listExtendWith (.ref s.heap.objs.size) (.ref S) (.ref s.heap.objs.size)) _ _ _;unfold Builtin.List.listExtendWith;generalize hH:s.heap.push { cls:=.type "list",data:=.seq ([]:List Value).toArray }=H;have hHs:H.objs.size=s.heap.objs.size+1:=by rw[<-hH,Heap.size_push]
 have keep:∀b ob,s.heap.get? b=some ob->H.get? b=some ob:=fun b ob e=>hH▸Heap.get?_push_of_some _ e;have hS1:DictIs H S es ep:=hS.at fun ob e=>keep S ob e;have hT:Shared.TypeIs { s with heap:=H } (.ref S) "dict":=⟨o,keep _ _ ho,hex.1⟩;refine wpAny_bind (wpAny_typeOf (T:="dict") (v:=.ref S) hT ?_);have hSI:s.heap.objs.size≠S:=Nat.ne_of_gt hSlt;have h1:Builtin.List.listSameRef (.ref s.heap.objs.size) (.ref S)=false:=by simp[Builtin.List.listSameRef,hSI]
 have h2:(Value.type "dict" == Value.type "list")=false:=by decide
 have h3:(Value.type "dict" == Value.type "tuple")=false:=by decide
 simp only[h1,h2,h3,Bool.or_false,Bool.false_eq_true,if_false];refine wpAny_bind (z8s (s:={ s with heap:=H }) hsys hS1 ?_);have hT2:Shared.TypeIs { s with heap:=H.push { cls:=.type "dict_keyiterator",data:=.fields #[.ref S,.int 0 0,.int (es.size:Int) 0,.int (ep:Int) 0] } } (.ref S) "dict":=⟨o,Heap.get?_push_of_some _ (keep _ _ ho),hex.1⟩;refine wpAny_bind (wpAny_holding ?_);unfold Builtin.List.listLengthHint;refine wpAny_bind (wpAny_specialOf (T:="dict") (v:=.ref S) hT2 z80 ?_)
 wp_delta
 refine wpAny_bind (wpAny_isInstance (T:="dict") (v:=.ref S) (b:=true) hT2 (by rw[isSubtype_type];kernel_rfl) ?_);show wpAny _ A.in1 (typeOf (Value.ref S) >>= _) _ _ _;refine wpAny_bind (wpAny_typeOf (T:="dict") (v:=.ref S) hT2 ?_);refine wpAny_pure ?_;rw[if_pos (by decide)];have hSf:s.heap.objs.size∉[H.objs.size,S]:=by
  rw[hHs];simp only[List.mem_cons,List.mem_singleton,List.not_mem_nil,or_false,not_or];exact⟨Nat.ne_of_lt (Nat.lt_succ_self _),hSI⟩
 have hL:(H.push { cls:=.type "dict_keyiterator",data:=.fields #[.ref S,.int 0 0,.int (es.size:Int) 0,.int (ep:Int) 0] }).get? s.heap.objs.size=some { cls:=.type "list",data:=.seq ([]:List Value).toArray }:=Heap.get?_push_of_some _ (hH▸Heap.get?_push_size _ rfl);have hneI:S≠H.objs.size:=by rw[hHs];exact Nat.ne_of_lt (Nat.lt_succ_of_lt hSlt)
 refine wpAny_bind (wpAny_rule ?_);unfold Builtin.List.listTouch;refine wpAny_bind (wpAny_bind (listUpdate_at hL rfl ?_ (by decide) (by decide)));have g1:=Heap.get?_update_self (Obj.mapSeq (·.push .none)) hL rfl;refine listUpdate_at g1 rfl ?_ (by decide) (by decide);have g2:=Heap.get?_update_self (Obj.mapSeq (·.pop)) g1 rfl;have sb:=(Heap.SameBut.update (H.push { cls:=.type "dict_keyiterator",data:=.fields #[.ref S,.int 0 0,.int (es.size:Int) 0,.int (ep:Int) 0] }) s.heap.objs.size (Obj.mapSeq (·.push .none))).trans (Heap.SameBut.update _ s.heap.objs.size (Obj.mapSeq (·.pop)));generalize hH2:((H.push { cls:=.type "dict_keyiterator",data:=.fields #[.ref S,.int 0 0,.int (es.size:Int) 0,.int (ep:Int) 0] }).update s.heap.objs.size (Obj.mapSeq (·.push .none))).update s.heap.objs.size (Obj.mapSeq (·.pop))=H2 at g2 sb |-;have hIT:H2.get? H.objs.size=some { cls:=.type "dict_keyiterator",data:=.fields #[.ref S,.int 0 0,.int (es.size:Int) 0,.int (ep:Int) 0] }:=sb.extBut _ _ (by rw[hHs];exact Nat.ne_of_gt (Nat.lt_succ_self _)) (Heap.get?_push_size _ rfl);have hI0:H2.IsKeyIter H.objs.size S 0 es.size ep:=⟨_,hIT,rfl,rfl⟩;have hS2:DictIs H2 S es ep:=hS1.at fun ob e=>sb.extBut _ _ (Ne.symm hSI) (Heap.get?_push_of_some _ e);refine wpAny_pure ⟨plainId_quiet F.plain_extend_loop _,codeAny_extend_loopS (z8C (A:=A.in1) (ep:=ep) (es:=es) hh H.objs.size S hneI).toS hz _ hSf _ es.size 0 _ _ _ rfl (Nat.zero_le _) ⟨hI0,hS2⟩ g2 (ItemsOf.nil _) fun s' acc' c' hmv hS' hacc=>?_⟩;show wpAny _ A (load s.heap.objs.size >>= _) _ _ s';refine wpAny_bind (wpAny_load hS' ?_);obtain⟨h',g',d',tk',os'⟩:=s';have eg:g'=s.gens:=hmv.gens;have ed:d'=s.drawn:=hmv.drawn;have eo:os'=s.os:=hmv.os;subst eg;subst ed;subst eo;have eacc:acc'.toList=es.toList.map (·.key):=by
  refine List.ext_getElem? fun i=>?_;rw[List.getElem?_map,Array.getElem?_toList,Array.getElem?_toList];cases e:acc'[i]? with
  | some v=>exact(hacc.2 i v e).symm
  | none=>
   have h1:=Array.getElem?_eq_none_iff.mp e;rw[hacc.1]at h1;rw[Array.getElem?_eq_none (by omega)];rfl
 refine wpAny_pure ?_;rw[eacc];refine hQ h' tk' fun b ob e=>hmv.heap b ob (fun hb=>?_) (sb.extBut _ _ (Nat.ne_of_lt (Heap.lt_size e)) (Heap.get?_push_of_some _ (keep _ _ e)));have hlt:=Heap.lt_size e;rcases List.mem_cons.mp hb with h | h
 ·exact absurd hlt (h▸Nat.lt_irrefl _)
 ·rw[List.mem_singleton.mp h,hHs]at hlt;exact absurd hlt (Nat.not_lt.mpr (Nat.le_succ _))
end
variable{X:Cx}
theorem z2S{S:Addr->Prop}{H:Hp}:∀(k:List Key),DatsS S H (k.map kD) (k.map kV)
 | []=>.nil
 | .inl i::k=>.cons di (z2S k)
 | .inr x::k=>.cons (by show DatS S H (.str x) (.str x);simp only[DatS]) (z2S k)
theorem z1B{S:Addr->Prop}{H:Hp}:∀{kvs:List (PyData×PyData)} {ks:List (PyData×V)},DctS S H kvs ks->kvs.map (·.1)=ks.map (·.1)
 | [],ks,h=>by simp only[DctS]at h;rw[h];rfl
 | (k,d)::r,ks,h=>by
  simp only[DctS]at h;obtain⟨x,q,rfl,_,h2⟩:=h;rw[List.map_cons,List.map_cons,z1B h2]
theorem z20{pins:List (Addr×Obj)}{s:Shared}{σ:L2.St}{H:Hp}{S:Addr->Prop}{a:Addr}{kvs:List (PyData×PyData)}{ks:List (PyData×V)}(I:L2.Inv X pins σ H s)(h:DctAt H a ks)(hd:DctS S H kvs ks):
  ∃(es:Array DictEntry) (ep:Nat) (xs:List V),DictIs s.heap a es ep/\(a == sysModules)=false/\es.size<=sizeLine/\Vals xs (es.toList.map (·.key))/\DatsS S H (kvs.map (·.1)) xs:=by
 rw[z1B hd];rcases h with ⟨l,h,rfl⟩ | ⟨l,h,rfl⟩
 ·obtain⟨z,y,vs,kv,o,es,ep,h1,h2,h3,h4,h5,_⟩:=z3b I.hok h;have gen:∀{l:List (Key×V)} {vs:List (Key×Value)} {es:List DictEntry},KV l vs->Pairs (zn X.prog X.w) es vs->∃xs,Vals xs (es.map (·.key))/\DatsS S H ((l.map fun kv=>(kD kv.1,kv.2)).map (·.1)) xs/\es.length=l.length:=by
   intro l vs es k1 k2
   induction k1 generalizing es with
   | nil=>cases k2;exact⟨[],.nil,.nil,rfl⟩
   | @cons p q ps qs hq t ih=>
    cases k2 with
    | cons e1 e2 e3=>
     obtain⟨xs,v1,v2,v3⟩:=ih e3;rw[<-hq.1]at e1;obtain⟨k,v⟩:=p;refine⟨kV k::xs,.cons ?_ v1,.cons ?_ v2,by simp[v3]⟩
     ·cases k with
      | inl i=>exact Value.isInt_shape e1
      | inr x=>exact Value.isStrOf_shape e1
     ·cases k with
      | inl i=>exact di
      | inr x=>show DatS S H (.str x) (.str x);simp only[DatS]
  obtain⟨xs,v1,v2,v3⟩:=gen kv h5;exact⟨es,ep,xs,⟨o,h1,h2,h3⟩,y,by rw[<-Array.length_toList,v3];exact z,v1,v2⟩
 ·obtain⟨z,y,vs,kt,o,es,ep,h1,h2,h3,h4,_⟩:=z3f I.hok h;have gen:∀{l:List (List Key×V)} {vs:List (List Key×Addr×Value)},KT H l vs->∃xs,Vals xs ((vs.map (entryOfKey (tupleKind (zn X.prog X.w)))).map (·.key))/\DatsS S H ((l.map fun kv=>(kT kv.1,kv.2)).map (·.1)) xs/\vs.length=l.length:=by
   intro l vs k1
   induction k1 with
   | nil=>exact⟨[],.nil,.nil,rfl⟩
   | @cons p q ps qs hq t ih=>
    obtain⟨xs,v1,v2,v3⟩:=ih;refine⟨.ref q.2.1::xs,.cons rfl v1,.cons ?_ v2,by simp[v3]⟩;show DatS S H (kT p.1) (.ref q.2.1);unfold kT;simp only[DatS];exact⟨_,_,rfl,hq.2.1,z2S p.1⟩
  obtain⟨xs,v1,v2,v3⟩:=gen kt;refine⟨es,ep,xs,⟨o,h1,h2,h3⟩,y,?_,by rw[h4];exact v1,v2⟩;rw[<-Array.length_toList,h4,List.length_map,v3];exact z
theorem z3J{pins:List (Addr×Obj)}{s:Shared}{σ:L2.St}{H:Hp}{Q:VK}{S:Addr->Prop}{a:Addr}{kvs:List (PyData×PyData)}{ks:List (PyData×V)}(hc:X.calm=true)(I:L2.Inv X pins σ H s)(hS:∀a,S a->H a≠none)(h:DctAt H a ks)(hd:DctS S H kvs ks)(hs:yU (kvs.map (·.1))=true)
  (q:∀v H',Same H H'->DatS S H' (.list (z0x keyI (kvs.map (·.1)))) v->Q v H'):wpAny (model X.prog X.w) X.A (call (.builtin "sorted") [.ref a]) (EP X pins σ Q) X.xe s:=by
 obtain⟨es,ep,xs,h1,h2,h3,rv,dv⟩:=z20 (S:=S) I h hd;exact xj I hS dv rv hs (fun Q' hq'=>z7N (A:=X.A.in1) (I.ok.hd hc) h2 h3 h1 hq') q
noncomputable def y3:List PyData->Option PyData
 | [.dict kvs]=>if yU (kvs.map (·.1))=true then some (.list (z0x keyI (kvs.map (·.1))))else none
 | ds=>uB ds
theorem z0E(hc:X.calm=true)(hu:X.A.units+64<cLine):CallR X (.builtin "sorted") (rDn y3):=by
 intro pins s σ H xs us Q I r h;obtain⟨S,ds,rr,hS,h1,hf,q⟩:=h;by_cases hk:∃kvs,ds=[.dict kvs]
 ·obtain⟨kvs,rfl⟩:=hk;simp only[y3]at hf;split at hf
  next hs=>
   cases hf;obtain⟨v,rfl,r1⟩:=all1 h1;obtain⟨a,ks,rfl,g1,k1⟩:=ul r1;obtain⟨u,rfl,ru⟩:=xO r;cases ru;exact z3J hc I hS g1 k1 hs q
  next=>cases hf
 ·have e:y3 ds=uB ds:=by
   unfold y3;split
   next kvs=>exact absurd ⟨kvs,rfl⟩ hk
   next=>rfl
  rw[e]at hf;exact z4Z hu pins s σ H xs us Q I r ⟨S,ds,rr,hS,h1,hf,q⟩
end L2
namespace L2
open PySem PySem.Spec PyProof.Rows
section
variable{X:Cx}
theorem Inv.freeze{pins:List (Addr×Obj)}{σ:L2.St}{H:Hp}{s:Shared}{a:Addr}{u:HO}(I:L2.Inv X pins σ H s)(e:H a=some u)(hk:wn u):∃o,s.heap.get? a=some o/\L2.Inv X pins σ (upd H a (.frz o u)) s:=by
 have ok:=I.hok a u e;have mu:Mut (some u):=by cases u<;>first | exact True.intro | exact hk
 obtain⟨o,ho⟩:∃o,s.heap.get? a=some o:=by
  cases u with
  | dK l=>obtain⟨_,_,_,_,o,_,_,q,_⟩:=ok;exact⟨_,q⟩
  | dT l=>obtain⟨_,_,_,_,o,_,_,q,_⟩:=ok;exact⟨_,q⟩
  | _=>exact hk.elim
 refine⟨o,ho,?_⟩;have nown:∀c y,H c=some (.own y)->c≠a:=fun c y r z=>by subst z;rw[e]at r;cases r;exact mu
 have ntup:∀c xs,H c=some (.tup xs)->c≠a:=fun c xs r z=>by subst z;rw[e]at r;cases r;exact mu
 have new:ObjOk X.prog X.w (upd H a (.frz o u)) s.heap a (.frz o u):=⟨ho,ok.stay (fun c v _ q=>q) (fun c r=>by rw[zB (nown c a r)];exact r) fun c xs r=>by rw[zB (ntup c xs r)];exact r⟩
 have:=I.write (t':=s.toks) (h':=s.heap) (x:=a) (e:=a) (o:=.frz o u) (by rw[e];exact mu) (.inl rfl) (fun b v _ q=>q) ⟨o,ho⟩ new;exact this
theorem Inv.thaw{pins:List (Addr×Obj)}{σ:L2.St}{H:Hp}{s:Shared}{a:Addr}{o:Obj}{u:HO}(I:L2.Inv X pins σ H s)(e:H a=some (.frz o u))(h0:∀o u,X.H₀ a≠some (.frz o u)):L2.Inv X pins σ (upd H a u) s:=by
 have ne:∀{b:Addr} {x:Option HO},H b=x->x≠some (.frz o u)->b≠a:=fun{b x} r z q=>by subst q;rw[e]at r;exact z r.symm
 have ok:=I.hok a _ e;have stay:∀{b:Addr} {w:HO},ObjOk X.prog X.w H s.heap b w->ObjOk X.prog X.w (upd H a u) s.heap b w:=fun{b w} q=>
  q.stay (fun c v _ q=>q) (fun c r=>by rw[zB (ne r (fun z=>nomatch z))];exact r) fun c xs r=>by rw[zB (ne r (fun z=>nomatch z))];exact r
 refine⟨I.ok,I.os,I.bare,⟨I.base.keep,I.base.slot,fun b w q n hx=>?_,I.base.there,fun b xs q=>?_,fun b w v q=>?_,fun b ps q=>?_⟩,I.loc,I.cell,?_,fun x c q=>?_,fun p hp=>?_,fun b w q=>?_,I.len⟩
 ·have r:=I.base.free b w q n hx;rw[zB (ne r (fun z=>nomatch z))];exact r
 ·have r:=I.base.tups b xs q;rw[zB (ne r (fun z=>nomatch z))];exact r
 ·have r:=I.base.frzs b w v q;have hb:b≠a:=fun z=>by subst z;exact h0 w v q
  rw[zB hb];exact r
 ·obtain⟨more,r⟩:=I.base.tbls b ps q;exact⟨more,by rw[zB (ne r (fun z=>nomatch z))];exact r⟩
 ·rw[zB (ne I.free (fun z=>nomatch z))];exact I.free
 ·rw[zB (ne (I.freeC x c q) (fun z=>nomatch z))];exact I.freeC x c q
 ·obtain⟨p1,p2,p3⟩:=I.pin p hp;exact⟨p1,by rw[zB (ne p2 (fun z=>nomatch z))];exact p2,p3⟩
 ·by_cases hb:b=a
  ·subst hb;rw[z7]at q;cases q;exact stay ok.2
  ·rw[zB hb]at q;exact stay (I.hok b w q)
def Thw(H:Hp)(Z:Hp->Prop)(H1:Hp):Prop:=Z H1\/∃a o u,(∀o u,H a≠some (.frz o u))/\H1 a=some (.frz o u)/\Z (upd H1 a u)
theorem Inv.thw{pins pins0:List (Addr×Obj)}{σ σ0:L2.St}{H H1:Hp}{s s0:Shared}{Z:Hp->Prop}(I0:L2.Inv X pins0 σ0 H s0)(I:L2.Inv X pins σ H1 s)(h:Thw H Z H1):∃H2,L2.Inv X pins σ H2 s/\Z H2:=by
 rcases h with h | ⟨a,o,u,hn,e,h⟩
 ·exact⟨H1,I,h⟩
 ·exact⟨_,I.thaw e fun o u z=>hn o u (I0.base.frzs a o u z),h⟩
theorem z94{e:Expr}{t:TE}(h:PE X e t):PE X e (fun σ H Q=>t σ H fun x H1=>Thw H (Q x) H1):=fun pins s σ H Q I q=>
 thn (h pins s σ H _ I q) fun v s1 ⟨x,H1,I1,r1,q1⟩=>by
  obtain⟨H2,I2,q2⟩:=Inv.thw I I1 q1;exact⟨x,H2,I2,r1,q2⟩
theorem z9O{st:Stmt}{t:TS}(h:PS X st t):PS X st (fun D σ H=>t { D with nx:=fun σ1 H1=>Thw H (D.nx σ1) H1 } σ H):=fun pins s σ H D I q=>
 thn (h pins s σ H _ I q) fun f s1 q1=>by
  cases f with
  | next=>
   obtain⟨σ1,H1,I1,q1⟩:=q1;obtain⟨H2,I2,q2⟩:=Inv.thw I I1 q1;exact⟨σ1,H2,I2,q2⟩
  | brk=>exact q1
  | cont=>exact q1
  | ret u=>exact q1
end
def Mv(H H':Hp):Prop:=(∀b xs,H b=some (.tup xs)->H' b=some (.tup xs))/\(∀b xs,H b=some (.lst xs)->H' b=some (.lst xs))/\∀b u,wn u->Rd H b u->Rd H' b u
theorem zAy{H:Hp}{a:Addr}{u:HO}{o:Obj}(e:H a=some u)(hd:wn u):Mv H (upd H a (.frz o u)):=by
 refine⟨fun b xs q=>?_,fun b xs q=>?_,fun b w hw q=>?_⟩
 ·rw[zB (fun z=>by subst z;rw[e]at q;cases q;exact hd)];exact q
 ·rw[zB (fun z=>by subst z;rw[e]at q;cases q;exact hd)];exact q
 ·by_cases hb:b=a
  ·subst hb;rcases q with q | ⟨o',q⟩
   ·rw[e]at q;cases q;exact .inr ⟨o,z7⟩
   ·rw[e]at q;cases q;exact hd.elim
  ·rcases q with q | ⟨o',q⟩
   ·exact .inl (by rw[zB hb];exact q)
   ·exact .inr ⟨o',by rw[zB hb];exact q⟩
theorem zAr{H:Hp}{a:Addr}{u:HO}{o:Obj}(e:H a=some (.frz o u)):Mv H (upd H a u):=by
 refine⟨fun b xs q=>?_,fun b xs q=>?_,fun b w hw q=>?_⟩
 ·rw[zB (fun z=>by subst z;rw[e]at q;cases q)];exact q
 ·rw[zB (fun z=>by subst z;rw[e]at q;cases q)];exact q
 ·by_cases hb:b=a
  ·subst hb;rcases q with q | ⟨o',q⟩
   ·rw[e]at q;cases q;exact hw.elim
   ·rw[e]at q;cases q;exact .inl z7
  ·rcases q with q | ⟨o',q⟩
   ·exact .inl (by rw[zB hb];exact q)
   ·exact .inr ⟨o',by rw[zB hb];exact q⟩
theorem DctAt.mv{H H':Hp}{a:Addr}{ks:List (PyData×V)}(m:Mv H H')(h:DctAt H a ks):DctAt H' a ks:=by
 rcases h with ⟨l,h,e⟩ | ⟨l,h,e⟩
 ·exact .inl ⟨l,m.2.2 _ _ True.intro h,e⟩
 ·exact .inr ⟨l,m.2.2 _ _ True.intro h,e⟩
mutual
theorem DatS.mv{S:Addr->Prop}{H H':Hp}(s:Mv H H'):∀{d:PyData} {v:V},DatS S H d v->DatS S H' d v
 | .none,_,h=>by simp only[DatS]at h |-;exact h
 | .bool _,_,h=>by simp only[DatS]at h |-;exact h
 | .int _,_,h=>by simp only[DatS]at h |-;exact h
 | .str _,_,h=>by simp only[DatS]at h |-;exact h
 | .list _,_,h=>by
  simp only[DatS]at h |-;obtain⟨a,xs,e,h0,h1,h2⟩:=h;exact⟨a,xs,e,h0,s.2.1 _ _ h1,DatsS.mv s h2⟩
 | .tuple _,_,h=>by
  simp only[DatS]at h |-;obtain⟨a,xs,e,h1,h2⟩:=h;exact⟨a,xs,e,s.1 _ _ h1,DatsS.mv s h2⟩
 | .dict _,_,h=>by
  simp only[DatS]at h |-;obtain⟨a,xs,e,h0,h1,h2⟩:=h;exact⟨a,xs,e,h0,DctAt.mv s h1,DctS.mv s h2⟩
theorem DatsS.mv{S:Addr->Prop}{H H':Hp}(s:Mv H H'):∀{ds:List PyData} {xs:List V},DatsS S H ds xs->DatsS S H' ds xs
 | [],_,h=>by simp only[DatsS]at h |-;exact h
 | _::_,_,h=>by
  simp only[DatsS]at h |-;obtain⟨x,r,e,h1,h2⟩:=h;exact⟨x,r,e,DatS.mv s h1,DatsS.mv s h2⟩
theorem DctS.mv{S:Addr->Prop}{H H':Hp}(s:Mv H H'):∀{ds:List (PyData×PyData)} {xs:List (PyData×V)},DctS S H ds xs->DctS S H' ds xs
 | [],_,h=>by simp only[DctS]at h |-;exact h
 | (_,_)::_,_,h=>by
  simp only[DctS]at h |-;obtain⟨x,r,e,h1,h2⟩:=h;exact⟨x,r,e,DatS.mv s h1,DctS.mv s h2⟩
end
theorem Dat1.mv{T S:Addr->Prop}{H H':Hp}(s:Mv H H'){d:PyData}{v:V}(h:Dat1 T S H d v):Dat1 T S H' d v:=by
 cases d<;>simp only[Dat1]at h |-
 case list=>obtain⟨b,xs,e,h0,h1,h2⟩:=h;exact⟨b,xs,e,h0,s.2.1 _ _ h1,DatsS.mv s h2⟩
 case dict=>obtain⟨b,xs,e,h0,h1,h2⟩:=h;exact⟨b,xs,e,h0,h1.mv s,DctS.mv s h2⟩
 all_goals exact DatS.mv s h
theorem Dp.mv{g:Gh}{ow:Ix->Option Addr}{H H':Hp}{i:Nat}{kls:List (PyData×List PyData)}{v:V}(s:Mv H H')(h:Dp g ow H i kls v):Dp g ow H' i kls v:=by
 obtain⟨a,ks,e,e0,hd,hl,hk⟩:=h;refine⟨a,ks,e,e0,hd.mv s,hl,fun j k l ej=>?_⟩;obtain⟨b,xs,q1,q2,q3,q4⟩:=hk j k l ej;exact⟨b,xs,q1,q2,s.2.1 _ _ q3,DatsS.mv s q4⟩
noncomputable def Gh.fz(g:Gh)(a:Addr)(o:Obj)(u:HO):Gh:=⟨g.aS,g.ns,g.aT,g.S0,fun b=>if b=a then(match g.H0 a with | none=>none | some _=>some (.frz o u))else g.H0 b⟩
theorem Gh.fz_ne{g:Gh}{a b:Addr}{o:Obj}{u:HO}(h:b≠a):(g.fz a o u).H0 b=g.H0 b:=by unfold Gh.fz;exact if_neg h
theorem Gh.fz_none{g:Gh}{a:Addr}{o:Obj}{u:HO}(h:g.H0 a=none):(g.fz a o u).H0 a=none:=by
 unfold Gh.fz;show(if a=a then _ else _)=_;rw[if_pos rfl,h]
theorem Gh.fz_some{g:Gh}{a:Addr}{o:Obj}{u w:HO}(h:g.H0 a=some w):(g.fz a o u).H0 a=some (.frz o u):=by
 unfold Gh.fz;show(if a=a then _ else _)=_;rw[if_pos rfl,h]
section
variable{K:W.Frag}{g:Gh}{ow:Ix->Option Addr}{ρ:Env'}{n n':Nat}{σ:St}{H H':Hp}{a:Addr}{o:Obj}{u:HO}
theorem Frm.fz(f:Frm K g ow ρ n σ H)(e:H a=some u)(hd:wn u)(hS:¬g.S ow a):Frm K (g.fz a o u) ow ρ n σ (upd H a (.frz o u)):=by
 have m:Mv H (upd H a (.frz o u)):=zAy e hd;have hT:g.aT≠some a:=fun z=>hS (.inr (.inl z));have h0:∀w,g.H0 a=some w->w=u:=fun w q=>by
  have:=f.ext a w q (.inl hT);rw[e]at this;cases this;rfl
 refine⟨?_,fun b q=>m.2.1 _ _ (f.twn b q),fun b q=>?_,fun b w q k=>?_,fun i d q=>?_,fun i x q=>?_,fun i kl q=>?_,fun i b q=>?_,f.inj,f.len⟩
 ·rcases f.scr with h | ⟨h1,h2⟩
  ·exact .inl h
  ·refine .inr ⟨h1,?_⟩;show SqL K (g.fz a o u).H0 g.aS _;rcases h2 with h | h
   ·have hb:g.aS≠a:=fun z=>by
     rcases h with h | ⟨ob,h⟩
     ·rw[z]at h;have:=h0 _ h;rw[<-this]at hd;exact hd
     ·rw[z]at h;have:=h0 _ h;rw[<-this]at hd;exact hd
    rcases h with h | ⟨ob,h⟩
    ·exact .inl (.inl (by rw[Gh.fz_ne hb];exact h))
    ·exact .inl (.inr ⟨ob,by rw[Gh.fz_ne hb];exact h⟩)
   ·exact .inr h
 ·by_cases hb:b=a
  ·subst hb;cases z:g.H0 b with
   | none=>exact absurd z (f.sub b q)
   | some w=>rw[Gh.fz_some z];intro z;cases z
  ·rw[Gh.fz_ne hb];exact f.sub b q
 ·by_cases hb:b=a
  ·subst hb;cases z:g.H0 b with
   | none=>rw[Gh.fz_none z]at q;cases q
   | some w'=>rw[Gh.fz_some z]at q;cases q;exact z7
  ·rw[Gh.fz_ne hb]at q;rw[zB hb];exact f.ext b w q k
 ·obtain⟨v,e1,r⟩:=f.val i d q;refine⟨v,e1,?_⟩;cases d with
  | p x=>exact DatS.mv m r
  | scr=>exact r
  | town=>exact r
  | fn=>exact r
  | exc b C=>exact⟨r.1,r.2.1,by rw[zB (fun z=>by have k:=r.2.2;subst z;rw[e]at k;cases k;exact hd)];exact r.2.2⟩
 ·obtain⟨b,e1,e2,r⟩:=f.own i x q;exact⟨b,e1,e2,Dat1.mv m r⟩
 ·obtain⟨v,e1,r⟩:=f.dp i kl q;exact⟨v,e1,Dp.mv m r⟩
 ·obtain⟨q1,⟨w,q2,q3⟩,q4,q5⟩:=f.owi i b q;have hb:b≠a:=fun z=>hS (.inr (.inr ⟨i,z▸q⟩));exact⟨by rw[Gh.fz_ne hb];exact q1,⟨w,by rw[zB hb];exact q2,q3⟩,q4,q5⟩
theorem zCL{T:Addr->Prop}(e:H a=some u)(hd:wn u)(hT:¬T a)(k:Kp T (upd H a (.frz o u)) H'):H' a=some (.frz o u)/\Kp T H (upd H' a u):=by
 have h1:H' a=some (.frz o u):=k _ _ z7 (.inl hT);refine⟨h1,fun b w q z=>?_⟩;by_cases hb:b=a
 ·subst hb;rw[e]at q;cases q;exact z7
 ·rw[zB hb];exact k _ _ (by rw[zB hb];exact q) z
end
end L2
namespace L2
open PySem PySem.Spec PyProof.Rows
noncomputable def Itk(a:Addr)(o:Obj)(u:HO)(xs:List V):It:=
 ⟨fun i H=>H a=some (.frz o u)/\i<xs.length,fun i H x H'=>H'=H/\(i<xs.length->xs[i]?=some x),fun i H=>H a=some (.frz o u)/\xs.length<=i⟩
theorem z6Q{P:Program}{w:World}{K:W.Frag}{tg:Expr}{a it:Addr}{o:Obj}{u:HO}{xs:List V}{es:Array DictEntry}{ep:Nat}(hx:o.ExactDict)(hd:o.data=.dict es ep)(rv:Vals xs (es.toList.map (·.key))):
  Turn P w K tg (Itk a o u xs) [it] it (fun i h=>h.IsKeyIter it a i es.size ep/\i<=es.size) where
 mem:=by simp
 obj:=fun i h st b hb=>by
  have e:b=it:=by simpa using hb
  subst e;obtain⟨⟨o,e,c,d⟩,_⟩:=st;exact⟨o,e,fun v z=>by rw[d]at z;cases z⟩
 keep:=fun i h h' st k=>⟨st.1.at fun o e=>k it (by simp) o e,st.2⟩
 item:=by
  intro X hP hw hK hc i pins s σ H E I hf st hg;subst hP hw hK;obtain⟨hfz,hlt⟩:=hg;have hl:xs.length=es.size:=by
   have:=rv.length;simpa using this
  have hi:i<es.size:=hl▸hlt;have ho:s.heap.get? a=some o:=(show ObjOk X.prog X.w H s.heap a (.frz o u) from I.hok a _ hfz).1;obtain⟨f0,f1,f2,f3,f4,f5⟩:=hf it (by simp);obtain⟨v,hv,ru⟩:=rv.get (i:=i) (x:=xs[i]) (List.getElem?_eq_getElem hlt);have ev:v=es[i].key:=by
   rw[List.getElem?_map,Array.getElem?_toList,Array.getElem?_eq_getElem hi]at hv;cases hv;rfl
  subst ev;refine z49 st.1 ⟨o,ho,hx,hd⟩ hi fun h' st' sb=>?_;have I1:Inv X pins σ H { s with heap:=h' }:=I.turned (t':=s.toks) (fun b o hb e=>(sb.2 b hb).trans e) f0 f1 f3 f4 f5;obtain⟨o',e,c,d⟩:=id st';exact⟨_,rfl,z7H (s:={ s with heap:=h' }) e c d (by decide) ⟨xs[i],H,I1,ru,⟨rfl,fun _=>List.getElem?_eq_getElem hlt⟩,⟨st',hi⟩,fun b hb=>(hf b hb).1⟩⟩
 done:=by
  intro X hP hw hK hc i pins s σ H E I hf st hg;subst hP hw hK;obtain⟨hfz,hge⟩:=hg;have hl:xs.length=es.size:=by
   have:=rv.length;simpa using this
  obtain⟨st,hle⟩:=st;obtain rfl:i=es.size:=Nat.le_antisymm hle (hl▸hge);have ho:s.heap.get? a=some o:=(show ObjOk X.prog X.w H s.heap a (.frz o u) from I.hok a _ hfz).1;obtain⟨f0,f1,f2,f3,f4,f5⟩:=hf it (by simp);exact z8B (I.ok.hd hc) st ⟨o,ho,hx,hd⟩ fun h' eb=>⟨rfl,I.turned (t':=s.toks) (fun b o hb e=>eb b o hb e) f0 f1 f3 f4 f5⟩
 self:=fun _ _ _ _ _ st h=>wpAny_pyIter_keyiter st.1 h
section
variable{X:Cx}{tg:Expr}
theorem z4J{l:Expr}{tl:TE}(hl:PE X l tl):PI X tg l (fun σ H R=>tl σ H fun x H1=>∃(a:Addr) (u:HO) (S:Addr->Prop) (kvs:List (PyData×PyData)) (ks:List (PyData×V)),x=.ref a/\Rd H1 a u/\wn u/\DctAt H1 a ks/\DctS S H1 kvs ks/\
  ∀o xs,DatsS S H1 (kvs.map (·.1)) xs->(H1 a=some u->R (Itk a o u xs) (upd H1 a (.frz o u)))/\(H1 a=some (.frz o u)->R (Itk a o u xs) H1)):=by
 intro pins s σ H R I h;refine thn (hl pins s σ H _ I h) fun v s1 ⟨x,H1,I1,r1,q1⟩=>?_;obtain⟨a,u,S,kvs,ks,e,hu,hdu,hk,hd,q⟩:=q1;subst e;cases r1;obtain⟨es,ep,xs,⟨o,ho,hx,hdat⟩,hsys,hz,rv,dv⟩:=z20 (S:=S) I1 hk hd;have go:∀H2,Inv X pins σ H2 s1->R (Itk a o u xs) H2->wpAny (model X.prog X.w) X.A (pyIter (.ref a)) (PIE X pins σ tg R) X.xe s1:=fun H2 I2 q2=>by
  have fp:∀b∈[s1.heap.objs.size],FpOk X pins H2 b:=fun b hb=>by
   have e:b=s1.heap.objs.size:=by simpa using hb
   subst e;exact I2.fpOk (Nat.le_refl _) (I2.hok.fresh (Nat.le_refl _))
  refine z8s hsys ⟨o,ho,hx,hdat⟩ ?_;exact⟨s1.heap.objs.size,[s1.heap.objs.size],_,_,_,rfl,I2.kept (t':=s1.toks) fun b o e=>Heap.get?_push_of_some _ e,z6Q hx hdat rv,⟨⟨_,Heap.get?_push_size _ rfl,rfl,rfl⟩,Nat.zero_le _⟩,fp,q2⟩
 rcases hu with hu | ⟨o2,hu⟩
 ·obtain⟨o2,ho2,I2⟩:=Inv.freeze I1 hu hdu;rw[ho]at ho2;cases ho2;exact go _ I2 ((q o xs dv).1 hu)
 ·have ho2:s1.heap.get? a=some o2:=(show ObjOk X.prog X.w H1 s1.heap a (.frz o2 u) from I1.hok a _ hu).1;rw[ho]at ho2;cases ho2;exact go _ I1 ((q o xs dv).2 hu)
end
section
variable{K:W.Frag}{Er:Str->Hp->Prop}{X:Cx}{e a b c tg it elt:Expr}{m ma mb:Env'->Mx D}{mc mt:Env'->Mx Bool}{pos p2:Pos}
theorem z30{tc:TT}{σ:St}{Q:VK}{g:Gh}{ow:Ix->Option Addr}{ρ:Env'}{n:Nat}{H1:Hp}{ds:List PyData}{xs:List V}{J:It}(htc:∀σ H Q,rdG RT K Er mc σ H Q->tc σ H Q)(fr:Frm K g ow ρ n σ H1)(hl:ds.length<=lim)(hd:DatsS (g.S ow) H1 ds xs)(wk:Walks g.T H1 J xs)
  (q:AftG (fun _ H2 x v=>RF g (g.S ow) H1 H2 x v) g Er H1 ((zX mc m ρ ds [] >>= fun l=>pure (PyData.list l)) n) Q):∃(n:Nat) (W:Nat->List V->Hp->Prop),W 0 [] H1/\CompW J σ tc (rdG RE K Er m) n W/\∀ys H',W n ys H'->∀D,H' D=none->Q (.ref D) (upd H' D (.lst ys)):=by
 have hlen:=hd.length;refine⟨xs.length,fun i ys H'=>∃acc n',Kp g.T H1 H'/\Twn g H' n'/\DatsS (g.S ow) H' acc ys/\AftG (fun _ H2 x v=>RF g (g.S ow) H1 H2 x v) g Er H' ((zX mc m ρ (ds.drop i) acc >>= fun l=>pure (PyData.list l)) n') Q,
  ⟨[],n,Kp.refl _ _,fr.twn,.nil,by rw[List.drop_zero];exact q.imp (fun _ _ _ z=>z) fun _ _ z=>z⟩,⟨y4 (by rw[<-hlen];exact hl),fun ys H' ⟨_,_,k,_⟩=>wk.stop H' k,fun i ys H' hi ⟨_,_,k,_⟩=>wk.go i H' k hi,fun i ys H' v H'' hi ⟨acc,n',k,t,dd,q⟩ y=>?_⟩,fun ys H' ⟨acc,n',k,t,dd,q⟩ D hD=>?_⟩
 ·obtain⟨rfl,hv⟩:=wk.yld i H' v _ k y;have hv:=hv hi;have hid:i<ds.length:=by omega
  obtain⟨v',ev,rv⟩:=hd.get (List.getElem?_eq_getElem hid);rw[hv]at ev;cases ev;have rv':Rep g (g.S ow) H'' (.p ds[i]) v:=DatS.kp (k.mono Gh.ts) (fun _ z=>.inl z) rv;have f1:Frm K g ow (ρ++[some (Sl.val (.p ds[i]))]) n' (σ++[some v]) H'':=(fr.kp k t).ext1 rv';rw[List.drop_eq_getElem_cons hid]at q;simp only[zX,yX]at q;refine htc _ _ _ ⟨g,ow,_,n',f1,AftG.bind q fun tb n2 tb' H3 k3 t3 r3 c3=>?_⟩;cases r3;have q3:=c3 (R3:=fun _ H2 x v=>RF g (g.S ow) H1 H2 x v) fun _ _ _ z=>z;cases tb with
  | false=>
   refine ite_ff ⟨acc,n2,k.trans k3,t3,DatsS.kp (k3.mono Gh.ts) (fun _ z=>.inl z) dd,?_⟩;simpa using q3
  | true=>
   simp only[if_true,yX]at q3;refine ite_tt ⟨g,ow,_,n2,f1.kp k3 t3,AftG.bind q3 fun yv n4 yv' H4 k4 t4 r4 c4=>?_⟩;have q4:=c4 (R3:=fun _ H2 x v=>RF g (g.S ow) H1 H2 x v) fun _ _ _ z=>z;obtain⟨z,ez,q5⟩:=x8 q4;obtain⟨z',rfl,ez2⟩:=zf ez;cases ez2;exact⟨acc++[z],n4,(k.trans k3).trans k4,t4,(DatsS.kp ((k3.trans k4).mono Gh.ts) (fun _ z=>.inl z) dd).append (.cons r4 .nil),q5⟩
 ·rw[List.drop_of_length_le (by omega)]at q;have q:AftG (fun _ H2 x v=>RF g (g.S ow) H1 H2 x v) g Er H' (.ok (.list acc) n') Q:=q;refine q (.ref D) _ (Same.new hD).kp ((Same.new hD).twn t) ⟨D,rfl,xz k t hD,Pl.upd,?_⟩;simp only[Dat1];exact⟨D,ys,rfl,id,z7,DatsS.kp (Kp.of (Same.new hD)) (fun b z=>z.elim .inl fun e=>.inr (e▸hD)) dd⟩
noncomputable def z9P:PyData->Option (List PyData)
 | .dict kvs=>if kvs.length<=lim then some (kvs.map (·.1))else none
 | _=>none
noncomputable def Mx.sure{α:Type}(m:Mx α):Mx α:=fun n=>match m n with
 | .ok a n'=>.ok a n'
 | _=>.bad
noncomputable def wB(mk:Env'->Mx D)(mc:Env'->Mx Bool)(me:Env'->Mx D):Env'->Mx PyData:=fun ρ=>mk ρ >>= fun d=>Mx.opt (onP z9P d) >>= fun ds=>(zX mc me ρ ds []).sure >>= fun l=>pure (.list l)
theorem z1F{S:Addr->Prop}{H:Hp}{a:Addr}{o:Obj}{u:HO}{xs:List V}(h:H a=some (.frz o u))(hS:¬S a):Walks S H (Itk a o u xs) xs:=
 ⟨fun i H' k hi=>⟨k _ _ h (.inl hS),hi⟩,fun i H' x H'' k y=>y,fun H' k=>⟨k _ _ h (.inl hS),Nat.le_refl _⟩⟩
noncomputable abbrev piK(K:W.Frag)(Er:Str->Hp->Prop)(mk:Env'->Mx D):TI:=fun σ H R=>rdG RE K Er mk σ H fun x H1=>∃(a:Addr) (u:HO) (S:Addr->Prop) (kvs:List (PyData×PyData)) (ks:List (PyData×V)),x=.ref a/\Rd H1 a u/\wn u/\DctAt H1 a ks/\DctS S H1 kvs ks/\
  ∀o xs,DatsS S H1 (kvs.map (·.1)) xs->(H1 a=some u->R (Itk a o u xs) (upd H1 a (.frz o u)))/\(H1 a=some (.frz o u)->R (Itk a o u xs) H1)
theorem z1H{mk:Env'->Mx D}{tc:TT}{σ:St}{H:Hp}{Q:VK}(htc:∀σ H Q,rdG RT K Er mc σ H Q->tc σ H Q)(h:rdG RF K Er (wB mk mc m) σ H Q):z24 (piK K Er mk) tc (rdG RE K Er m) σ H (fun x H1=>Thw H (Q x) H1):=by
 obtain⟨g,ow,ρ,n,fr0,q0⟩:=h;refine⟨g,ow,ρ,n,fr0,?_⟩;refine AftG.bind q0 fun d n1 v H1 k01 t1 r c1=>?_;have q:=c1 (R3:=RF g (g.S ow)) fun H2 b u r=>wP _ _ _ _ _ _ _ _ k01 t1 r;have fr:=fr0.kp k01 t1;obtain⟨ds,e,q2⟩:=x8 q;obtain⟨x,rfl,e1⟩:=zf e;cases x<;>simp only[z9P]at e1<;>try (cases e1;done)
 rename_i kvs
 split at e1
 next hl=>
  cases e1;obtain⟨a,ks,rfl,hn,h1,h2⟩:=(show ∃a ks,v=.ref a/\¬(g.S ow) a/\DctAt H1 a ks/\DctS (g.S ow) H1 kvs ks by simpa only[Rep,DatS]using r);have hT:¬g.T a:=fun z=>hn (.inr (.inl z));obtain⟨u,hu,hdu⟩:∃u,Rd H1 a u/\wn u:=by
   rcases h1 with ⟨l,h,_⟩ | ⟨l,h,_⟩
   ·exact⟨_,h,True.intro⟩
   ·exact⟨_,h,True.intro⟩
  have hl':(kvs.map (·.1)).length<=lim:=by rw[List.length_map];exact hl
  have q3:∀l n2,zX mc m ρ (kvs.map (·.1)) [] n1=.ok l n2->∀v H',Kp g.T H1 H'->Twn g H' n2->RF g (g.S ow) H1 H' (.list l) v->Q v H':=fun l n2 ez=>by
   have q2:AftG (RF g (g.S ow)) g Er H1 (((zX mc m ρ (kvs.map (·.1)) []).sure >>= fun l=>pure (PyData.list l)) n1) Q:=q2;rw[Mx.bind_def,show(zX mc m ρ (kvs.map (·.1)) []).sure n1=.ok l n2 by unfold Mx.sure;rw[ez]]at q2;exact q2
  have q4:∃l n2,zX mc m ρ (kvs.map (·.1)) [] n1=.ok l n2:=by
   have q2:AftG (RF g (g.S ow)) g Er H1 (((zX mc m ρ (kvs.map (·.1)) []).sure >>= fun l=>pure (PyData.list l)) n1) Q:=q2;rw[Mx.bind_def]at q2;unfold Mx.sure at q2;cases ez:zX mc m ρ (kvs.map (·.1)) [] n1 with
   | ok l n2=>exact⟨l,n2,rfl⟩
   | err c n2=>rw[ez]at q2;exact q2.elim
   | bad=>rw[ez]at q2;exact q2.elim
  obtain⟨l,n2,ez⟩:=q4;have q5:=q3 l n2 ez;have run:((zX mc m ρ (kvs.map (·.1)) [] >>= fun l=>pure (PyData.list l)) n1)=.ok (.list l) n2:=by rw[Mx.bind_def,ez];rfl
  refine⟨a,u,g.S ow,kvs,ks,rfl,hu,hdu,h1,h2,fun o xs dv=>⟨fun hp=>?_,fun hf=>?_⟩⟩
  ·have f2:=fr.fz (o:=o) hp hdu hn;refine z30 (m:=m) (Q:=fun x H1=>Thw H (Q x) H1) (g:=g.fz a o u) htc f2 hl' (DatsS.mv (zAy hp hdu) dv) (z1F z7 hT) ?_;rw[run];intro v H' k t r;obtain⟨e1,k1⟩:=zCL hp hdu hT (T:=g.T) k;have h0:∀o u,H a≠some (.frz o u):=fun o' u' z=>by
    have:=k01 _ _ z (.inl hT);rw[hp]at this;cases this;exact hdu
   refine .inr ⟨a,o,u,h0,e1,q5 v _ k1 (fun b eb=>(zAr e1).2.1 _ _ (t b eb)) ?_⟩;obtain⟨D,rfl,hD,⟨w,hw,hnf⟩,dd⟩:=r;have hDa:D≠a:=fun z=>by subst z;rw[z7]at hD;cases hD
   exact⟨D,rfl,by rw[zB hDa]at hD;exact hD,⟨w,by rw[zB hDa];exact hw,hnf⟩,Dat1.mv (zAr e1) dd⟩
  ·refine z30 (m:=m) (Q:=fun x H1=>Thw H (Q x) H1) htc fr hl' dv (z1F hf hT) ?_;rw[run];intro v H' k t r;exact .inl (q5 v H' k t r)
 next=>cases e1
theorem z6f{mk:Env'->Mx D}{N N':List Str}{sc scope:Scope}{x:Str}{ifs:List Expr}{px:Pos}{tc:TT}(hc:X.calm=true)(hN:X.N=N)(hsc:X.env.scope=sc)(h:wg N sc scope x N'=true)(htc:∀σ H Q,rdG RT K Er mc σ H Q->tc σ H Q)
  (hi:DE K Er X it mk) (hf:∀C s H fp,PF (zT X scope N' C s H fp) ifs tc) (he:∀C s H fp,DE K Er (zT X scope N' C s H fp) elt m)
  (hs:∀x,foldedSetIterable it X.env x=pure x:=by intro _;rfl):DF K Er X (.ListComp elt [⟨.Name x px,it,ifs,0⟩] scope pos) (wB mk mc m):=(z94 (z26 hc hN hsc h (z4J hi) hf he hs)).imp fun σ H Q h=>z1H htc h
theorem z78{mk:Env'->Mx D}{i:Nat}{N N':List Str}{sc scope:Scope}{x y:Str}{ifs:List Expr}{px py spos:Pos}{tc:TT}(hc:X.calm=true)(hN:X.N=N)(hsc:X.env.scope=sc)(h:wg N sc scope x N'=true)(hnd:X.N.Nodup)(hy:X.N[i]?=some y)(hl:X.env.scope.names.lookup y=some .local)
  (htc:∀σ H Q,rdG RT K Er mc σ H Q->tc σ H Q) (hi:DE K Er X it mk) (hf:∀C s H fp,PF (zT X scope N' C s H fp) ifs tc) (he:∀C s H fp,DE K Er (zT X scope N' C s H fp) elt m)
  (hsw:swapsWith (.ListComp elt [⟨.Name x px,it,ifs,0⟩] scope pos) (some (.Name y py)) spos.line X.env=pure true:=by rfl)
  (hs:∀x,foldedSetIterable it X.env x=pure x:=by intro _;rfl):DS K Er X (.Assign [.Name y py] (.ListComp elt [⟨.Name x px,it,ifs,0⟩] scope pos) spos) (sSet i (mP (wB mk mc m))):=
 (z9O (z2F hc hN hsc h hnd hy hl (z4J hi) hf he hsw hs)).imp fun σ H E h=>z1H (Q:=fun v H1=>E.nx (σ.set i (some v)) H1) htc (by
  have e:sSet i (mP (wB mk mc m))=fun ρ=>wB mk mc m ρ >>= fun z=>pure (.nx (ρ.set i (some (Sl.val (.p z))))):=by
   funext ρ;unfold sSet mP;rw[yX];rfl
  rw[e]at h;refine rs1 h fun g ow ρ n n1 z v H1 f k f1 r q=>?_;obtain⟨p,rfl,hp,_,d⟩:=r;have hn:¬g.S ow p:=fun z=>f.dom p z hp;refine q _ _ H1 (f1.setVal ?_) Stp.put;show DatS _ _ z _;cases z<;>simp only[Dat1,DatS]at d |-
  case list=>obtain⟨b,xs,e,_,h1,h2⟩:=d;cases e;exact⟨p,xs,rfl,hn,h1,DatsS.kp (Kp.refl _ _) (fun _ z=>.inl (.inl z)) h2⟩
  case dict=>obtain⟨b,xs,e,_,h1,h2⟩:=d;cases e;exact⟨p,xs,rfl,hn,h1,DctS.kp (Kp.refl _ _) (fun _ z=>.inl (.inl z)) h2⟩
  case tuple=>obtain⟨b,xs,e,h1,h2⟩:=d;exact⟨b,xs,e,h1,DatsS.kp (Kp.refl _ _) (fun _ z=>.inl (.inl z)) h2⟩
  all_goals cases d)
end
section
variable{K:W.Frag}{Er:Str->Hp->Prop}{X:Cx}{e a' b c tg it elt:Expr}{m ma mb:Env'->Mx D}{mc mt:Env'->Mx Bool}{sa:Env'->Mx Out}{pos p2:Pos}{sts:List Stmt}
variable{g:Gh}{ow ow':Ix->Option Addr}{ρ ρ':Env'}{n n':Nat}{σ σ':St}{H H' H1:Hp}{a:Addr}{o:Obj}{u:HO}
end
section
variable{prog:Program}{w:World}{A:Around}{E:Value->Shared->Prop}{s:Shared}
end
section
variable{X:Cx}{pins:List (Addr×Obj)}{σ:St}{H:Hp}{s:Shared}{a:Addr}
end
section
variable{X:Cx}{a b:Expr}{ta:TA}{p pos tp:Pos}{elts:List Expr}
end
section
variable{K:W.Frag}{Er:Str->Hp->Prop}{X:Cx}{a b:Expr}{ms:Env'->Mx (List D)}{sa:Env'->Mx Out}{pos p2 p3 tp:Pos}{sts elts:List Stmt}
variable{σ:St}{H:Hp}
end
open PySem
section
variable{K:W.Frag}{Er:Str->Hp->Prop}{X:Cx}{mi:Env'->Mx (List PyData)}{ms:Env'->Mx (List D)}{mc:Env'->Mx Bool}{m:Env'->Mx D}
variable{elt it tg:Expr}{pos:Pos}
end
end L2
namespace PySem
namespace F
theorem lk_list_keys:typeLookup (.type "list") "keys"=pure none:=by rw[typeLookup_type,builtinLookup_eq_fast];kernel_rfl
theorem lk_list_getattr:typeLookup (.type "list") "__getattr__"=pure none:=by rw[typeLookup_type,builtinLookup_eq_fast];kernel_rfl
theorem sub_attrErr:isSubtype (.type "AttributeError") (.type "AttributeError")=pure true:=by rw[isSubtype_type];kernel_rfl
theorem entry_dict_update_loop:entryFor table "dict.update.loop"=some Builtin.«dict.update.loop»:=entryFor_of_tree (by kernel_rfl)
theorem plain_dict_update_loop:plainId "dict.update.loop"=true:=by decide +kernel
end F
section
variable{prog:Program}{w:World}{A:Around}{E:Value->Shared->Prop}{h:Heap}{g:Array GenState}{d:Drawn}{t:Nat}{os:OsState}{a:Addr}{o:Obj}
theorem z3Y{α:Type}{name msg:Str}{Q:α->Shared->Prop}(hh:A.handled=none)(hm:msg.length<=sizeLine)(hq:∀e h' t',(∃oe,h'.get? e=some oe/\oe.cls=.type "AttributeError")->(∀b ob,h.get? b=some ob->h'.get? b=some ob)->E (.ref e) ⟨h',g,d,t',os⟩):
  wpAny (model prog w) A (raiseAttrError (.ref a) name msg) Q E ⟨h,g,d,t,os⟩:=by
 have hs:=F.sub_attrErr;have hfa:∀v,firstArgMember (.type "AttributeError") [v]=pure .none:=fun v=>by unfold firstArgMember;kernel_rfl
 unfold raiseAttrError newExc;refine wpAny_bind ?_;unfold mkStr;rw[if_neg (by omega)]
 repeat (any_goals (first | assumption | wp_step))
 refine wpAny_raiseNew_none hh (hq _ _ _ ⟨_,Heap.get?_update_self _ (Heap.get?_push_size _ rfl) rfl,rfl⟩ fun b ob e=>?_);have hb:=Heap.lt_size e;have hne:(h.push { cls:=Value.type "tuple",data:=Data.seq #[Value.str msg t] }).objs.size≠b:=by rw[Heap.size_push];exact Nat.ne_of_gt (Nat.lt_succ_of_lt hb)
 rw[Heap.get?_update_other _ _ hne];exact Heap.get?_push_of_some _ (Heap.get?_push_of_some _ e)
theorem z8d:(Str.ofString (toString "'"++toString ((Manifest.find? "list").elim "list" fun x=>x.tpName)++toString "' object has no attribute '")++Str.ofString "keys"++Str.ofString "'").length<=sizeLine:=by
 rw[sizeLine_eq];decide +kernel
theorem z3M{its:Array Value}{n:Nat}{tk:Tok}{Q:Fin->Shared->Prop}(hh:A.handled=none)(hx:h.get? a=some { cls:=.type "list",data:=.seq its n })(hq:∀e h' t',(∃oe,h'.get? e=some oe/\oe.cls=.type "AttributeError")->(∀b ob,h.get? b=some ob->h'.get? b=some ob)->E (.ref e) ⟨h',g,d,t',os⟩):
  wpAny (model prog w) A (Builtin.«object.__getattribute__» ⟨[.ref a,.str "keys" tk],[]⟩) Q E ⟨h,g,d,t,os⟩:=by
 have hT:(⟨h,g,d,t,os⟩:Shared).TypeIs (.ref a) "list":=⟨_,hx,rfl⟩;have f4:=F.lk_list_keys
 repeat (any_goals (first | assumption | wp_step))
 exact z3Y hh z8d hq
theorem z52{its:Array Value}{n:Nat}{tk:Tok}{R:Result->Shared->Prop}(hh:A.handled=none)(hx:h.get? a=some { cls:=.type "list",data:=.seq its n })(hq:∀e h' t',(∃oe,h'.get? e=some oe/\oe.cls=.type "AttributeError")->(∀b ob,h.get? b=some ob->h'.get? b=some ob)->R (.error (.ref e)) ⟨h',g,d,t',os⟩):
  codeAny (model prog w) A (.call (.builtin "list.__getattribute__") ⟨[.ref a,.str "keys" tk],[]⟩) R ⟨h,g,d,t,os⟩:=
 codeAny_call_builtin F.slot_list_getattribute.plain F.entry_list_ga (F.slot_list_getattribute.check _ _ _ _ _ _ _ _ (show(⟨h,g,d,t,os⟩:Shared).TypeIs (.ref a) "list" from⟨_,hx,rfl⟩) (F.args_list_getattribute_2 _ _) (z3M (by simp[hh]) hx hq))
theorem z9a{its:Array Value}{n:Nat}{tk:Tok}{Q:Value->Shared->Prop}(hh:A.handled=none)(hx:h.get? a=some { cls:=.type "list",data:=.seq its n })(hq:∀e h' t',(∃oe,h'.get? e=some oe/\oe.cls=.type "AttributeError")->(∀b ob,h.get? b=some ob->h'.get? b=some ob)->E (.ref e) ⟨h',g,d,t',os⟩):wpAny (model prog w) A (getAttrBy (.ref a) (.str "keys" tk) false) Q E ⟨h,g,d,t,os⟩:=by
 have hT:(⟨h,g,d,t,os⟩:Shared).TypeIs (.ref a) "list":=⟨_,hx,rfl⟩;have f2:=F.slot_list_getattribute.lookup;have f3:=F.slot_list_getattribute.bind (.ref a);have f4:=F.lk_list_getattr
 repeat (any_goals (first | assumption | wp_step))
 refine z52 hh hx fun e h' t' ⟨oe,ho,hc⟩ hk=>?_;show wpAny (model prog w) A (getattributeRaised (Value.ref a) (Value.str (Str.ofString "keys") tk) (Value.type "list") (.ref e) none false false) Q E _;have hTe:(⟨h',g,d,t',os⟩:Shared).TypeIs (.ref e) "AttributeError":=⟨_,ho,hc⟩;have hs:=F.sub_attrErr;have hE:=hq e h' t' ⟨oe,ho,hc⟩ hk;unfold getattributeRaised
 repeat (any_goals (first | assumption | wp_step))
theorem miss_attr{its:Array Value}{n:Nat}{Q:Option Value->Shared->Prop}(hh:A.handled=none)(hx:h.get? a=some { cls:=.type "list",data:=.seq its n })(hq:∀h' t',(∀b ob,h.get? b=some ob->h'.get? b=some ob)->Q none ⟨h',g,d,t',os⟩):wpAny (model prog w) A (getAttr? (.ref a) "keys") Q E ⟨h,g,d,t,os⟩:=by
 unfold getAttr? getAttrBy?
 repeat (any_goals (first | assumption | with_reducible apply z9a hh hx | wp_step))
 rintro e h' t' ⟨oe,ho,hc⟩ hk;have hTe:(⟨h',g,d,t',os⟩:Shared).TypeIs (.ref e) "AttributeError":=⟨_,ho,hc⟩;have hs:=F.sub_attrErr;have hE:=hq h' t' hk;show wpAny (model prog w) A (isInstance (.ref e) (Value.type "AttributeError") >>= _) Q E _
 repeat (any_goals (first | assumption | wp_step))
end
end PySem
namespace L2
open PySem PySem.Spec PyProof.Rows
noncomputable def Puts(p:Addr):List (V×V)->Hp->Hp->Prop
 | [],H,H'=>H'=H
 | q::r,H,H'=>∃H1,DPutR H p q.1 q.2 H1/\Puts p r H1 H'
section
variable{X:Cx}{pins:List (Addr×Obj)}{σ:St}{H:Hp}{s:Shared}{a:Addr}{y v:V}{u r:Value}{A:Around}{E:Value->Shared->Prop}
theorem DPutR.ne{H':Hp}(g:DPutR H a y v H'):∃o,H'=upd H a o/\wn o/\∃q,H a=some q/\wn q:=by
 rcases g with (⟨kvs,k,e,ey,l,rfl⟩ | ⟨kvs,k,b,e,ey,eb,l,rfl⟩) | ⟨k,b,e,ey,hb,rfl⟩ | ⟨k,e,ey,rfl⟩
 ·exact⟨_,rfl,True.intro,_,e,True.intro⟩
 ·exact⟨_,rfl,True.intro,_,e,True.intro⟩
 ·exact⟨_,rfl,True.intro,_,e,True.intro⟩
 ·exact⟨_,rfl,True.intro,_,e,True.intro⟩
theorem z3d{H':Hp}{Q:Unit->Shared->Prop}(hu:A.units<cLine)(I:Inv X pins σ H s)(g:DPutR H a y v H')(ry:RelV y u)(rv:RelV v r)(h:∀h' t',Heap.SameBut a s.heap h'->Inv X pins σ H' { s with heap:=h',toks:=t' }->Q () { s with heap:=h',toks:=t' }):
  wpAny (model X.prog X.w) A (dictSet a u r) Q E s:=by
 have go:∀{H H':Hp},Inv X pins σ H s->DPut H a y v H'->(∀h' t',Heap.SameBut a s.heap h'->Inv X pins σ H' { s with heap:=h',toks:=t' }->Q () { s with heap:=h',toks:=t' })->wpAny (model X.prog X.w) A (dictSet a u r) Q E s:=by
  intro H H' I g h;rcases g with ⟨kvs,k,e,ey,l,eH⟩ | ⟨kvs,k,b,e,ey,eb,l,eH⟩
  ·subst ey eH;obtain⟨z,hd,vs,rel,dd⟩:=z6J I.hok e;have hz:vs.length<=sizeLine:=by rw[<-rel.length];exact z
   have hl:(putK kvs k v).length<=sizeLine:=by have:=yx kvs k v;omega
   refine wpAny_dictSet_pairs (hsz:=hz) (z2O ry) dd fun h' dd' hs=>h _ _ hs ?_;have he:∃q,h'.get? a=some q:=let⟨q,_,_,hq,_⟩:=dd';⟨q,hq⟩
   exact wY I (by rw[e];exact True.intro) hs he (z5C hl hd (rel.put k rv) dd')
  ·subst ey eH;cases(show u=Value.ref b from ry);obtain⟨z,hd,xs,rel,dd⟩:=z9V I.hok e;have hz:xs.length<=sizeLine:=by rw[<-Paired.length rel];exact z
   have hl:(putK kvs k v).length<=sizeLine:=by have:=yx kvs k v;omega
   refine wpAny_dictSet_heap (hsz:=hz) hu (uP I.hok eb) dd fun h' dd' hs=>h _ _ hs ?_;obtain⟨q,es,ep,hq,h2,h3,h4,_,h5⟩:=dd';refine wY I (by rw[e];exact True.intro) hs ⟨q,hq⟩ ⟨hl,hd,_,(rel.put k eb rv).keeps fun c ys ec=>?_,q,es,ep,hq,h2,h3,h4,h5⟩;rw[zB (z3x ec e (fun z=>nomatch z))];exact ec
 rcases g with g | ⟨k,b,e,rfl,hb,rfl⟩ | ⟨k,e,rfl,rfl⟩
 ·exact go I g h
 ·have hba:b≠a:=z3x hb e (fun z=>nomatch z);refine go (I.relT e) (DPut.t (kvs:=[]) z7 (by rw[zB hba];exact hb) (by show 0<sizeLine;rw[sizeLine_eq];decide)) fun h' t' hs I'=>h h' t' hs ?_;rw[uM]at I';exact I'
 ·refine go (I.relK e) (DPut.k (kvs:=[]) z7 (by show 0<sizeLine;rw[sizeLine_eq];decide)) fun h' t' hs I'=>h h' t' hs ?_;rw[uM]at I';exact I'
theorem zBr{l I p:Addr}{R:Result->Shared->Prop}(hh:A.in1.handled=none)(hu:A.in1.units<cLine)(hlI:l≠I):
  ∀(ps:List (V×V)) (i:Nat) (xs:List V) (s:Shared) (H H':Hp) (t:Tok),xs.length=i+ps.length->(∀j y v,ps[j]?=some (y,v)->∃b,xs[i+j]?=some (.ref b)/\H b=some (.tup [y,v]))->H l=some (.lst xs)->Inv X pins σ H s->FpOk X pins H I->s.heap.IsListIter I l i->Puts p ps H H'->
   (∀s',Inv X pins σ H' s'->R (.ok (.ret .none)) s')->codeAny (model X.prog X.w) A (.builtin "dict.update.loop" ⟨[.ref p,.ref I,.int (i:Int) t,.none],[]⟩) R s:=by
 intro ps
 induction ps with
 | nil=>
  intro i xs s H H' t hl hx hL I0 fp hit hP hR;obtain⟨its,rv,pl,hz⟩:=I0.list (SqL.of (K:=X.K) hL);have hlen:=rv.length;refine codeAny_builtin PySem.F.entry_dict_update_loop ?_;rw[Around.under_plainId PySem.F.plain_dict_update_loop _];show wpAny _ A.in1 (pyNext (.ref I) >>= _) _ _ s;obtain⟨f0,f1,f2,f3,f4,f5⟩:=fp;refine wpAny_bind (wpAny_pyNext_list_end hh hit pl.isList (by simp at hl |-;omega) fun h' eb=>?_);have I1:Inv X pins σ H { s with heap:=h' }:=I0.turned (t':=s.toks) (fun b o hb e=>eb b o hb e) f0 f1 f3 f4 f5;show wpAny _ A.in1 (Builtin.Dict.addKeywords p [] >>= fun _=>ret Value.none) _ _ _;refine wpAny_bind (wpAny_pure (wpAny_pure ?_));have e:H'=H:=hP;subst e;exact hR _ I1
 | cons q r ih=>
  intro i xs s H H' t hl hx hL I0 fp hit hP hR;obtain⟨y,v⟩:=q;obtain⟨H1,g,hP⟩:=hP;obtain⟨b,eb,hb⟩:=hx 0 y v rfl;obtain⟨its,rv,pl,hz⟩:=I0.list (SqL.of (K:=X.K) hL);have hlen:=rv.length;obtain⟨iv,ei,ri⟩:=rv.get (show xs[i]?=some (.ref b) by simpa using eb);cases ri;refine codeAny_builtin PySem.F.entry_dict_update_loop ?_;rw[Around.under_plainId PySem.F.plain_dict_update_loop _];show wpAny _ A.in1 (pyNext (.ref I) >>= _) _ _ s;obtain⟨f0,f1,f2,f3,f4,f5⟩:=id fp;refine wpAny_bind (wpAny_pyNext_list_item (x:=.ref b) hit pl.isList (by simpa using ei) fun h' hit' sb=>?_);have I1:Inv X pins σ H { s with heap:=h' }:=I0.turned (t':=s.toks) (fun c o hb e=>(sb.2 c hb).trans e) f0 f1 f3 f4 f5;obtain⟨its2,rt,pt,hz2⟩:=I1.tuple (SqT.of (K:=X.K) hb);obtain⟨uy,r2,rfl,ry,⟨uv,rfl,rvv⟩⟩:∃uy r2,its2=uy::r2/\RelV y uy/\∃uv,r2=[uv]/\RelV v uv:=by
   cases rt with
   | cons a1 a2=>
    cases a2 with
    | cons b1 b2=>cases b2;exact⟨_,_,rfl,a1,_,rfl,b1⟩
  refine wpAny_bind (wpAny_holding ?_);refine wpAny_bind (wpAny_tryCatch ?_);have hT:Shared.TypeIs { s with heap:=h' } (.ref b) "tuple":=by obtain⟨o,e,c,_⟩:=pt;exact⟨o,e,c⟩
  obtain⟨ot,hot,hct,n0,hdt⟩:=pt;obtain⟨oq,eH,hdo,oq0,eq0,hdq0⟩:=g.ne;have hpI:p≠I:=fun z=>by rw[z,f0]at eq0;cases eq0
  have hpl:p≠l:=fun z=>by rw[z,hL]at eq0;cases eq0;exact hdq0
  unfold Builtin.Dict.pairItems;refine wpAny_bind (wpAny_typeOf hT ?_);rw[if_pos (by decide)];refine wpAny_bind (wpAny_seqItems hot hdt ?_);refine wpAny_pure ?_;show wpAny _ A.in1 (holding [uy,uv] (dictSet p uy uv)) _ _ _;refine wpAny_holding (z3d hu I1 g ry rvv fun h2 t2 sb2 I2=>?_);refine wpAny_pure ⟨plainId_quiet PySem.F.plain_dict_update_loop _,?_⟩;have nt:∀{c:Addr} {w:HO},H c=some w->¬wn w->H1 c=some w:=fun{c w} e hn=>by
   rw[eH,zB (fun z=>by rw[z,eq0]at e;cases e;exact hn hdq0)];exact e
  refine ih (i+1) xs _ H1 H' 0 (by simp at hl |-;omega) (fun j y' v' e=>?_) (nt hL id) I2 ⟨by rw[eH,zB (Ne.symm hpI)];exact f0,f1,f2,f3,f4,f5⟩ ?_ hP hR
  ·obtain⟨c,ec,hc⟩:=hx (j+1) y' v' (by simpa using e);exact⟨c,by rw[show i+1+j=i+(j+1) by omega];exact ec,nt hc id⟩
  ·obtain⟨oi,e1,e2⟩:=hit';exact⟨oi,(sb2.2 I (Ne.symm hpI)).trans e1,e2⟩
theorem uc(hc:X.calm=true)(hu:X.A.units+64<cLine):CallR X (.type "dict") (fun zs H Q=>∃(l:Addr) (xs:List V),zs=[.ref l]/\H l=some (.lst xs)/\
  ∀p,H p=none->∃(ps:List (V×V)) (H':Hp),xs.length=ps.length/\(∀(j:Nat) (y v:V),ps[j]?=some (y,v)->∃b,xs[j]?=some (.ref b)/\H b=some (.tup [y,v]))/\Puts p ps (upd H p (.dK [])) H'/\Q (.ref p) H'):=by
 intro pins s σ H zs us Q I0 r h;obtain⟨l,xs,rfl,hL,q⟩:=h;obtain⟨u,rfl,ru⟩:=xO r;cases ru;have hn:=I0.hok.fresh (Nat.le_refl s.heap.objs.size);obtain⟨ps,H',hlen,hx,hP,q⟩:=q _ hn;have I1:=I0.laid (a:=s.heap.objs.size) (o:=.dK []) (h':=s.heap.push { cls:=.type "dict",data:=.dict #[] }) (t':=s.toks) (fun _ _ q=>Heap.get?_push_of_some _ q) (Nat.le_refl _) (z2g s.heap I0.big);refine callType_codes (Q₁:=fun obj s₁=>obj=.ref s.heap.objs.size/\s₁={ s with heap:=s.heap.push { cls:=.type "dict",data:=.dict #[] } }) PySem.F.kt_called_dict (PySem.F.kt_typeCall_dict_1 _) PySem.F.entry_dict_init (PySem.kt_code_dict_new _ ⟨rfl,rfl⟩) ?_;rintro obj s₁ ⟨rfl,rfl⟩;have hT:Shared.TypeIs { s with heap:=s.heap.push { cls:=.type "dict",data:=.dict #[] } } (.ref s.heap.objs.size) "dict":=⟨_,Heap.get?_push_size _ rfl,rfl⟩;refine⟨hT,PySem.F.args_dict_init_2 _ _,?_⟩;have hlp:l≠s.heap.objs.size:=fun z=>by rw[z,hn]at hL;cases hL
 have hL1:upd H s.heap.objs.size (.dK []) l=some (.lst xs):=by rw[zB hlp];exact hL
 obtain⟨_,its,nn,rv,hol⟩:=(show ObjOk X.prog X.w _ _ l (.lst xs) from I1.hok l _ hL1);have hTl:Shared.TypeIs { s with heap:=s.heap.push { cls:=.type "dict",data:=.dict #[] } } (.ref l) "list":=⟨_,hol,rfl⟩;have hh:X.A.in1.in1.handled=none:=by have:=I0.ok.hd hc;simpa using this
 unfold Builtin.«dict.__init__»;refine wpAny_bind ?_;unfold Builtin.Dict.selfAndRest;refine wpAny_bind (wpAny_notOrdered_dict hT ?_);show wpAny _ _ (pure (s.heap.objs.size,[Value.ref l])) _ _ _;refine wpAny_pure ?_;show wpAny _ _ (Builtin.Dict.updateFrom "dict.__init__" s.heap.objs.size (.ref l) [] .none) _ _ _;unfold Builtin.Dict.updateFrom;refine wpAny_bind (wpAny_typeOf hTl ?_);rw[if_pos (by decide)];refine wpAny_bind (PySem.miss_attr hh hol fun h' t' hk=>?_);simp only[Option.isNone_none,if_true];have I2:Inv X pins σ (upd H s.heap.objs.size (.dK [])) { s with heap:=h',toks:=t' }:=I1.kept (t':=t') hk;refine wpAny_bind (wpAny_rule ?_);refine wpAny_bind (wpAny_pyIter_list ⟨_,hk _ _ hol,rfl,nn,rfl⟩ ?_);have I3:Inv X pins σ (upd H s.heap.objs.size (.dK [])) { s with heap:=h'.push { cls:=.type "list_iterator",data:=.fields #[.ref l,.int 0 0] },toks:=t' }:=I2.kept (t':=t') fun b o e=>Heap.get?_push_of_some _ e;have fr:upd H s.heap.objs.size (.dK []) h'.objs.size=none:=I2.hok.fresh (Nat.le_refl _);have fp:FpOk X pins (upd H s.heap.objs.size (.dK [])) h'.objs.size:=I2.fpOk (Nat.le_refl _) fr;have hlI:l≠h'.objs.size:=fun z=>by rw[z,fr]at hL1;cases hL1
 refine wpAny_pure ⟨plainId_quiet PySem.F.plain_dict_update_loop _,?_⟩;refine zBr (l:=l) (I:=h'.objs.size) (p:=s.heap.objs.size) (by simpa using I0.ok.hd hc) ?_ hlI ps 0 xs _ (upd H s.heap.objs.size (.dK [])) H' 0 (by omega) (fun j y v e=>?_) hL1 I3 fp ⟨_,Heap.get?_push_size _ rfl,rfl,rfl⟩ hP fun s' I'=>?_
 ·have:X.A.in1.in1.units=X.A.units+1+1:=rfl;omega
 ·obtain⟨b,e1,e2⟩:=hx j y v e;exact⟨b,by rw[Nat.zero_add];exact e1,by rw[zB (fun z=>by rw[z,hn]at e2;cases e2)];exact e2⟩
 ·exact⟨rfl,.ref s.heap.objs.size,H',I',rfl,q⟩
end
noncomputable def wG:List PyData->List (PyData×PyData)->Option (List (PyData×PyData))
 | [],acc=>some acc
 | .tuple [k,v]::r,acc=>(putD acc k v).bind (wG r)
 | _,_=>none
noncomputable def z0a(m:Env'->Mx D):Env'->Mx PyData:=fun ρ=>m ρ >>= fun d=>Mx.opt (onP (fun x=>match x with | .list ds=>(wG ds []).map PyData.dict | _=>none) d)
section
variable{K:W.Frag}{Er:Str->Hp->Prop}{X:Cx}{e:Expr}{m:Env'->Mx D}{pos:Pos}
theorem z5F{S:Addr->Prop}{p:Addr}:∀{ds:List PyData} {kvs res:List (PyData×PyData)} {xs:List V} {H:Hp},S p->Pl H p->(∃ks,DctAt H p ks/\DctS S H kvs ks)->DatsS S H ds xs->wG ds kvs=some res->
  ∃ps H',xs.length=ps.length/\(∀(j:Nat) (y v:V),ps[j]?=some (y,v)->∃b,xs[j]?=some (.ref b)/\H b=some (.tup [y,v]))/\Puts p ps H H'/\(∀b,b≠p->H' b=H b)/\Pl H' p/\∃ks,DctAt H' p ks/\DctS S H' res ks
 | [],kvs,res,xs,H,hS,hpl,hk,hd,hr=>by
  simp only[DatsS]at hd;subst hd;simp only[wG]at hr;cases hr;exact⟨[],H,rfl,fun j y v e=>by simp at e,rfl,fun _ _=>rfl,hpl,hk⟩
 | d::r,kvs,res,xs,H,hS,hpl,hk,hd,hr=>by
  unfold wG at hr;split at hr
  ·cases ‹_::_=[]›
  next k v r' acc e1=>
   cases e1;obtain⟨z,ez,hr⟩:=Option.bind_eq_some_iff.mp hr;simp only[DatsS]at hd;obtain⟨x,xs',rfl,dx,dr⟩:=hd;simp only[DatS]at dx;obtain⟨b,ys,rfl,hb,dys⟩:=dx;simp only[DatsS]at dys;obtain⟨y,r1,rfl,dy,w,r2,rfl,dv,rfl⟩:=dys;unfold putD at ez;split at ez
   next c=>
    cases ez;obtain⟨ks,h1,h2⟩:=hk;obtain⟨o,ks',p1,p2,p3,p4⟩:=z5J hS hpl h1 h2 dy dv c.1 c.2;have nt:=h1.not_tup;have kS:Kp S H (upd H p o):=fun c u h z=>by
     by_cases e:c=p
     ·subst e;rcases z with z | ⟨xs,rfl⟩
      ·exact absurd hS z
      ·exact absurd h (nt xs)
     ·rw[zB e];exact h
    obtain⟨ps,H',l1,l2,l3,l4,l5,l6⟩:=z5F (p:=p) (xs:=xs') hS (Pl.upd p4) ⟨ks',p2,DctS.kp kS (fun _ z=>.inl z) p3⟩ (DatsS.kp kS (fun _ z=>.inl z) dr) hr;refine⟨(y,w)::ps,H',by simp[l1],fun j y' v' e=>?_,⟨_,p1,l3⟩,fun c hc=>(l4 c hc).trans (zB hc),l5,l6⟩;cases j with
    | zero=>simp at e;obtain⟨rfl,rfl⟩:=e;exact⟨b,rfl,hb⟩
    | succ j=>
     obtain⟨c,ec,hc⟩:=l2 j y' v' (by simpa using e);have hcp:c≠p:=fun z=>by
      subst z;rw[z7]at hc;cases hc;rcases p2 with ⟨l,q,_⟩ | ⟨l,q,_⟩<;>exact q.not_tup True.intro _ z7
     rw[zB hcp]at hc;exact⟨c,by simpa using ec,hc⟩
   next=>cases ez
  next=>cases hr
theorem z5U{p:Pos}(hc:X.calm=true)(hu:X.A.units+64<cLine)(hg:Gl X "dict")(hm:X.mg "dict"=none)(hv:bootBuiltins "dict"=some (.type "dict"))(he:DE K Er X e m)(hs:starEach [e] X.env=(false,eval e X.env)::starEach [] X.env:=by rfl):
  DF K Er X (.Call (.Name "dict" p) [e] [] pos) (z0a m):=(zz (uc hc hu) hg hm hv (zI he pa_nil hs) (by decide) (by decide) hs rfl).imp fun σ H Q h=>rd1 h wP fun g ow ρ n d v H0 H2 fr _ r q=>by
 obtain⟨z,ez,q2⟩:=wv q;obtain⟨x,rfl,e1⟩:=zf ez;cases x<;>simp only at e1<;>try (cases e1;done)
 rename_i ds
 obtain⟨res,er,e2⟩:=Option.map_eq_some_iff.mp e1;subst e2;obtain⟨l,xs,rfl,hn,h1,h2⟩:=(show ∃a xs,v=.ref a/\¬(g.S ow) a/\H2 a=some (.lst xs)/\DatsS (g.S ow) H2 ds xs by simpa only[Rep,DatS]using r);refine⟨l,xs,rfl,h1,fun p hp=>?_⟩
 ·have s:=Same.new (o:=.dK []) hp;obtain⟨ps,H',l1,l2,l3,l4,l5,ks,l6,l7⟩:=z5F (S:=fun b=>g.S ow b\/b=p) (p:=p) (H:=upd H2 p (.dK [])) (xs:=xs) (.inr rfl) Pl.upd ⟨[],.inl ⟨[],.inl z7,rfl⟩,by simp only[DctS]⟩ (DatsS.kp (Kp.of s) (fun b z=>z.elim .inl fun e=>.inr (e▸hp)) h2) er;refine⟨ps,H',l1,fun j y v e=>?_,l3,?_⟩
  ·obtain⟨b,e1,e2⟩:=l2 j y v e;have hb:b≠p:=fun z=>by subst z;rw[z7]at e2;cases e2
   exact⟨b,e1,by rw[zB hb]at e2;exact e2⟩
  ·have kk:Kp g.T H2 H':=fun b o e _=>by rw[l4 b (zM e hp)];exact s _ _ e
   refine q2 (.ref p) H' kk (fun b e=>?_) ⟨p,rfl,hp,l5,?_⟩
   ·rw[l4 b (zM (fr.twn b e) hp)];exact s _ _ (fr.twn b e)
   ·simp only[Dat1];exact⟨p,ks,rfl,id,l6,l7⟩
end
section
variable{X:Cx}{tg:Expr}
end
section
variable{K:W.Frag}{Er:Str->Hp->Prop}{X:Cx}{a b c tg:Expr}{ms:Env'->Mx (List D)}
end
section
variable{prog:Program}{w:World}{A:Around}{E:Value->Shared->Prop}{s:Shared}
end
section
variable{X:Cx}{a b:Expr}{ta:TA}{p pos tp:Pos}{elts:List Expr}
end
section
variable{K:W.Frag}{Er:Str->Hp->Prop}{X:Cx}{a b:Expr}{ms:Env'->Mx (List D)}{sa:Env'->Mx Out}{pos p2 p3 tp:Pos}{sts elts:List Stmt}
variable{σ:St}{H:Hp}
end
theorem wK{κ:Type}[DecidableEq κ]{j:κ->PyData}(hj:∀a b,PyData.eqv (j a) (j b)=decide (a=b)){x:PyData}{k:κ}(hx:x=j k):∀(l:List (κ×V)),
  (∃i c v,(l.map fun kv=>j kv.1).findIdx? (fun d=>PyData.eqv d x)=some i/\l[i]?=some (c,v)/\valV l k=some v)\/((l.map fun kv=>j kv.1).findIdx? (fun d=>PyData.eqv d x)=none/\valV l k=none)
 | []=>.inr ⟨rfl,rfl⟩
 | (q,v)::s=>by
  rw[List.map_cons,List.findIdx?_cons];by_cases e:q=k
  ·rw[show PyData.eqv (j q) x=true by rw[hx,hj];exact decide_eq_true e];exact .inl ⟨0,q,v,rfl,rfl,xy e⟩
  ·rw[show PyData.eqv (j q) x=false by rw[hx,hj];exact decide_eq_false e];rcases wK hj hx s with ⟨i,c,w,h1,h2,h3⟩ | ⟨h1,h2⟩
   ·exact .inl ⟨i+1,c,w,by rw[h1];rfl,by simpa using h2,by rw[xX (p:=(q,v)) e];exact h3⟩
   ·exact .inr ⟨by rw[h1];rfl,by rw[xX (p:=(q,v)) e];exact h2⟩
noncomputable def z0p(keys:List PyData)(x:PyData):Bool:=yQ (keys.map fun k=>(k,PyData.none)) x
theorem z7X{S:Addr->Prop}{H:Hp}{a:Addr}{ks:List (PyData×V)}{x:PyData}{y:V}(h1:DctAt H a ks)(hx:DatS S H x y)(ok:z0p (ks.map (·.1)) x=true):
  (∃i k v,(ks.map (·.1)).findIdx? (fun d=>PyData.eqv d x)=some i/\ks[i]?=some (k,v)/\DGet H a y (some v))\/((ks.map (·.1)).findIdx? (fun d=>PyData.eqv d x)=none/\DGet H a y none):=by
 have tk:∀{P:PyData->Bool} (hP:(ks.map (·.1)).all P=true) (hn:(ks.map (·.1)).isEmpty=false) {κ:Type} {j:κ->PyData} {l:List (κ×V)},ks=l.map (fun kv=>(j kv.1,kv.2))->∃c,P (j c)=true:=fun{P} hP hn {κ j l} e=>by
  subst e;cases l with
  | nil=>cases hn
  | cons q s=>rw[List.map_cons,List.map_cons,List.all_cons,Bool.and_eq_true]at hP;exact⟨q.1,hP.1⟩
 have plain:∀k:Key,x=kD k->(ks.map (·.1)).all (fun d=>!yC d)=true->(ks.map (·.1)).isEmpty=false->(∃i k v,(ks.map (·.1)).findIdx? (fun d=>PyData.eqv d x)=some i/\ks[i]?=some (k,v)/\DGet H a y (some v))\/((ks.map (·.1)).findIdx? (fun d=>PyData.eqv d x)=none/\DGet H a y none):=fun k e hA hn=>by
  have ey:y=kV k:=by rw[e]at hx;exact u5 hx
  rcases h1 with ⟨l,g,rfl⟩ | ⟨l,g,e2⟩
  ·rw[show(l.map fun kv=>(kD kv.1,kv.2)).map (·.1)=l.map fun kv=>kD kv.1 by rw[List.map_map];rfl];rcases wK (j:=kD) z1c e l with ⟨i,c,v,f1,f2,f3⟩ | ⟨f1,f2⟩
   ·exact .inl ⟨i,kD c,v,f1,by rw[List.getElem?_map,f2];rfl,by rw[ey,<-f3];exact DGet.kR g⟩
   ·exact .inr ⟨f1,by rw[ey,<-f2];exact DGet.kR g⟩
  ·obtain⟨c,hc⟩:=tk (P:=fun d=>!yC d) hA hn e2;simp[kT,yC]at hc
 unfold z0p at ok;have am:∀(P:PyData->Bool),((ks.map (·.1)).map fun k=>(k,PyData.none)).all (fun kv=>P kv.1)=(ks.map (·.1)).all P:=fun P=>by rw[List.all_map];rfl
 have em:((ks.map (·.1)).map fun k=>(k,PyData.none)).isEmpty=(ks.map (·.1)).isEmpty:=by cases ks<;>rfl
 cases x with
 | tuple ds=>
  simp only[yQ,Bool.and_eq_true,Bool.not_eq_true']at ok;obtain⟨⟨o1,o2⟩,o3⟩:=ok;rw[am]at o2;rw[em]at o3;obtain⟨k,ek⟩:=Option.isSome_iff_exists.mp o1;have ed:=xY ek;simp only[DatS]at hx;obtain⟨b,xs,rfl,hb,hxs⟩:=hx;rw[ed]at hxs;rw[wX hxs]at hb;rcases h1 with ⟨l,g,e2⟩ | ⟨l,g,rfl⟩
  ·obtain⟨c,hc⟩:=tk (P:=yC) o2 o3 e2;cases c<;>simp[kD,yC]at hc
  ·rw[show(l.map fun kv=>(kT kv.1,kv.2)).map (·.1)=l.map fun kv=>kT kv.1 by rw[List.map_map];rfl];rcases wK (j:=kT) z2Z (k:=k) (x:=.tuple ds) (by rw[ed];rfl) l with ⟨i,c,v,f1,f2,f3⟩ | ⟨f1,f2⟩
   ·exact .inl ⟨i,kT c,v,f1,by rw[List.getElem?_map,f2];rfl,by rw[<-f3];exact DGet.tR g hb⟩
   ·exact .inr ⟨f1,by rw[<-f2];exact DGet.tR g hb⟩
 | int i=>
  simp only[yQ,Bool.and_eq_true,Bool.not_eq_true']at ok;obtain⟨⟨_,o2⟩,o3⟩:=ok;rw[am fun d=>!yC d]at o2;rw[em]at o3;exact plain (.inl i) rfl o2 o3
 | str i=>
  simp only[yQ,Bool.and_eq_true,Bool.not_eq_true']at ok;obtain⟨⟨_,o2⟩,o3⟩:=ok;rw[am fun d=>!yC d]at o2;rw[em]at o3;exact plain (.inr i) rfl o2 o3
 | none=>simp[yQ,keyD]at ok
 | bool _=>simp[yQ,keyD]at ok
 | list _=>simp[yQ,keyD]at ok
 | dict _=>simp[yQ,keyD]at ok
section
variable{K:W.Frag}{Er:Str->Hp->Prop}{X:Cx}{g:Gh}{ow:Ix->Option Addr}{ρ:Env'}{n n':Nat}{σ:St}{H H' H1:Hp}{kls:List (PyData×List PyData)}
noncomputable def z3P(ρ:Env')(i:Nat):Option (List (PyData×List PyData)):=match ρ[i]? with
 | some (some (Sl.deep l))=>some l
 | _=>none
theorem z2s{i:Nat}(h:z3P ρ i=some kls):ρ[i]?=some (some (Sl.deep kls)):=by
 unfold z3P at h;split at h
 next l' e=>cases h;exact e
 next=>cases h
theorem Frm.updDeep{i j:Nat}{b:Addr}{k:PyData}{l l':List PyData}{xs xs':List V}(f:Frm K g ow ρ n σ H)(he:ρ[i]?=some (some (Sl.deep kls)))(hj:kls[j]?=some (k,l))(hi:ow (i,j+1)=some b)(hb:H b=some (.lst xs))(d:DatsS (g.S ow) H l' xs'):
  Frm K g ow (ρ.set i (some (Sl.deep (kls.set j (k,l'))))) n σ (upd H b (.lst xs')):=by
 have kS:=f.kpOwn (o:=.lst xs') hi (not_tup hb);obtain⟨h0,h1,h2,h3⟩:=f.owi _ b hi;refine⟨f.scr,fun c e=>?_,f.sub,fun c u h q=>?_,fun m d' e=>?_,fun m y e=>?_,fun m kl e=>?_,fun m c e=>?_,f.inj,by simp[f.len]⟩
 ·rw[zB (show c≠b from fun z=>h2 (by rw[<-z];exact e))];exact f.twn c e
 ·rw[zB (zM h h0)];exact f.ext c u h q
 ·rw[zS]at e;split at e
  next c=>cases e
  next c=>
   obtain⟨v',e1,r1⟩:=f.val m d' e;exact⟨v',e1,r1.kp kS fun _ z=>.inl z⟩
 ·rw[zS]at e;split at e
  next c=>cases e
  next c=>
   obtain⟨a,e0,e1,r1⟩:=f.own m y e;have hab:a≠b:=fun z=>by have:=congrArg Prod.snd (f.inj (m,0) (i,j+1) b (z▸e0) hi);cases this
   exact⟨a,e0,e1,r1.move kS (fun _ z=>.inl z) fun q e _ hq=>⟨fun o z=>by cases e;rw[zB hab];exact z,hq⟩⟩
 ·rw[zS]at e;split at e
  next c=>
   cases e;obtain⟨v,e1,a,ks,ea,e0,hd,hl,hk⟩:=f.dp i kls he;rw[c.1];have hab:a≠b:=fun z=>by have:=congrArg Prod.snd (f.inj (i,0) (i,j+1) b (z▸e0) hi);cases this
   refine⟨v,e1,a,ks,ea,e0,?_,by rw[List.length_set];exact hl,fun j' k' l2 ej=>?_⟩
   ·have mv:∀{u:HO},Rd H a u->Rd (upd H b (.lst xs')) a u:=fun{u} h=>h.imp (fun z=>by rw[zB hab];exact z) fun⟨o,h⟩=>⟨o,by rw[zB hab];exact h⟩;rcases hd with ⟨l,h,e⟩ | ⟨l,h,e⟩
    ·exact .inl ⟨l,mv h,e⟩
    ·exact .inr ⟨l,mv h,e⟩
   ·by_cases ejj:j'=j
    ·subst ejj;rw[List.getElem?_set_self (List.getElem?_eq_some_iff.mp hj).1]at ej;cases ej;obtain⟨b',xs0,q1,q2,q3,q4⟩:=hk _ _ _ hj;rw[hi]at q2;cases q2;exact⟨b,xs',q1,hi,z7,DatsS.kp kS (fun _ z=>.inl z) d⟩
    ·rw[List.getElem?_set_ne (Ne.symm ejj)]at ej;obtain⟨b',xs0,q1,q2,q3,q4⟩:=hk _ _ _ ej;have hbb:b'≠b:=fun z=>ejj (by have:=congrArg Prod.snd (f.inj (i,j'+1) (i,j+1) b (z▸q2) hi);simpa using this);exact⟨b',xs0,q1,q2,by rw[zB hbb];exact q3,DatsS.kp kS (fun _ z=>.inl z) q4⟩
  next c=>
   obtain⟨v',e1,r1⟩:=f.dp m kl e;have hm:m≠i:=fun z=>c ⟨z,h3⟩;exact⟨v',e1,r1.move (fun _ _ z=>z) (fun l' a z o q=>by rw[zB (show a≠b from fun y=>hm (congrArg Prod.fst (f.inj (m,l') (i,j+1) b (y▸z) hi)))];exact q) kS fun _ z=>.inl z⟩
 ·obtain⟨q0,q1,q2,q3⟩:=f.owi m c e;refine⟨q0,?_,q2,by rw[List.length_set];exact q3⟩;by_cases z:c=b
  ·subst z;exact Pl.upd
  ·obtain⟨o,e,n⟩:=q1;exact⟨o,by rw[zB z];exact e,n⟩
noncomputable def wH(ow:Ix->Option Addr)(i:Nat):Ix->Option Addr:=fun j=>if j.1=i/\j.2≠0 then none else ow j
theorem yJ{i:Nat}{j:Ix}{a:Addr}(h:wH ow i j=some a):ow j=some a/\¬(j.1=i/\j.2≠0):=by
 unfold wH at h;split at h
 ·cases h
 next c=>exact⟨h,c⟩
theorem Frm.thaw{i:Nat}(f:Frm K g ow ρ n σ H)(he:ρ[i]?=some (some (Sl.deep kls))):Frm K g (wH ow i) (ρ.set i (some (Sl.own (.dict (kls.map fun kl=>(kl.1,.list kl.2)))))) n σ H:=by
 have hS:∀a,g.S (wH ow i) a->g.S ow a:=fun a z=>by
  rcases z with z | z | ⟨j,z⟩
  ·exact .inl z
  ·exact .inr (.inl z)
  ·exact .inr (.inr ⟨j,(yJ z).1⟩)
 have out:∀j b,ow (i,j+1)=some b->¬g.S (wH ow i) b:=fun j b hb z=>by
  obtain⟨h0,_,h2,_⟩:=f.owi _ b hb;rcases z with z | z | ⟨l,z⟩
  ·exact f.sub b z h0
  ·exact h2 z
  ·obtain⟨z1,z2⟩:=yJ z
   have:=f.inj l (i,j+1) b z1 hb;subst this;exact z2 ⟨rfl,by simp⟩
 have kp:∀{m:Nat} {c:Ix} {a:Addr},m≠i->c.1=m->ow c=some a->wH ow i c=some a:=fun{m c a} hm hc h=>by
  unfold wH;rw[if_neg fun z=>hm (hc.symm.trans z.1)];exact h
 refine⟨f.scr,f.twn,f.sub,f.ext,fun m d' e=>?_,fun m y e=>?_,fun m kl e=>?_,fun m c e=>?_,fun a b c h1 h2=>f.inj a b c (yJ h1).1 (yJ h2).1,by simp[f.len]⟩
 ·rw[zS]at e;split at e
  next c=>cases e
  next c=>
   obtain⟨v',e1,r1⟩:=f.val m d' e;exact⟨v',e1,r1.shift rfl rfl hS⟩
 ·rw[zS]at e;split at e
  next c=>
   cases e;obtain⟨v,e1,a,ks,ea,e0,hd,hl,hk⟩:=f.dp i kls he;subst ea;rw[c.1];obtain⟨h0,_,h2,_⟩:=f.owi _ a e0;refine⟨a,by unfold wH;rw[if_neg fun z=>z.2 rfl];exact e0,e1,?_⟩;simp only[Dat1];refine⟨a,ks,rfl,fun z=>z.elim (fun z=>f.sub a z h0) h2,hd,?_⟩;have gen:∀(kls:List (PyData×List PyData)) (ks:List (PyData×V)) (o:Nat),ks.length=kls.length->(∀j k l,kls[j]?=some (k,l)->∃b xs,ks[j]?=some (k,.ref b)/\ow (i,o+j+1)=some b/\H b=some (.lst xs)/\DatsS (g.S ow) H l xs)->DctS (g.S (wH ow i)) H (kls.map fun kl=>(kl.1,.list kl.2)) ks:=by
    intro kls
    induction kls with
    | nil=>intro ks o hl _;simp only[List.map_nil,DctS];exact List.length_eq_zero_iff.mp hl
    | cons p r ih=>
     intro ks o hl hk;obtain⟨k,l⟩:=p;obtain⟨b,xs,q1,q2,q3,q4⟩:=hk 0 k l rfl;cases ks with
     | nil=>cases q1
     | cons y t=>
      simp only[List.getElem?_cons_zero,Option.some.injEq]at q1;subst q1;simp only[List.map_cons,DctS];refine⟨.ref b,t,rfl,?_,ih t (o+1) (by simpa using hl) fun j k' l' ej=>?_⟩
      ·simp only[DatS];exact⟨b,xs,rfl,out _ _ q2,q3,DatsS.kp (Kp.refl _ _) (fun _ z=>.inl (hS _ z)) q4⟩
      ·obtain⟨b',xs',p1,p2,p3,p4⟩:=hk (j+1) k' l' (by simpa using ej);exact⟨b',xs',by simpa using p1,by rw[show o+1+j+1=o+(j+1)+1 by omega];exact p2,p3,p4⟩
   exact gen kls ks 0 hl fun j k l ej=>by
    obtain⟨b,xs,q⟩:=hk j k l ej;exact⟨b,xs,by rw[Nat.zero_add];exact q⟩
  next c=>
   obtain⟨a,e0,e1,r1⟩:=f.own m y e;have hm:m≠i:=fun z=>c ⟨z,by rw[<-z];exact(List.getElem?_eq_some_iff.mp e).1⟩;exact⟨a,kp hm rfl e0,e1,r1.move (Kp.refl _ _) (fun a z=>.inl (hS a z)) fun b _ _ hb=>⟨fun o z=>z,hb⟩⟩
 ·rw[zS]at e;split at e
  next c=>cases e
  next c=>
   obtain⟨v',e1,r1⟩:=f.dp m kl e;have hm:m≠i:=fun z=>c ⟨z,by rw[<-z];exact(List.getElem?_eq_some_iff.mp e).1⟩;exact⟨v',e1,r1.move (fun l a z=>kp hm rfl z) (fun _ _ _ _ z=>z) (Kp.refl _ _) fun a z=>.inl (hS a z)⟩
 ·obtain⟨q0,q1,q2,q3⟩:=f.owi m c (yJ e).1;exact⟨q0,q1,q2,by rw[List.length_set];exact q3⟩
noncomputable def z8y(i:Nat)(m:Env'->Mx Out):Env'->Mx Out:=fun ρ=>Mx.opt (z3P ρ i) >>= fun kls=>m (ρ.set i (some (Sl.own (.dict (kls.map fun kl=>(kl.1,.list kl.2))))))
theorem z9g{i:Nat}{ss:List Stmt}{m:Env'->Mx Out}(h:DSs K Er X ss m):DSs K Er X ss (z8y i m):=h.imp fun σ H E ⟨g,ow,ρ,n,f,q⟩=>by
 obtain⟨kls,ek,q⟩:=xF q;have f2:=f.thaw (z2s ek);exact⟨g,_,_,n,f2,AftS.later q f2.dom ⟨Kp.refl _ _,fun j a z=>.inl ⟨j,(yJ z).1⟩⟩⟩
theorem z8u{ks:List (PyData×V)}{i:Nat}(hl:ks.length=kls.length)(hk:∀j k l,kls[j]?=some (k,l)->∃b xs,ks[j]?=some (k,.ref b)/\ow (i,j+1)=some b/\H b=some (.lst xs)/\DatsS (g.S ow) H l xs):ks.map (·.1)=kls.map (·.1):=by
 refine List.ext_getElem? fun j=>?_;rw[List.getElem?_map,List.getElem?_map];cases e:kls[j]? with
 | none=>
  have:kls.length<=j:=List.getElem?_eq_none_iff.mp e;rw[List.getElem?_eq_none (by omega)];rfl
 | some kl=>
  obtain⟨b,xs,q,_⟩:=hk j kl.1 kl.2 e;rw[q];rfl
noncomputable def dIdx(kls:List (PyData×List PyData))(x:PyData):Option Nat:=if z0p (kls.map (·.1)) x=true then(kls.map (·.1)).findIdx? (fun d=>PyData.eqv d x)else none
noncomputable def z6c(kls:List (PyData×List PyData))(j:Nat)(y:PyData):Option (List (PyData×List PyData)):=(kls[j]?).bind fun kl=>if kl.2.length<lim then some (kls.set j (kl.1,kl.2++[y]))else none
noncomputable def z9R(i:Nat)(mk mx:Env'->Mx D):Env'->Mx Out:=fun ρ=>Mx.opt (z3P ρ i) >>= fun kls=>mk ρ >>= fun k=>Mx.opt (onP (dIdx kls) k) >>= fun j=>mx ρ >>= fun y=>Mx.opt ((onP (z6c kls j) y).map fun z=>Out.nx (ρ.set i (some (Sl.deep z))))
theorem z8a{i:Nat}{e:Expr}{pos:Pos}{mk mx:Env'->Mx D}(h:PE X e (tBM X.K "list" uY (tOp (fun x y H Q=>∃a v,x=.ref a/\DGet H a y (some v)/\Q v H) (tVar i) (rdG RE K Er mk)) (ym (rdG RE K Er mx) tNil)))(hs:swapsWith e none pos.line X.env=pure false:=by rfl):DS K Er X (.Expr e pos) (z9R i mk mx):=(xK h hs).imp fun σ H E h=>by
 obtain⟨g,ow,ρ,n,f,q⟩:=h;obtain⟨kls,el,q⟩:=xF q;have he:=z2s el;obtain⟨v0,e1,a,ks0,ea,e0,_⟩:=f.dp i kls he;subst ea;refine⟨.ref a,e1,g,ow,ρ,n,f,xD f q fun n1 kd kv H1 k1 f1 r1 q=>?_⟩;obtain⟨j,ej0,q3⟩:=xF q;obtain⟨x,rfl,ej⟩:=zf ej0;unfold dIdx at ej;split at ej
 next ok=>
  obtain⟨v1,e2,a1,ks,ea1,e3,hd,hl,hk⟩:=f1.dp i kls he;rw[e0]at e3;cases e3;have hkk:=z8u hl hk;rw[<-hkk]at ok ej;rcases z7X (S:=g.S ow) hd r1 ok with ⟨j',k',v',d1,d2,d3⟩ | ⟨d1,_⟩
  ·rw[d1]at ej;cases ej;have hjl:j<kls.length:=by rw[<-hl];exact(List.getElem?_eq_some_iff.mp d2).1
   obtain⟨b,xs,w1,w2,w3,w4⟩:=hk j kls[j].1 kls[j].2 (by rw[List.getElem?_eq_getElem hjl]);rw[d2]at w1;cases w1;refine⟨a,.ref b,rfl,d3,.inl ⟨rfl,xs,SqL.of w3⟩,g,ow,ρ,n1,f1,xD f1 q3 fun n2 yd yv H2 k2 f2 r2 q5=>?_⟩;obtain⟨out,eo,q6⟩:=rs_o q5;obtain⟨z,ez0,eo2⟩:=Option.map_eq_some_iff.mp eo;subst eo2;obtain⟨y,rfl,ez⟩:=zf ez0;unfold z6c at ez;rw[List.getElem?_eq_getElem hjl]at ez;simp only[Option.bind_some]at ez;split at ez
   next hlim=>
    cases ez;obtain⟨v2,_,a2,ks2,ea2,e4,hd2,hl2,hk2⟩:=f2.dp i kls he;obtain⟨b2,xs2,p1,p2,p3,p4⟩:=hk2 j kls[j].1 kls[j].2 (by rw[List.getElem?_eq_getElem hjl]);rw[w2]at p2;cases p2;refine⟨b,xs2,yv,rfl,rfl,p3,Nat.lt_of_lt_of_le (by rw[<-p4.length];exact hlim) (y4 (Nat.le_refl _)),?_⟩;exact q6 _ _ _ (f2.updDeep he (by rw[List.getElem?_eq_getElem hjl]) w2 p3 (p4.append (.cons r2 .nil))) (Stp.upd f2 w2 (not_tup p3))
   next=>cases ez
  ·rw[d1]at ej;cases ej
 next=>cases ej
end
theorem z6v{S:Addr->Prop}{H:Hp}{a:Addr}{ks:List (PyData×V)}{x:PyData}{y v:V}(hpl:Pl H a)(h1:DctAt H a ks)(hx:DatS S H x y)(ok:zb (ks.map fun kv=>(kv.1,PyData.none)) x=true)(hnew:(ks.map (·.1)).findIdx? (fun d=>PyData.eqv d x)=none)(hl:ks.length<lim):
  ∃o,DPutR H a y v (upd H a o)/\DctAt (upd H a o) a (ks++[(x,v)])/\∀ob u,o≠.frz ob u:=by
 have small:∀{n:Nat},n=ks.length->n<sizeLine:=fun e=>Nat.lt_of_lt_of_le (by rw[e];exact hl) (y4 (Nat.le_refl _));have tk:∀{P:PyData->Bool} (hP:(ks.map fun kv=>(kv.1,PyData.none)).all (fun kv=>P kv.1)=true) {κ:Type} {j:κ->PyData} {l:List (κ×V)},ks=l.map (fun kv=>(j kv.1,kv.2))->l=[]\/∃c,P (j c)=true:=fun{P} hP {κ j l} e=>by
  subst e;cases l with
  | nil=>exact .inl rfl
  | cons q s=>rw[List.map_cons,List.map_cons,List.all_cons,Bool.and_eq_true]at hP;exact .inr ⟨q.1,hP.1⟩
 have plain:∀k:Key,x=kD k->(ks.map fun kv=>(kv.1,PyData.none)).all (fun kv=>!yC kv.1)=true->∃o,DPutR H a y v (upd H a o)/\DctAt (upd H a o) a (ks++[(x,v)])/\∀ob u,o≠.frz ob u:=fun k e hA=>by
  have ey:y=kV k:=by rw[e]at hx;exact u5 hx
  rcases h1 with ⟨l,g,rfl⟩ | ⟨l,g,e2⟩
  ·rw[show(l.map fun kv=>(kD kv.1,kv.2)).map (·.1)=l.map fun kv=>kD kv.1 by rw[List.map_map];rfl]at hnew;rcases wK (j:=kD) z1c e l with ⟨i,c,v,f1,_⟩ | ⟨_,f2⟩
   ·rw[f1]at hnew;cases hnew
   ·exact⟨.dK (putK l k v),.inl (by rw[ey];exact DPut.k (hpl.rd g) (small (by rw[List.length_map]))),.inl ⟨_,.inl z7,by rw[z2b v f2,List.map_append,e];rfl⟩,fun _ _ z=>by cases z⟩
  ·rcases tk (P:=fun d=>!yC d) hA e2 with rfl | ⟨c,hc⟩
   ·subst e2;exact⟨.dK [(k,v)],.inr (.inr ⟨k,hpl.rd g,ey,rfl⟩),.inl ⟨[(k,v)],.inl z7,by rw[e];rfl⟩,fun _ _ z=>by cases z⟩
   ·simp[kT,yC]at hc
 cases x with
 | tuple ds=>
  simp only[zb,Bool.and_eq_true]at ok;obtain⟨o1,o2⟩:=ok;obtain⟨k,ek⟩:=Option.isSome_iff_exists.mp o1;have ed:=xY ek;simp only[DatS]at hx;obtain⟨b,xs,rfl,hb,hxs⟩:=hx;rw[ed]at hxs;rw[wX hxs]at hb;rcases h1 with ⟨l,g,e2⟩ | ⟨l,g,rfl⟩
  ·rcases tk (P:=yC) o2 e2 with rfl | ⟨c,hc⟩
   ·subst e2;exact⟨.dT [(k,v)],.inr (.inl ⟨k,b,hpl.rd g,rfl,hb,rfl⟩),.inr ⟨[(k,v)],.inl z7,by rw[ed];rfl⟩,fun _ _ z=>by cases z⟩
   ·cases c<;>simp[kD,yC]at hc
  ·rw[show(l.map fun kv=>(kT kv.1,kv.2)).map (·.1)=l.map fun kv=>kT kv.1 by rw[List.map_map];rfl]at hnew;rcases wK (j:=kT) z2Z (k:=k) (x:=.tuple ds) (by rw[ed];rfl) l with ⟨i,c,v,f1,_⟩ | ⟨_,f2⟩
   ·rw[f1]at hnew;cases hnew
   ·exact⟨.dT (putK l k v),.inl (DPut.t (hpl.rd g) hb (small (by rw[List.length_map]))),.inr ⟨_,.inl z7,by rw[z2b v f2,List.map_append,ed];rfl⟩,fun _ _ z=>by cases z⟩
 | int i=>
  simp only[zb,Bool.and_eq_true]at ok;exact plain (.inl i) rfl ok.2
 | str i=>
  simp only[zb,Bool.and_eq_true]at ok;exact plain (.inr i) rfl ok.2
 | none=>simp[zb,keyD]at ok
 | bool _=>simp[zb,keyD]at ok
 | list _=>simp[zb,keyD]at ok
 | dict _=>simp[zb,keyD]at ok
noncomputable def wV(hv:List PyData):List PyData->Bool
 | []=>true
 | x::r=>zb (hv.map fun k=>(k,PyData.none)) x && (hv.findIdx? (fun d=>PyData.eqv d x)).isNone && wV (hv++[x]) r
theorem z2j{p:Addr}:∀{ds:List PyData} {xs vs:List V} {ks:List (PyData×V)} {H:Hp},Pl H p->DctAt H p ks->DatsS (fun b=>b=p) H ds xs->vs.length=xs.length->wV (ks.map (·.1)) ds=true->ks.length+ds.length<lim->
  ∃H',Puts p (xs.zip vs) H H'/\Pl H' p/\DctAt H' p (ks++ds.zip vs)/\∀b,b≠p->H' b=H b
 | [],xs,vs,ks,H,hp,hd,hx,hl,hk,hn=>by
  simp only[DatsS]at hx;subst hx;exact⟨H,rfl,hp,by simpa using hd,fun _ _=>rfl⟩
 | x::ds,xs,vs,ks,H,hp,hd,hx,hl,hk,hn=>by
  simp only[DatsS]at hx;obtain⟨y,r,rfl,hx1,hx2⟩:=hx;cases vs with
  | nil=>cases hl
  | cons v vs=>
   simp only[wV,Bool.and_eq_true,Option.isNone_iff_eq_none]at hk;obtain⟨⟨k1,k2⟩,k3⟩:=hk;rw[List.map_map]at k1;obtain⟨o,p1,p2,p3⟩:=z6v (v:=v) hp hd hx1 k1 k2 (by simp at hn;omega);have kk:Kp (fun b=>b=p) H (upd H p o):=fun b u h q=>by
    by_cases e:b=p
    ·subst e;rcases q with q | ⟨zs,rfl⟩
     ·exact absurd rfl q
     ·exact absurd h (hd.not_tup zs)
    ·rw[zB e];exact h
   obtain⟨H',q1,q2,q3,q4⟩:=z2j (p:=p) (ds:=ds) (xs:=r) (vs:=vs) (Pl.upd p3) p2 (DatsS.kp kk (fun _ z=>.inl z) hx2) (by simpa using hl) (by rw[List.map_append];exact k3) (by simp at hn |-;omega);refine⟨H',⟨_,p1,q1⟩,q2,by simpa using q3,fun b hb=>?_⟩;rw[q4 b hb,zB hb]
section
variable{K:W.Frag}{Er:Str->Hp->Prop}{X:Cx}{g:Gh}{ow:Ix->Option Addr}{ρ:Env'}{n n':Nat}{σ:St}{H H' H1:Hp}
noncomputable def putP(ow:Ix->Option Addr)(i:Nat)(p:Addr)(bs:List Addr):Ix->Option Addr:=fun j=>if j.1=i then(match j.2 with | 0=>some p | l+1=>bs[l]?)else ow j
theorem z4M{i:Nat}{p:Addr}{bs:List Addr}{j:Ix}(h:j.1≠i):putP ow i p bs j=ow j:=if_neg h
theorem zB3{i:Nat}{p:Addr}{bs:List Addr}:putP ow i p bs (i,0)=some p:=by unfold putP;rw[if_pos rfl]
theorem zAE{i l:Nat}{p:Addr}{bs:List Addr}:putP ow i p bs (i,l+1)=bs[l]?:=by unfold putP;rw[if_pos rfl]
theorem yY{i:Nat}{p:Addr}{bs:List Addr}{j:Ix}{a:Addr}(h:putP ow i p bs j=some a):(j=(i,0)/\a=p)\/(∃l,j=(i,l+1)/\bs[l]?=some a)\/(j.1≠i/\ow j=some a):=by
 unfold putP at h;obtain⟨j1,j2⟩:=j;split at h
 next c=>
  have c:j1=i:=c;subst c;cases j2 with
  | zero=>cases h;exact .inl ⟨rfl,rfl⟩
  | succ l=>exact .inr (.inl ⟨l,rfl,h⟩)
 next c=>exact .inr (.inr ⟨c,h⟩)
theorem Frm.setDeep{i:Nat}{p:Addr}{bs:List Addr}{ks:List (PyData×V)}{kls:List (PyData×List PyData)}(f:Frm K g ow ρ n σ H)(hp:H p=none)(hbs:∀b∈bs,H b=none)(nd:(p::bs).Nodup)(k:Kp g.T H H1)(t:Twn g H1 n')(hi:i<ρ.length)(hx:Pl H1 p)(hd:DctAt H1 p ks)(hl:ks.length=kls.length)(hlb:bs.length=kls.length)
  (hk:∀(j:Nat) (k:PyData) (l:List PyData),kls[j]?=some (k,l)->∃b:Addr,bs[j]?=some b/\ks[j]?=some (k,V.ref b)/\H1 b=some (.lst [])/\l=[]):Frm K g (putP ow i p bs) (ρ.set i (some (Sl.deep kls))) n' (σ.set i (some (.ref p))) H1:=by
 have kS:Kp (g.S ow) H H1:=k.mono Gh.ts;have fresh:∀a,(a=p\/a∈bs)->H a=none:=fun a z=>z.elim (fun e=>e▸hp) (hbs a);have own':∀{j:Ix} {a:Addr},putP ow i p bs j=some a->(a=p\/a∈bs)\/(j.1≠i/\ow j=some a):=fun{j a} z=>by
  rcases yY z with ⟨_,e⟩ | ⟨l,_,e⟩ | e
  ·exact .inl (.inl e)
  ·exact .inl (.inr (List.mem_of_getElem? e))
  ·exact .inr e
 have hS:∀a,g.S (putP ow i p bs) a->g.S ow a\/H a=none:=fun a z=>by
  rcases z with z | z | ⟨j,z⟩
  ·exact .inl (.inl z)
  ·exact .inl (.inr (.inl z))
  ·rcases own' z with e | e
   ·exact .inr (fresh a e)
   ·exact .inl (.inr (.inr ⟨j,e.2⟩))
 have oldne:∀{j:Ix} {a:Addr},ow j=some a->¬(a=p\/a∈bs):=fun{j a} h z=>(f.owi j a h).2.1.some (fresh a z);refine⟨f.scr,t,f.sub,f.ext.trans k,fun j d' e=>?_,fun j y e=>?_,fun j kl e=>?_,fun j a e=>?_,fun j l a h1 h2=>?_,by simp[f.len]⟩
 ·rw[zS]at e;split at e
  next c=>cases e
  next c=>
   obtain⟨v',e1,r1⟩:=f.val j d' e;exact⟨v',by rw[zS,if_neg (fun z=>c ⟨z.1,by rw[f.len];exact z.2⟩)];exact e1,r1.kp kS hS⟩
 ·rw[zS]at e;split at e
  next c=>cases e
  next c=>
   obtain⟨a,e0,e1,r1⟩:=f.own j y e;have hj:j≠i:=fun z=>c ⟨z,hi⟩;exact⟨a,by rw[z4M hj];exact e0,by rw[zS,if_neg (fun z=>hj z.1)];exact e1,r1.move kS hS fun b e _ hb=>⟨fun o z=>k _ _ z (.inl fun z=>hb (.inr z)),hb⟩⟩
 ·rw[zS]at e;split at e
  next c=>
   cases e;refine⟨.ref p,by rw[zS,if_pos ⟨c.1,by rw[<-f.len];exact c.2⟩],p,ks,rfl,by rw[c.1];exact zB3,hd,hl,fun l k' l' el=>?_⟩;obtain⟨b,q1,q2,q3,q4⟩:=hk l k' l' el;exact⟨b,[],q2,by rw[c.1,zAE];exact q1,q3,by rw[q4];exact .nil⟩
  next c=>
   obtain⟨v',e1,r1⟩:=f.dp j kl e;have hj:j≠i:=fun z=>c ⟨z,hi⟩;exact⟨v',by rw[zS,if_neg (fun z=>hj z.1)];exact e1,r1.move (fun l a z=>by rw[z4M hj];exact z) (fun l a z o q=>k _ _ q (.inl (f.owi _ a z).2.2.1)) kS hS⟩
 ·rcases yY e with ⟨rfl,rfl⟩ | ⟨l,rfl,e5⟩ | ⟨_,e5⟩
  ·exact⟨f.h0 hp,hx,(fun z=>by rw[f.twn _ z]at hp;cases hp),by rw[List.length_set];exact hi⟩
  ·have hb:=hbs a (List.mem_of_getElem? e5);refine⟨f.h0 hb,?_,(fun z=>by rw[f.twn _ z]at hb;cases hb),by rw[List.length_set];exact hi⟩;have hlk:l<kls.length:=by rw[<-hlb];exact(List.getElem?_eq_some_iff.mp e5).1
   obtain⟨b,q1,_,q3,_⟩:=hk l kls[l].1 kls[l].2 (by rw[List.getElem?_eq_getElem hlk]);rw[e5]at q1;cases q1;exact⟨_,q3,fun _ _ z=>by cases z⟩
  ·obtain⟨h1,h2,h3,h4⟩:=f.owi j a e5;exact⟨h1,h2.kp k h3,h3,by rw[List.length_set];exact h4⟩
 ·have pb:∀{l:Nat},bs[l]?=some p->False:=fun{l} z=>(List.nodup_cons.mp nd).1 (List.mem_of_getElem? z);rcases yY h1 with ⟨rfl,rfl⟩ | ⟨u,rfl,g1⟩ | ⟨_,g1⟩
  ·rcases yY h2 with ⟨rfl,_⟩ | ⟨w,rfl,g2⟩ | ⟨_,g2⟩
   ·rfl
   ·exact(pb g2).elim
   ·exact absurd (.inl rfl) (oldne g2)
  ·rcases yY h2 with ⟨rfl,rfl⟩ | ⟨w,rfl,g2⟩ | ⟨_,g2⟩
   ·exact(pb g1).elim
   ·have:u=w:=by
     obtain⟨a1,e1⟩:=List.getElem?_eq_some_iff.mp g1;obtain⟨a2,e2⟩:=List.getElem?_eq_some_iff.mp g2;exact(List.getElem_inj (List.nodup_cons.mp nd).2).mp (e1.trans e2.symm)
    rw[this]
   ·exact absurd (.inr (List.mem_of_getElem? g1)) (oldne g2)
  ·rcases yY h2 with ⟨rfl,rfl⟩ | ⟨w,rfl,g2⟩ | ⟨_,g2⟩
   ·exact absurd (.inl rfl) (oldne g1)
   ·exact absurd (.inr (List.mem_of_getElem? g2)) (oldne g1)
   ·exact f.inj j l a g1 g2
theorem Stp.deep{i:Nat}{p:Addr}{bs:List Addr}(hp:H p=none)(hbs:∀b∈bs,H b=none)(k:Kp g.T H H1):Stp g ow H (putP ow i p bs) H1:=⟨k.mono fun a z=>.inr (.inl z),fun j a h=>by
 rcases yY h with ⟨_,rfl⟩ | ⟨l,_,e⟩ | ⟨_,e⟩
 ·exact .inr hp
 ·exact .inr (hbs a (List.mem_of_getElem? e))
 ·exact .inl ⟨j,e⟩⟩
theorem yesT{σ:St}{H:Hp}{A B:Hp->Prop}(h:A H):tYes σ H (fun b H3=>if b=true then A H3 else B H3):=by
 show if true=true then A H else B H
 rw[if_pos rfl];exact h
noncomputable def z7B(i jx:Nat)(mi:Env'->Mx (List PyData)):Env'->Mx Out:=fun ρ=>mi ρ >>= fun ds=>Mx.opt (if i<ρ.length/\ρ.length=jx/\wV [] ds=true/\ds.length<lim then some (Out.nx (ρ.set i (some (Sl.deep (ds.map fun d=>(d,[]))))))else none)
theorem z4t{i jx:Nat}{mi:Env'->Mx (List PyData)}{E:Ends}(h:rdS K Er (z7B i jx mi) E σ H):
  tCB (fun zs H Q=>∃(l:Addr) (xs:List V),zs=[.ref l]/\H l=some (.lst xs)/\∀p,H p=none->∃(ps:List (V×V)) (H':Hp),xs.length=ps.length/\(∀(j:Nat) (y v:V),ps[j]?=some (y,v)->∃b,xs[j]?=some (.ref b)/\H b=some (.tup [y,v]))/\Puts p ps (upd H p (.dK [])) H'/\Q (.ref p) H')
   (ym (z24 (rdG (RI true) K Er mi) tYes (tTup (ym (tVar jx) (ym (tLst tNil) tNil)))) tNil) σ H fun v H1=>E.nx (σ.set i (some v)) H1:=by
 refine rs1 h fun g ow ρ n n1 ds J H1 f _ f1 r q=>?_;obtain⟨hl,xs,hd,wk⟩:=r;simp only[if_true]at wk;obtain⟨out,eo,q2⟩:=rs_o q;split at eo
 next c=>
  cases eo;obtain⟨hi,hjx,hnk,hlm⟩:=c;have hlen:=hd.length;have hσ:σ.length=jx:=by rw[<-hjx,f1.len]
  refine⟨xs.length,fun i ys H'=>∃ts bs:List Addr,ys=ts.map V.ref/\ts.length=i/\bs.length=i/\Same H1 H'/\(ts++bs).Nodup/\(∀b∈ts++bs,H1 b=none)/\∀(j:Nat) (t b:Addr),ts[j]?=some t->bs[j]?=some b->∃x,xs[j]?=some x/\H' t=some (.tup [x,.ref b])/\H' b=some (.lst []),
   ⟨[],[],rfl,rfl,rfl,Same.refl _,List.nodup_nil,fun b hb=>(nomatch hb),fun j t b e=>by simp at e⟩,⟨y4 (by rw[<-hlen];exact hl),fun ys H' ⟨_,_,_,_,_,s,_⟩=>wk.stop H' s.kp,fun i ys H' hi ⟨_,_,_,_,_,s,_⟩=>wk.go i H' s.kp hi,fun m ys H' v H'' hm hW y=>?_⟩,fun ys H' hW D hD=>?_⟩
  ·obtain⟨ts,bs,e1,e2,e3,s,nd,fr,each⟩:=hW;obtain⟨rfl,hv⟩:=wk.yld m H' v _ s.kp y;have hv:=hv hm;refine yesT ⟨v,?_,Nat.zero_le _,fun b hb=>⟨by show 2<=sizeLine;decide,fun t ht=>?_⟩⟩
   ·rw[<-hσ,List.getElem?_append_right (Nat.le_refl _),Nat.sub_self];rfl
   ·have htb:t≠b:=fun z=>by rw[z,z7]at ht;cases ht
    rw[zB htb]at ht;have s2:Same H'' (upd (upd H'' b (.lst [])) t (.tup [v,.ref b])):=(Same.new hb).trans (Same.new (by rw[zB htb];exact ht));have old:∀c∈ts++bs,c≠t/\c≠b:=fun c hc=>by
     have:H'' c≠none:=by
      rcases List.mem_append.mp hc with hc | hc
      ·obtain⟨j,hj,rfl⟩:=List.mem_iff_getElem.mp hc;obtain⟨x,_,q,_⟩:=each j _ _ (List.getElem?_eq_getElem hj) (List.getElem?_eq_getElem (show j<bs.length by omega));rw[q];intro z;cases z
      ·obtain⟨j,hj,rfl⟩:=List.mem_iff_getElem.mp hc;obtain⟨x,_,_,q⟩:=each j _ _ (List.getElem?_eq_getElem (show j<ts.length by omega)) (List.getElem?_eq_getElem hj);rw[q];intro z;cases z
     exact⟨fun z=>this (z▸ht),fun z=>this (z▸hb)⟩
    refine⟨ts++[t],bs++[b],by rw[e1,List.map_append];rfl,by simp[e2],by simp[e3],s.trans s2,?_,?_,fun j t' b' h1 h2=>?_⟩
    ·have hp:(ts++[t]++(bs++[b])).Perm (t::b::(ts++bs)):=by
      refine(List.perm_append_comm.append_right _).trans ?_;simp only[List.singleton_append,List.cons_append];refine List.Perm.cons _ ?_;rw[<-List.append_assoc];exact List.perm_append_comm
     rw[hp.nodup_iff];refine List.nodup_cons.mpr ⟨fun z=>?_,List.nodup_cons.mpr ⟨fun z=>(old b z).2 rfl,nd⟩⟩;rcases List.mem_cons.mp z with z | z
     ·exact htb z
     ·exact(old t z).1 rfl
    ·intro c hc
     have:c∈ts++bs\/c=t\/c=b:=by
      simp only[List.mem_append,List.mem_singleton]at hc |-;rcases hc with (z | z) | z | z
      ·exact .inl (.inl z)
      ·exact .inr (.inl z)
      ·exact .inl (.inr z)
      ·exact .inr (.inr z)
     rcases this with z | rfl | rfl
     ·exact fr c z
     ·exact s.free ht
     ·exact s.free hb
    ·by_cases hj:j<ts.length
     ·rw[List.getElem?_append_left hj]at h1;rw[List.getElem?_append_left (by omega)]at h2;obtain⟨x,q1,q2,q3⟩:=each j t' b' h1 h2;have m1:=old t' (List.mem_append_left _ (List.mem_of_getElem? h1));have m2:=old b' (List.mem_append_right _ (List.mem_of_getElem? h2));exact⟨x,q1,by rw[zB m1.1,zB m1.2];exact q2,by rw[zB m2.1,zB m2.2];exact q3⟩
     ·have hj2:j=ts.length:=by have:=(List.getElem?_eq_some_iff.mp h1).1;simp at this;omega
      subst hj2;rw[List.getElem?_append_right (Nat.le_refl _),Nat.sub_self]at h1;rw[List.getElem?_append_right (by omega),show ts.length - bs.length=0 by omega]at h2;cases h1;cases h2;exact⟨v,by rw[e2];exact hv,z7,by rw[zB (Ne.symm htb),z7]⟩
  ·obtain⟨ts,bs,e1,e2,e3,s,nd,fr,each⟩:=hW;have sD:=Same.new (o:=.lst ys) hD;have sD1:Same H1 (upd H' D (.lst ys)):=s.trans sD;refine⟨D,ys,rfl,z7,fun p hp=>?_⟩;have s3:=Same.new (o:=.dK []) hp;have hxs:∀{S:Addr->Prop},DatsS (g.S ow) H1 ds xs->(∀a,S a->(upd H' D (.lst ys)) a=none\/g.S ow a)->DatsS S (upd (upd H' D (.lst ys)) p (.dK [])) ds xs:=fun{S} h hS=>DatsS.kp (Kp.of (sD1.trans s3)) (fun a z=>(hS a z).elim (fun e=>.inr (sD1.free e)) .inl) h;obtain⟨Hend,p1,p2,p3,p4⟩:=z2j (p:=p) (ds:=ds) (xs:=xs) (vs:=bs.map V.ref) (ks:=[]) (H:=upd (upd H' D (.lst ys)) p (.dK [])) Pl.upd (.inl ⟨[],.inl z7,rfl⟩) (hxs hd fun a e=>.inl (e▸hp)) (by rw[List.length_map];omega) hnk (by simpa using hlm);have keep:∀c o,(upd H' D (.lst ys)) c=some o->Hend c=some o:=fun c o e=>by
    have hcp:c≠p:=fun z=>by rw[z,hp]at e;cases e
    rw[p4 c hcp,zB hcp];exact e
   refine⟨xs.zip (bs.map V.ref),Hend,by rw[e1];simp;omega,fun j y v ej=>?_,p1,?_⟩
   ·rw[List.getElem?_zip_eq_some]at ej;obtain⟨j1,j2⟩:=ej;have hjl:j<xs.length:=(List.getElem?_eq_some_iff.mp j1).1;rw[List.getElem?_map,List.getElem?_eq_getElem (show j<bs.length by omega)]at j2;cases j2;obtain⟨x,q1,q2,_⟩:=each j _ _ (List.getElem?_eq_getElem (show j<ts.length by omega)) (List.getElem?_eq_getElem (show j<bs.length by omega));rw[j1]at q1;cases q1;exact⟨ts[j]'(by omega),by rw[e1,List.getElem?_map,List.getElem?_eq_getElem (show j<ts.length by omega)];rfl,sD _ _ q2⟩
   ·have k3:Kp g.T H1 Hend:=fun c o e _=>keep c o (sD1 _ _ e);have hpH:H1 p=none:=sD1.free hp;have hbf:∀b∈bs,H1 b=none:=fun b hb=>fr b (List.mem_append_right _ hb);have hbk:∀b∈bs,Hend b=some (.lst []):=fun b hb=>by
     obtain⟨j,hj,rfl⟩:=List.mem_iff_getElem.mp hb;obtain⟨x,_,_,q⟩:=each j _ _ (List.getElem?_eq_getElem (show j<ts.length by omega)) (List.getElem?_eq_getElem hj);exact keep _ _ (sD _ _ q)
    have hpb:p∉bs:=fun z=>by
     obtain⟨j,hj,e⟩:=List.mem_iff_getElem.mp z;obtain⟨x,_,_,q⟩:=each j _ _ (List.getElem?_eq_getElem (show j<ts.length by omega)) (List.getElem?_eq_getElem hj);rw[e]at q
     have:=sD _ _ q;rw[hp]at this;cases this
    have ndp:(p::bs).Nodup:=List.nodup_cons.mpr ⟨hpb,(List.nodup_append.mp nd).2.1⟩;refine q2 _ _ _ (f1.setDeep (n':=n1) (ks:=[]++ds.zip (bs.map V.ref)) hpH hbf ndp k3 (fun a e=>keep _ _ (sD1 _ _ (f1.twn a e))) hi p2 p3 (by simp;omega) (by simp;omega) fun j k l ej=>?_) (Stp.deep hpH hbf k3);rw[List.getElem?_map]at ej;have hjd:j<ds.length:=by
     by_cases z:j<ds.length
     ·exact z
     ·rw[List.getElem?_eq_none (by omega)]at ej;cases ej
    rw[List.getElem?_eq_getElem hjd]at ej;cases ej;have hjb:j<bs.length:=by omega
    refine⟨bs[j],List.getElem?_eq_getElem hjb,?_,hbk _ (List.getElem_mem hjb),rfl⟩;rw[List.nil_append,List.getElem?_zip_eq_some];exact⟨List.getElem?_eq_getElem hjd,by rw[List.getElem?_map,List.getElem?_eq_getElem hjb];rfl⟩
 next=>cases eo
theorem z8f{i jx:Nat}{e:Expr}{x:Str}{pos pos':Pos}{mi:Env'->Mx (List PyData)}(hN:X.N.Nodup)(hi:X.N[i]?=some x)(hx:Loc X.env.scope x)
  (he:PE X e (tCB (fun zs H Q=>∃(l:Addr) (xs:List V),zs=[.ref l]/\H l=some (.lst xs)/\∀p,H p=none->∃(ps:List (V×V)) (H':Hp),xs.length=ps.length/\(∀(j:Nat) (y v:V),ps[j]?=some (y,v)->∃b,xs[j]?=some (.ref b)/\H b=some (.tup [y,v]))/\Puts p ps (upd H p (.dK [])) H'/\Q (.ref p) H')
   (ym (z24 (rdG (RI true) K Er mi) tYes (tTup (ym (tVar jx) (ym (tLst tNil) tNil)))) tNil))) (hs:swapsWith e (some (.Name x pos')) pos.line X.env=pure false:=by rfl) (hf:X.fn x=true\/X.env.scope.names.lookup x=some .local:=by first | exact .inl rfl | exact .inr rfl | assumption) :
  DS K Er X (.Assign [.Name x pos'] e pos) (z7B i jx mi):=(z06 hN hi hx he hs hf).imp fun σ H E h=>z4t h
end
section
variable{K:W.Frag}{Er:Str->Hp->Prop}{X:Cx}{elt it:Expr}{pos:Pos}{mc:Env'->Mx Bool}{m:Env'->Mx D}
end
noncomputable def lst(m:Nat):List Nat:=(List.range 8).filter fun i=>m.testBit i
noncomputable def tb0(led:Bool)(l:List Nat):SetTable:={ mask:=7,place:=l.toArray,dummies:=#[],finger:=0,led:=led,moves:=0,plain:=true }
noncomputable def tb1(led:Bool)(l:List Nat):SetTable:={ mask:=31,place:=l.toArray,dummies:=#[],finger:=0,led:=led,moves:=1,plain:=true }
noncomputable def tbl(led:Bool)(l:List Nat):SetTable:=if l.length<5 then tb0 led l else tb1 led l
noncomputable def ins(l:List Nat)(p x:Nat):List Nat:=l.take p++x::l.drop p
noncomputable def tEq(a b:SetTable):Bool:=a.mask == b.mask && a.place.toList == b.place.toList && a.dummies.toList == b.dummies.toList && a.finger == b.finger && a.led == b.led && a.moves == b.moves && a.plain == b.plain
theorem z7f{a b:SetTable}(h:tEq a b=true):a=b:=by
 cases a;cases b;simp only[tEq,Bool.and_eq_true,beq_iff_eq]at h;obtain⟨⟨⟨⟨⟨⟨h1,h2⟩,h3⟩,h4⟩,h5⟩,h6⟩,h7⟩:=h;have h2':=Array.toList_inj.mp h2;have h3':=Array.toList_inj.mp h3;subst h1 h2' h3' h4 h5 h6 h7;rfl
noncomputable def z7j(led:Bool)(m x:Nat):Bool:=
 let l:=lst m
 let t:=tbl led l
 let p:=SetTable.below t.place x
 let l':=lst (m ||| 2 ^ x)
 let t':=(t.put x).1
 m.testBit x || ((match t.freeSlot (x:Int)with | some (j,d)=>j == x && d == false | none=>false) && l' == ins l p x && (t.put x).2 == p && t'.plain == true && t'.fits (l.length+1) &&
  (if t'.tooFull then(match t'.relaid ((l'.map fun(i:Nat)=>(i:Int)).toArray) (SetTable.grown (l.length+1))with | some (t2,o)=>tEq t2 (tbl led l') && o.toList == List.range (l.length+1) && (tbl led l').fits (l.length+1) | none=>false)else tEq t' (tbl led l')))
theorem z3Q:∀led:Bool,∀m:Fin 256,∀x:Fin 8,z7j led m.1 x.1=true:=by decide +kernel
theorem z99:∀x:Fin 8,hashInt ((x.1:Nat):Int)=((x.1:Nat):Int):=by decide +kernel
noncomputable def nI(n:Nat):Int:=(n:Int)
def EsOf(es:Array (Int×Value))(l:List Nat):Prop:=es.toList.map (·.1)=l.map nI/\∀e∈es.toList,∃t,e.2=.int e.1 t
theorem EsOf.size{es:Array (Int×Value)}{l:List Nat}(h:EsOf es l):es.size=l.length:=by
 have:=congrArg List.length h.1;simpa using this
theorem z7s{m i:Nat}(h:i∈lst m):i<8:=List.mem_range.mp (List.mem_filter.mp h).1
theorem z4w{m i:Nat}(hi:i<8):i∈lst m↔m.testBit i=true:=by
 unfold lst;rw[List.mem_filter];exact⟨fun h=>h.2,fun h=>⟨List.mem_range.mpr hi,h⟩⟩
theorem u7(m:Nat):(lst m).length<=8:=by
 unfold lst;exact Nat.le_trans (List.length_filter_le _ _) (by simp)
section
variable{prog:Program}{w:World}{A:Around}{E:Value->Shared->Prop}{s:Shared}
theorem EsOf.elems{es:Array (Int×Value)}{m:Nat}(h:EsOf es (lst m)):ElemsOf (intKind prog w) es.toList:=fun e he=>by
 obtain⟨t,ht⟩:=h.2 e he;have hm:e.1∈es.toList.map (·.1):=List.mem_map_of_mem he;rw[h.1]at hm;obtain⟨n,hn,e1⟩:=List.mem_map.mp hm;refine⟨⟨e.1,by rw[ht];exact intKind_is _ _ _ _,?_⟩,by rw[ht];rfl⟩;rw[<-e1];exact(z99 ⟨n,z7s hn⟩).symm
def SetAt(h:Heap)(a:Addr)(led:Bool)(m:Nat):Prop:=∃o es ep,h.get? a=some o/\o.ExactSet/\o.data=.set es ep (tbl led (lst m))/\EsOf es (lst m)/\(tbl led (lst m)).fits es.size=true
theorem z1k:∀led:Bool,∀n:Fin 9,(tbl led (List.replicate n.1 0)).fits n.1=true:=by decide +kernel
theorem z0R(led:Bool)(m:Nat):(tbl led (lst m)).fits (lst m).length=true:=by
 have:=z1k led ⟨(lst m).length,Nat.lt_succ_of_le (u7 m)⟩;revert this;unfold tbl SetTable.fits SetTable.fill;simp only[List.length_replicate];split<;>simp[tb0,tb1]
theorem EsOf.add{es:Array (Int×Value)}{l:List Nat}{p x:Nat}{t:Tok}(h:EsOf es l):EsOf (SetTable.insertAt es p (nI x,.int (nI x) t)) (ins l p x):=by
 refine⟨?_,fun e he=>?_⟩
 ·rw[SetTable.toList_insertAt,List.map_append,List.map_cons,List.map_take,List.map_drop,h.1];unfold ins;rw[List.map_append,List.map_cons,List.map_take,List.map_drop]
 ·rw[SetTable.toList_insertAt]at he;rcases List.mem_append.mp he with he | he
  ·exact h.2 e (List.mem_of_mem_take he)
  ·rcases List.mem_cons.mp he with rfl | he
   ·exact⟨t,rfl⟩
   ·exact h.2 e (List.mem_of_mem_drop he)
theorem z01{h:Heap}{a:Addr}{o:Obj}{es:Array (Int×Value)}{ep:Nat}{t:SetTable}(es':Array (Int×Value))(t':SetTable)(ho:h.get? a=some o)(hd:o.data=.set es ep t):
  (h.update a (Obj.putSet es' t')).get? a=some { o with data:=.set es' (ep+1) t' }:=by
 have:=Heap.get?_update_self (Obj.putSet es' t') ho (by rw[putSet_of es' t' hd];rfl);rw[putSet_of es' t' hd]at this;exact this
theorem z8l{a:Addr}{led:Bool}{m x:Nat}{t:Tok}{Q:Bool->Shared->Prop}(hm:m<256)(hx:x<8)(hS:SetAt s.heap a led m)
  (h:∀h',Heap.SameBut a s.heap h'->SetAt h' a led (m ||| 2 ^ x)->Q (!m.testBit x) { s with heap:=h' }) :
  wpAny (model prog w) A (setAddHashed a (.int (nI x) t) (hashInt (nI x))) Q E s:=by
 obtain⟨o,es,ep,ho,hex,hd,he,hf⟩:=hS;have hsz:=he.size;have hln:=u7 m;have hb:es.size<scanBound:=by unfold scanBound;omega
 have hel:ElemsOf (intKind prog w) es.toList:=he.elems;have hkey:(intKind prog w).is (nI x) (.int (nI x) t)=true:=intKind_is _ _ _ _;unfold setAddHashed setAddHashedIn;refine wpAny_holding (wpAny_bind (wpAny_setState_of ho hd hf ?_));dsimp only;rw[byScan_of rfl hb hel];simp only[↓reduceIte];unfold setAddByScan;refine wpAny_bind ?_;refine wpAny_bind (wpAny_rule ?_);refine wpAny_bind (wpAny_setScan_of (knd:=intKind prog w) hkey ho hd hf hel ?_);have memI:(∃e∈es.toList,(intKind prog w).is (nI x) e.2=true)↔m.testBit x=true:=by
  rw[<-z4w hx];constructor
  ·rintro⟨e,he1,he2⟩;obtain⟨t',e3⟩:=he.2 e he1;rw[e3]at he2;have e4:nI x=e.1:=(intKind prog w).inj _ _ _ he2 (intKind_is _ _ _ _);have h1:e.1∈es.toList.map (·.1):=List.mem_map_of_mem he1;rw[he.1]at h1;obtain⟨n,hn,e5⟩:=List.mem_map.mp h1
   have:n=x:=by unfold nI at e4 e5;omega
   rwa [<-this]
  ·intro hl;have h1:nI x∈es.toList.map (·.1):=by rw[he.1];exact List.mem_map_of_mem hl
   obtain⟨e,he1,e2⟩:=List.mem_map.mp h1;obtain⟨t',e3⟩:=he.2 e he1;exact⟨e,he1,by rw[e3,e2];exact intKind_is _ _ _ _⟩
 cases hr:List.findIdx? (fun e=>(intKind prog w).is (nI x) e.2) es.toList with
 | some j=>
  dsimp only;obtain⟨hj,hpj,_⟩:=List.findIdx?_eq_some_iff_getElem.mp hr;have hSk:m.testBit x=true:=memI.mp ⟨es.toList[j],List.getElem_mem hj,hpj⟩;refine wpAny_pure (wpAny_pure ?_);have e:s={ s with heap:=s.heap }:=by cases s;rfl
  have em:m ||| 2 ^ x=m:=by
   apply Nat.eq_of_testBit_eq;intro i;rw[Nat.testBit_or,Nat.testBit_two_pow];by_cases hi:x=i
   ·subst hi;rw[hSk];rfl
   ·simp[hi]
  have:=h s.heap (Heap.SameBut.refl a s.heap) (by rw[em];exact⟨o,es,ep,ho,hex,hd,he,hf⟩);rw[hSk]at this;rw[e];exact this
 | none=>
  dsimp only;have hSk:m.testBit x=false:=by
   cases hk:m.testBit x with
   | false=>rfl
   | true=>obtain⟨e,he1,hp⟩:=memI.mpr hk;have:=List.findIdx?_eq_none_iff.mp hr e he1;rw[hp]at this;exact Bool.noConfusion this
  have st:=z3Q led ⟨m,hm⟩ ⟨x,hx⟩;simp only[z7j,hSk,Bool.false_or,Bool.and_eq_true]at st;obtain⟨⟨⟨⟨⟨s1,s2⟩,s3⟩,s4⟩,s5⟩,s6⟩:=st;have fs:(tbl led (lst m)).freeSlot (hashInt (nI x))=some (x,false):=by
   rw[show hashInt (nI x)=((x:Nat):Int) from z99 ⟨x,hx⟩];split at s1
   next j d e=>
    simp only[Bool.and_eq_true,beq_iff_eq]at s1;rw[e,s1.1,s1.2]
   next=>cases s1
  have e2:=beq_iff_eq.mp s2;have e3:=beq_iff_eq.mp s3;have e4:=beq_iff_eq.mp s4;have hxx:hashInt (nI x)=nI x:=z99 ⟨x,hx⟩;generalize hp:SetTable.below (tbl led (lst m)).place x=p at *;generalize hput:(tbl led (lst m)).put x=pt at *;obtain⟨t1,p1⟩:=pt;simp only at e3 e4 s5 s6;subst e3;have he1:EsOf (SetTable.insertAt es p1 (nI x,.int (nI x) t)) (lst (m ||| 2 ^ x)):=by rw[e2];exact he.add
  have hsz1:(SetTable.insertAt es p1 (nI x,Value.int (nI x) t)).size=(lst m).length+1:=by
   rw[he1.size,e2];unfold ins;simp;omega
  have hlay:layNew (tbl led (lst m)) es (hashInt (nI x)) (.int (nI x) t)=(SetTable.insertAt es p1 (nI x,.int (nI x) t),t1,false,false):=by
   unfold layNew;rw[fs];simp only[hput];rw[hxx,hsz1,SetTable.orStandIn,s5];rfl
  rw[hlay];dsimp only;refine wpAny_bind (wpAny_pure ?_);rw[e4];simp only[↓reduceIte];refine wpAny_bind ?_;rw[hashByValue_scannable 8 (x:=.int (nI x) t) rfl];refine wpAny_pure ?_;simp only[plainKind,↓reduceIte];have hz1:(SetTable.insertAt es p1 (nI x,Value.int (nI x) t)).size<=sizeLine:=by rw[hsz1,sizeLine_eq];omega
  refine wpAny_bind (wpAny_storeSet_of ho hd ?_ hz1);have g1:=z01 (SetTable.insertAt es p1 (nI x,.int (nI x) t)) t1 ho hd;have sb1:=Heap.SameBut.update s.heap a (Obj.putSet (SetTable.insertAt es p1 (nI x,Value.int (nI x) t)) t1);have hl1:=he1.size;cases htf:t1.tooFull with
  | false=>
   rw[htf]at s6;simp only[Bool.false_eq_true,↓reduceIte]at s6;have et:=z7f s6;simp only[Bool.not_false,Bool.true_and,Bool.false_eq_true,↓reduceIte];refine wpAny_pure (wpAny_pure ?_)
   have:=h _ sb1 ⟨_,_,_,g1,hex,by rw[et],he1,by rw[hl1];exact z0R _ _⟩;rw[hSk]at this;exact this
  | true=>
   rw[htf]at s6;simp only[↓reduceIte]at s6;have hmapk:(SetTable.insertAt es p1 (nI x,Value.int (nI x) t)).map (·.1)=((lst (m ||| 2 ^ x)).map fun(i:Nat)=>(i:Int)).toArray:=by
    apply Array.toList_inj.mp;rw[Array.toList_map,he1.1];rfl
   have hrl:relayAll t1 (SetTable.insertAt es p1 (nI x,Value.int (nI x) t)) (SetTable.grown (SetTable.insertAt es p1 (nI x,Value.int (nI x) t)).size)=(SetTable.insertAt es p1 (nI x,Value.int (nI x) t),tbl led (lst (m ||| 2 ^ x)),false):=by
    unfold relayAll;rw[hmapk,hsz1];split at s6
    next t2 od e=>
     simp only[Bool.and_eq_true,beq_iff_eq]at s6;rw[e];have et:=z7f s6.1.1;have eo:od=(List.range ((lst m).length+1)).toArray:=by rw[<-s6.1.2]
     have ef:od.filterMap (fun x_1=>(SetTable.insertAt es p1 (nI x,Value.int (nI x) t))[x_1]?)=SetTable.insertAt es p1 (nI x,Value.int (nI x) t):=by
      apply Array.toList_inj.mp;rw[Array.toList_filterMap,s6.1.2,<-hsz1];exact filterMap_getElem?_range _
     dsimp only;rw[ef,hsz1,et,s6.2];have ec:coversAll od ((lst m).length+1)=true:=by
      unfold coversAll;rw[s6.1.2];exact List.isPerm_iff.mpr (List.Perm.refl _)
     rw[ec];rfl
    next=>cases s6
   simp only[Bool.not_false,Bool.true_and,↓reduceIte];rw[hrl];dsimp only;refine wpAny_bind (wpAny_pure ?_);refine wpAny_bind (wpAny_storeSet_of g1 rfl ?_ hz1);have g2:=z01 (SetTable.insertAt es p1 (nI x,.int (nI x) t)) (tbl led (lst (m ||| 2 ^ x))) g1 rfl;refine wpAny_pure (wpAny_pure ?_)
   have:=h _ (sb1.trans (Heap.SameBut.update _ a _)) ⟨_,_,_,g2,hex,rfl,he1,by rw[hl1];exact z0R _ _⟩;rw[hSk]at this;exact this
end
noncomputable def mOf(val:Nat->Nat):Nat->Nat
 | 0=>0
 | i+1=>mOf val i ||| 2 ^ val i
theorem z5s{val:Nat->Nat}:∀{n:Nat},(∀i,i<n->val i<8)->mOf val n<256
 | 0,_=>by show 0<256;decide
 | n+1,h=>by
  have h1:=z5s (n:=n) fun i hi=>h i (Nat.lt_succ_of_lt hi);have h2:2 ^ val n<2 ^ 8:=Nat.pow_lt_pow_right (by decide) (h n (Nat.lt_succ_self n));exact Nat.or_lt_two_pow (n:=8) h1 h2
theorem z5k{val:Nat->Nat}(x:Nat):∀{n:Nat},(mOf val n).testBit x=true↔∃i,i<n/\val i=x
 | 0=>by simp[mOf]
 | n+1=>by
  rw[mOf,Nat.testBit_or,Nat.testBit_two_pow,Bool.or_eq_true,z5k x,decide_eq_true_eq];constructor
  ·rintro(⟨i,hi,e⟩ | e)
   ·exact⟨i,Nat.lt_succ_of_lt hi,e⟩
   ·exact⟨n,Nat.lt_succ_self n,e⟩
  ·rintro⟨i,hi,e⟩;by_cases h:i=n
   ·subst h;exact .inr e
   ·exact .inl ⟨i,by omega,e⟩
theorem SetAt.at{h h':Heap}{a:Addr}{led:Bool}{m:Nat}(x:SetAt h a led m)(e:∀o,h.get? a=some o->h'.get? a=some o):SetAt h' a led m:=by
 obtain⟨o,es,ep,ho,r⟩:=x;exact⟨o,es,ep,e _ ho,r⟩
section
variable{prog:Program}{w:World}{A:Around}{R:Result->Shared->Prop}{I:Addr}{fp wr:List Addr}{G:Array GenState->Array GenState->Prop}{n:Nat}{P:Nat->Value->Prop}{St:Nat->Shared->Prop}
theorem zCF(W:WalksS prog w A.in1 I fp wr G n P St)(S:Addr)(hSf:S∉fp)(val:Nat->Nat){led:Bool}
  (hval:∀i v,P i v->∃t,v=.int (nI (val i)) t) (h8:∀i,i<n->val i<8) :
  ∀(k i:Nat) (s:Shared),n - i=k->i<=n->St i s->SetAt s.heap S led (mOf val i)->
   (∀s',Moved (S::wr) G s s'->SetAt s'.heap S led (mOf val n)->R (.ok (.ret .none)) s')->
   codeAny (model prog w) A (.builtin "set.update.loop" ⟨[.ref S,.ref I],[]⟩) R s:=by
 have hSw:S∉wr:=fun h=>hSf (W.sub _ h);have hsub:∀b∈wr,b∈S::wr:=fun b hb=>List.mem_cons_of_mem _ hb;intro k
 induction k with
 | zero=>
  intro i s hk hi hst hS hR;obtain rfl:i=n:=by omega
  refine codeAny_builtin PyProof.Rows.F.entry_set_update_loop ?_;rw[Around.under_plainId PyProof.Rows.F.plain_set_update_loop _];show wpAny _ A.in1 (pyNext (.ref I) >>= _) _ _ s;refine wpAny_bind (W.done s _ _ hst fun s' hm=>?_);show wpAny _ A.in1 (ret Value.none) _ _ s';exact wpAny_pure (hR s' (hm.mono hsub) (hS.at fun o e=>hm.heap S _ hSw e))
 | succ k ih=>
  intro i s hk hi hst hS hR;have hlt:i<n:=by omega
  refine codeAny_builtin PyProof.Rows.F.entry_set_update_loop ?_;rw[Around.under_plainId PyProof.Rows.F.plain_set_update_loop _];show wpAny _ A.in1 (pyNext (.ref I) >>= _) _ _ s;refine wpAny_bind (W.item i s _ _ hlt hst fun v s' hP hst' hm=>?_);obtain⟨t,rfl⟩:=hval i v hP;have hS':SetAt s'.heap S led (mOf val i):=hS.at fun o e=>hm.heap S _ hSw e;show wpAny _ A.in1 (holding [Value.int (nI (val i)) t] (setAdd S (.int (nI (val i)) t)) >>= _) _ _ s';refine wpAny_bind (wpAny_holding ?_);unfold setAdd;refine wpAny_holding ?_;refine wpAny_bind (wpAny_pyHash_int ?_);refine z8l (s:={ s' with toks:=s'.toks+1 }) (z5s fun j hj=>h8 j (by omega)) (h8 i hlt) hS' fun h' hsb hS2=>?_;refine wpAny_pure ⟨plainId_quiet PyProof.Rows.F.plain_set_update_loop _,ih (i+1) _ (by omega) hlt (W.frame _ s' _ _ hst' (Nat.le_succ _) fun b hb o e=>?_) hS2 fun s'' hm'' hS''=>?_⟩
  ·rw[hsb.2 b (fun h:b=S=>hSf (by rw[<-h];exact hb))];exact e
  ·refine hR s'' (Moved.trans W.gtrans ((hm.mono hsub).then_heap (Nat.le_succ _) fun b o hb e=>?_) hm'') hS'';rw[hsb.2 b (fun h:b=S=>hb (by rw[h];exact List.mem_cons_self))];exact e
end
section
variable{prog:Program}{w:World}{A:Around}{E:Value->Shared->Prop}{s:Shared}
noncomputable abbrev yS(w:World):Bool:=!w.params.followText "set-order"
noncomputable abbrev oSet(led:Bool):Obj:={ cls:=.type "set",dict:=none,data:=.set #[] 0 (.fresh 0 0 led) }
theorem z9F(a:Value){Q₁:Value->Shared->Prop}(h:Q₁ (.ref s.heap.objs.size) { s with heap:=s.heap.push (oSet (yS w)) }):
  codeAny (model prog w) A (.call (.builtin "set.__new__") ⟨[.type "set",a],[]⟩) (wants Q₁ E) s:=by
 refine codeAny_of_tree ?_;show wpAny _ A.in1 (do checkBuiltinCall "set.__new__" ⟨[.type "set",a],[]⟩;again (.builtin "set.__new__" ⟨[.type "set",a],[]⟩)) _ _ s;refine wpAny_bind (wpAny_of_eq (PySem.F.newCall_set_1 a) (wpAny_pure ⟨plainId_quiet PySem.F.plain_set_new _,codeAny_builtin PySem.F.entry_set_new ?_⟩));rw[Around.under_plainId PySem.F.plain_set_new _];unfold Builtin.«set.__new__» Builtin.Frozenset.newClass;have hsub:=sub_set_self;obtain⟨hp,g,d,tk,os⟩:=s;dsimp only
 wp_walk
 refine wpAny_askSetting (wpAny_pure ?_);dsimp only;simp only[newObj];refine wpAny_bind (wpAny_alloc (wpAny_pure ?_));exact wpAny_pure h
theorem z5q{h:Heap}{a:Addr}{led:Bool}(e:h.get? a=some (oSet led)):SetAt h a led 0:=by
 have h0:lst 0=[]:=by decide
 refine⟨_,#[],0,e,⟨rfl,rfl,rfl⟩,?_,?_,?_⟩
 ·rw[h0];rfl
 ·rw[h0];exact⟨rfl,fun e he=>nomatch he⟩
 ·have:=z0R led 0;rw[h0]at this |-;exact this
theorem z61{l:Addr}{items:Array Value}{val:Nat->Nat}{Q:Value->Shared->Prop}
  (hh:A.handled=none) (hl:s.heap.IsList l items) (hv:∀(i:Nat) (v:Value),items[i]?=some v->∃t,v=.int (nI (val i)) t) (h8:∀i,i<items.size->val i<8)
  (h:∀(h':Heap) (tk:Nat),SetAt h' s.heap.objs.size (yS w) (mOf val items.size)->(∀b o,s.heap.get? b=some o->h'.get? b=some o)->Q (.ref s.heap.objs.size) { s with heap:=h',toks:=tk }) :
  wpAny (model prog w) A (call (.type "set") [.ref l]) Q E s:=by
 obtain⟨c,tl,hmro⟩:=PySem.F.called_set.mro;have hmade:=PySem.F.called_set.made;have hsub:=PySem.F.called_set.sub;refine wpAny_call (codeAny_of_tree ?_);show wpAny _ _ (callAny (.type "set") _) _ _ _;refine wpAny_pure ⟨Code.quiet_builtin _ (by decide +kernel),codeAny_builtin PySem.F.entry_type_call ?_⟩;rw[Around.under_plain (weight_type_call_type "set" [.ref l] []) rfl];have h1:=PySem.F.called_set.notType;have h2:=PySem.F.called_set.canCreate;have hct:=PySem.F.typeCall_set_1 (.ref l)
 repeat (any_goals (first | assumption | wp_step))
 refine codeAny_mono (z9F (.ref l) (E:=E) (Q₁:=fun obj s₁=>obj=.ref s.heap.objs.size/\s₁={ s with heap:=s.heap.push (oSet (yS w)) }) ⟨rfl,rfl⟩) fun r s₁ hr=>?_;cases r with
 | error e=>exact hr
 | ok fl=>
  cases fl with
  | ret obj=>
   obtain⟨rfl,rfl⟩:=hr;have hS:(s.heap.push (oSet (yS w))).get? s.heap.objs.size=some (oSet (yS w)):=Heap.get?_push_size _ rfl;have hT:Shared.TypeIs { s with heap:=s.heap.push (oSet (yS w)) } (.ref s.heap.objs.size) "set":=⟨_,hS,rfl⟩;have hli:=PySem.F.called_set.init.lookup;have hbi:=PySem.F.called_set.init.bind (.ref s.heap.objs.size)
   repeat (any_goals (first | assumption | wp_step))
   refine codeAny_mono (codeAny_call_builtin (R:=wants (fun r s₂=>r=.none/\∃h' tk,s₂={ s with heap:=h',toks:=tk }/\SetAt h' s.heap.objs.size (yS w) (mOf val items.size)/\
     (∀b o,s.heap.get? b=some o->h'.get? b=some o)) E) PySem.F.called_set.init.plain PySem.F.entry_set_init (check_set_init_1 hT ?_)) fun r₂ s₂ hr₂=>?_
   ·obtain⟨ol,hol,hcl,nl,hdl⟩:=hl;obtain⟨ocls,odict,odata,oslots⟩:=ol;simp only at hcl hdl;subst hcl;subst hdl;have hol':(s.heap.push (oSet (yS w))).get? l=some { cls:=.type "list",dict:=odict,data:=.seq items nl,slots:=oslots }:=Heap.get?_push_of_some _ hol;have hsls:=PySem.F.sub_list_set;have hslf:=PySem.F.sub_list_frozenset;have hne:(Value.type "list" == Value.type "dict")=false:=by decide
    have hl1:(s.heap.push (oSet (yS w))).IsList l items:=⟨_,hol',rfl,nl,rfl⟩;unfold Builtin.«set.__init__» noKeywords Builtin.Frozenset.updateFrom;generalize hPI:pyIter=PI
    wp_walk
    subst hPI;refine wpAny_pyIter_list hl1 ?_;refine wpAny_bind (wpAny_runValue ?_);have hlS:l<s.heap.objs.size:=Heap.lt_size hol;have hh3:A.in1.in1.in1.handled=none:=by simp[hh]
    have hneI:l≠(s.heap.push (oSet (yS w))).objs.size:=by
     rw[Heap.size_push];exact Nat.ne_of_lt (Nat.lt_succ_of_lt hlS)
    have hSf:s.heap.objs.size∉[(s.heap.push (oSet (yS w))).objs.size,l]:=by
     rw[Heap.size_push];simp only[List.mem_cons,List.mem_singleton,List.not_mem_nil,or_false,not_or];exact⟨Nat.ne_of_lt (Nat.lt_succ_self _),Nat.ne_of_gt hlS⟩
    refine zCF ((Walks.list hh3 _ l hneI items).toS) s.heap.objs.size hSf val (led:=yS w) hv h8 (items.size - 0) 0 _ (by omega) (Nat.zero_le _)
     ⟨⟨_,Heap.get?_push_size _ rfl,rfl,rfl⟩,(hl1.push _)⟩ (z5q (Heap.get?_push_of_some _ hS)) ?hR
    case hR=>
     intro s' hm hS';obtain⟨h',g',d',tk',os'⟩:=s';have eg:g'=s.gens:=hm.gens;have ed:d'=s.drawn:=hm.drawn;have eo:os'=s.os:=hm.os;subst eg;subst ed;subst eo;show wpAny _ _ _ _ _ _;refine wpAny_pure ?_;show wpAny _ _ (ret Value.none) _ _ _;refine wpAny_pure ⟨rfl,h',tk',rfl,hS',fun b o e=>?_⟩;have hb:=Heap.lt_size e;have hb1:b≠s.heap.objs.size:=Nat.ne_of_lt hb;have hb2:b≠(s.heap.push (oSet (yS w))).objs.size:=by
      rw[Heap.size_push];exact Nat.ne_of_lt (Nat.lt_succ_of_lt hb)
     exact hm.heap b o (by simp only[List.mem_cons,List.mem_singleton,List.not_mem_nil,or_false,not_or];exact⟨hb1,hb2⟩) (Heap.get?_push_of_some _ (Heap.get?_push_of_some _ e))
   ·cases r₂ with
    | error e=>exact hr₂
    | ok fl₂=>
     cases fl₂ with
     | ret r=>
      obtain⟨rfl,h',tk,rfl,hS',hk'⟩:=hr₂
      repeat (any_goals (first | assumption | wp_step))
      exact h _ _ hS' hk'
     | next=>exact hr₂.elim
     | brk=>exact hr₂.elim
     | cont=>exact hr₂.elim
  | next=>exact hr.elim
  | brk=>exact hr.elim
  | cont=>exact hr.elim
end
theorem si_slot_next:Slot "set_iterator" "__next__" "set_iterator.__next__":=
 .of (owner:="set_iterator") (n:="__next__") (by rw[typeLookup_type,builtinLookup_eq_fast];kernel_rfl) (by decide +kernel) (by decide +kernel) (by decide +kernel)
  (by first | exact .inl (by decide +kernel) | exact .inr (by decide +kernel)) (by rw[isSubtype_type];kernel_rfl)
theorem wl:Slot "set_iterator" "__iter__" "set_iterator.__iter__":=
 .of (owner:="set_iterator") (n:="__iter__") (by rw[typeLookup_type,builtinLookup_eq_fast];kernel_rfl) (by decide +kernel) (by decide +kernel) (by decide +kernel)
  (by first | exact .inl (by decide +kernel) | exact .inr (by decide +kernel)) (by rw[isSubtype_type];kernel_rfl)
theorem wA:entryFor table "set_iterator.__next__"=some Builtin.«set_iterator.__next__»:=entryFor_of_tree (by kernel_rfl)
theorem z0j:entryFor table "set_iterator.__iter__"=some Builtin.«dict_keyiterator.__iter__»:=
 entryFor_alias (id':="dict_keyiterator.__iter__") (by kernel_rfl) rfl (by decide +kernel) (by kernel_rfl)
theorem wZ(a:Value):argsOk "set_iterator.__next__" ⟨[a],[]⟩:=by unfold argsOk;kernel_rfl
theorem z1S(a:Value):argsOk "set_iterator.__iter__" ⟨[a],[]⟩:=by unfold argsOk;kernel_rfl
theorem z1e:entryFor table "set.__iter__"=some Builtin.«frozenset.__iter__»:=
 entryFor_alias (id':="frozenset.__iter__") (by kernel_rfl) rfl (by decide +kernel) (by kernel_rfl)
theorem z4h{α:Type}(next:Nat->Nat):∀(fuel k:Nat) (left:List α) (out:Array α),left.length<=fuel->(pickOrder.go next fuel k left out).toList.Perm (out.toList++left)
 | 0,k,left,out,h=>by
  obtain rfl:left=[]:=List.eq_nil_of_length_eq_zero (by omega);simp[pickOrder.go]
 | fuel+1,k,left,out,h=>by
  unfold pickOrder.go;cases e:left[next k % left.length]? with
  | none=>
   have:left=[]:=by
    cases left with
    | nil=>rfl
    | cons a l=>
     rw[List.getElem?_eq_none_iff]at e
     have:=Nat.mod_lt (next k) (y:=(a::l).length) (by simp);omega
   subst this;simp
  | some x=>
   obtain⟨hi,ex⟩:=List.getElem?_eq_some_iff.mp e;refine(z4h next fuel (k+1) _ _ ?_).trans ?_
   ·rw[List.length_eraseIdx];simp[hi];omega
   ·rw[Array.toList_push,List.append_assoc];refine List.Perm.append_left _ ?_;rw[<-ex];have e3:left=left.take (next k % left.length)++left[next k % left.length]::left.drop (next k % left.length+1):=by
     conv=>lhs;rw[<-List.take_append_drop (next k % left.length) left,List.drop_eq_getElem_cons hi]
    rw[List.eraseIdx_eq_take_drop_succ];have e4:=List.perm_middle (a:=left[next k % left.length]) (l₁:=left.take (next k % left.length)) (l₂:=left.drop (next k % left.length+1));rw[<-e3]at e4;exact e4.symm
theorem z4E{α:Type}(next:Nat->Nat)(xs:Array α):(pickOrder next xs).toList.Perm xs.toList:=by
 have:=z4h next xs.size 0 xs.toList #[] (by simp)
 simpa[pickOrder]using this
noncomputable def z18(l:List Nat)(i:Nat):Nat:=if i=0 then 0 else l.getD (i - 1) 0+1
theorem z4T:∀m:Fin 256,∀i:Fin 9,(decide (i.1<=(lst m.1).length))=true->SetTable.below (lst m.1).toArray (z18 (lst m.1) i.1)=i.1:=by decide +kernel
theorem z5I(led:Bool)(l:List Nat):(tbl led l).place=l.toArray:=by unfold tbl;split<;>rfl
theorem z9S(led:Bool)(l:List Nat):(tbl led l).led=led:=by unfold tbl;split<;>rfl
theorem z1P(led:Bool)(l:List Nat):(tbl led l).plain=true:=by unfold tbl;split<;>rfl
section
variable{prog:Program}{w:World}{A:Around}{E:Value->Shared->Prop}{s:Shared}
def SetIs(h:Heap)(a:Addr)(led:Bool)(m:Nat)(es:Array (Int×Value))(ep:Nat):Prop:=∃o,h.get? a=some o/\o.ExactSet/\o.data=.set es ep (tbl led (lst m))/\EsOf es (lst m)/\(tbl led (lst m)).fits es.size=true
noncomputable def xU(w:World)(S ep:Nat)(es:Array (Int×Value)):Array (Int×Value):=if w.params.followText "set-order"=true then pickOrder (w.params.setOrder S ep) es else es
theorem wy(w:World)(S ep:Nat)(es:Array (Int×Value)):(xU w S ep es).toList.Perm es.toList:=by
 unfold xU;split
 ·exact z4E _ _
 ·exact .refl _
noncomputable def slOf(w:World)(l:List Nat)(i:Nat):Nat:=if w.params.followText "set-order"=true then 0 else z18 l i
theorem z3F{a:Addr}{m ep i:Nat}{es:Array (Int×Value)}{Q:Option (Value×Nat)->Shared->Prop}(hm:m<256)(hi:i<=es.size)(hS:SetIs s.heap a (!w.params.followText "set-order") m es ep)
  (h:Q ((xU w a ep es)[i]?.map fun e=>(e.2,slOf w (lst m) (i+1))) s):wpAny (model prog w) A (setNext a (slOf w (lst m) i) i ep) Q E s:=by
 obtain⟨o,ho,hex,hd,he,hf⟩:=hS;unfold setNext;refine wpAny_bind (wpAny_setState_of ho hd hf ?_);dsimp only;unfold setsByText;refine wpAny_bind (wpAny_bind (wpAny_askSetting (wpAny_pure ?_)));show wpAny _ _ (if w.params.followText "set-order"=true then _ else _) _ _ s;cases hb:w.params.followText "set-order" with
 | true=>
  simp only[↓reduceIte,bne_self_eq_false,Bool.false_eq_true];unfold setWalk;refine wpAny_bind (wpAny_bind (wpAny_setState_of ho hd hf ?_));dsimp only;unfold setsByText;refine wpAny_bind (wpAny_bind (wpAny_askSetting (wpAny_pure ?_)));show wpAny _ _ (if w.params.followText "set-order"=true then _ else _) _ _ s;rw[hb];simp only[↓reduceIte];refine wpAny_bind (wpAny_askSetting (wpAny_pure (wpAny_pure ?_)));simp only[xU,slOf,hb,↓reduceIte]at h |-;exact h
 | false=>
  simp only[Bool.false_eq_true,↓reduceIte];split
  next hdr=>
   have:(!(tbl (!false) (lst m)).plain && decide (es.size>1))=true:=hdr;rw[z1P]at this;simp at this
  next hdr=>
   refine wpAny_bind ?_;show wpAny _ _ (if (!(tbl (!false) (lst m)).led && !es.isEmpty)=true then unsupported "set:maker-not-led" else pure ()) _ _ s;rw[z9S];simp only[Bool.not_false,Bool.not_true,Bool.false_and,Bool.false_eq_true,↓reduceIte];refine wpAny_pure (wpAny_pure ?_);simp only[xU,slOf,hb,Bool.false_eq_true,↓reduceIte]at h |-;rw[z5I];have hln:=u7 m;have hsz:=he.size;rw[z4T ⟨m,hm⟩ ⟨i,by omega⟩ (decide_eq_true (by show i<=(lst m).length;omega))];by_cases hlt:i<es.size
   ·have e1:es[i]?=some es[i]:=Array.getElem?_eq_getElem hlt;have hl2:i<(lst m).length:=by omega
    have e2:(lst m).toArray[i]?=some (lst m)[i]:=by simp[hl2]
    rw[e1,e2];rw[e1]at h;have e3:z18 (lst m) (i+1)=(lst m)[i]+1:=by
     unfold z18;rw[if_neg (Nat.succ_ne_zero i),Nat.add_sub_cancel,List.getD_eq_getElem?_getD,List.getElem?_eq_getElem hl2];rfl
    rw[e3]at h;exact h
   ·have e1:es[i]?=none:=Array.getElem?_eq_none (by omega);rw[e1]at h |-;exact h
end
section
variable{prog:Program}{w:World}{A:Around}{E:Value->Shared->Prop}{s:Shared}
theorem SetIs.at{h h':Heap}{a:Addr}{led:Bool}{m ep:Nat}{es:Array (Int×Value)}(x:SetIs h a led m es ep)(e:∀o,h.get? a=some o->h'.get? a=some o):SetIs h' a led m es ep:=by
 obtain⟨o,ho,r⟩:=x;exact⟨o,e _ ho,r⟩
def IsSI(h:Heap)(I S n ep sl i:Nat):Prop:=∃o,h.get? I=some o/\o.cls=.type "set_iterator"/\o.data=.fields #[.int (sl:Int) 0,.int (i:Int) 0,.ref S,.int (n:Int) 0,.int (ep:Int) 0]
theorem IsSI.typeIs{I S n ep sl i:Nat}(x:IsSI s.heap I S n ep sl i):s.TypeIs (.ref I) "set_iterator":=let⟨o,ho,hc,_⟩:=x;⟨o,ho,hc⟩
theorem z8L{I S m ep i:Nat}{es:Array (Int×Value)}{x:Int×Value}{Q:Option Value->Shared->Prop}(hm:m<256)(hi:i<es.size)(hit:IsSI s.heap I S es.size ep (slOf w (lst m) i) i)(hS:SetIs s.heap S (yS w) m es ep)(hx:(xU w S ep es)[i]?=some x)
  (hQ:∀h',IsSI h' I S es.size ep (slOf w (lst m) (i+1)) (i+1)->Heap.SameBut I s.heap h'->Q (some x.2) { s with heap:=h' }):wpAny (model prog w) A (pyNext (.ref I)) Q E s:=by
 obtain⟨o,ho,hc,hd⟩:=id hit;unfold pyNext;refine wpAny_bind (wpAny_attempt (wpAny_callSpecial?_slot (name:=Str.ofString "__next__") hit.typeIs si_slot_next (wpAny_call_entry si_slot_next hit.typeIs wA ?_ (wZ _))));show wpAny _ _ (fieldsOf (.ref I) >>= _) _ _ s;refine wpAny_bind (wpAny_fieldsOf ho hd ?_);dsimp only;obtain⟨oS,hoS,hexS,hdS,heS,hfS⟩:=id hS;show wpAny _ _ (setEntries S >>= _) _ _ s;refine wpAny_bind (wpAny_setEntries_of hoS hdS hfS ?_);rw[if_neg (by simp)];show wpAny _ _ (setNext S ((slOf w (lst m) i:Nat):Int).toNat ((i:Nat):Int).toNat ((ep:Nat):Int).toNat >>= _) _ _ s;simp only[Int.toNat_natCast];refine wpAny_bind (z3F hm (Nat.le_of_lt hi) hS ?_);rw[hx];dsimp only[Option.map_some];refine wpAny_bind (wpAny_setField ho hd (by simp) ?_);have g1:(s.heap.update I (Obj.mapFields (·.setIfInBounds 0 (rawInt (slOf w (lst m) (i+1)))))).get? I=some _:=Heap.get?_update_self _ ho (Obj.isFreed_of_fields (Obj.data_mapFields hd _));refine wpAny_bind (wpAny_setField g1 (Obj.data_mapFields hd _) (by simp) (wpAny_pure ⟨x.2,rfl,wpAny_pure (hQ _ ?_ ((Heap.SameBut.update ..).trans (Heap.SameBut.update ..)))⟩));refine⟨_,Heap.get?_update_self _ g1 (Obj.isFreed_of_fields (Obj.data_mapFields (Obj.data_mapFields hd _) _)),(Obj.cls_mapFields ..).trans ((Obj.cls_mapFields ..).trans hc),?_⟩;rw[Obj.data_mapFields (Obj.data_mapFields hd _)];simp[rawInt]
theorem zB5{I S m ep:Nat}{es:Array (Int×Value)}{Q:Option Value->Shared->Prop}(hh:A.handled=none)(hm:m<256)(hit:IsSI s.heap I S es.size ep (slOf w (lst m) es.size) es.size)(hS:SetIs s.heap S (yS w) m es ep)
  (hQ:∀h',Heap.ExtBut I s.heap h'->Q none { s with heap:=h' }):wpAny (model prog w) A (pyNext (.ref I)) Q E s:=by
 obtain⟨o,ho,hc,hd⟩:=id hit;unfold pyNext;refine wpAny_bind (wpAny_attempt (wpAny_callSpecial?_slot (name:=Str.ofString "__next__") hit.typeIs si_slot_next (wpAny_call_entry si_slot_next hit.typeIs wA ?_ (wZ _))));show wpAny _ _ (fieldsOf (.ref I) >>= _) _ _ s;refine wpAny_bind (wpAny_fieldsOf ho hd ?_);dsimp only;obtain⟨oS,hoS,hexS,hdS,heS,hfS⟩:=id hS;show wpAny _ _ (setEntries S >>= _) _ _ s;refine wpAny_bind (wpAny_setEntries_of hoS hdS hfS ?_);rw[if_neg (by simp)];show wpAny _ _ (setNext S ((slOf w (lst m) es.size:Nat):Int).toNat ((es.size:Nat):Int).toNat ((ep:Nat):Int).toNat >>= _) _ _ s;simp only[Int.toNat_natCast];refine wpAny_bind (z3F hm (Nat.le_refl _) hS ?_);have hx:(xU w S ep es)[es.size]?=none:=by
  have:=(wy w S ep es).length_eq;exact Array.getElem?_eq_none (by simpa using Nat.le_of_eq this)
 rw[hx];dsimp only[Option.map_none];refine wpAny_bind (wpAny_setField ho hd (by simp) ?_);show wpAny _ _ (newExc (.type "StopIteration") [] >>= _) _ _ _;refine wpAny_bind ?_;simp only[newExc,newTuple];refine wpAny_bind (wpAny_newObj_type ?_ (by size_fits));refine wpAny_bind (m:=firstArgMember _ _) (wpAny_of_eq (a:=Value.none) (by first | rfl | (simp only[firstArgMember];rfl)) ?_);refine wpAny_newObj_type ?_ (by size_fits);simp only[raiseNew];refine wpAny_bind (wpAny_handled ?_);rw[show A.in1.handled=none from hh];refine wpAny_bind (wpAny_pure (wpAny_throw ?_));refine wpAny_bind (wpAny_isInstance (T:="StopIteration") (b:=true) ⟨_,Heap.get?_push_size _ rfl,rfl⟩ isSubtype_stop ?_);exact wpAny_pure (hQ _ (((Heap.SameBut.update ..).extBut.push _).push _))
theorem z9U{I S n ep sl i:Nat}{Q:Value->Shared->Prop}(hit:IsSI s.heap I S n ep sl i)(h:Q (.ref I) s):wpAny (model prog w) A (pyIter (.ref I)) Q E s:=by
 refine wpAny_pyIter_slot hit.typeIs wl (wpAny_call_entry wl hit.typeIs z0j ?_ (z1S _));show wpAny _ _ (ret (.ref I)) _ _ s;exact wpAny_pure ⟨_,rfl,"set_iterator",_,hit.typeIs,si_slot_next.lookup,h⟩
theorem zBZ(hh:A.handled=none)(I S:Addr)(hne:S≠I){m ep:Nat}{es:Array (Int×Value)}(hm:m<256):
  PySem.Walks prog w A I [I,S] [I] es.size (fun i v=>((xU w S ep es)[i]?.map (·.2))=some v) (fun i h=>IsSI h I S es.size ep (slOf w (lst m) i) i/\SetIs h S (yS w) m es ep) where
 sub:=fun b hb=>by simp at hb;simp[hb]
 frame:=fun _ _ _ st hk=>⟨let⟨o,ho,r⟩:=st.1;⟨o,hk I (by simp) o ho,r⟩,st.2.at fun o e=>hk S (by simp) o e⟩
 item:=fun i s Q E hi st hQ=>by
  have hl:=(wy w S ep es).length_eq;have hi':i<(xU w S ep es).size:=by simpa using (by rw[Array.length_toList,Array.length_toList]at hl;omega:i<(xU w S ep es).size)
  refine z8L hm hi st.1 st.2 (x:=(xU w S ep es)[i]) (Array.getElem?_eq_getElem hi') fun h' hit' hs'=>?_;exact hQ _ h' s.toks (by rw[Array.getElem?_eq_getElem hi'];rfl) ⟨hit',st.2.at fun o e=>hs'.extBut S o hne e⟩ fun b o hb e=>hs'.extBut b o (fun h=>hb (by simp[h])) e
 done:=fun s Q E st hQ=>zB5 hh hm st.1 st.2 fun h' he'=>hQ h' s.toks fun b o hb e=>he' b o (fun h=>hb (by simp[h])) e
 self:=fun _ _ _ _ st hQ=>z9U st.1 hQ
theorem zC9{S m ep:Nat}{es:Array (Int×Value)}{Q:Value->Shared->Prop}(hS:SetIs s.heap S (yS w) m es ep)
  (hQ:Q (.ref s.heap.objs.size) { s with heap:=s.heap.push { cls:=.type "set_iterator",data:=.fields #[.int 0 0,.int 0 0,.ref S,.int (es.size:Int) 0,.int (ep:Int) 0] } }):wpAny (model prog w) A (pyIter (.ref S)) Q E s:=by
 obtain⟨o,ho,hex,hd,he,hf⟩:=hS;have hT:s.TypeIs (.ref S) "set":=⟨o,ho,hex.1⟩;refine wpAny_pyIter_slot hT F.slot_set_iter (wpAny_call_entry F.slot_set_iter hT z1e ?_ (F.args_set_iter_1 _));show wpAny _ _ (Builtin.Frozenset.sizeOf S >>= _) _ _ s;unfold Builtin.Frozenset.sizeOf;refine wpAny_bind (wpAny_bind (wpAny_setEntries_of ho hd hf (wpAny_pure ?_)));unfold setDrawn;refine wpAny_bind (wpAny_bind (wpAny_setState_of ho hd hf ?_));dsimp only;unfold setsByText;refine wpAny_bind (wpAny_bind (wpAny_askSetting (wpAny_pure ?_)));refine wpAny_pure ?_;have nd:(!w.params.followText "set-order" && (!(tbl (yS w) (lst m)).plain && decide (es.size>1)))=false:=by rw[z1P];simp
 rw[if_neg (fun z=>by
  have z':(!w.params.followText "set-order" && (!(tbl (yS w) (lst m)).plain && decide (es.size>1)))=true:=z;rw[nd]at z';cases z')]
 refine wpAny_bind (wpAny_pure ?_);unfold setEpoch;refine wpAny_bind (wpAny_bind (wpAny_setState_of ho hd hf (wpAny_pure ?_)));exact wpAny_bind (wpAny_newObj_type (wpAny_pure ⟨_,rfl,"set_iterator",_,⟨_,Heap.get?_push_size _ rfl,rfl⟩,si_slot_next.lookup,hQ⟩))
end
theorem zBa:typeLookup (.type "set") "__len__"=pure (some (.builtin "set.__len__")):=by rw[typeLookup_type,builtinLookup_eq_fast];kernel_rfl
section
variable{prog:Program}{w:World}{A:Around}{E:Value->Shared->Prop}{s:Shared}
theorem z7Y{S m ep:Nat}{es:Array (Int×Value)}{Q:List Value->Shared->Prop}(hh:A.handled=none)(hm:m<256)(hS:SetIs s.heap S (yS w) m es ep)
  (hQ:∀h' tk,(∀b o,s.heap.get? b=some o->h'.get? b=some o)->Q ((xU w S ep es).toList.map (·.2)) { s with heap:=h',toks:=tk }) :
  wpAny (model prog w) A (collect (.ref S)) Q E s:=by
 obtain⟨o,ho,hex,hd,he,hf⟩:=id hS;have hln:=u7 m;have hsz:=he.size;have hSlt:=Heap.lt_size ho;unfold collect;refine wpAny_bind (wpAny_runValue (codeAny_builtin F.entry_proto_collect ?_));rw[Around.under_plainId F.plain_proto_collect _];show wpAny _ A.in1 (newList [] >>= fun l=>again (.builtin "list.__iadd__" ⟨[l,.ref S],[]⟩)) _ _ s;refine wpAny_bind (wpAny_newObj_type ?_);refine wpAny_pure ⟨plainId_quiet F.plain_list_iadd _,codeAny_builtin F.entry_list_iadd ?_⟩;rw[Around.under_plainId F.plain_list_iadd _];show wpAny _ A.in1 (Builtin.List.listExtendWith (.ref s.heap.objs.size) (.ref S) (.ref s.heap.objs.size)) _ _ _;unfold Builtin.List.listExtendWith;generalize hH:s.heap.push { cls:=.type "list",data:=.seq ([]:List Value).toArray }=H;have hHs:H.objs.size=s.heap.objs.size+1:=by rw[<-hH,Heap.size_push]
 have keep:∀b ob,s.heap.get? b=some ob->H.get? b=some ob:=fun b ob e=>hH▸Heap.get?_push_of_some _ e;have hS1:SetIs H S (yS w) m es ep:=hS.at fun ob e=>keep S ob e;have hT:Shared.TypeIs { s with heap:=H } (.ref S) "set":=⟨o,keep _ _ ho,hex.1⟩;refine wpAny_bind (wpAny_typeOf (T:="set") (v:=.ref S) hT ?_);have hSI:s.heap.objs.size≠S:=Nat.ne_of_gt hSlt;have h1:Builtin.List.listSameRef (.ref s.heap.objs.size) (.ref S)=false:=by simp[Builtin.List.listSameRef,hSI]
 have h2:(Value.type "set" == Value.type "list")=false:=by decide
 have h3:(Value.type "set" == Value.type "tuple")=false:=by decide
 simp only[h1,h2,h3,Bool.or_false,Bool.false_eq_true,if_false];refine wpAny_bind (zC9 (s:={ s with heap:=H }) hS1 ?_);have hT2:Shared.TypeIs { s with heap:=H.push { cls:=.type "set_iterator",data:=.fields #[.int 0 0,.int 0 0,.ref S,.int (es.size:Int) 0,.int (ep:Int) 0] } } (.ref S) "set":=⟨o,Heap.get?_push_of_some _ (keep _ _ ho),hex.1⟩;refine wpAny_bind (wpAny_holding ?_);unfold Builtin.List.listLengthHint;refine wpAny_bind (wpAny_specialOf (T:="set") (v:=.ref S) hT2 zBa ?_)
 wp_delta
 refine wpAny_bind (wpAny_isInstance (T:="set") (v:=.ref S) (b:=true) hT2 (by rw[isSubtype_type];kernel_rfl) ?_);show wpAny _ A.in1 (typeOf (Value.ref S) >>= _) _ _ _;refine wpAny_bind (wpAny_typeOf (T:="set") (v:=.ref S) hT2 ?_);refine wpAny_pure ?_;rw[if_pos (by decide)];have hSf:s.heap.objs.size∉[H.objs.size,S]:=by
  rw[hHs];simp only[List.mem_cons,List.mem_singleton,List.not_mem_nil,or_false,not_or];exact⟨Nat.ne_of_lt (Nat.lt_succ_self _),hSI⟩
 have hL:(H.push { cls:=.type "set_iterator",data:=.fields #[.int 0 0,.int 0 0,.ref S,.int (es.size:Int) 0,.int (ep:Int) 0] }).get? s.heap.objs.size=some { cls:=.type "list",data:=.seq ([]:List Value).toArray }:=Heap.get?_push_of_some _ (hH▸Heap.get?_push_size _ rfl);have hneI:S≠H.objs.size:=by rw[hHs];exact Nat.ne_of_lt (Nat.lt_succ_of_lt hSlt)
 have hs0:slOf w (lst m) 0=0:=by unfold slOf z18;simp
 refine wpAny_bind (wpAny_rule ?_);unfold Builtin.List.listTouch;refine wpAny_bind (wpAny_bind (listUpdate_at hL rfl ?_ (by decide) (by decide)));have g1:=Heap.get?_update_self (Obj.mapSeq (·.push .none)) hL rfl;refine listUpdate_at g1 rfl ?_ (by decide) (by decide);have g2:=Heap.get?_update_self (Obj.mapSeq (·.pop)) g1 rfl;have sb:=(Heap.SameBut.update (H.push { cls:=.type "set_iterator",data:=.fields #[.int 0 0,.int 0 0,.ref S,.int (es.size:Int) 0,.int (ep:Int) 0] }) s.heap.objs.size (Obj.mapSeq (·.push .none))).trans (Heap.SameBut.update _ s.heap.objs.size (Obj.mapSeq (·.pop)));generalize hH2:((H.push { cls:=.type "set_iterator",data:=.fields #[.int 0 0,.int 0 0,.ref S,.int (es.size:Int) 0,.int (ep:Int) 0] }).update s.heap.objs.size (Obj.mapSeq (·.push .none))).update s.heap.objs.size (Obj.mapSeq (·.pop))=H2 at g2 sb |-;have hIT:H2.get? H.objs.size=some { cls:=.type "set_iterator",data:=.fields #[.int 0 0,.int 0 0,.ref S,.int (es.size:Int) 0,.int (ep:Int) 0] }:=sb.extBut _ _ (by rw[hHs];exact Nat.ne_of_gt (Nat.lt_succ_self _)) (Heap.get?_push_size _ rfl);have hI0:IsSI H2 H.objs.size S es.size ep (slOf w (lst m) 0) 0:=by
  rw[hs0];exact⟨_,hIT,rfl,rfl⟩
 have hS2:SetIs H2 S (yS w) m es ep:=hS1.at fun ob e=>sb.extBut _ _ (Ne.symm hSI) (Heap.get?_push_of_some _ e);refine wpAny_pure ⟨plainId_quiet F.plain_extend_loop _,codeAny_extend_loopS (zBZ (A:=A.in1) (ep:=ep) (es:=es) hh H.objs.size S hneI hm).toS (by rw[sizeLine_eq];omega) _ hSf _ es.size 0 _ _ _ rfl (Nat.zero_le _) ⟨hI0,hS2⟩ g2 (ItemsOf.nil _) fun s' acc' c' hmv hS' hacc=>?_⟩;show wpAny _ A (load s.heap.objs.size >>= _) _ _ s';refine wpAny_bind (wpAny_load hS' ?_);obtain⟨h',g',d',tk',os'⟩:=s';have eg:g'=s.gens:=hmv.gens;have ed:d'=s.drawn:=hmv.drawn;have eo:os'=s.os:=hmv.os;subst eg;subst ed;subst eo;have eacc:acc'.toList=(xU w S ep es).toList.map (·.2):=by
  have hl:=(wy w S ep es).length_eq;rw[Array.length_toList,Array.length_toList]at hl;refine List.ext_getElem? fun i=>?_;rw[List.getElem?_map,Array.getElem?_toList,Array.getElem?_toList];cases e:acc'[i]? with
  | some v=>exact(hacc.2 i v e).symm
  | none=>
   have h1:=Array.getElem?_eq_none_iff.mp e;rw[hacc.1]at h1;rw[Array.getElem?_eq_none (by omega)];rfl
 refine wpAny_pure ?_;rw[eacc];refine hQ h' tk' fun b ob e=>hmv.heap b ob (fun hb=>?_) (sb.extBut _ _ (Nat.ne_of_lt (Heap.lt_size e)) (Heap.get?_push_of_some _ (keep _ _ e)));have hlt:=Heap.lt_size e;rcases List.mem_cons.mp hb with h | h
 ·exact absurd hlt (h▸Nat.lt_irrefl _)
 ·rw[List.mem_singleton.mp h,hHs]at hlt;exact absurd hlt (Nat.not_lt.mpr (Nat.le_succ _))
end
open PySem.W (kat_lt_int)
section
variable{X:Cx}
theorem z07:∀{a b:List Int},a.Perm b->a.Pairwise (·<=·)->b.Pairwise (·<=·)->a=b
 | [],b,h,_,_=>h.nil_eq
 | x::a,[],h,_,_=>absurd h.length_eq (by simp)
 | x::a,y::b,h,h1,h2=>by
  obtain⟨p1,q1⟩:=List.pairwise_cons.mp h1;obtain⟨p2,q2⟩:=List.pairwise_cons.mp h2;have e:x=y:=by
   have hx:x∈y::b:=h.mem_iff.mp List.mem_cons_self;have hy:y∈x::a:=h.mem_iff.mpr List.mem_cons_self;rcases List.mem_cons.mp hx with z | z
   ·exact z
   ·rcases List.mem_cons.mp hy with w | w
    ·exact w.symm
    ·exact Int.le_antisymm (p1 y w) (p2 x z)
  subst e;rw[z07 (h.cons_inv) q1 q2]
theorem z2K{pins:List (Addr×Obj)}{s:Shared}{σ:L2.St}{H:Hp}{Q:VK}{S:Addr->Prop}{x:Value}{ns r:List Int}{its:List Value}(I:L2.Inv X pins σ H s)(hS:∀a,S a->H a≠none)(rv:Vals (ns.map V.int) its)(h64:ns.length<64)
  (hcol:∀(Q':List Value->Shared->Prop),(∀h' tk,(∀b o,s.heap.get? b=some o->h'.get? b=some o)->Q' its { s with heap:=h',toks:=tk })->wpAny (model X.prog X.w) X.A.in1 (collect x) Q' X.xe s)
  (hr:ns.Perm r) (hrs:r.Pairwise (·<=·)) (q:∀v H',Same H H'->DatS S H' (.list (r.map PyData.int)) v->Q v H'):wpAny (model X.prog X.w) X.A (call (.builtin "sorted") [x]) (EP X pins σ Q) X.xe s:=by
 have l2:ns.length=its.length:=by rw[<-rv.length,List.length_map]
 have at1:∀i,i<its.length->∃t,its.getD i Value.none=.int (ns.getD i 0) t:=fun i hi=>by
  have hi':i<ns.length:=by omega
  obtain⟨u,e,t,ru⟩:=rv.get (i:=i) (x:=.int ns[i]) (by rw[List.getElem?_map,List.getElem?_eq_getElem hi'];rfl);exact⟨t,by rw[List.getD_eq_getElem?_getD,e,List.getD_eq_getElem?_getD,List.getElem?_eq_getElem hi',ru];rfl⟩
 refine z27 (κ:=oneType') (f:=fun i=>ns.getD i 0) (by omega) hcol (fun s' Q' E' h2 kp hq'=>?_) (fun i j s' Q' E' hi hj kp hq'=>?_) fun p h' hf e tk hp hup k1 k2 ho=>?_
 ·refine W.kas_kind (T:=.type "int") h2 (fun v hv=>?_) rfl rfl hq';obtain⟨i,hi,rfl⟩:=List.mem_iff_getElem.mp hv;obtain⟨t,e⟩:=at1 i hi;rw[List.getD_eq_getElem?_getD,List.getElem?_eq_getElem hi]at e;have e':its[i]=.int (ns.getD i 0) t:=e;rw[e'];exact W.Looks.of_pure rfl
 ·obtain⟨t,e1⟩:=at1 i hi;obtain⟨t2,e2⟩:=at1 j hj;rw[e1,e2];exact kat_lt_int hq'
 ·have hpl:p.toList.Perm (List.range its.length):=by simpa using hp.toList
  have hmem:∀i∈p.toList,i<its.length:=fun i hi=>List.mem_range.mp (hpl.mem_iff.mp hi);have hsz:p.size=its.length:=by have:=hpl.length_eq;simpa using this
  have er:p.toList.map (fun i=>ns.getD i 0)=r:=by
   refine z07 (List.Perm.trans ?_ hr) ?_ hrs
   ·have:=hpl.map fun i=>ns.getD i 0
    rwa [show(List.range its.length).map (fun i=>ns.getD i 0)=ns from List.ext_getElem (by simp[l2]) fun i a b=>by simp[List.getD_eq_getElem?_getD,b]]at this
   ·rw[List.pairwise_map];exact uJ hsz hup
  have vals:∀l:List Nat,(∀i∈l,i<its.length)->Vals ((l.map fun i=>ns.getD i 0).map V.int) (l.map fun i=>its.getD i Value.none):=fun l=>by
   induction l with
   | nil=>intro _;exact .nil
   | cons i l ih=>
    intro hl;obtain⟨t,e⟩:=at1 i (hl i List.mem_cons_self);exact .cons ⟨t,e⟩ (ih fun j hj=>hl j (List.mem_cons_of_mem _ hj))
  have vp:=vals p.toList hmem;rw[er]at vp;have I1:=I.kept (t':=tk) k1;refine⟨.ref h'.objs.size,_,I1.laid (t':=tk) (a:=h'.objs.size) (o:=.lst (r.map V.int)) (h':=hf) k2 (Nat.le_refl _) ⟨by rw[List.length_map,<-hr.length_eq,sizeLine_eq];omega,_,e,vp,ho⟩,rfl,q _ _ (Same.new (I1.hok.fresh (Nat.le_refl _))) (wJ hS (I1.hok.fresh (Nat.le_refl _)) (uW r))⟩
end
noncomputable def m8(ns:List Nat):Nat:=mOf (fun i=>ns.getD i 0) ns.length
noncomputable def toN8:List PyData->Option (List Nat)
 | []=>some []
 | .int i::r=>if 0<=i/\i<8 then(toN8 r).map (i.toNat::·)else none
 | _=>none
theorem z5T:∀{ds:List PyData} {ns:List Nat},toN8 ds=some ns->ds=ns.map (fun n=>PyData.int (nI n))/\∀n∈ns,n<8
 | [],ns,h=>by simp only[toN8]at h;cases h;exact⟨rfl,fun n hn=>nomatch hn⟩
 | d::r,ns,h=>by
  cases d<;>simp only[toN8]at h<;>try (cases h;done)
  rename_i i
  split at h
  next hi=>
   cases e:toN8 r with
   | none=>rw[e]at h;cases h
   | some ms=>
    rw[e]at h;cases h;obtain⟨e1,e2⟩:=z5T e;refine⟨by rw[List.map_cons,<-e1,show nI i.toNat=i from Int.toNat_of_nonneg hi.1],fun n hn=>?_⟩;rcases List.mem_cons.mp hn with rfl | hn
    ·omega
    ·exact e2 n hn
  next=>cases h
theorem z1J:∀ns:List Nat,yZ (ns.map fun n=>PyData.int (nI n))=some (ns.map nI)
 | []=>rfl
 | n::ns=>by simp only[List.map_cons,yZ];rw[z1J ns];rfl
theorem zC3{ns:List Nat}(h:∀n∈ns,n<8):m8 ns<256:=z5s fun i hi=>by
 rw[List.getD_eq_getElem?_getD,List.getElem?_eq_getElem hi];exact h _ (List.getElem_mem hi)
theorem z7z{ns:List Nat}(h:∀n∈ns,n<8)(x:Nat):x∈lst (m8 ns)↔x∈ns:=by
 by_cases hx:x<8
 ·rw[z4w hx,m8,z5k];constructor
  ·rintro⟨i,hi,e⟩;rw[List.getD_eq_getElem?_getD,List.getElem?_eq_getElem hi]at e;rw[<-e];exact List.getElem_mem hi
  ·intro hm;obtain⟨i,hi,e⟩:=List.mem_iff_getElem.mp hm;exact⟨i,hi,by rw[List.getD_eq_getElem?_getD,List.getElem?_eq_getElem hi];exact e⟩
 ·exact⟨fun hm=>absurd (z7s hm) hx,fun hm=>absurd (h x hm) hx⟩
theorem ut(m:Nat):(lst m).Pairwise (·<·):=List.Pairwise.sublist List.filter_sublist List.pairwise_lt_range
noncomputable def xv:PyData->Option PyData
 | .list ds=>(toN8 ds).map fun ns=>.list ((lst (m8 ns)).map fun n=>PyData.int (nI n))
 | _=>none
variable{X:Cx}
noncomputable def φSet(w:World)(D m:Nat):Heap->Prop:=fun h=>SetAt h D (yS w) m
noncomputable abbrev zCC(w:World)(K:W.Frag):List V->Hp->VK->Prop:=fun xs H Q=>∃(p:Addr) (ns:List Nat),xs=[.ref p]/\SqL K H p (ns.map fun n=>V.int (nI n))/\(∀n∈ns,n<8)/\∀D,H D=none->Q (.ref D) (upd H D (.ext (φSet w D (m8 ns))))
theorem z3s(hc:X.calm=true):CallR X (.type "set") (zCC X.w X.K):=by
 intro pins s σ H xs us Q I r h;obtain⟨p,ns,rfl,hq,h8,q⟩:=h;obtain⟨u,rfl,ru⟩:=xO r;cases ru;obtain⟨its,rv,pl,hz⟩:=I.list hq;have hlen:its.length=ns.length:=by rw[<-rv.length,List.length_map]
 have hsz:its.toArray.size=ns.length:=by simpa using hlen
 refine z61 (val:=fun i=>ns.getD i 0) (I.ok.hd hc) pl.isList (fun i v e=>?_) (fun i hi=>?_) fun h' tk hS kp=>?_
 ·have e':its[i]?=some v:=by simpa using e
  have hi:i<ns.length:=by rw[<-hlen];exact(List.getElem?_eq_some_iff.mp e').1
  obtain⟨v',e3,t,rfl⟩:=rv.get (i:=i) (x:=.int (nI (ns.getD i 0))) (by rw[List.getElem?_map,List.getElem?_eq_getElem hi,List.getD_eq_getElem?_getD,List.getElem?_eq_getElem hi];rfl);rw[e3]at e';cases e';exact⟨t,rfl⟩
 ·have hi':i<ns.length:=by rw[<-hsz];exact hi
  show ns.getD i 0<8;rw[List.getD_eq_getElem?_getD,List.getElem?_eq_getElem hi'];exact h8 _ (List.getElem_mem hi')
 ·rw[hsz]at hS;have hn:H s.heap.objs.size=none:=I.hok.fresh (Nat.le_refl _);refine⟨.ref s.heap.objs.size,_,I.laid (t':=tk) (a:=s.heap.objs.size) (o:=.ext (φSet X.w s.heap.objs.size (m8 ns))) (h':=h') kp (Nat.le_refl _) ⟨hS,?_,fun h1 h2 a b=>SetAt.at a b⟩,rfl,q _ hn⟩;obtain⟨o,es,ep,ho,_⟩:=hS;exact⟨o,ho⟩
noncomputable abbrev zA5(w:World):List V->Hp->VK->Prop:=fun xs H Q=>∃(D:Addr) (m:Nat) (S:Addr->Prop),xs=[.ref D]/\H D=some (.ext (φSet w D m))/\m<256/\(∀a,S a->H a≠none)/\∀v H',Same H H'->DatS S H' (.list ((lst m).map fun n=>PyData.int (nI n))) v->Q v H'
theorem z3h(hc:X.calm=true):CallR X (.builtin "sorted") (zA5 X.w):=by
 intro pins s σ H xs us Q I r h;obtain⟨D,m,S,rfl,hD,hm,hS,q⟩:=h;obtain⟨u,rfl,ru⟩:=xO r;cases ru;obtain⟨hφ,_,_⟩:=I.hok D _ hD;obtain⟨o,es,ep,ho,hex,hd,he,hf⟩:SetAt s.heap D (yS X.w) m:=hφ;have hset:SetIs s.heap D (yS X.w) m es ep:=⟨o,ho,hex,hd,he,hf⟩;have pe:=wy X.w D ep es;have val:∀l:List (Int×Value),(∀e∈l,∃t,e.2=.int e.1 t)->Vals (l.map fun e=>V.int e.1) (l.map (·.2)):=fun l=>by
  induction l with
  | nil=>intro _;exact .nil
  | cons e l ih=>
   intro hl;obtain⟨t,et⟩:=hl e List.mem_cons_self;exact .cons ⟨t,et⟩ (ih fun e' h'=>hl e' (List.mem_cons_of_mem _ h'))
 have rv:=val (xU X.w D ep es).toList fun e hm'=>he.2 e (pe.mem_iff.mp hm');rw[show((xU X.w D ep es).toList.map fun e=>V.int e.1)=((xU X.w D ep es).toList.map (·.1)).map V.int by rw[List.map_map];rfl]at rv;have hp:((xU X.w D ep es).toList.map (·.1)).Perm ((lst m).map nI):=by
  have h1:=pe.map (·.1);rw[he.1]at h1;exact h1
 refine z2K I hS rv ?_ (fun Q' hq'=>z7Y (A:=X.A.in1) (I.ok.hd hc) hm hset hq') hp ?_ ?_
 ·rw[hp.length_eq,List.length_map]
  have:=u7 m;omega
 ·rw[List.pairwise_map];exact(ut m).imp fun{a b} hab=>by unfold nI;omega
 ·rw[List.map_map];exact q
variable{K:W.Frag}{Er:Str->Hp->Prop}{a:Expr}{ma:Env'->Mx D}
theorem z3i{p p2 pos pos2:Pos}(hc:X.calm=true)(hg1:Gl X "sorted")(hm1:X.mg "sorted"=none)(hv1:bootBuiltins "sorted"=some (.builtin "sorted"))(hg2:Gl X "set")(hm2:X.mg "set"=none)(hv2:bootBuiltins "set"=some (.type "set"))(ha:DW K Er X a ma)
  (hs:starEach [a] X.env=(false,eval a X.env)::starEach [] X.env:=by rfl):DE K Er X (.Call (.Name "sorted" p) [.Call (.Name "set" p2) [a] [] pos2] [] pos) (mUn xv ma):=
 (yK (z3h hc) hg1 hm1 hv1 (zI (zz (z3s hc) hg2 hm2 hv2 (zI ha pa_nil hs) (he:=hs)) pa_nil)).imp fun σ H Q h=>rd1 h (fun _ _ _ _ _ _ _ _ _ _ r=>r) fun g ow ρ n d v H0 H2 fr _ r q=>by
  obtain⟨z,e,q2⟩:=yk fr.twn q;obtain⟨x,rfl,e1⟩:=zf e;cases x<;>simp only[xv]at e1<;>try (cases e1;done)
  rename_i ds
  cases en:toN8 ds with
  | none=>rw[en]at e1;cases e1
  | some ns=>
   rw[en]at e1;cases e1;obtain⟨ed,h8⟩:=z5T en;obtain⟨b,xs,rfl,g1,k1⟩:=yD (Rep1.d1 r);have ex:xs=ns.map fun n=>V.int (nI n):=by
    have:=yy (ds:=ds) (ns:=ns.map nI) (by rw[ed];exact z1J ns) k1;rw[this,List.map_map];rfl
   subst ex;refine⟨b,ns,rfl,SqL.of g1,h8,fun D' hD=>⟨D',m8 ns,g.S ow,rfl,z7,zC3 h8,fun c hcS=>?_,fun v H' s' dv=>q2 _ _ (fun b' o' e'=>s' _ _ (Same.new hD _ _ e')) dv⟩⟩;intro z;by_cases hcD:c=D'
   ·subst hcD;rw[z7]at z;cases z
   ·rw[zB hcD]at z;exact fr.dom c hcS z
end L2
namespace L2
open PySem PySem.Spec PyProof.Rows
section
variable{prog:Program}{w:World}{A:Around}{E:Value->Shared->Prop}{s:Shared}
theorem z9L{S L:Addr}{c0:Nat}{ep:Nat}{es:Array DictEntry}{res:Value}{R:Result->Shared->Prop}(hh:A.handled=none)(hsys:(S == sysModules)=false)(hz:es.size<=sizeLine)(hS:DictIs s.heap S es ep)
  (hL:s.heap.get? L=some { cls:=.type "list",data:=.seq #[] c0 })
  (hR:∀h' tk c',(∀b o,b≠L->s.heap.get? b=some o->h'.get? b=some o)->h'.get? L=some { cls:=.type "list",dict:=none,data:=.seq (es.toList.map (·.key)).toArray c',slots:=#[] }->R (.ok (.ret res)) { s with heap:=h',toks:=tk }) :
  wpAny (model prog w) A.in1 (Builtin.List.listExtendWith (.ref L) (.ref S) res)
   (fun fin s'=>match fin with | .done f=>R (.ok f) s' | .again c'=>c'.quiet=true/\codeAny (model prog w) A c' R s') (fun e s'=>R (.error e) s') s:=by
 obtain⟨o,ho,hex,hd⟩:=id hS;have hSlt:=Heap.lt_size ho;have hLlt:=Heap.lt_size hL;have hSI:L≠S:=fun e=>by
  subst e;rw[hL]at ho;cases ho
  have:=hex.1;simp at this
 have hT:Shared.TypeIs s (.ref S) "dict":=⟨o,ho,hex.1⟩;unfold Builtin.List.listExtendWith;refine wpAny_bind (wpAny_typeOf (T:="dict") (v:=.ref S) hT ?_);have h1:Builtin.List.listSameRef (.ref L) (.ref S)=false:=by simp[Builtin.List.listSameRef,hSI]
 have h2:(Value.type "dict" == Value.type "list")=false:=by decide
 have h3:(Value.type "dict" == Value.type "tuple")=false:=by decide
 simp only[h1,h2,h3,Bool.or_false,Bool.false_eq_true,if_false];refine wpAny_bind (z8s (s:=s) hsys hS ?_);generalize hIo:({ cls:=.type "dict_keyiterator",data:=.fields #[.ref S,.int 0 0,.int (es.size:Int) 0,.int (ep:Int) 0] }:Obj)=io;have hT2:Shared.TypeIs { s with heap:=s.heap.push io } (.ref S) "dict":=⟨o,Heap.get?_push_of_some _ ho,hex.1⟩;refine wpAny_bind (wpAny_holding ?_);unfold Builtin.List.listLengthHint;refine wpAny_bind (wpAny_specialOf (T:="dict") (v:=.ref S) hT2 z80 ?_)
 wp_delta
 refine wpAny_bind (wpAny_isInstance (T:="dict") (v:=.ref S) (b:=true) hT2 (by rw[isSubtype_type];kernel_rfl) ?_);show wpAny _ A.in1 (typeOf (Value.ref S) >>= _) _ _ _;refine wpAny_bind (wpAny_typeOf (T:="dict") (v:=.ref S) hT2 ?_);refine wpAny_pure ?_;rw[if_pos (by decide)];have hSf:L∉[s.heap.objs.size,S]:=by
  simp only[List.mem_cons,List.mem_singleton,List.not_mem_nil,or_false,not_or];exact⟨Nat.ne_of_lt hLlt,hSI⟩
 have hL1:(s.heap.push io).get? L=some { cls:=.type "list",data:=.seq #[] c0 }:=Heap.get?_push_of_some _ hL;have hneI:S≠s.heap.objs.size:=Nat.ne_of_lt hSlt;refine wpAny_bind (wpAny_rule ?_);unfold Builtin.List.listTouch;refine wpAny_bind (wpAny_bind (listUpdate_at hL1 rfl ?_ (by decide) (by decide)));have g1:=Heap.get?_update_self (Obj.mapSeq (·.push .none)) hL1 rfl;refine listUpdate_at g1 rfl ?_ (by decide) (by decide);have g2:=Heap.get?_update_self (Obj.mapSeq (·.pop)) g1 rfl;have sb:=(Heap.SameBut.update (s.heap.push io) L (Obj.mapSeq (·.push .none))).trans (Heap.SameBut.update _ L (Obj.mapSeq (·.pop)));generalize hH2:((s.heap.push io).update L (Obj.mapSeq (·.push .none))).update L (Obj.mapSeq (·.pop))=H2 at g2 sb |-;have hIT:H2.get? s.heap.objs.size=some io:=sb.extBut _ _ (Nat.ne_of_gt hLlt) (Heap.get?_push_size _ (by subst hIo;rfl));have hI0:H2.IsKeyIter s.heap.objs.size S 0 es.size ep:=⟨_,hIT,by subst hIo;rfl,by subst hIo;rfl⟩;have hS2:DictIs H2 S es ep:=hS.at fun ob e=>sb.extBut _ _ (Ne.symm hSI) (Heap.get?_push_of_some _ e);refine wpAny_pure ⟨plainId_quiet F.plain_extend_loop _,codeAny_extend_loopS (z8C (A:=A.in1) (ep:=ep) (es:=es) hh s.heap.objs.size S hneI).toS hz _ hSf _ es.size 0 _ _ _ rfl (Nat.zero_le _) ⟨hI0,hS2⟩ g2 (ItemsOf.nil _) fun s' acc' c' hmv hS' hacc=>?_⟩;obtain⟨h',g',d',tk',os'⟩:=s';have eg:g'=s.gens:=hmv.gens;have ed:d'=s.drawn:=hmv.drawn;have eo:os'=s.os:=hmv.os;subst eg;subst ed;subst eo;have eacc:acc'.toList=es.toList.map (·.key):=by
  refine List.ext_getElem? fun i=>?_;rw[List.getElem?_map,Array.getElem?_toList,Array.getElem?_toList];cases e:acc'[i]? with
  | some v=>exact(hacc.2 i v e).symm
  | none=>
   have h1:=Array.getElem?_eq_none_iff.mp e;rw[hacc.1]at h1;rw[Array.getElem?_eq_none (by omega)];rfl
 have eacc2:acc'=(es.toList.map (·.key)).toArray:=by rw[<-eacc]
 refine hR h' tk' c' (fun b ob hb e=>hmv.heap b ob (fun hb2=>?_) (sb.extBut _ _ hb (Heap.get?_push_of_some _ e))) (by rw[<-eacc2];exact hS');have hlt:=Heap.lt_size e;rcases List.mem_cons.mp hb2 with h | h
 ·exact hb h
 ·rw[List.mem_singleton.mp h]at hlt;exact absurd hlt (Nat.lt_irrefl _)
theorem z0o{Q:Value->Shared->Prop}{S:Addr}{ep:Nat}{es:Array DictEntry}(hh:A.handled=none)(hsys:(S == sysModules)=false)(hz:es.size<=sizeLine)(hS:DictIs s.heap S es ep)
  (hQ:∀h' tk c',(∀b o,s.heap.get? b=some o->h'.get? b=some o)->
   h'.get? s.heap.objs.size=some { cls:=.type "list",dict:=none,data:=.seq (es.toList.map (·.key)).toArray c',slots:=#[] }->Q (.ref s.heap.objs.size) { s with heap:=h',toks:=tk }) :
  wpAny (model prog w) A (call (.type "list") [.ref S]) Q E s:=by
 refine callType_codes (Q₁:=fun obj s₁=>obj=.ref s.heap.objs.size/\s₁={ s with heap:=s.heap.push { cls:=.type "list",data:=.seq #[] } }) F.called_list (F.typeCall_list_1 _) F.entry_list_init
  (code_list_new _ ⟨rfl,rfl⟩) fun obj s₁ h₁=>?_
 obtain⟨rfl,rfl⟩:=h₁;have hL:(s.heap.push { cls:=.type "list",data:=.seq #[] }).get? s.heap.objs.size=some { cls:=.type "list",data:=.seq #[] }:=Heap.get?_push_size _ rfl;have hD:DictIs (s.heap.push { cls:=.type "list",data:=.seq #[] }) S es ep:=hS.at fun ob e=>Heap.get?_push_of_some _ e;have hne:S≠s.heap.objs.size:=by
  obtain⟨o,ho,_⟩:=id hS;exact Nat.ne_of_lt (Heap.lt_size ho)
 refine⟨⟨_,hL,rfl⟩,F.args_list_init_2 _ _,?_⟩;show wpAny _ _ (do let old<-Builtin.List.listItems (.ref s.heap.objs.size);Builtin.List.listUpdate (.ref s.heap.objs.size) (fun _=>#[]);letGo old.toList.reverse;Builtin.List.listExtendWith (.ref s.heap.objs.size) (.ref S) .none) _ _ _;refine wpAny_bind ?_;unfold Builtin.List.listItems;refine wpAny_bind (wpAny_seqItems hL rfl (wpAny_pure ?_));show wpAny _ _ (updateSeq s.heap.objs.size (fun _=>#[]) >>= fun _=>letGo (#[]:Array Value).toList.reverse >>= fun _=>Builtin.List.listExtendWith (.ref s.heap.objs.size) (.ref S) .none) _ _ _;refine wpAny_bind (wpAny_updateSeq hL rfl ?_);have hS₂:=Heap.get?_update_self (Obj.mapSeq (fun _=>(#[]:Array Value))) hL rfl;have oth:∀b o,b≠s.heap.objs.size->(s.heap.push { cls:=.type "list",data:=.seq #[] }).get? b=some o->((s.heap.push { cls:=.type "list",data:=.seq #[] }).update s.heap.objs.size (Obj.mapSeq (fun _=>(#[]:Array Value)))).get? b=some o:=
  fun b o hb e=>(Heap.get?_update_other _ _ (Ne.symm hb)).trans e
 refine wpAny_bind (wpAny_letGo ?_);refine z9L (A:=A.in1) hh hsys hz (hD.at fun ob e=>oth S ob hne e) hS₂ fun h' tk c' hk hl=>?_;exact⟨rfl,hQ h' tk c' (fun b o e=>hk b o (Nat.ne_of_lt (Heap.lt_size e)) (oth b o (Nat.ne_of_lt (Heap.lt_size e)) (Heap.get?_push_of_some _ e))) hl⟩
end
section
variable{X:Cx}
noncomputable abbrev zAa:List V->Hp->VK->Prop:=fun xs H Q=>(∃p ys,xs=[.ref p]/\(SqL X.K H p ys\/SqT X.K H p ys)/\∀l,H l=none->Q (.ref l) (upd H l (.lst ys)))\/
 ∃a ks kvs S,xs=[.ref a]/\DctAt H a ks/\DctS S H kvs ks/\∀l vs,H l=none->DatsS S H (kvs.map (·.1)) vs->Q (.ref l) (upd H l (.lst vs))
theorem z04(hc:X.calm=true):CallR X (.type "list") (zAa (X:=X)):=by
 refine CallR.or we ?_;intro pins s σ H xs us Q I r h;obtain⟨a,ks,kvs,S,rfl,g1,k1,q⟩:=h;obtain⟨u,rfl,rx⟩:=xO r;cases rx;obtain⟨es,ep,ys,h1,h2,h3,rv,dv⟩:=z20 (S:=S) I g1 k1;refine z0o (I.ok.hd hc) h2 h3 h1 fun h' tk c' kp e=>?_;refine⟨.ref s.heap.objs.size,_,I.laid (t':=tk) kp (Nat.le_refl _) (show ObjOk X.prog X.w _ h' _ (.lst ys) from⟨?_,_,c',rv,e⟩),rfl,q _ _ (I.hok.fresh (Nat.le_refl _)) dv⟩;rw[rv.length,List.length_map,Array.length_toList];exact h3
variable{K:W.Frag}{Er:Str->Hp->Prop}{e k v o:Expr}{ms:Env'->Mx (List D)}{mk mv:Env'->Mx D}{pos:Pos}
variable{g:Gh}{ow:Ix->Option Addr}{ρ:Env'}{n n':Nat}{σ:St}{H H' H1:Hp}
noncomputable def z19:List PyData->Option (List PyData)
 | [.list ds]=>some ds
 | [.tuple ds]=>some ds
 | [.dict kvs]=>some (kvs.map (·.1))
 | _=>none
theorem z2e(h:PE X e (tCB (zAa (X:=X)) (rdG RAW K Er ms))):DF K Er X e (z13 z19 ms):=z8H h fun σ H Q hq=>by
 obtain⟨g,ow,ρ,n,f,q⟩:=hq;refine⟨g,ow,ρ,n,f,q.imp (fun _ _ _ z=>z) fun vs H1 ⟨S,ds,zs,hS,h1,hf,q⟩=>?_⟩
 match ds,hf,h1 with
 | [.list xs],hf,h1=>
  cases hf;obtain⟨v,rfl,r⟩:=all1 h1;obtain⟨a,ys,rfl,g1,k1⟩:=yD r;exact .inl ⟨a,ys,rfl,.inl (SqL.of g1),fun l hl=>q l _ _ (Same.refl _) hl k1⟩
 | [.tuple xs],hf,h1=>
  cases hf;obtain⟨v,rfl,r⟩:=all1 h1;obtain⟨a,ys,rfl,g1,k1⟩:=yF r;exact .inl ⟨a,ys,rfl,.inr (SqT.of g1),fun l hl=>q l _ _ (Same.refl _) hl k1⟩
 | [.dict kvs],hf,h1=>
  cases hf;obtain⟨v,rfl,r⟩:=all1 h1;obtain⟨a,ks,rfl,g1,k1⟩:=ul r;exact .inr ⟨a,ks,kvs,S,rfl,g1,k1,fun l vs hl dv=>q l _ _ (Same.refl _) hl dv⟩
theorem DatsS.set{S:Addr->Prop}{d:PyData}{v:V}(hd:DatS S H d v):∀{ds:List PyData} {xs:List V} (k:Nat),DatsS S H ds xs->DatsS S H (ds.set k d) (xs.set k v)
 | [],_,_,h=>by simp only[DatsS]at h;subst h;exact .nil
 | _::_,_,0,h=>by
  simp only[DatsS]at h;obtain⟨x,r,rfl,h1,h2⟩:=h;exact .cons hd h2
 | _::_,_,k+1,h=>by
  simp only[DatsS]at h;obtain⟨x,r,rfl,h1,h2⟩:=h;exact .cons h1 (DatsS.set hd k h2)
noncomputable def putL(l:List PyData):PyData->PyData->Option (List PyData)
 | .int k,v=>if 0<=k/\k<l.length then some (l.set k.toNat v)else none
 | _,_=>none
noncomputable def z6O(i:Nat)(mk mv:Env'->Mx D):Env'->Mx Out:=fun ρ=>mv ρ >>= fun v=>Mx.opt (ownL ρ i) >>= fun l=>mk ρ >>= fun k=>Mx.opt ((onP2 (putL l) k v).map fun z=>Out.nx (ρ.set i (some (Sl.own (.list z)))))
theorem z96{i:Nat}{pos':Pos}(ho:PE X o (tVar i))(hk:DE K Er X k mk)(hv:DE K Er X v mv)(ps:PS X (.Assign [.Subscript o k pos'] v pos) (tAsg (rdG RE K Er mv) (gSub (tVar i) (rdG RE K Er mk) zBU))):
  DS K Er X (.Assign [.Subscript o k pos'] v pos) (z6O i mk mv):=ps.imp fun σ H E h=>rs1 h fun g ow ρ n n1 d v H1 f k f1 r q=>by
 obtain⟨l,ek,q⟩:=xF q;obtain⟨a,xs,e1,e2,e3,e4⟩:=f1.ownLst ek;refine⟨.ref a,e2,g,ow,ρ,n1,f1,xD f1 q fun n2 x y H2 k2 f2 r2 q2=>?_⟩;obtain⟨out,eo,q3⟩:=rs_o q2;obtain⟨z,ez,eo2⟩:=Option.map_eq_some_iff.mp eo;subst eo2;obtain⟨x',d',rfl,rfl,e5⟩:=zo ez;cases x'<;>simp only[putL]at e5<;>try (cases e5;done)
 rename_i j
 split at e5
 next c=>
  cases e5;obtain⟨a',xs',g1,g2,g3,g4⟩:=f2.ownLst ek;rw[e1]at g1;cases g1;have rd:DatS (g.S ow) H2 d' v:=Rep.kp (g:=g) (d:=.p d') (k2.mono Gh.ts) (fun _ z=>.inl z) r;have kS:=f2.kpOwn (o:=.lst (xs'.set j.toNat v)) e1 (not_tup g3);have ej:y=.int j:=by simpa only[Rep,DatS]using r2
  subst ej;refine⟨a,xs',j,j.toNat,rfl,rfl,g3,?_,?_⟩
  ·have hl:j<(xs'.length:Int):=by rw[<-g4.length];exact c.2
   unfold ixN
   first | (rw[if_pos c.1,if_pos hl]) | (split<;>(try split)<;>first | rfl | (simp;omega) | omega)
  ·refine q3 _ _ _ (f2.updOwn (x9 ek) e1 (not_tup g3) ?_) (Stp.upd f2 e1 (not_tup g3));simp only[Dat1];exact⟨a,_,rfl,id,z7,(DatsS.kp kS (fun _ z=>.inl z) g4).set (DatS.kp kS (fun _ z=>.inl z) rd) _⟩
 next=>cases e5
end
section
variable{K:W.Frag}{Er:Str->Hp->Prop}{X:Cx}{o e f:Expr}{md mk mz:Env'->Mx D}{apos cpos:Pos}
end
section
variable{prog:Program}{w:World}{A:Around}{E:Value->Shared->Prop}{s:Shared}
end
section
variable{X:Cx}
variable{K:W.Frag}{Er:Str->Hp->Prop}{a:Expr}{ma:Env'->Mx D}
end
section
variable{K:W.Frag}{Er:Str->Hp->Prop}{X:Cx}{e:Expr}{es:List Expr}{ms:Env'->Mx (List D)}{pos p:Pos}
noncomputable def mFnV(a:Addr):Env'->Mx D:=fun _=>pure (.fn a)
theorem zBt{a:Addr}(h:PE X e (tC (.ref a))):DE K Er X e (mFnV a):=h.imp fun σ H Q ⟨g,ow,ρ,n,f,q⟩=>q (.ref a) H (Kp.refl _ _) f.twn rfl
noncomputable def isFn(o:Option (Option Sl))(f:Addr):Bool:=match o with
 | some (some (Sl.val (.fn a)))=>decide (a=f)
 | _=>false
theorem z8O{o:Option (Option Sl)}{f:Addr}(h:isFn o f=true):o=some (some (Sl.val (.fn f))):=by
 unfold isFn at h;split at h
 next a=>rw[of_decide_eq_true h]
 next=>cases h
noncomputable def z2r(i:Nat)(f:Addr)(F:List D->Mx D)(ms:Env'->Mx (List D)):Env'->Mx D:=fun ρ=>if isFn ρ[i]? f=true then zP F ms ρ else Mx.bad
theorem z6Y{CX:CXT}{k i:Nat}{f:Addr}{fd:FuncData}{ps:List Str}{sp:Sp}{dvs:List V}{ds:List Value}{E:XK}{x:Str}{t:TA}(F:FnOk X.prog X.w X.K X.mg X.base CX k f fd ps sp)(hr:Room k X.A)(hn:PE X (.Name x p) (tVar i))(hk:W.keepIn X.K (.ref f)=true)(hb:Binds X.K fd ps ds)(hd:Vals dvs ds)(hx:ua CX X E)
  (ha:PA X (e::es) t) (he:starEach (e::es) X.env=(false,eval e X.env)::starEach es X.env:=by rfl) (hpl:(backTo pos (starEach es X.env)).any (·.1)=false:=by rfl) :
  PE X (.Call (.Name x p) (e::es) [] pos) (fun σ H Q=>σ[i]?=some (some (.ref f))/\zAx sp dvs E t σ H Q):=by
 intro pins s σ H Q I h;obtain⟨h0,h⟩:=h;refine wpAny_Call_Name_kw (thn (hn pins s σ H (fun v H1=>v=.ref f/\H1=H) I ⟨.ref f,h0,rfl,rfl⟩) fun u s1 ⟨v,H1,I1,r1,e1,e2⟩=>?_);subst e1 e2;obtain rfl:u=Value.ref f:=r1;refine W.callWith_K (h₀:=X.base) I1.ok.mod.kin hk (thn (ha pos pins s1 σ H1 _ I1 h) fun us s2 ⟨vs,H2,I2,r,q⟩=>⟨I2.kIn,?_⟩) he hpl;exact z7w F hr hb hd hx I2 r q
theorem z7L{F:List D->Mx D}{EW:Str->XK->Hp->Prop}{E:XK}{CX:CXT}{k i:Nat}{f:Addr}{fd:FuncData}{ps:List Str}{x:Str}(Fn:FnOk X.prog X.w X.K X.mg X.base CX k f fd ps (spD K EW F))(hE:∀c H',Er c H'->EW c E H')(hr:Room k X.A)(hn:PE X (.Name x p) (tVar i))(hk:W.keepIn X.K (.ref f)=true)(hb:Binds X.K fd ps [])(hx:ua CX X E)
  (ha:DA K Er X (e::es) ms) (he:starEach (e::es) X.env=(false,eval e X.env)::starEach es X.env:=by rfl) (hpl:(backTo pos (starEach es X.env)).any (·.1)=false:=by rfl) :
  DE K Er X (.Call (.Name x p) (e::es) [] pos) (z2r i f F ms):=(z6Y Fn hr hn hk hb .nil hx ha he hpl).imp fun σ H Q h=>by
 obtain⟨g,ow,ρ,n,fr,q⟩:=h;unfold z2r at q;split at q
 next c=>
  obtain⟨v,e1,e2⟩:=fr.val i (.fn f) (z8O c);have e2:v=.ref f:=e2;subst e2;exact⟨e1,z1q hE ⟨g,ow,ρ,n,fr,q⟩⟩
 next=>exact q.elim
noncomputable def z0t(i j:Nat)(m:Env'->Mx D):Env'->Mx Out:=fun ρ=>Mx.opt (ownL ρ i) >>= fun la=>Mx.opt (ownL ρ j) >>= fun l=>m ρ >>= fun d=>Mx.opt ((onP (fun x=>match x with | .int k=>some k | _=>none) d).bind fun k=>if -1000000<=k/\k<=1000000/\i≠j/\la.length<lim then(seqIndex? k l.length).bind fun p=>l[p]?.map fun y=>Out.nx ((ρ.set j (some (Sl.own (.list (l.eraseIdx p))))).set i (some (Sl.own (.list (la++[y])))))else none)
theorem z5V{i j:Nat}{m:Env'->Mx D}(h:PE X e (tBM X.K "list" uY (tVar i) (ym (tBM X.K "list" z66 (tVar j) (ym (rdG RE K Er m) tNil)) tNil)))(hs:swapsWith e none pos.line X.env=pure false:=by rfl):DS K Er X (.Expr e pos) (z0t i j m):=(xK h hs).imp fun σ H E h=>by
 obtain⟨g,ow,ρ,n,f,q⟩:=h;obtain⟨la,ela,q⟩:=xF q;obtain⟨l,el,q⟩:=xF q;obtain⟨a,xs,e1,e2,e3,e4⟩:=f.ownLst ela;obtain⟨b,ys,b1,b2,b3,b4⟩:=f.ownLst el;refine⟨.ref a,e2,.inl ⟨rfl,xs,SqL.of e3⟩,.ref b,b2,.inl ⟨rfl,ys,SqL.of b3⟩,g,ow,ρ,n,f,xD f q fun n1 d v H1 k f1 r q=>?_⟩;obtain⟨out,eo,q⟩:=rs_o q;obtain⟨y,ey,eo2⟩:=Option.bind_eq_some_iff.mp eo;obtain⟨y',rfl,ey2⟩:=zf ey;cases y'<;>simp only at ey2<;>cases ey2;split at eo2
 next hl=>
  obtain⟨p,ep,eo3⟩:=Option.bind_eq_some_iff.mp eo2;obtain⟨z,ez,eo4⟩:=Option.map_eq_some_iff.mp eo3;subst eo4;obtain⟨b',ys',c1,c2,c3,c4⟩:=f1.ownLst el;rw[b1]at c1;cases c1;obtain⟨a',xs',g1,g2,g3,g4⟩:=f1.ownLst ela;rw[e1]at g1;cases g1;have hab:a≠b:=fun z=>hl.2.2.1 (congrArg Prod.fst (f.inj (i,0) (j,0) a e1 (z▸b1)));obtain⟨u,eu,ru⟩:=c4.get ez;have kS:=f1.kpOwn (o:=.lst (ys'.eraseIdx p)) b1 (not_tup c3);have f2:=f1.updOwn (o:=.lst (ys'.eraseIdx p)) (x':=.list (l.eraseIdx p)) (x9 el) b1 (not_tup c3) (by
   simp only[Dat1];exact⟨b,_,rfl,id,z7,DatsS.kp kS (fun _ z=>.inl z) (c4.erase p)⟩)
  have h2a:(upd H1 b (.lst (ys'.eraseIdx p))) a=some (.lst xs'):=by rw[zB hab];exact g3
  have el2:ownL (ρ.set j (some (Sl.own (.list (l.eraseIdx p))))) i=some la:=by
   have:=x9 ela;unfold ownL;rw[List.getElem?_set_ne (Ne.symm hl.2.2.1),this]
  have ru2:DatS (g.S ow) (upd H1 b (.lst (ys'.eraseIdx p))) z u:=DatS.kp kS (fun _ z=>.inl z) ru;have g42:DatsS (g.S ow) (upd H1 b (.lst (ys'.eraseIdx p))) la xs':=DatsS.kp kS (fun _ z=>.inl z) g4;refine⟨b,ys',_,p,u,rfl,by rw[show v=.int _ by simpa only[Rep,DatS]using r],c3,by omega,by omega,by rw[<-c4.length];exact ep,eu,a,xs',u,rfl,rfl,h2a,Nat.lt_of_lt_of_le (by rw[<-g4.length];exact hl.2.2.2) (y4 (Nat.le_refl _)),?_⟩;have kS2:=f2.kpOwn (o:=.lst (xs'++[u])) e1 (not_tup h2a);have f3:=f2.updOwn (o:=.lst (xs'++[u])) (x':=.list (la++[z])) (x9 el2) e1 (not_tup h2a) (by
   simp only[Dat1];exact⟨a,_,rfl,id,z7,(DatsS.kp kS2 (fun _ z=>.inl z) g42).append (.cons (DatS.kp kS2 (fun _ z=>.inl z) ru2) .nil)⟩)
  exact q _ _ _ f3 ((Stp.upd f1 b1 (not_tup c3)).trans f2.dom (Stp.upd f2 e1 (not_tup h2a)))
 next=>cases eo2
end
section
variable{X:Cx}
noncomputable def rCnt:V->List V->Hp->VK->Prop:=fun x vs H Q=>∃l y xs d ds,x=.ref l/\vs=[y]/\H l=some (.lst xs)/\DatV H (.list ds) (.ref l)/\DatV H d y/\d.canLay0=true/\PyData.canLayAll0 ds=true/\d.depth<=60/\Q (.int (ds.countP fun z=>PyData.eqv z d:Nat)) H
theorem z2x(hu:X.A.units+64<cLine):MtM X "list.count" rCnt:=by
 intro pins s σ H x vs v us Q I rx rv h;obtain⟨l,y,xs,d,ds,rfl,rfl,hH,h1,h2,c1,c2,hd,q⟩:=h;cases rx;obtain⟨u,rfl,ru⟩:=rv.one;obtain⟨z,its,n,r,hl,e⟩:=I.lstM hH;obtain⟨as,r1⟩:=DatV.reads I.hok h1 (show RelV (.ref l) (.ref l) from rfl);obtain⟨bs,r2⟩:=DatV.reads I.hok h2 ru;cases r1 with
 | list a1 a2 a3 a4=>
  rename_i ob arr _
  rw[e]at a1;cases a1;obtain⟨rfl,_⟩:its.toArray=_/\_:=by injection a3 with z1 z2;exact⟨z1,z2⟩
  refine call_meets F.slot_list_count ⟨_,e,rfl⟩ F.entry_list_count (F.args_list_count_2 _ _) (SeqAt.list_countAt l its.toArray n none #[] u (fun y=>PyData.eqv (SeqAt.readOf s.heap y) d)) ⟨e,SeqAt.items_eqAt a4 r2 c2 c1 (by have:=Nat.min_le_right (PyData.depthAll ds) d.depth;omega),?_⟩;have ec:its.toArray.toList.countP (fun y=>PyData.eqv (SeqAt.readOf s.heap y) d)=ds.countP fun z=>PyData.eqv z d:=by
   rw[<-SeqAt.readsAll_map ds _ _ c2 a4,List.countP_map];rfl
  rw[ec];exact⟨.int _,H,I.tok _,⟨_,rfl⟩,q⟩
end
section
variable{K:W.Frag}{Er:Str->Hp->Prop}{X:Cx}{e:Expr}{m:Env'->Mx D}
noncomputable def fCnt(l:List PyData)(d:PyData):Option PyData:=if d.canLay0=true/\PyData.canLayAll0 l=true/\d.depth<=60 then some (.int (l.countP fun z=>PyData.eqv z d:Nat))else none
noncomputable def z7a(i:Nat)(m:Env'->Mx D):Env'->Mx D:=fun ρ=>Mx.opt (ownL ρ i) >>= fun l=>m ρ >>= fun d=>Mx.opt ((onP (fCnt l) d).map D.p)
theorem z69{i:Nat}(h:PE X e (tBM X.K "list" rCnt (tVar i) (ym (rdG RE K Er m) tNil))):DE K Er X e (z7a i m):=h.imp fun σ H Q h=>by
 obtain⟨g,ow,ρ,n,f,q⟩:=h;obtain⟨l,el,q⟩:=x8 q;obtain⟨a,xs,e1,e2,e3,e4⟩:=f.ownLst el;refine⟨.ref a,e2,.inl ⟨rfl,xs,SqL.of e3⟩,g,ow,ρ,n,f,AftG.bind q fun d n2 v H2 k2 t2 r2 c2=>?_⟩;have f2:=f.kp k2 t2;obtain⟨w,ew,q2⟩:=yk t2 (c2 (R3:=RE g (g.S ow)) fun _ _ _ z=>z);obtain⟨d',rfl,e5⟩:=zf ew;obtain⟨a',xs',g1,g2,g3,g4⟩:=f2.ownLst el;rw[e1]at g1;cases g1;unfold fCnt at e5;split at e5
 next c=>
  cases e5;have r2:DatS (g.S ow) H2 d' v:=r2;refine⟨a,v,xs',d',l,rfl,rfl,g3,by simp only[DatV];exact⟨a,xs',rfl,g3,g4.datV c.2.1⟩,r2.datV c.1,c.1,c.2.1,c.2.2,q2 _ _ (Same.refl _) di⟩
 next=>cases e5
end
section
variable{K:W.Frag}{Er:Str->Hp->Prop}{X:Cx}{a b:Expr}{pos:Pos}{ma mb:Env'->Mx D}
noncomputable def z6i:PyData->PyData->Option PyData
 | .list xs,.int k=>if 0<=k/\k<1000000/\xs.length*k.toNat<=lim then some (.list (List.replicate k.toNat xs).flatten)else none
 | _,_=>none
noncomputable def z8e(ma mb:Env'->Mx D):Env'->Mx PyData:=fun ρ=>ma ρ >>= fun x=>mb ρ >>= fun y=>Mx.opt (onP2 z6i x y)
theorem z9b(ha:DW K Er X a ma)(hb:DW K Er X b mb):DF K Er X (.BinOp a .Mult b pos) (z8e ma mb):=
 (z58 z7h ha hb).imp fun σ H Q h=>rd2 (R':=RF) (Z:=fun v u H2=>rRep v u H2 Q) h wP fun g ow ρ n x y v u H2 fr r1 r2 q=>by
  obtain⟨z,ez,q2⟩:=wv q;obtain⟨x,y,rfl,rfl,e⟩:=zo ez;cases x<;>cases y<;>simp only[z6i]at e<;>try (cases e;done)
  rename_i ds k
  split at e
  next hl=>
   cases e;simp only[Rep1]at r1 r2;obtain⟨l,xs,e1,g1,k1⟩:=yD r1;refine⟨l,_,xs,e1,za r2,g1,by omega,by omega,y4 (by rw[<-k1.length];exact hl.2.2),fun p hp=>?_⟩;have s:=Same.new (o:=.lst (List.replicate k.toNat xs).flatten) hp;refine q2 (.ref p) _ (Kp.of s) (fun b e=>s _ _ (fr.twn b e)) ⟨p,rfl,hp,Pl.upd,?_⟩;simp only[Dat1];exact⟨p,_,rfl,id,z7,DatsS.kp (Kp.of s) (fun b z=>z.elim .inl fun e=>.inr (e▸hp)) (k1.rep _)⟩
  next=>cases e
end
def Ok{α:Type}(m:Mx α)(n:Nat)(P:α->Nat->Prop):Prop:=∃a n',m n=.ok a n'/\P a n'
section
variable{α β:Type}{n:Nat}
theorem Ok.imp{m:Mx α}{P Q:α->Nat->Prop}(h:Ok m n P)(k:∀a n',P a n'->Q a n'):Ok m n Q:=by
 obtain⟨a,n',e,p⟩:=h;exact⟨a,n',e,k a n' p⟩
theorem zu(m:Mx α)(f:α->Mx β)(P:β->Nat->Prop):Ok (m >>= f) n P↔Ok m n (fun a n'=>Ok (f a) n' P):=by
 constructor
 ·rintro⟨b,n',e,p⟩;rw[Mx.bind_def]at e;cases z:m n with
  | ok a n1=>rw[z]at e;exact⟨a,n1,z,b,n',e,p⟩
  | err c n1=>rw[z]at e;cases e
  | bad=>rw[z]at e;cases e
 ·rintro⟨a,n1,e1,b,n2,e2,p⟩;exact⟨b,n2,by rw[Mx.bind_def,e1];exact e2,p⟩
theorem zv(a:α)(P:α->Nat->Prop):Ok (pure a:Mx α) n P↔P a n:=
 ⟨fun⟨_,_,e,p⟩=>by cases e;exact p,fun p=>⟨a,n,rfl,p⟩⟩
theorem y7(a:α)(P:α->Nat->Prop):Ok (Mx.opt (some a)) n P↔P a n:=
 ⟨fun⟨_,_,e,p⟩=>by cases e;exact p,fun p=>⟨a,n,rfl,p⟩⟩
theorem z03{o:Option α}{P:α->Nat->Prop}{a:α}(e:o=some a)(h:P a n):Ok (Mx.opt o) n P:=by rw[e];exact(y7 a P).mpr h
end
theorem w8{τ:Env'->PyData->Option Env'}{body:Env'->Mx Out}{P:Out->Nat->Prop}(I:Nat->Env'->Nat->Prop){ds:List PyData}
  (step:∀k ρ n (hk:k<ds.length),I k ρ n->∃ρ1,τ ρ ds[k]=some ρ1/\Ok (body ρ1) n fun o n'=>match o with
   | .nx ρ'=>I (k+1) ρ' n'
   | .ct ρ'=>I (k+1) ρ' n'
   | .bk ρ'=>P (.nx ρ') n'
   | .rt d=>P (.rt d) n')
  (ends:∀ρ n,I ds.length ρ n->P (.nx ρ) n) {ρ:Env'} {n:Nat} (h:I 0 ρ n):Ok (xQ τ body ds ρ) n P:=by
 have gen:∀(l:List PyData) (k:Nat),ds.drop k=l->k<=ds.length->∀ρ n,I k ρ n->Ok (xQ τ body l ρ) n P:=by
  intro l
  induction l with
  | nil=>
   intro k e hk ρ n h
   have:k=ds.length:=by
    have:=congrArg List.length e;rw[List.length_drop,List.length_nil]at this;omega
   subst this;simp only[xQ,zv];exact ends ρ n h
  | cons d r ih=>
   intro k e hk ρ n h;have hlt:k<ds.length:=by
    have:=congrArg List.length e;rw[List.length_drop,List.length_cons]at this;omega
   have ed:ds[k]=d/\ds.drop (k+1)=r:=by
    rw[List.drop_eq_getElem_cons hlt]at e;exact⟨(List.cons.inj e).1,(List.cons.inj e).2⟩
   obtain⟨ρ1,e1,hb⟩:=step k ρ n hlt h;rw[ed.1]at e1;simp only[xQ,e1,zu,y7];refine hb.imp fun o n' ho=>?_;cases o with
   | nx ρ'=>exact ih (k+1) ed.2 hlt ρ' n' ho
   | ct ρ'=>exact ih (k+1) ed.2 hlt ρ' n' ho
   | bk ρ'=>simp only[wj,zv];exact ho
   | rt d=>simp only[wj,zv];exact ho
 exact gen ds 0 (List.drop_zero) (Nat.zero_le _) ρ n h
theorem z10{c:Env'->Mx Bool}{body:Env'->Mx Out}{P:Out->Nat->Prop}(I:Nat->Env'->Nat->Prop)
  (step:∀μ ρ n,I μ ρ n->Ok (c ρ) n fun t n'=>(t=true->∃μ',μ=μ'+1/\Ok (body ρ) n' fun o n2=>match o with
   | .nx ρ'=>∃ν,ν<=μ'/\I ν ρ' n2
   | .ct ρ'=>∃ν,ν<=μ'/\I ν ρ' n2
   | .bk ρ'=>P (.nx ρ') n2
   | .rt d=>P (.rt d) n2)/\(t=false->P (.nx ρ) n')) {μ k:Nat} (hk:μ<k) {ρ:Env'} {n:Nat} (h:I μ ρ n):Ok (uf c body k ρ) n P:=by
 have gen:∀(k μ:Nat),μ<k->∀ρ n,I μ ρ n->Ok (uf c body k ρ) n P:=by
  intro k
  induction k with
  | zero=>intro μ h;omega
  | succ k ih=>
   intro μ hμ ρ n h;simp only[uf,zu];refine(step μ ρ n h).imp fun t n' ⟨h1,h2⟩=>?_;cases t with
   | false=>simp only[Bool.false_eq_true,if_false,zv];exact h2 rfl
   | true=>
    obtain⟨μ',e,hb⟩:=h1 rfl;simp only[if_true,zu];refine hb.imp fun o n2 ho=>?_;cases o with
    | nx ρ'=>obtain⟨ν,hν,hi⟩:=ho;exact ih ν (by omega) ρ' n2 hi
    | ct ρ'=>obtain⟨ν,hν,hi⟩:=ho;exact ih ν (by omega) ρ' n2 hi
    | bk ρ'=>simp only[wj,zv];exact ho
    | rt d=>simp only[wj,zv];exact ho
 exact gen k μ hk ρ n h
theorem z21{c:Env'->Mx Bool}{e:Env'->Mx D}{ρ:Env'}{P:List PyData->Nat->Prop}(I:Nat->List PyData->Nat->Prop){ds:List PyData}
  (step:∀k acc n (hk:k<ds.length),I k acc n->Ok (c (ρ++[some (Sl.val (.p ds[k]))])) n fun t n'=>(t=true->Ok (e (ρ++[some (Sl.val (.p ds[k]))])) n' fun y n2=>∃z,y=.p z/\I (k+1) (acc++[z]) n2)/\(t=false->I (k+1) acc n'))
  (ends:∀acc n,I ds.length acc n->P acc n) {acc:List PyData} {n:Nat} (h:I 0 acc n):Ok (zX c e ρ ds acc) n P:=by
 have gen:∀(l:List PyData) (k:Nat),ds.drop k=l->k<=ds.length->∀acc n,I k acc n->Ok (zX c e ρ l acc) n P:=by
  intro l
  induction l with
  | nil=>
   intro k ez hk acc n h
   have:k=ds.length:=by
    have:=congrArg List.length ez;rw[List.length_drop,List.length_nil]at this;omega
   subst this;simp only[zX,zv];exact ends acc n h
  | cons d r ih=>
   intro k ez hk acc n h;have hlt:k<ds.length:=by
    have:=congrArg List.length ez;rw[List.length_drop,List.length_cons]at this;omega
   have ed:ds[k]=d/\ds.drop (k+1)=r:=by
    rw[List.drop_eq_getElem_cons hlt]at ez;exact⟨(List.cons.inj ez).1,(List.cons.inj ez).2⟩
   have st:=step k acc n hlt h;rw[ed.1]at st;simp only[zX,zu];refine st.imp fun t n' ⟨h1,h2⟩=>?_;cases t with
   | false=>simp only[Bool.false_eq_true,if_false];exact ih (k+1) ed.2 hlt acc n' (h2 rfl)
   | true=>
    simp only[if_true,zu];refine(h1 rfl).imp fun y n2 ⟨z,ey,hi⟩=>?_;subst ey;simp only[onP,y7];exact ih (k+1) ed.2 hlt _ n2 hi
 exact gen ds 0 (List.drop_zero) (Nat.zero_le _) acc n h
theorem z7F{c:Env'->Mx Bool}{e:Env'->Mx D}{ρ:Env'}(f:PyData->Option PyData){ds:List PyData}{n:Nat}
  (step:∀d∈ds,(f d=none/\Ok (c (ρ++[some (Sl.val (.p d))])) n fun t n'=>t=false/\n'=n)\/∃z,f d=some z/\Ok (c (ρ++[some (Sl.val (.p d))])) n fun t n'=>t=true/\n'=n/\Ok (e (ρ++[some (Sl.val (.p d))])) n fun y n2=>y=.p z/\n2=n)
  {P:List PyData->Nat->Prop} (h:P (ds.filterMap f) n):Ok (zX c e ρ ds []) n P:=by
 refine z21 (I:=fun k acc n'=>n'=n/\acc=(ds.take k).filterMap f) (fun k acc n' hk hI=>?_) (fun acc n' hI=>?_) ⟨rfl,by simp⟩
 ·obtain⟨e1,e2⟩:=hI;subst e1;have tk:(ds.take (k+1)).filterMap f=(ds.take k).filterMap f++(match f ds[k]with | some z=>[z] | none=>[]):=by
   rw[List.take_succ,List.getElem?_eq_getElem hk,List.filterMap_append];congr 1;simp only[Option.toList];cases z:f ds[k]<;>simp[z]
  rcases step ds[k] (List.getElem_mem hk)with ⟨fz,h1⟩ | ⟨z,fz,h1⟩
  ·refine h1.imp fun t n1 ht=>?_;obtain⟨et,en⟩:=ht;refine⟨fun z=>?_,fun _=>⟨en,?_⟩⟩
   ·rw[et]at z;cases z
   ·rw[tk,fz,<-e2];simp
  ·refine h1.imp fun t n1 ht=>?_;obtain⟨et,en,h2⟩:=ht;refine⟨fun _=>?_,fun z=>?_⟩
   ·rw[en];refine h2.imp fun y n2 hy=>?_;obtain⟨ey,en2⟩:=hy;refine⟨z,ey,en2,?_⟩;rw[tk,fz,<-e2]
   ·rw[et]at z;cases z
 ·obtain⟨e1,e2⟩:=hI;subst e1 e2;rw[List.take_length];exact h
theorem zBf{nn ar:Nat}{m:Env'->Mx Out}{ds:List D}{n:Nat}{P:D->Nat->Prop}(hl:ds.length=ar)(h:Ok (m (ds.map (fun d=>some (Sl.val d))++List.replicate (nn - ar) none)) n fun o n'=>match o with
      | .rt d=>P d n'
      | .nx _=>P (.p .none) n'
      | _=>False):Ok (mFn nn ar m ds) n P:=by
  unfold mFn;rw[if_pos hl,zu];refine h.imp fun o n' ho=>?_;cases o with
  | rt d=>simp only[outD,zv];exact ho
  | nx ρ=>simp only[outD,zv];exact ho
  | bk ρ=>exact ho.elim
  | ct ρ=>exact ho.elim
theorem ok_seq{a b:Env'->Mx Out}{ρ:Env'}{n:Nat}{P:Out->Nat->Prop}:Ok (sSeq a b ρ) n P↔Ok (a ρ) n fun o n'=>match o with
      | .nx ρ'=>Ok (b ρ') n' P
      | o=>P o n':=by
  unfold sSeq;rw[zu];constructor
  · refine fun h=>h.imp fun o n' ho=>?_;cases o<;>first | exact ho | (simp only[zv]at ho;exact ho)
  · refine fun h=>h.imp fun o n' ho=>?_;cases o<;>first | exact ho | (simp only[zv];exact ho)
open PySem
theorem z8v{α:Type}(f:PyData->PyData->Option α)(x y:PyData):onP2 f (.p x) (.p y)=f x y:=rfl
theorem z4d{α:Type}(f:PyData->Option α)(x:PyData):onP f (.p x)=f x:=rfl
theorem fAdd_int(i j:Int):fAdd (.int i) (.int j)=some (.int (i+j)):=rfl
theorem fSub_int(i j:Int):fSub (.int i) (.int j)=some (.int (i - j)):=rfl
theorem yf{i j:Int}(h:0<j):fMod (.int i) (.int j)=some (.int (i % j)):=by simp only[fMod,if_pos h]
theorem zAs{i j:Int}(h : -(2 ^ 64)<j/\j<2 ^ 64):fMul (.int i) (.int j)=some (.int (i*j)):=by simp only[fMul];rw[if_pos (.inr h)]
theorem z2k{i j:Int}(h : -(2 ^ 64)<i/\i<2 ^ 64):fMul (.int i) (.int j)=some (.int (i*j)):=by simp only[fMul];rw[if_pos (.inl h)]
theorem fLt_int(i j:Int):fLt (.int i) (.int j)=some (.bool (decide (i<j))):=rfl
theorem fCmp_int(p:Int->Int->Bool)(i j:Int):fCmp p (.int i) (.int j)=some (.bool (p i j)):=rfl
theorem z0q(i j:Int):PyData.eqv (.int i) (.int j)=decide (i=j):=by simp[PyData.eqv,Bool.beq_eq_decide_eq]
theorem fEq_int(i j:Int):fEq false (.int i) (.int j)=some (.bool (decide (i=j))):=by
 unfold fEq;rw[if_pos ⟨rfl,rfl,by simp[PyData.depth]⟩,z0q];rfl
theorem fNe_int(i j:Int):fEq true (.int i) (.int j)=some (.bool (!decide (i=j))):=by
 unfold fEq;rw[if_pos ⟨rfl,rfl,by simp[PyData.depth]⟩,z0q];rfl
theorem zAI{α:Type}(x:α)(l:List α):atI (x::l) 0=some x:=by
 have:=uZ (xs:=x::l) (j:=0) (v:=x) rfl;simpa using this
theorem zBj{α:Type}(x y:α)(l:List α):atI (x::y::l) 1=some y:=by
 have:=uZ (xs:=x::y::l) (j:=1) (v:=y) rfl;simpa using this
theorem z2Y{α:Type}{xs:List α}{i:Int}{v:α}(h0:0<=i)(h:xs[i.toNat]?=some v):atI xs i=some v:=by
 have:=uZ h
 rwa [Int.toNat_of_nonneg h0]at this
theorem fIx_t0(x:PyData)(l:List PyData):fIx (.tuple (x::l)) (.int 0)=some x:=zAI x l
theorem fIx_t1(x y:PyData)(l:List PyData):fIx (.tuple (x::y::l)) (.int 1)=some y:=zBj x y l
theorem fLen_t(l:List PyData):fLen [.tuple l]=some (.int l.length):=rfl
theorem fLen_l(l:List PyData):fLen [.list l]=some (.int l.length):=rfl
theorem z9X{ρ:Env'}{i n:Nat}{P:Out->Nat->Prop}(h:u8 ρ[i]?=true)(hn:n<lim)(k:P (.nx ρ) (n+1)):Ok (z4Y i ρ) n P:=⟨.nx ρ,n+1,by unfold z4Y;rw[if_pos ⟨h,hn⟩],k⟩
theorem z8W{ρ:Env'}{i n:Nat}{P:D->Nat->Prop}(h:u8 ρ[i]?=true)(k:P (.p (.int n)) n):Ok (z5B i ρ) n P:=⟨_,n,by unfold z5B;rw[if_pos h],k⟩
theorem fIsi_bi(x:Int):fIsi "bool" (.int x)=some (.bool false):=rfl
theorem fIsi_ii(x:Int):fIsi "int" (.int x)=some (.bool true):=rfl
theorem fIsi_tt(l:List PyData):fIsi "tuple" (.tuple l)=some (.bool true):=rfl
theorem yA{j:Int}(h : -1000000<=j/\j<=1000000):yr [.int j]=some (rngD 0 j):=by simp only[yr,if_pos h]
theorem z2d{i j:Int}(h:(-1000000<=i/\i<=1000000)/\(-1000000<=j/\j<=1000000)/\(j - i).toNat<=lim):z0X [.int i,.int j]=some (rngD i j):=by simp only[z0X,if_pos h]
theorem fTuple_l(l:List PyData):wF [.list l]=some (.tuple l):=rfl
theorem z6x{lo hi:Int}{k:Nat}(h:k<(rngD lo hi).length):(rngD lo hi)[k]=.int (lo+k):=by
 simp[rngD]
theorem z7K{lo hi:Int}:(rngD lo hi).length=(hi - lo).toNat:=by simp[rngD]
theorem zAF{i:Nat}{m:Env'->Mx D}{ρ:Env'}{n:Nat}{P:Out->Nat->Prop}{l:List PyData}(hl:ownL ρ i=some l)(h:Ok (m ρ) n fun d n'=>∃z,d=.p (.list z)/\l.length+z.length<10000/\P (.nx (ρ.set i (some (Sl.own (.list (l++z)))))) n'):Ok (sExt i m ρ) n P:=by
 unfold sExt;simp only[hl,zu,y7];refine h.imp fun d n' hz=>?_;obtain⟨z,rfl,hlen,hp⟩:=hz;have hlen:l.length+z.length<=lim:=by unfold lim;omega
 simp only[z4d,Option.bind_some,if_pos hlen,y7];exact hp
theorem z4j{i:Nat}{m:Env'->Mx D}{ρ:Env'}{n:Nat}{P:Out->Nat->Prop}{l:List PyData}(hl:ownL ρ i=some l)(h:Ok (m ρ) n fun d n'=>∃z,d=.p z/\l.length<10000/\P (.nx (ρ.set i (some (Sl.own (.list (l++[z])))))) n'):Ok (sApp i m ρ) n P:=by
 unfold sApp;simp only[hl,zu,y7];refine h.imp fun d n' hz=>?_;obtain⟨z,rfl,hlen,hp⟩:=hz;have hlen:l.length<lim:=by unfold lim;omega
 simp only[z4d,Option.bind_some,if_pos hlen,y7];exact hp
section
variable{α β:Type}{n:Nat}{ρ:Env'}
def kont(b:Env'->Mx Out)(P:Out->Nat->Prop)(o:Out)(n:Nat):Prop:=match o with
 | .nx ρ'=>Ok (b ρ') n P
 | o=>P o n
def outP(P:D->Nat->Prop)(o:Out)(n:Nat):Prop:=match o with
 | .rt d=>P d n
 | .nx _=>P (.p .none) n
 | _=>False
theorem t_bind{m:Mx α}{f:α->Mx β}{P:β->Nat->Prop}(h:Ok m n fun a n'=>Ok (f a) n' P):Ok (m >>= f) n P:=(zu m f P).mpr h
theorem t_pure{a:α}{P:α->Nat->Prop}(h:P a n):Ok (pure a:Mx α) n P:=⟨a,n,rfl,h⟩
theorem t_some{a:α}{P:α->Nat->Prop}(h:P a n):Ok (Mx.opt (some a)) n P:=⟨a,n,rfl,h⟩
theorem t_msome{a:α}{f:α->β}{P:β->Nat->Prop}(h:P (f a) n):Ok (Mx.opt ((some a).map f)) n P:=⟨f a,n,rfl,h⟩
theorem t_itt{a b:Mx α}{P:α->Nat->Prop}(h:Ok a n P):Ok (if true=true then a else b) n P:=by rw[if_pos rfl];exact h
theorem t_itf{a b:Mx α}{P:α->Nat->Prop}(h:Ok b n P):Ok (if false=true then a else b) n P:=by rw[if_neg (by decide)];exact h
theorem t_iT{a b:Mx α}{i:Decidable True}{P:α->Nat->Prop}(h:Ok a n P):Ok (if True then a else b) n P:=by rw[if_pos trivial];exact h
theorem t_it1{a b:Mx α}{t:Bool}{P:α->Nat->Prop}(e:t=true)(h:Ok a n P):Ok (if t=true then a else b) n P:=by rw[if_pos e];exact h
theorem t_it0{a b:Mx α}{t:Bool}{P:α->Nat->Prop}(e:t=false)(h:Ok b n P):Ok (if t=true then a else b) n P:=by rw[if_neg (by rw[e];decide)];exact h
theorem t_seq{a b:Env'->Mx Out}{P:Out->Nat->Prop}(h:Ok (a ρ) n (kont b P)):Ok (sSeq a b ρ) n P:=ok_seq.mpr (h.imp fun o n' q=>by cases o<;>exact q)
theorem t_nx{b:Env'->Mx Out}{P:Out->Nat->Prop}(h:Ok (b ρ) n P):kont b P (.nx ρ) n:=h
theorem t_ort{P:D->Nat->Prop}{d:D}(h:P d n):outP P (.rt d) n:=h
theorem t_onx{P:D->Nat->Prop}(h:P (.p .none) n):outP P (.nx ρ) n:=h
theorem t_fn{nn ar:Nat}{m:Env'->Mx Out}{ds:List D}{P:D->Nat->Prop}(hl:ds.length=ar)(h:Ok (m (ds.map (fun d=>some (Sl.val d))++List.replicate (nn - ar) none)) n (outP P)):Ok (mFn nn ar m ds) n P:=
 zBf hl (h.imp fun o n' q=>by cases o<;>exact q)
theorem t_set{i:Nat}{m:Env'->Mx D}{P:Out->Nat->Prop}(h:Ok (m ρ) n fun d n'=>P (.nx (ρ.set i (some (Sl.val d)))) n'):Ok (sSet i m ρ) n P:=t_bind (h.imp fun _ _ q=>t_pure q)
theorem t_own{i:Nat}{m:Env'->Mx PyData}{P:Out->Nat->Prop}(hl:Nat.ble (i+1) ρ.length=true)(h:Ok (m ρ) n fun d n'=>P (.nx (ρ.set i (some (Sl.own d)))) n'):Ok (sOwn i m ρ) n P:=t_bind (h.imp fun _ _ q=>by
 rw[if_pos (show i<ρ.length from Nat.le_of_ble_eq_true hl)];exact t_pure q)
theorem t_sret{m:Env'->Mx D}{P:Out->Nat->Prop}(h:Ok (m ρ) n fun d n'=>P (.rt d) n'):Ok (sRet m ρ) n P:=t_bind (h.imp fun _ _ q=>t_pure q)
theorem t_sexpr{m:Env'->Mx D}{P:Out->Nat->Prop}(h:Ok (m ρ) n fun _ n'=>P (.nx ρ) n'):Ok (wu m ρ) n P:=t_bind (h.imp fun _ _ q=>t_pure q)
theorem t_snil{P:Out->Nat->Prop}(h:P (.nx ρ) n):Ok (sNil ρ) n P:=t_pure h
theorem t_sif{c:Env'->Mx Bool}{a b:Env'->Mx Out}{P:Out->Nat->Prop}(h:Ok (c ρ) n fun t n'=>Ok (if t=true then a ρ else b ρ) n' P):Ok (sIf c a b ρ) n P:=t_bind h
theorem t_bin{f:PyData->PyData->Option PyData}{a b:Env'->Mx D}{P:D->Nat->Prop}(h:Ok (a ρ) n fun x n1=>Ok (b ρ) n1 fun y n2=>Ok (Mx.opt ((onP2 f x y).map D.p)) n2 P):Ok (mBin f a b ρ) n P:=t_bind (h.imp fun _ _ q=>t_bind q)
theorem t_p2{f:PyData->PyData->Option α}{g:α->β}{x y:PyData}{P:β->Nat->Prop}(h:Ok (Mx.opt ((f x y).map g)) n P):Ok (Mx.opt ((onP2 f (.p x) (.p y)).map g)) n P:=h
theorem t_p1{f:PyData->Option α}{g:α->β}{x:PyData}{P:β->Nat->Prop}(h:Ok (Mx.opt ((f x).map g)) n P):Ok (Mx.opt ((onP f (.p x)).map g)) n P:=h
theorem t_p1'{f:PyData->Option α}{x:PyData}{P:α->Nat->Prop}(h:Ok (Mx.opt (f x)) n P):Ok (Mx.opt (onP f (.p x))) n P:=h
theorem t_p2'{f:PyData->PyData->Option α}{x y:PyData}{P:α->Nat->Prop}(h:Ok (Mx.opt (f x y)) n P):Ok (Mx.opt (onP2 f (.p x) (.p y))) n P:=h
theorem t_p2b{f:PyData->PyData->Option PyData}{x y:PyData}{P:Bool->Nat->Prop}(h:Ok (Mx.opt ((f x y).bind bool?)) n P):Ok (Mx.opt ((onP2 f (.p x) (.p y)).bind bool?)) n P:=h
theorem t_map{o:Option PyData}{x:PyData}{P:D->Nat->Prop}(e:o=some x)(h:P (.p x) n):Ok (Mx.opt (o.map D.p)) n P:=by subst e;exact t_some h
theorem t_boo{o:Option PyData}{b:Bool}{P:Bool->Nat->Prop}(e:o=some (.bool b))(h:P b n):Ok (Mx.opt (o.bind bool?)) n P:=by subst e;exact t_some h
theorem t_var{i:Nat}{d:D}{P:D->Nat->Prop}(e:slW ρ[i]?=some d)(h:P d n):Ok (mVar i ρ) n P:=z03 e h
theorem t_val{i:Nat}{d:D}{P:D->Nat->Prop}(e:slV ρ[i]?=some d)(h:P d n):Ok (mVal i ρ) n P:=z03 e h
theorem t_c{x:PyData}{P:D->Nat->Prop}(h:P (.p x) n):Ok (mC x ρ) n P:=t_pure h
theorem t_nil{P:List D->Nat->Prop}(h:P [] n):Ok (mNil ρ) n P:=t_pure h
theorem t_cons{m:Env'->Mx D}{ms:Env'->Mx (List D)}{P:List D->Nat->Prop}(h:Ok (m ρ) n fun x n1=>Ok (ms ρ) n1 fun xs n2=>P (x::xs) n2):Ok (z5 m ms ρ) n P:=t_bind (h.imp fun _ _ q=>t_bind (q.imp fun _ _ q=>t_pure q))
theorem t_call{F:List D->Mx D}{ms:Env'->Mx (List D)}{P:D->Nat->Prop}(h:Ok (ms ρ) n fun ds n'=>Ok (F ds) n' P):Ok (zP F ms ρ) n P:=t_bind h
theorem t_callB{f:List PyData->Option PyData}{ms:Env'->Mx (List D)}{P:D->Nat->Prop}(h:Ok (ms ρ) n fun ds n'=>Ok (Mx.opt ((onPs f ds).map D.p)) n' P):Ok (zO f ms ρ) n P:=t_bind h
theorem t_b1{f:List PyData->Option α}{g:α->β}{x:PyData}{P:β->Nat->Prop}(h:Ok (Mx.opt ((f [x]).map g)) n P):Ok (Mx.opt ((onPs f [.p x]).map g)) n P:=h
theorem t_b2{f:List PyData->Option α}{g:α->β}{x y:PyData}{P:β->Nat->Prop}(h:Ok (Mx.opt ((f [x,y]).map g)) n P):Ok (Mx.opt ((onPs f [.p x,.p y]).map g)) n P:=h
theorem t_b1'{f:List PyData->Option α}{x:PyData}{P:α->Nat->Prop}(h:Ok (Mx.opt (f [x])) n P):Ok (Mx.opt (onPs f [.p x])) n P:=h
theorem t_b2'{f:List PyData->Option α}{x y:PyData}{P:α->Nat->Prop}(h:Ok (Mx.opt (f [x,y])) n P):Ok (Mx.opt (onPs f [.p x,.p y])) n P:=h
theorem t_mseq{j:List PyData->PyData}{ms:Env'->Mx (List D)}{P:PyData->Nat->Prop}(h:Ok (ms ρ) n fun ds n'=>Ok (Mx.opt ((toP ds).bind fun xs=>if xs.length<=lim then some (j xs)else none)) n' P):Ok (mSeq j ms ρ) n P:=t_bind h
theorem t_s0{j:List PyData->PyData}{P:PyData->Nat->Prop}(h:P (j []) n):Ok (Mx.opt ((toP []).bind fun xs=>if xs.length<=lim then some (j xs)else none)) n P:=z03 (by simp[toP,lim]) h
theorem t_s1{j:List PyData->PyData}{x:PyData}{P:PyData->Nat->Prop}(h:P (j [x]) n):Ok (Mx.opt ((toP [.p x]).bind fun xs=>if xs.length<=lim then some (j xs)else none)) n P:=z03 (by simp[toP,lim]) h
theorem t_s2{j:List PyData->PyData}{x y:PyData}{P:PyData->Nat->Prop}(h:P (j [x,y]) n):Ok (Mx.opt ((toP [.p x,.p y]).bind fun xs=>if xs.length<=lim then some (j xs)else none)) n P:=z03 (by simp[toP,lim]) h
theorem t_mp{m:Env'->Mx PyData}{P:D->Nat->Prop}(h:Ok (m ρ) n fun x n'=>P (.p x) n'):Ok (mP m ρ) n P:=t_bind (h.imp fun _ _ q=>t_pure q)
theorem t_test{m:Env'->Mx D}{P:Bool->Nat->Prop}(h:Ok (m ρ) n fun x n'=>Ok (Mx.opt (onB x)) n' P):Ok (yN m ρ) n P:=t_bind h
theorem t_onb{b:Bool}{P:Bool->Nat->Prop}(h:P b n):Ok (Mx.opt (onB (.p (.bool b)))) n P:=t_some h
theorem t_tru{m:Env'->Mx D}{P:Bool->Nat->Prop}(h:Ok (m ρ) n fun x n'=>Ok (Mx.opt (onP truD x)) n' P):Ok (mTru m ρ) n P:=t_bind h
theorem t_trl{l:List PyData}{P:Bool->Nat->Prop}(h:P (!l.isEmpty) n):Ok (Mx.opt (onP truD (.p (.list l)))) n P:=t_some h
theorem t_trb{b:Bool}{P:Bool->Nat->Prop}(h:P b n):Ok (Mx.opt (onP truD (.p (.bool b)))) n P:=t_some h
theorem t_not{m:Env'->Mx Bool}{P:Bool->Nat->Prop}(h:Ok (m ρ) n fun b n'=>P (!b) n'):Ok (z0n m ρ) n P:=t_bind (h.imp fun _ _ q=>t_pure q)
theorem t_and{a b:Env'->Mx Bool}{P:Bool->Nat->Prop}(h:Ok (a ρ) n fun t n'=>Ok (if t=true then b ρ else pure false) n' P):Ok (z5c a b ρ) n P:=t_bind h
theorem t_or{a b:Env'->Mx Bool}{P:Bool->Nat->Prop}(h:Ok (a ρ) n fun t n'=>Ok (if t=true then pure true else b ρ) n' P):Ok (mOrT a b ρ) n P:=t_bind h
theorem t_andv{a b:Env'->Mx D}{P:D->Nat->Prop}(h:Ok (a ρ) n fun x n'=>Ok (Mx.opt (onB x)) n' fun t n2=>Ok (if t=true then b ρ else pure (.p (.bool false))) n2 P):Ok (wW a b ρ) n P:=t_bind (h.imp fun _ _ q=>t_bind q)
theorem t_mif{c:Env'->Mx Bool}{a b:Env'->Mx α}{P:α->Nat->Prop}(h:Ok (c ρ) n fun t n'=>Ok (if t=true then a ρ else b ρ) n' P):Ok (mIf c a b ρ) n P:=t_bind h
theorem t_un{f:PyData->Option PyData}{m:Env'->Mx D}{P:D->Nat->Prop}(h:Ok (m ρ) n fun x n'=>Ok (Mx.opt ((onP f x).map D.p)) n' P):Ok (mUn f m ρ) n P:=t_bind h
theorem t_chain{f f':PyData->PyData->Option PyData}{a b c:Env'->Mx D}{P:D->Nat->Prop}(h:Ok (a ρ) n fun x n1=>Ok (b ρ) n1 fun y n2=>Ok (Mx.opt ((onP2 f x y).bind bool?)) n2 fun k n3=>Ok (if k=true then(c ρ >>= fun z=>Mx.opt ((onP2 f' y z).map D.p))else pure (.p (.bool false))) n3 P):Ok (z1W f f' a b c ρ) n P:=
 t_bind (h.imp fun _ _ q=>t_bind (q.imp fun _ _ q=>t_bind q))
theorem t_rng{f:List PyData->Option (List PyData)}{ms:Env'->Mx (List D)}{P:List PyData->Nat->Prop}(h:Ok (ms ρ) n fun ds n'=>Ok (Mx.opt (onPs f ds)) n' P):Ok (mRng f ms ρ) n P:=t_bind h
theorem t_it{m:Env'->Mx D}{P:List PyData->Nat->Prop}(h:Ok (m ρ) n fun x n'=>Ok (Mx.opt (onP itD x)) n' P):Ok (mIt m ρ) n P:=t_bind h
theorem t_comp{mi:Env'->Mx (List PyData)}{mc:Env'->Mx Bool}{me:Env'->Mx D}{P:PyData->Nat->Prop}(h:Ok (mi ρ) n fun ds n'=>Ok (zX mc me ρ ds []) n' fun l n2=>P (.list l) n2):Ok (zw mi mc me ρ) n P:=t_bind (h.imp fun _ _ q=>t_bind (q.imp fun _ _ q=>t_pure q))
theorem t_for{mi:Env'->Mx (List PyData)}{τ:Env'->PyData->Option Env'}{body:Env'->Mx Out}{P:Out->Nat->Prop}(h:Ok (mi ρ) n fun ds n'=>Ok (xQ τ body ds ρ) n' P):Ok (sFor mi τ body ρ) n P:=t_bind h
end
section
variable{α:Type}{l:List α}
theorem len1(h:l.length=1):∃a,l=[a]:=List.length_eq_one_iff.mp h
end
end L2
local macro_rules | `(tactic| walk_at "st1")=>do
 let nm (x:String):Lean.Ident:=Lean.mkIdent ("L2."++x).toName
 let a<-(("t_seq t_nx t_set t_call t_cons t_nil t_c t_bin t_p2 t_sif t_itt t_itf t_iT t_test t_onb t_sret t_ort t_onx t_snil t_mp t_callB t_b1 t_b2 t_b1' t_b2' t_mseq t_s0 t_s1 t_s2 t_sexpr t_not t_and t_or t_andv t_mif t_un t_chain t_p2b t_rng t_it t_comp t_for t_tru t_trl t_trb t_p1 t_p1' t_p2' t_bind t_pure t_some t_msome").splitOn " ").toArray.mapM fun x=>`(tactic| refine $(nm x) ?_)
 let b<-(("t_var t_own t_val").splitOn " ").toArray.mapM fun x=>`(tactic| refine $(nm x) (by with_unfolding_all exact rfl) ?_)
 let c<-(("fAdd_int fSub_int fLt_int fCmp_int fEq_int fNe_int fIx_t0 fIx_t1 fLen_t fLen_l fTuple_l fIsi_bi fIsi_ii fIsi_tt").splitOn " ").toArray.mapM fun x=>`(tactic| refine $(nm "t_map") ($(nm x) ..) ?_)
 let d<-(("fCmp_int fLt_int").splitOn " ").toArray.mapM fun x=>`(tactic| refine $(nm "t_boo") ($(nm x) ..) ?_)
 let e<-(("t_it1 t_it0").splitOn " ").toArray.mapM fun x=>`(tactic| refine $(nm x) (by with_unfolding_all exact rfl) ?_)
 let l:=a++b++c++d++e
 `(tactic| with_reducible first $[| $l:tactic]*)
local macro_rules | `(tactic| walk_at "dl")=>do
 let l<-(("List.set_cons_zero List.set_cons_succ List.map List.cons_append List.nil_append List.replicate_succ List.replicate_zero Nat.reduceSub Option.map_some Option.bind_some Bool.not_true Bool.not_false").splitOn " ").toArray.mapM fun x=>`(Lean.Parser.Tactic.simpLemma| $(Lean.mkIdent x.toName):term)
 `(tactic| dsimp only[$l,*])
local macro_rules | `(tactic| walk_at "e")=>`(tactic| try first | (walk_at "st1";repeat walk_at "st1";(try (walk_at "dl";repeat walk_at "st1";try walk_at "dl"))) | (walk_at "dl";repeat walk_at "st1";try walk_at "dl"))
namespace L2
open PySem
theorem z0z:∀{l r:List Int},l.Pairwise (·<·)->r.Pairwise (·<·)->(∀x,x∈l↔x∈r)->l=r
 | [],[],_,_,_=>rfl
 | [],y::r,_,_,h=>absurd ((h y).mpr List.mem_cons_self) (by simp)
 | x::l,[],_,_,h=>absurd ((h x).mp List.mem_cons_self) (by simp)
 | x::l,y::r,hl,hr,h=>by
  obtain⟨l1,l2⟩:=List.pairwise_cons.mp hl;obtain⟨r1,r2⟩:=List.pairwise_cons.mp hr;have e:x=y:=by
   rcases List.mem_cons.mp ((h x).mp List.mem_cons_self)with e | hx
   ·exact e
   ·rcases List.mem_cons.mp ((h y).mpr List.mem_cons_self)with e | hy
    ·exact e.symm
    ·have a:=r1 x hx;have b:=l1 y hy;omega
  subst e;congr 1;refine z0z l2 r2 fun z=>⟨fun hz=>?_,fun hz=>?_⟩
  ·rcases List.mem_cons.mp ((h z).mp (List.mem_cons_of_mem _ hz))with e | hz'
   ·have:=l1 z hz;omega
   ·exact hz'
  ·rcases List.mem_cons.mp ((h z).mpr (List.mem_cons_of_mem _ hz))with e | hz'
   ·have:=r1 z hz;omega
   ·exact hz'
theorem z0l{α:Type}{l:List α}{k:Nat}(h:k<l.length):l.take (k+1)=l.take k++[l[k]]:=by rw[List.take_succ,List.getElem?_eq_getElem h];rfl
theorem z5Q:∀{l:List Int},(∀x∈l,0<=x/\x<8)->toN8 (l.map PyData.int)=some (l.map Int.toNat)
 | [],_=>rfl
 | x::l,h=>by
  simp only[List.map_cons,toN8];rw[if_pos (h x List.mem_cons_self),z5Q fun y hy=>h y (List.mem_cons_of_mem _ hy)];rfl
theorem z9M{l:List Int}(h:∀x∈l,0<=x/\x<8):∃r:List Int,xv (.list (l.map PyData.int))=some (.list (r.map PyData.int))/\r.Pairwise (·<·)/\∀x,x∈r↔x∈l:=by
 refine⟨(lst (m8 (l.map Int.toNat))).map nI,?_,?_,fun x=>?_⟩
 ·simp only[xv];rw[z5Q h,Option.map_some,List.map_map];rfl
 ·exact List.pairwise_map.mpr ((ut _).imp fun{a b} h=>by unfold nI;omega)
 ·have h8:∀n∈l.map Int.toNat,n<8:=fun n hn=>by
   obtain⟨x,hx,rfl⟩:=List.mem_map.mp hn
   have:=h x hx;omega
  rw[List.mem_map];constructor
  ·rintro⟨k,hk,rfl⟩;obtain⟨y,hy,e⟩:=List.mem_map.mp ((z7z h8 k).mp hk)
   have:=h y hy
   have:nI k=y:=by unfold nI;omega
   rw[this];exact hy
  ·intro hx
   have:=h x hx;exact⟨x.toNat,(z7z h8 _).mpr (List.mem_map.mpr ⟨x,hx,rfl⟩),by unfold nI;omega⟩
theorem yw{α:Type}(f:α->Bool):∀l:List α,xT (l.map fun x=>PyData.bool (f x))=some (l.map f)
 | []=>rfl
 | x::l=>by simp only[List.map_cons,xT,yw f l,Option.map_some]
theorem z7M{e:Env'->Mx D}{ρ:Env'}{n:Nat}{ds:List PyData}{P:List PyData->Nat->Prop}(f:PyData->PyData)(step:∀d∈ds,Ok (e (ρ++[some (Sl.val (.p d))])) n fun y n2=>y=.p (f d)/\n2=n)(h:P (ds.map f) n):Ok (zX mYes e ρ ds []) n P:=by
 refine z7F (f:=fun d=>some (f d)) (fun d hd=>.inr ⟨f d,rfl,?_⟩) ?_
 ·unfold mYes;exact(zv _ _).mpr ⟨rfl,rfl,step d hd⟩
 ·rw[show ds.filterMap (fun d=>some (f d))=ds.map f by simp];exact h
theorem zl{α β:Type}{e:Env'->Mx D}{ρ:Env'}{n:Nat}{J:α->PyData}{J':β->PyData}{l:List α}{P:List PyData->Nat->Prop}(f:α->β)(step:∀a∈l,Ok (e (ρ++[some (Sl.val (.p (J a)))])) n fun y n2=>y=.p (J' (f a))/\n2=n)(h:P ((l.map f).map J') n):Ok (zX mYes e ρ (l.map J) []) n P:=by
 refine z21 (I:=fun k acc n'=>n'=n/\acc=((l.take k).map f).map J') (fun k acc n' hk hI=>?_) (fun acc n' hI=>?_) ⟨rfl,by simp⟩
 ·obtain⟨rfl,rfl⟩:=hI;have hk':k<l.length:=by simpa using hk
  rw[List.getElem_map];unfold mYes;refine(zv _ _).mpr ⟨fun _=>(step _ (List.getElem_mem hk')).imp fun y n2 ⟨e1,e2⟩=>⟨_,e1,e2,?_⟩,fun z=>(nomatch z)⟩;rw[z0l hk',List.map_append,List.map_append];rfl
 ·obtain⟨rfl,rfl⟩:=hI;rw[List.length_map,List.take_length];exact h
theorem z4K{α:Type}{c:Env'->Mx Bool}{e:Env'->Mx D}{ρ:Env'}{n:Nat}{J:α->PyData}{l:List α}{P:List PyData->Nat->Prop}(f:α->Bool)(hc:∀a∈l,Ok (c (ρ++[some (Sl.val (.p (J a)))])) n fun t n2=>t=f a/\n2=n)(he:∀a∈l,f a=true->Ok (e (ρ++[some (Sl.val (.p (J a)))])) n fun y n2=>y=.p (J a)/\n2=n)(h:P ((l.filter f).map J) n):Ok (zX c e ρ (l.map J) []) n P:=by
 refine z21 (I:=fun k acc n'=>n'=n/\acc=((l.take k).filter f).map J) (fun k acc n' hk hI=>?_) (fun acc n' hI=>?_) ⟨rfl,by simp⟩
 ·obtain⟨rfl,rfl⟩:=hI;have hk':k<l.length:=by simpa using hk
  rw[List.getElem_map];refine(hc _ (List.getElem_mem hk')).imp fun t n2 ⟨e1,e2⟩=>?_;subst e1 e2;refine⟨fun ht=>(he _ (List.getElem_mem hk') ht).imp fun y n3 ⟨e3,e4⟩=>⟨_,e3,e4,?_⟩,fun ht=>⟨rfl,?_⟩⟩
  ·rw[z0l hk',List.filter_append,List.map_append];simp only[List.filter_cons,ht,List.filter_nil,if_true,List.map_cons,List.map_nil]
  ·rw[z0l hk',List.filter_append,List.map_append];simp only[List.filter_cons,ht,List.filter_nil,Bool.false_eq_true,if_false,List.map_nil,List.append_nil]
 ·obtain⟨rfl,rfl⟩:=hI;rw[List.length_map,List.take_length];exact h
theorem z2B{l:List PyData}(h:l.length<10000):itD (.tuple l)=some l:=by simp only[itD];rw[if_pos (by unfold lim;omega)]
theorem z8o{α:Type}{R:α->α->Prop}{l:List α}(h:l.Pairwise R){i:Nat}{x y:α}(e1:l[i]?=some x)(e2:l[i+1]?=some y):R x y:=by
 obtain⟨h1,rfl⟩:=List.getElem?_eq_some_iff.mp e1;obtain⟨h2,rfl⟩:=List.getElem?_eq_some_iff.mp e2;exact List.pairwise_iff_getElem.mp h i (i+1) h1 h2 (Nat.lt_succ_self i)
noncomputable def upto(N:Nat):List Int:=(List.range N).map fun(i:Nat)=>(i:Int)
theorem mem_upto{N:Nat}{x:Int}:x∈upto N↔0<=x/\x<(N:Int):=by
 unfold upto;simp only[List.mem_map,List.mem_range];exact⟨fun⟨k,hk,e⟩=>by omega,fun h=>⟨x.toNat,by omega,by omega⟩⟩
theorem zK(N:Nat):(upto N).length=N:=by simp[upto]
theorem xw(N:Nat):(upto N).Pairwise (·<·):=by
 unfold upto;exact List.pairwise_map.mpr (List.pairwise_lt_range.imp fun h=>by omega)
theorem zy(m:Int)(h:0<=m):rngD 0 m=(upto m.toNat).map PyData.int:=by
 unfold rngD upto;simp[Function.comp_def]
theorem yz:∀l:List Int,PyData.canLayAll0 (l.map PyData.int)=true
 | []=>rfl
 | q::r=>by rw[List.map_cons];simp only[PyData.canLayAll0,yz r,Bool.and_true];rfl
theorem uw:∀l:List Int,PyData.depthAll (l.map PyData.int)<=1
 | []=>by simp[PyData.depthAll]
 | q::r=>by
  have:=uw r;rw[List.map_cons];simp only[PyData.depthAll,PyData.depth];omega
theorem xm:∀l r:List Int,PyData.eqvAll (l.map PyData.int) (r.map PyData.int)=decide (l=r)
 | [],[]=>by simp[PyData.eqvAll]
 | [],y::r=>by simp[PyData.eqvAll]
 | x::l,[]=>by simp[PyData.eqvAll]
 | x::l,y::r=>by
  rw[List.map_cons,List.map_cons];simp only[PyData.eqvAll,z0q,xm l r];by_cases e:x=y<;>by_cases e2:l=r<;>simp[e,e2]
theorem z4z(neg:Bool)(l r:List Int):fEq neg (.list (l.map PyData.int)) (.list (r.map PyData.int))=some (.bool (if neg then !decide (l=r)else decide (l=r))):=by
 have d:=uw l;unfold fEq;rw[if_pos ⟨by simp only[PyData.canLay0];exact yz l,by simp only[PyData.canLay0];exact yz r,by simp only[PyData.depth];omega⟩];simp only[PyData.eqv,xm]
theorem z9Z(l:List Int):fEq true (.list (l.map PyData.int)) (.list [])=some (.bool (!l.isEmpty)):=by
 have:=z4z true l [];rw[List.map_nil]at this;rw[this];cases l<;>rfl
theorem z7O(c:List Int):fIn false .none (.list (c.map PyData.int))=some (.bool false):=by
 simp only[fIn];rw[if_pos ⟨rfl,yz c,by simp[PyData.depth]⟩];rw[show((c.map PyData.int).any fun y=>PyData.eqv y .none)=false from by
  rw[List.any_eq_false];intro y hy;obtain⟨z,_,rfl⟩:=List.mem_map.mp hy;simp[PyData.eqv]]
 rfl
theorem z0J{l:List Int}{i:Int}(h0:0<=i)(h:i<(l.length:Int)):fIx (.tuple (l.map PyData.int)) (.int i)=some (.int (l.getD i.toNat 0)):=by
 refine z2Y h0 ?_;rw[List.getElem?_map,List.getElem?_eq_getElem (by omega),List.getD_eq_getElem?_getD,List.getElem?_eq_getElem (by omega)];rfl
theorem z4r{α:Type}{J:α->PyData}{l:List α}{i:Int}{d:α}(h0:0<=i)(h:i<(l.length:Int)):fIx (.tuple (l.map J)) (.int i)=some (J (l.getD i.toNat d)):=by
 refine z2Y h0 ?_;rw[List.getElem?_map,List.getElem?_eq_getElem (by omega),List.getD_eq_getElem?_getD,List.getElem?_eq_getElem (by omega)];rfl
theorem y6{α:Type}{l:List α}{i:Nat}{d:α}(h:i<l.length):l.getD i d∈l:=by
 rw[List.getD_eq_getElem?_getD,List.getElem?_eq_getElem h];exact List.getElem_mem h
noncomputable def zCN(l:List Int):PyData:=.dict (l.map fun x=>(.int x,.bool true))
noncomputable abbrev tupI(st:List Int):PyData:=.tuple (st.map PyData.int)
theorem yt:∀l:List Int,(z1K (l.map PyData.int)).isSome=true
 | []=>rfl
 | x::l=>by
  have:=yt l;obtain⟨k,e⟩:=Option.isSome_iff_exists.mp this;simp only[List.map_cons,z1K,keyD,e,Option.isSome_some]
theorem yV(a b:List Int):PyData.eqv (tupI a) (tupI b)=decide (a=b):=by simp only[PyData.eqv,xm]
section
variable{α:Type}{f:Int->α->Option α}
noncomputable def wL(f:Int->α->Option α)(s:α)(row:List Int):Option α:=row.foldl (fun o d=>o.bind (f d)) (some s)
theorem xa(f:Int->α->Option α)(s:α)(row:List Int)(d:Int):wL f s (row++[d])=(wL f s row).bind (f d):=by simp[wL]
structure Bfs(f:Int->α->Option α)(D:Nat)(s0:α)(l:List (α×List Int))(k c:Nat):Prop where
 nd:(l.map (·.1)).Nodup
 hd:l[0]?=some (s0,[])
 sound:∀q∈l,wL f s0 q.2=some q.1
 doors:∀q∈l,∀d∈q.2,0<=d/\d<(D:Int)
 mono:l.Pairwise fun a b=>a.2.length<=b.2.length
 near:∀q:α×List Int,l[k]?=some q->∀p∈l,p.2.length<=q.2.length+1
 deep:∀(i:Nat) (q:α×List Int),l[i]?=some q->q.2.length<=i
 closed:∀(i d:Nat) (q:α×List Int),l[i]?=some q->d<D->(i<k\/(i=k/\d<c))->∀s',f (d:Int) q.1=some s'->∃p∈l,p.1=s'/\p.2.length<=q.2.length+1
variable{D:Nat}{s0:α}{l:List (α×List Int)}{k c:Nat}
theorem Bfs.init:Bfs f D s0 [(s0,[])] 0 0:=
 ⟨by simp,rfl,fun q h=>by rw[List.mem_singleton.mp h];rfl,fun q h=>by rw[List.mem_singleton.mp h];simp,by simp,fun q _ p h=>by rw[List.mem_singleton.mp h];simp,fun i q h=>by
  cases i with
  | zero=>simp at h;rw[<-h];simp
  | succ i=>simp at h,fun i d q _ _ h=>by omega⟩
theorem Bfs.skip{q:α×List Int}(B:Bfs f D s0 l k c)(hq:l[k]?=some q)(h:∀s',f (c:Int) q.1=some s'->∃p∈l,p.1=s'):Bfs f D s0 l k (c+1):=by
 refine⟨B.nd,B.hd,B.sound,B.doors,B.mono,B.near,B.deep,fun i d q' h1 h2 h3 s' hs=>?_⟩;by_cases e:i=k/\d=c
 ·obtain⟨rfl,rfl⟩:=e;rw[hq]at h1;cases h1;obtain⟨p,hp,e⟩:=h s' hs;exact⟨p,hp,e,B.near q hq p hp⟩
 ·exact B.closed i d q' h1 h2 (by omega) s' hs
theorem Bfs.add{q:α×List Int}{s':α}(B:Bfs f D s0 l k c)(hq:l[k]?=some q)(hc:c<D)(hs:f (c:Int) q.1=some s')(hn:∀p∈l,p.1≠s'):Bfs f D s0 (l++[(s',q.2++[(c:Int)])]) k (c+1):=by
 have hqm:q∈l:=List.mem_of_getElem? hq;have hkl:k<l.length:=(List.getElem?_eq_some_iff.mp hq).1;have old:∀{i:Nat} {p:α×List Int},l[i]?=some p->(l++[(s',q.2++[(c:Int)])])[i]?=some p:=fun{i p} h=>by
  rw[List.getElem?_append_left (List.getElem?_eq_some_iff.mp h).1];exact h
 refine⟨?_,old B.hd,fun p hp=>?_,fun p hp=>?_,?_,fun q' h p hp=>?_,fun i p h=>?_,fun i d q' h1 h2 h3 s2 hs2=>?_⟩
 ·rw[List.map_append];refine List.nodup_append.mpr ⟨B.nd,by simp,fun a ha b hb=>?_⟩;obtain⟨p,hp,rfl⟩:=List.mem_map.mp ha
  have:b=s':=by simpa using hb
  rw[this];exact hn p hp
 ·rcases List.mem_append.mp hp with hp | hp
  ·exact B.sound p hp
  ·rw[List.mem_singleton.mp hp];show wL f s0 (q.2++[(c:Int)])=some s';rw[xa,B.sound q hqm];exact hs
 ·rcases List.mem_append.mp hp with hp | hp
  ·exact B.doors p hp
  ·rw[List.mem_singleton.mp hp];intro d hd;rcases List.mem_append.mp hd with hd | hd
   ·exact B.doors q hqm d hd
   ·rw[List.mem_singleton.mp hd];omega
 ·rw[List.pairwise_append];refine⟨B.mono,by simp,fun a ha b hb=>?_⟩;rw[List.mem_singleton.mp hb]
  have:=B.near q hq a ha;simp;omega
 ·rw[old hq]at h;cases h;rcases List.mem_append.mp hp with hp | hp
  ·exact B.near q hq p hp
  ·rw[List.mem_singleton.mp hp];simp
 ·by_cases hi:i<l.length
  ·rw[List.getElem?_append_left hi]at h;exact B.deep i p h
  ·rw[List.getElem?_append_right (by omega)]at h;have h0:i - l.length=0:=by
    rcases Nat.eq_zero_or_pos (i - l.length)with z | z
    ·exact z
    ·rw[List.getElem?_eq_none (by simp;omega)]at h;cases h
   rw[h0]at h;simp at h;rw[<-h]
   have:=B.deep k q hq;simp;omega
 ·by_cases hi:i<l.length
  ·rw[List.getElem?_append_left hi]at h1;by_cases e:i=k/\d=c
   ·obtain⟨rfl,rfl⟩:=e;rw[hq]at h1;cases h1;rw[hs]at hs2;cases hs2;exact⟨_,List.mem_append_right _ (List.mem_singleton.mpr rfl),rfl,by simp⟩
   ·obtain⟨p,hp,e1,e2⟩:=B.closed i d q' h1 h2 (by omega) s2 hs2;exact⟨p,List.mem_append_left _ hp,e1,e2⟩
  ·omega
theorem Bfs.next(B:Bfs f D s0 l k D):Bfs f D s0 l (k+1) 0:=by
 refine⟨B.nd,B.hd,B.sound,B.doors,B.mono,fun q hq p hp=>?_,B.deep,fun i d q h1 h2 h3=>B.closed i d q h1 h2 (by omega)⟩;obtain⟨h1,rfl⟩:=List.getElem?_eq_some_iff.mp hq;have hk:k<l.length:=by omega
 have a:=B.near _ (List.getElem?_eq_getElem hk) p hp;have b:=List.pairwise_iff_getElem.mp B.mono k (k+1) hk h1 (Nat.lt_succ_self k);omega
theorem Bfs.all(B:Bfs f D s0 l l.length 0):∀(row:List Int),(∀d∈row,0<=d/\d<(D:Int))->∀s,wL f s0 row=some s->∃p∈l,p.1=s/\p.2.length<=row.length:=by
 intro row;have gen:∀(n:Nat) (row:List Int),row.length=n->(∀d∈row,0<=d/\d<(D:Int))->∀s,wL f s0 row=some s->∃p∈l,p.1=s/\p.2.length<=row.length:=by
  intro n
  induction n with
  | zero=>
   intro row hr _ s hs
   have:row=[]:=List.length_eq_zero_iff.mp hr;subst this;refine⟨(s0,[]),List.mem_of_getElem? B.hd,?_,by simp⟩
   have:some s0=some s:=hs;cases this;rfl
  | succ n ih=>
   intro row hr hd s hs;have hne:row≠[]:=fun z=>by rw[z]at hr;simp at hr
   obtain⟨r,d,e⟩:∃r d,row=r++[d]:=⟨row.dropLast,row.getLast hne,(List.dropLast_concat_getLast hne).symm⟩;subst e;rw[xa]at hs;obtain⟨s1,h1,h2⟩:=Option.bind_eq_some_iff.mp hs;have hrl:r.length=n:=by simpa using hr
   obtain⟨p,hp,e1,e2⟩:=ih r hrl (fun d hd'=>hd d (List.mem_append_left _ hd')) s1 h1;obtain⟨i,hi,e3⟩:=List.mem_iff_getElem.mp hp;have hdd:=hd d (List.mem_append_right _ (List.mem_singleton.mpr rfl));obtain⟨p',hp',e4,e5⟩:=B.closed i d.toNat p (by rw[List.getElem?_eq_getElem hi,e3]) (by omega) (.inl hi) s (by rw[show((d.toNat:Nat):Int)=d by omega,e1];exact h2);exact⟨p',hp',e4,by simp;omega⟩
 exact gen row.length row rfl
end
noncomputable def gP(l:List (List Int×List Int)):List (PyData×PyData):=l.map fun kv=>(tupI kv.1,tupI kv.2)
theorem z35(l:List (List Int×List Int)):((gP l).all fun kv=>yC kv.1)=true:=by
 rw[List.all_eq_true];intro kv h;obtain⟨q,_,rfl⟩:=List.mem_map.mp h;rfl
theorem z1r(l:List (List Int×List Int))(k:List Int):zb (gP l) (tupI k)=true:=by
 simp only[zb,yt,z35,Bool.and_true]
theorem z37{l:List (List Int×List Int)}(h:l≠[])(k:List Int):yQ (gP l) (tupI k)=true:=by
 simp only[yQ,yt,z35,Bool.and_true,Bool.true_and];cases l with
 | nil=>exact absurd rfl h
 | cons x r=>rfl
theorem z8E:∀(l:List (List Int×List Int)) (k:List Int),((gP l).any fun kv=>PyData.eqv kv.1 (tupI k))=(l.any fun kv=>decide (kv.1=k))
 | [],k=>rfl
 | (c,v)::r,k=>by
  have ih:=z8E r k;unfold gP at ih |-;rw[List.map_cons,List.any_cons,List.any_cons,ih];simp only[yV]
theorem z0r:∀(l:List (List Int×List Int)) (k:List Int),xH (gP l) (tupI k)=((l.find? fun kv=>decide (kv.1=k)).map (·.2)).map tupI
 | [],k=>rfl
 | (c,v)::r,k=>by
  have ih:=z0r r k;unfold xH gP at ih |-;rw[List.map_cons,List.find?_cons,List.find?_cons];simp only[yV];by_cases e:c=k
  ·simp[e]
  ·simp only[e,decide_false];exact ih
theorem z98{l:List (List Int×List Int)}(hl:l.length<10000){k:List Int}(hn:∀p∈l,p.1≠k)(v:List Int):putD (gP l) (tupI k) (tupI v)=some (gP (l++[(k,v)])):=by
 unfold putD;rw[if_pos ⟨z1r l k,by unfold lim;simp[gP];omega⟩];congr 1;unfold dPut;rw[z8E,if_neg (by
  rw[Bool.not_eq_true,List.any_eq_false];intro p hp;simpa using hn p hp)]
 unfold gP;rw[List.map_append];rfl
theorem z7i{l:List (List Int×List Int)}(nd:(l.map (·.1)).Nodup){q:List Int×List Int}(h:q∈l):fIx (.dict (gP l)) (tupI q.1)=some (tupI q.2):=by
 have hne:l≠[]:=fun z=>by rw[z]at h;cases h
 simp only[fIx];rw[if_pos (z37 hne _),z0r]
 have:(l.find? fun kv=>decide (kv.1=q.1))=some q:=by
  induction l with
  | nil=>cases h
  | cons p r ih=>
   rw[List.map_cons,List.nodup_cons]at nd;rw[List.find?_cons];rcases List.mem_cons.mp h with rfl | h
   ·simp
   ·have hne2:p.1≠q.1:=fun e=>nd.1 (e▸List.mem_map.mpr ⟨q,h,rfl⟩);simp only[hne2,decide_false];exact ih nd.2 h (fun z=>by rw[z]at h;cases h)
 rw[this];rfl
theorem zAc{l:List (List Int×List Int)}(h:l≠[])(neg:Bool)(k:List Int):fIn neg (tupI k) (.dict (gP l))=some (.bool (if neg then !(l.any fun p=>decide (p.1=k))else l.any fun p=>decide (p.1=k))):=by
 simp only[fIn];rw[if_pos (z37 h k),z0r,Option.isSome_map,Option.isSome_map,List.isSome_find?]
noncomputable def subs:List Int->List (List Int)
 | []=>[[]]
 | x::l=>subs l++(subs l).map (x::·)
theorem z2f:∀l:List Int,(subs l).length=2 ^ l.length
 | []=>rfl
 | x::l=>by
  rw[subs,List.length_append,List.length_map,z2f l,List.length_cons,Nat.pow_succ];omega
theorem z0b:∀{l st:List Int},st.Sublist l->st∈subs l
 | _,_,.slnil=>by simp[subs]
 | _,_,.cons x h=>List.mem_append_left _ (z0b h)
 | _,_,.cons₂ x h=>List.mem_append_right _ (List.mem_map.mpr ⟨_,z0b h,rfl⟩)
theorem z4k{st:List Int}(h:st.Pairwise (·<·))(hin:∀x∈st,0<=x/\x<8):st∈subs (upto 8):=by
 have e:st=(upto 8).filter fun x=>decide (x∈st):=z0z h ((xw 8).filter _) fun x=>by
  rw[List.mem_filter,decide_eq_true_iff];exact⟨fun hx=>⟨mem_upto.mpr (by have:=hin x hx;omega),hx⟩,fun hx=>hx.2⟩
 rw[e];exact z0b List.filter_sublist
theorem zAL{ks:List (List Int)}(nd:ks.Nodup)(h:∀st∈ks,st.Pairwise (·<·)/\∀x∈st,0<=x/\x<8):ks.length<=256:=by
 have:=nd.length_le_of_subset (l₂:=subs (upto 8)) fun st hst=>z4k (h st hst).1 (h st hst).2;rw[z2f,zK]at this;exact this
noncomputable def yW(w:Int->Int)(r:List Int):Int:=(r.map w).sum
theorem z3o(w:Int->Int)(r:List Int)(d:Int):yW w (r++[d])=yW w r+w d:=by simp[yW]
noncomputable def wKey(w:Int->Int)(r:List Int):List Int:=yW w r::(r.length:Int)::r
def wLe(w:Int->Int)(r r':List Int):Prop:=HT.lexLt (wKey w r') (wKey w r)=false
theorem z2C{a b c:List Int}(h1:HT.lexLt b a=false)(h2:HT.lexLt c b=false):HT.lexLt c a=false:=by
 cases h:HT.lexLt c a with
 | false=>rfl
 | true=>
  cases h3:HT.lexLt a b with
  | true=>rw[yM h h3]at h2;cases h2
  | false=>
   have:=uG h1 h3;subst this;rw[h]at h2;cases h2
theorem z6p{a b:List Int}(h:HT.lexLt a b=true):HT.lexLt b a=false:=by
 cases h2:HT.lexLt b a with
 | false=>rfl
 | true=>have:=yM h h2;rw[xq]at this;cases this
theorem wLe.refl(w:Int->Int)(r:List Int):wLe w r r:=xq _
theorem wLe.trans{w:Int->Int}{a b c:List Int}(h1:wLe w a b)(h2:wLe w b c):wLe w a c:=z2C h1 h2
theorem wLe.antisymm{w:Int->Int}{a b:List Int}(h1:wLe w a b)(h2:wLe w b a):a=b:=by
 have:=uG h2 h1;unfold wKey at this;injection this with _ h
 injection h
theorem z38:∀{a b:List Int} (x:Int),a.length=b.length->HT.lexLt (a++[x]) (b++[x])=HT.lexLt a b
 | [],[],x,_=>by simp[HT.lexLt_cons,HT.lexLt_nil_nil]
 | [],_::_,_,h=>by simp at h
 | _::_,[],_,h=>by simp at h
 | y::a,z::b,x,h=>by
  simp only[List.cons_append,HT.lexLt_cons];rw[z38 x (by simpa using h)]
theorem z1v:∀{a b:List Int} (x y:Int),a.length=b.length->HT.lexLt a b=true->HT.lexLt (a++[x]) (b++[y])=true
 | [],[],_,_,_,h=>by simp[HT.lexLt_nil_nil]at h
 | [],_::_,_,_,h,_=>by simp at h
 | _::_,[],_,_,h,_=>by simp at h
 | u::a,z::b,x,y,h,k=>by
  simp only[List.cons_append,HT.lexLt_cons]at k |-;split at k
  next e=>rw[if_pos e];exact z1v x y (by simpa using h) k
  next e=>rw[if_neg e];exact k
theorem z2P{w:Int->Int}{a b:List Int}:wLe w a b↔yW w a<yW w b\/yW w a=yW w b/\(a.length<b.length\/a.length=b.length/\HT.lexLt b a=false):=by
 unfold wLe wKey;simp only[HT.lexLt_cons];by_cases h1:yW w b=yW w a
 ·rw[if_pos h1];by_cases h2:(b.length:Int)=(a.length:Int)
  ·rw[if_pos h2];constructor
   ·intro h;exact .inr ⟨h1.symm,.inr ⟨by omega,h⟩⟩
   ·rintro(h | ⟨_,h | ⟨_,h⟩⟩)
    ·omega
    ·omega
    ·exact h
  ·rw[if_neg h2,decide_eq_false_iff_not];constructor
   ·intro h;exact .inr ⟨h1.symm,.inl (by omega)⟩
   ·rintro(h | ⟨_,h | ⟨h,_⟩⟩)<;>omega
 ·rw[if_neg h1,decide_eq_false_iff_not];constructor
  ·intro h;exact .inl (by omega)
  ·rintro(h | ⟨h,_⟩)<;>omega
theorem wLe.snoc{w:Int->Int}{a b:List Int}(d:Int)(h:wLe w a b):wLe w (a++[d]) (b++[d]):=by
 rw[z2P]at h |-;simp only[z3o,List.length_append,List.length_singleton];rcases h with h | ⟨h,h2 | ⟨h2,h3⟩⟩
 ·left;omega
 ·right;exact⟨by omega,.inl (by omega)⟩
 ·right;exact⟨by omega,.inr ⟨by omega,by rw[z38 d h2.symm];exact h3⟩⟩
section
variable{α:Type}{f:Int->α->α}{w:Int->Int}{D:Nat}{goal:α->Bool}{s0:α}{dn:List (α×List Int)}{wt wt':List (List Int)}{x:List Int}
noncomputable def zg(f:Int->α->α)(s:α)(row:List Int):α:=row.foldl (fun s d=>f d s) s
theorem wS(f:Int->α->α)(s:α)(row:List Int)(d:Int):zg f s (row++[d])=f d (zg f s row):=by simp[zg]
def zU(D:Nat)(r:List Int):Prop:=∀d∈r,0<=d/\d<(D:Int)
end
noncomputable def w0:Int->Int:=fun _=>0
theorem z4v:∀r:List Int,yW w0 r=0
 | []=>rfl
 | _::r=>by
  have:=z4v r;unfold yW at this |-;rw[List.map_cons,List.sum_cons,this];rfl
def sLt(a b:List Int):Prop:=a.length<b.length\/a.length=b.length/\HT.lexLt a b=true
theorem sLe_iff{a b:List Int}:wLe w0 a b↔a.length<b.length\/a.length=b.length/\HT.lexLt b a=false:=by
 rw[z2P,z4v,z4v];constructor
 ·rintro(h | ⟨_,h⟩)
  ·omega
  ·exact h
 ·intro h;exact .inr ⟨rfl,h⟩
theorem sLt.le{a b:List Int}(h:sLt a b):wLe w0 a b:=by
 rw[sLe_iff];rcases h with h | ⟨h,k⟩
 ·exact .inl h
 ·exact .inr ⟨h,z6p k⟩
theorem sLt.trans{a b c:List Int}(h:sLt a b)(k:sLt b c):sLt a c:=by
 rcases h with h | ⟨h,h2⟩<;>rcases k with k | ⟨k,k2⟩
 ·exact .inl (by omega)
 ·exact .inl (by omega)
 ·exact .inl (by omega)
 ·exact .inr ⟨by omega,yM h2 k2⟩
theorem sLt.snoc{a b:List Int}(h:sLt a b)(x y:Int):sLt (a++[x]) (b++[y]):=by
 rcases h with h | ⟨h,h2⟩
 ·exact .inl (by simp;omega)
 ·exact .inr ⟨by simp;omega,z1v x y h h2⟩
theorem z39:∀(a:List Int) {x y:Int},x<y->HT.lexLt (a++[x]) (a++[y])=true
 | [],x,y,h=>by
  show HT.lexLt [x] [y]=true;rw[HT.lexLt_cons,if_neg (by omega)];exact decide_eq_true h
 | z::a,x,y,h=>by
  show HT.lexLt (z::(a++[x])) (z::(a++[y]))=true;rw[HT.lexLt_cons,if_pos rfl];exact z39 a h
theorem sLt.last(a:List Int){x y:Int}(h:x<y):sLt (a++[x]) (a++[y]):=.inr ⟨by simp,z39 a h⟩
section
variable{α:Type}{f:Int->α->Option α}{D:Nat}{s0:α}{l:List (α×List Int)}{k c:Nat}
structure BfsL(f:Int->α->Option α)(D:Nat)(l:List (α×List Int))(k c:Nat):Prop where
 ris:l.Pairwise fun a b=>sLt a.2 b.2
 near:∀q:α×List Int,l[k]?=some q->∀p∈l,sLt p.2 (q.2++[(c:Int)])
 closed:∀(i d:Nat) (q:α×List Int),l[i]?=some q->d<D->(i<k\/(i=k/\d<c))->∀s',f (d:Int) q.1=some s'->∃p∈l,p.1=s'/\wLe w0 p.2 (q.2++[(d:Int)])
theorem BfsL.init:BfsL f D [(s0,[])] 0 0:=
 ⟨by simp,fun q h p hp=>by
  rw[List.mem_singleton.mp hp];exact .inl (by simp),fun i d q _ _ h=>by omega⟩
theorem BfsL.skip{q:α×List Int}(B:BfsL f D l k c)(hq:l[k]?=some q)(h:∀s',f (c:Int) q.1=some s'->∃p∈l,p.1=s'):BfsL f D l k (c+1):=by
 refine⟨B.ris,fun q' hq' p hp=>(B.near q' hq' p hp).trans (sLt.last _ (by omega)),fun i d q' h1 h2 h3 s' hs=>?_⟩;by_cases e:i=k/\d=c
 ·obtain⟨rfl,rfl⟩:=e;rw[hq]at h1;cases h1;obtain⟨p,hp,e⟩:=h s' hs;exact⟨p,hp,e,(B.near q hq p hp).le⟩
 ·exact B.closed i d q' h1 h2 (by omega) s' hs
theorem BfsL.add{q:α×List Int}{s':α}(B:BfsL f D l k c)(hq:l[k]?=some q)(hs:f (c:Int) q.1=some s'):BfsL f D (l++[(s',q.2++[(c:Int)])]) k (c+1):=by
 have hkl:k<l.length:=(List.getElem?_eq_some_iff.mp hq).1;refine⟨?_,fun q' h p hp=>?_,fun i d q' h1 h2 h3 s2 hs2=>?_⟩
 ·rw[List.pairwise_append];refine⟨B.ris,by simp,fun a ha b hb=>?_⟩;rw[List.mem_singleton.mp hb];exact B.near q hq a ha
 ·rw[List.getElem?_append_left hkl,hq]at h;cases h;rcases List.mem_append.mp hp with hp | hp
  ·exact(B.near q hq p hp).trans (sLt.last _ (by omega))
  ·rw[List.mem_singleton.mp hp];exact sLt.last _ (by omega)
 ·by_cases hi:i<l.length
  ·rw[List.getElem?_append_left hi]at h1;by_cases e:i=k/\d=c
   ·obtain⟨rfl,rfl⟩:=e;rw[hq]at h1;cases h1;rw[hs]at hs2;cases hs2;exact⟨_,List.mem_append_right _ (List.mem_singleton.mpr rfl),rfl,wLe.refl _ _⟩
   ·obtain⟨p,hp,e1,e2⟩:=B.closed i d q' h1 h2 (by omega) s2 hs2;exact⟨p,List.mem_append_left _ hp,e1,e2⟩
  ·omega
theorem BfsL.next(B:BfsL f D l k D):BfsL f D l (k+1) 0:=by
 refine⟨B.ris,fun q hq p hp=>?_,fun i d q h1 h2 h3=>B.closed i d q h1 h2 (by omega)⟩;obtain⟨h1,rfl⟩:=List.getElem?_eq_some_iff.mp hq;have hk:k<l.length:=by omega
 have a:=B.near _ (List.getElem?_eq_getElem hk) p hp;have b:=List.pairwise_iff_getElem.mp B.ris k (k+1) hk h1 (Nat.lt_succ_self k);exact a.trans (b.snoc _ _)
theorem BfsL.all(B:Bfs f D s0 l l.length 0)(L:BfsL f D l l.length 0):∀(row:List Int),(∀d∈row,0<=d/\d<(D:Int))->∀s,wL f s0 row=some s->∃p∈l,p.1=s/\wLe w0 p.2 row:=by
 intro row;have gen:∀(n:Nat) (row:List Int),row.length=n->(∀d∈row,0<=d/\d<(D:Int))->∀s,wL f s0 row=some s->∃p∈l,p.1=s/\wLe w0 p.2 row:=by
  intro n
  induction n with
  | zero=>
   intro row hr _ s hs
   have:row=[]:=List.length_eq_zero_iff.mp hr;subst this;refine⟨(s0,[]),List.mem_of_getElem? B.hd,?_,wLe.refl _ _⟩
   have:some s0=some s:=hs;cases this;rfl
  | succ n ih=>
   intro row hr hd s hs;have hne:row≠[]:=fun z=>by rw[z]at hr;simp at hr
   obtain⟨r,d,e⟩:∃r d,row=r++[d]:=⟨row.dropLast,row.getLast hne,(List.dropLast_concat_getLast hne).symm⟩;subst e;rw[xa]at hs;obtain⟨s1,h1,h2⟩:=Option.bind_eq_some_iff.mp hs;have hrl:r.length=n:=by simpa using hr
   obtain⟨p,hp,e1,e2⟩:=ih r hrl (fun d hd'=>hd d (List.mem_append_left _ hd')) s1 h1;obtain⟨i,hi,e3⟩:=List.mem_iff_getElem.mp hp;have hdd:=hd d (List.mem_append_right _ (List.mem_singleton.mpr rfl));obtain⟨p',hp',e4,e5⟩:=L.closed i d.toNat p (by rw[List.getElem?_eq_getElem hi,e3]) (by omega) (.inl hi) s (by rw[show((d.toNat:Nat):Int)=d by omega,e1];exact h2);rw[show((d.toNat:Nat):Int)=d by omega]at e5;exact⟨p',hp',e4,e5.trans (e2.snoc d)⟩
 exact gen row.length row rfl
theorem z5y(L:l.Pairwise fun a b=>sLt a.2 b.2)(g:α->Bool):∀q0 rest,l.filter (fun q=>g q.1)=q0::rest->∀p∈l,g p.1=true->wLe w0 q0.2 p.2:=by
 induction l with
 | nil=>intro _ _ h;simp at h
 | cons a l ih=>
  intro q0 rest hf p hp hp1;obtain⟨pw1,pw2⟩:=List.pairwise_cons.mp L;rw[List.filter_cons]at hf;cases ha:g a.1 with
  | true=>
   rw[ha,if_pos rfl]at hf;have e0:a=q0:=(List.cons.inj hf).1;subst e0;rcases List.mem_cons.mp hp with rfl | hp
   ·exact wLe.refl _ _
   ·exact(pw1 p hp).le
  | false=>
   rw[ha,if_neg (by simp)]at hf;rcases List.mem_cons.mp hp with rfl | hp
   ·rw[ha]at hp1;cases hp1
   ·exact ih pw2 q0 rest hf p hp hp1
end
open PySem PySem.Spec PyProof.Rows
section
variable{M:Model}{A:Around}{E:Value->Shared->Prop}{s:Shared}
end
section
variable{X:Cx}{E:XK}{x:Str}{C:Addr}{bmB:List Value}{B newId initId:String}{np cpos pos:Pos}{a:Expr}{ta:TA}
end
section
variable{K:W.Frag}{Er:Str->Hp->Prop}{X:Cx}{E:XK}
end
section
variable{P:Program}{w:World}{K:W.Frag}{mg:Str->Option Value}{base:Heap}
end
section
variable{X:Cx}{pins:List (Addr×Obj)}{σ:St}{H:Hp}{s:Shared}
end
section
variable{M:Model}{A:Around}{E:Value->Shared->Prop}
variable{nm q nm' q':Str}{C N G N':Addr}{bs bm bs' bm':List Value}{hd hd':Bool}{sn sn':List Str}{sub sub':List Value}{ab ab':Bool}{col col':Option Bool}{dd dd':Option Addr}{k0 k1 k2 k3 k5 j0 j1 j2 j3 j5:Option Value}{nI nI':String}
end
section
variable{X:Cx}{pins:List (Addr×Obj)}{σ:St}{H:Hp}{s:Shared}
end
section
variable{X:Cx}{pins:List (Addr×Obj)}{σ:St}{H:Hp}{s:Shared}
end
section
open PySem.W
variable{prog:Program}{w:World}{A:Around}{E:Value->Shared->Prop}{h:Heap}{g:Array GenState}{d:Drawn}{t:Nat}{os:OsState}{a C:Addr}{o:Obj}{K:Frag}
end
section
variable{X:Cx}{CX:CXT}{k:Nat}{f C:Addr}{fd:FuncData}{ps:List Str}{sp:Sp}{dvs:List V}{ds:List Value}{E:XK}{x m:Str}{p pos apos:Pos}{e o:Expr}{es:List Expr}{ta:TE}{t:TA}
end
section
variable{K:W.Frag}{Er:Str->Hp->Prop}{X:Cx}{e:Expr}{es:List Expr}{pos:Pos}{ms:Env'->Mx (List D)}
end
section
variable{P:Program}{w:World}{K:W.Frag}{mg:Str->Option Value}{base:Heap}
end
section
open PySem.W
variable{K:Frag}{ea C:Addr}
end
section
variable{X:Cx}
variable{K:W.Frag}{Er:Str->Hp->Prop}{e:Expr}{m:Env'->Mx D}
end
section
variable{K:W.Frag}{Er:Str->Hp->Prop}{X:Cx}
end
section
variable{K:W.Frag}{Er:Str->Hp->Prop}{X:Cx}
end
section
variable{K:W.Frag}{G:Addr}{Cs:List Addr}
end
section
variable{K:W.Frag}{Er:Str->Hp->Prop}{X:Cx}{e:Expr}{es:List Expr}{m:Env'->Mx D}{ms:Env'->Mx (List D)}
end
section
variable{K:W.Frag}{Er:Str->Hp->Prop}{X:Cx}{e a b:Expr}{es els:List Expr}{ms:Env'->Mx (List D)}{m:Env'->Mx D}{pos p lp:Pos}
end
section
variable{K:W.Frag}{Er:Str->Hp->Prop}{X:Cx}{a:Expr}{ma:Env'->Mx D}{pos p2:Pos}
end
open PySem PySem.Spec PyProof.Rows PySem.Builtin PySem.Builtin.Str
section
variable{K:W.Frag}{Er:Str->Hp->Prop}{X:Cx}{e a tg it:Expr}{ma mo m:Env'->Mx D}{pos:Pos}
noncomputable def toS:List PyData->Option (List Str)
 | []=>some []
 | .str y::r=>(toS r).map (y::·)
 | _::_=>none
end
section
variable{K:W.Frag}{Er:Str->Hp->Prop}{X:Cx}{o a:Expr}{ma mo:Env'->Mx D}{apos cpos:Pos}
end
open PySem PySem.Spec PyProof.Rows PySem.Builtin
section
variable{K:W.Frag}{Er:Str->Hp->Prop}{X:Cx}{e o a:Expr}{ma mo m:Env'->Mx D}{apos cpos pos:Pos}
end
end L2
namespace PySem.SeqAt
open PySem PySem.MeetsSeq PySem.MeetsSeq2 PySem.MeetsSeq3 PySem.Builtin
open PySem.AutoSeq1 (wpAny_loadPart')
end PySem.SeqAt
namespace L2
open PySem PySem.Spec PyProof.Rows
mutual
noncomputable def ltP:PyData->PyData->Option Bool
 | .int i,.int j=>some (decide (i<j))
 | .tuple xs,.tuple ys=>ltPs xs ys
 | _,_=>none
noncomputable def ltPs:List PyData->List PyData->Option Bool
 | x::xs,y::ys=>if PyData.eqv x y=true then ltPs xs ys else ltP x y
 | [],[]=>some false
 | [],_::_=>some true
 | _::_,[]=>some false
end
end L2
namespace HT
open PySem PySem.Spec PyProof.Rows L2
section
open PySem.SeqAt
open PySem.AutoSeq1 (wpAny_loadPart')
open PySem.MeetsSeq PySem.MeetsSeq2 PySem.MeetsSeq3
end
end HT
namespace L2
open PySem PySem.Spec PyProof.Rows
section
variable{K:W.Frag}{Er:Str->Hp->Prop}{X:Cx}{e:Expr}{m:Env'->Mx D}
end
end L2
namespace PySem.SeqAt
open PySem PySem.MeetsSeq PySem.MeetsSeq2 PySem.MeetsSeq3 PySem.Builtin
open PySem.AutoSeq1 (wpAny_loadPart')
end PySem.SeqAt
namespace L2
open PySem PySem.Spec PyProof.Rows
section
variable{K:W.Frag}{Er:Str->Hp->Prop}{X:Cx}{e:Expr}{m:Env'->Mx D}{pos:Pos}
end
section
variable{K:W.Frag}{Er:Str->Hp->Prop}{X:Cx}
end
open PySem
theorem z0I:∀l:List Int,PyData.canLayAll0 (l.map PyData.int)=true
 | []=>rfl
 | x::l=>by simp only[List.map_cons,PyData.canLayAll0,PyData.canLay0,Bool.true_and];exact z0I l
theorem z2l:∀l:List Int,PyData.depthAll (l.map PyData.int)<=1
 | []=>by simp[PyData.depthAll]
 | x::l=>by simp only[List.map_cons,PyData.depthAll,PyData.depth];have:=z2l l;omega
section
variable{β:Type}
noncomputable def gJ(J:β->PyData)(l:List (List Int×β)):List (PyData×PyData):=l.map fun kv=>(tupI kv.1,J kv.2)
variable{J:β->PyData}
theorem z2c(l:List (List Int×β)):((gJ J l).all fun kv=>yC kv.1)=true:=by
 rw[List.all_eq_true];intro kv h;obtain⟨q,_,rfl⟩:=List.mem_map.mp h;rfl
theorem z14(l:List (List Int×β))(k:List Int):zb (gJ J l) (tupI k)=true:=by
 simp only[zb,yt,z2c,Bool.and_true]
theorem z0L{l:List (List Int×β)}(h:l≠[])(k:List Int):yQ (gJ J l) (tupI k)=true:=by
 simp only[yQ,yt,z2c,Bool.and_true,Bool.true_and];cases l with
 | nil=>exact absurd rfl h
 | cons x r=>rfl
theorem z7l:∀(l:List (List Int×β)) (k:List Int),((gJ J l).any fun kv=>PyData.eqv kv.1 (tupI k))=(l.any fun kv=>decide (kv.1=k))
 | [],k=>rfl
 | (c,v)::r,k=>by
  have ih:=z7l r k;unfold gJ at ih |-;rw[List.map_cons,List.any_cons,List.any_cons,ih];simp only[yV]
theorem z0S:∀(l:List (List Int×β)) (k:List Int),xH (gJ J l) (tupI k)=((l.find? fun kv=>decide (kv.1=k)).map (·.2)).map J
 | [],k=>rfl
 | (c,v)::r,k=>by
  have ih:=z0S r k;unfold xH gJ at ih |-;rw[List.map_cons,List.find?_cons,List.find?_cons];simp only[yV];by_cases e:c=k
  ·simp[e]
  ·simp only[e,decide_false];exact ih
theorem z8b{l:List (List Int×β)}(hl:l.length<10000){k:List Int}(hn:∀p∈l,p.1≠k)(v:β):putD (gJ J l) (tupI k) (J v)=some (gJ J (l++[(k,v)])):=by
 unfold putD;rw[if_pos ⟨z14 l k,by unfold lim;simp[gJ];omega⟩];congr 1;unfold dPut;rw[z7l,if_neg (by
  rw[Bool.not_eq_true,List.any_eq_false];intro p hp;simpa using hn p hp)]
 unfold gJ;rw[List.map_append];rfl
theorem z2W{l:List (List Int×β)}(nd:(l.map (·.1)).Nodup){q:List Int×β}(h:q∈l):(l.find? fun kv=>decide (kv.1=q.1))=some q:=by
 induction l with
 | nil=>cases h
 | cons p r ih=>
  rw[List.map_cons,List.nodup_cons]at nd;rw[List.find?_cons];rcases List.mem_cons.mp h with rfl | h
  ·simp
  ·have hne2:p.1≠q.1:=fun e=>nd.1 (e▸List.mem_map.mpr ⟨q,h,rfl⟩);simp only[hne2,decide_false];exact ih nd.2 h
theorem zAT{l:List (List Int×β)}(nd:(l.map (·.1)).Nodup){q:List Int×β}(h:q∈l):fIx (.dict (gJ J l)) (tupI q.1)=some (J q.2):=by
 have hne:l≠[]:=fun z=>by rw[z]at h;cases h
 simp only[fIx];rw[if_pos (z0L hne _),z0S,z2W nd h];rfl
theorem z9v{l:List (List Int×β)}(h:l≠[])(neg:Bool)(k:List Int):fIn neg (tupI k) (.dict (gJ J l))=some (.bool (if neg then !(l.any fun p=>decide (p.1=k))else l.any fun p=>decide (p.1=k))):=by
 simp only[fIn];rw[if_pos (z0L h k),z0S,Option.isSome_map,Option.isSome_map,List.isSome_find?]
end
section
variable{α:Type}[DecidableEq α]{f:Int->α->α}{w:Int->Int}{D:Nat}{s0:α}{T T0:List (α×List Int)}{k:Nat}{s:α}{r:List Int}
theorem z2m(f:Int->α->α)(s0:α)(a b:List Int):zg f s0 (a++b)=zg f (zg f s0 a) b:=by simp[zg]
theorem z0e(w:Int->Int)(a b:List Int):yW w (a++b)=yW w a+yW w b:=by simp[yW]
theorem z2a(hw:∀d:Int,0<=w d):∀r:List Int,0<=yW w r
 | []=>by simp[yW]
 | x::r=>by
  have:=z2a hw r
  have:=hw x;unfold yW at *;simp only[List.map_cons,List.sum_cons];omega
theorem cut(hw:∀d:Int,0<=w d){N:Nat}(few:∀l:List (List Int),(l.map (zg f s0)).Nodup->(∀r∈l,zU D r)->l.length<=N):∀r,zU D r->∃r',zU D r'/\zg f s0 r'=zg f s0 r/\wLe w r' r/\r'.length<N:=by
 have gen:∀(n:Nat) (r:List Int),r.length=n->zU D r->∃r',zU D r'/\zg f s0 r'=zg f s0 r/\wLe w r' r/\r'.length<N:=by
  intro n
  induction n using Nat.strongRecOn with
  | _ n ih=>
   intro r hr hd;by_cases hn:n<N
   ·exact⟨r,hd,rfl,wLe.refl _ _,by omega⟩
   ·have hnn:¬(((List.range (n+1)).map fun i=>r.take i).map (zg f s0)).Nodup:=fun nd=>by
     have:=few _ nd fun x hx=>by
      obtain⟨i,_,rfl⟩:=List.mem_map.mp hx;exact fun d hd'=>hd d (List.mem_of_mem_take hd')
     simp at this;omega
    have:∃i j,i<j/\j<=n/\zg f s0 (r.take i)=zg f s0 (r.take j):=by
     refine Classical.byContradiction fun hno=>hnn ?_;rw[List.Nodup,List.pairwise_iff_getElem];intro i j hi hj hij e;simp only[List.length_map,List.length_range]at hi hj;simp only[List.getElem_map,List.getElem_range]at e;exact hno ⟨i,j,hij,by omega,e⟩
    obtain⟨i,j,hij,hj,e⟩:=this;have hd':zU D (r.take i++r.drop j):=fun x hx=>by
     rcases List.mem_append.mp hx with hx | hx
     ·exact hd x (List.mem_of_mem_take hx)
     ·exact hd x (List.mem_of_mem_drop hx)
    have hl:(r.take i++r.drop j).length<n:=by
     rw[List.length_append,List.length_take,List.length_drop];omega
    obtain⟨r',h1,h2,h3,h4⟩:=ih _ hl _ rfl hd';refine⟨r',h1,?_,h3.trans ?_,h4⟩
    ·rw[h2,z2m,e,<-z2m,List.take_append_drop]
    ·rw[z2P];have c1:yW w r=yW w (r.take i)+yW w ((r.take j).drop i)+yW w (r.drop j):=by
      have e1:r=(r.take i++(r.take j).drop i)++r.drop j:=by
       have:r.take i=(r.take j).take i:=by rw[List.take_take,Nat.min_eq_left (by omega)]
       rw[this,List.take_append_drop,List.take_append_drop]
      conv=>lhs;rw[e1]
      rw[z0e,z0e]
     have c2:=z2a hw ((r.take j).drop i);rw[z0e];by_cases z:yW w ((r.take j).drop i)=0
     ·exact .inr ⟨by omega,.inl (by omega)⟩
     ·exact .inl (by omega)
 intro r;exact gen r.length r rfl
end
end L2
namespace Bt
open PySem
theorem b_isinstance:bootBuiltins "isinstance"=some (.builtin "isinstance"):=by decide +kernel
theorem b_all:bootBuiltins "all"=some (.builtin "all"):=by decide +kernel
theorem b_any:bootBuiltins "any"=some (.builtin "any"):=by decide +kernel
theorem b_sum:bootBuiltins "sum"=some (.builtin "sum"):=by decide +kernel
theorem b_min:bootBuiltins "min"=some (.builtin "min"):=by decide +kernel
theorem b_max:bootBuiltins "max"=some (.builtin "max"):=by decide +kernel
theorem b_len:bootBuiltins "len"=some (.builtin "len"):=by decide +kernel
theorem b_sorted:bootBuiltins "sorted"=some (.builtin "sorted"):=by decide +kernel
theorem b_bool:bootBuiltins "bool"=some (.type "bool"):=by decide +kernel
theorem b_int:bootBuiltins "int"=some (.type "int"):=by decide +kernel
theorem b_tuple:bootBuiltins "tuple"=some (.type "tuple"):=by decide +kernel
theorem b_list:bootBuiltins "list"=some (.type "list"):=by decide +kernel
theorem b_dict:bootBuiltins "dict"=some (.type "dict"):=by decide +kernel
theorem b_range:bootBuiltins "range"=some (.type "range"):=by decide +kernel
theorem b_set:bootBuiltins "set"=some (.type "set"):=by decide +kernel
end Bt
namespace L2
open PySem
section
variable{X:Cx}{K:W.Frag}
theorem ixT(h:X.K=K:=by rfl):IxR X (rIxT K):=h▸ix_tup
theorem ixL(h:X.K=K:=by rfl):IxR X (rIxL K):=h▸ix_list
theorem piT{tg l:Expr}{tl:TE}(hl:PE X l tl)(h:X.K=K:=by rfl):PI X tg l (iTup K tl):=by subst h;exact zB6 hl
end
end L2
namespace Gw
open PySem L2
set_option hygiene false
set_option compiler.extract_closed false
def tmTab:String:=""
def tmArg:Nat->Lean.MacroM Lean.Term
  | _=>Lean.Macro.throwUnsupported
def tmSub(p:List String)(w:String):List String:=match w.splitOn "$" with
  | [a,b]=>[a++p.getD ((b.take 1).toString.toNat!) ""++(b.drop 1).toString]
  | _=>
    let r:=(w.drop 1).toString
    if w.startsWith "%" then [p.getD r.toNat! ""]
    else if w.startsWith "_" then List.replicate (r.toNat?.getD 1) "_"
    else if w.startsWith "?" then List.replicate (r.toNat?.getD 1) "?"
    else [w]
def tmApp(a:Array Lean.Term):Lean.Term:=if a.size == 1 then a[0]! else Lean.Syntax.mkApp a[0]! (a.extract 1 a.size)
def tmList:Nat->List String->Array Lean.Term->Lean.MacroM (Array Lean.Term×List String)
  | f+1,w::r,a=>do
    if w == ")" then return (a,r)
    let t:=(w.drop 1).toString
    if w == "(" || w == "[" || w.startsWith "{" then
      let(b,r)<-tmList f r #[]
      let e<-if w == "[" then `([$b,*])else if w == "(" then `(($(tmApp b)))else pure ⟨Lean.mkNode ``Lean.Parser.Term.namedArgument #[Lean.mkAtom "(",Lean.mkIdent t.toName,Lean.mkAtom ":=",tmApp b,Lean.mkAtom ")"]⟩
      tmList f r (a.push e)
    else
      let e<-if w == "_" then `(_)else if w == "?" then `(?_)else if w.startsWith "#" then tmArg t.toNat! else if w.startsWith (String.ofList [Char.ofNat 39])then pure ⟨Lean.Syntax.mkStrLit t⟩
        else if w.startsWith "@" then `(@$(Lean.mkIdent t.toName))else if w.startsWith "." then pure ⟨Lean.mkNode ``Lean.Parser.Term.dotIdent #[Lean.mkAtom ".",Lean.mkIdent t.toName]⟩
        else if w.isNat then pure (Lean.Syntax.mkNumLit w)else pure (Lean.mkIdent w.toName)
      tmList f r (a.push e)
  | _,_,a=>return (a,[])
def tmOne(x:String):Lean.MacroM (Lean.TSyntax `tactic×Nat):=do
  let p:=x.splitOn ","
  let c:=p.headD ""
  let some row:=(tmTab.splitOn "|").find? fun r=>r.startsWith (c++" ") | Lean.Macro.throwUnsupported
  let ws:=(row.splitOn " ").drop 1
  let f<-`(@$(Lean.mkIdent (ws.getD 2 "").toName))
  let(as,_)<-tmList 1000 ((ws.drop 3).flatMap (tmSub (p.drop 1))) #[]
  let e:=Lean.Syntax.mkApp f as
  let h:=(ws.getD 1 "").toNat!
  if ws.headD "" == "R" then return (<-`(tactic| refine $e),h)else return (<-`(tactic| exact $e),h)
def tmGo:Nat->List String->Lean.MacroM (Lean.TSyntax `tactic×List String)
  | f+1,x::r=>do
    let(t,k)<-tmOne x
    let mut a:=#[t]
    let mut r:=r
    for j in [0:k] do
      let(u,r2)<-tmGo f r
      r:=r2
      a:=a.push (<-if j+1<k then `(tactic| · $u:tactic)else pure u)
    return (<-`(tactic| ($[$a:tactic];*)),r)
  | _,_=>Lean.Macro.throwUnsupported
local macro_rules | `(tactic| walk_at $s:str)=>do
  match s.getString.splitOn " " with
  | "!"::r=>return (<-tmGo 1000 r).1
  | _=>Lean.Macro.throwUnsupported
set_option hygiene true
noncomputable def top(i:Nat):Stmt:=PySem.Challenge.pw_gatherall_k09_whole_formulas.main.body.getD i (.Pass ⟨0,0,0,0⟩)
theorem zCA:FnScope ["thing","least","most"] ["thing","least","most"] (z6 (top 10)):=⟨rfl,rfl,rfl,by decide +kernel,rfl,by decide +kernel,by decide +kernel⟩
theorem zBw:FnScope ["thing","least","most"] ["thing","least","most"] (z6 (top 11)):=⟨rfl,rfl,rfl,by decide +kernel,rfl,by decide +kernel,by decide +kernel⟩
theorem zBk:FnScope ["things"] ["things"] (z6 (top 12)):=⟨rfl,rfl,rfl,by decide +kernel,rfl,by decide +kernel,by decide +kernel⟩
theorem zCG:FnScope ["thing","many"] ["thing","many"] (z6 (top 13)):=⟨rfl,rfl,rfl,by decide +kernel,rfl,by decide +kernel,by decide +kernel⟩
theorem zCJ:FnScope ["thing","many"] ["thing","many"] (z6 (top 14)):=⟨rfl,rfl,rfl,by decide +kernel,rfl,by decide +kernel,by decide +kernel⟩
theorem zCK:FnScope ["thing","many"] ["thing","many"] (z6 (top 15)):=⟨rfl,rfl,rfl,by decide +kernel,rfl,by decide +kernel,by decide +kernel⟩
theorem zC8:FnScope ["thing"] ["thing"] (z6 (top 16)):=⟨rfl,rfl,rfl,by decide +kernel,rfl,by decide +kernel,by decide +kernel⟩
theorem zCB:FnScope ["thing"] ["thing"] (z6 (top 17)):=⟨rfl,rfl,rfl,by decide +kernel,rfl,by decide +kernel,by decide +kernel⟩
theorem zC2:FnScope ["thing"] ["thing"] (z6 (top 18)):=⟨rfl,rfl,rfl,by decide +kernel,rfl,by decide +kernel,by decide +kernel⟩
theorem zBu:FnScope ["thing"] ["thing"] (z6 (top 19)):=⟨rfl,rfl,rfl,by decide +kernel,rfl,by decide +kernel,by decide +kernel⟩
theorem zAD:FnScope ["thing","house"] ["thing","house"] (z6 (top 20)):=⟨rfl,rfl,rfl,by decide +kernel,rfl,by decide +kernel,by decide +kernel⟩
theorem zAZ:FnScope ["web"] ["web"] (z6 (top 21)):=⟨rfl,rfl,rfl,by decide +kernel,rfl,by decide +kernel,by decide +kernel⟩
theorem zBP:FnScope ["house"] ["house"] (z6 (top 22)):=⟨rfl,rfl,rfl,by decide +kernel,rfl,by decide +kernel,by decide +kernel⟩
theorem zAY:FnScope ["places","many"] ["places","many"] (z6 (top 23)):=⟨rfl,rfl,rfl,by decide +kernel,rfl,by decide +kernel,by decide +kernel⟩
theorem zBE:FnScope ["row","house"] ["row","house"] (z6 (top 24)):=⟨rfl,rfl,rfl,by decide +kernel,rfl,by decide +kernel,by decide +kernel⟩
theorem zA6:FnScope ["house","places"] ["house","places"] (z6 (top 26)):=⟨rfl,rfl,rfl,by decide +kernel,rfl,by decide +kernel,by decide +kernel⟩
theorem sc_q16:FnScope ["door","standing","rooms"] ["door","standing"] (z6 (top 27)):=⟨rfl,rfl,rfl,by decide +kernel,rfl,by decide +kernel,by decide +kernel⟩
theorem sc_q17:FnScope ["house","places","row","standing","door"] ["house","places","row"] (z6 (top 28)):=⟨rfl,rfl,rfl,by decide +kernel,rfl,by decide +kernel,by decide +kernel⟩
theorem zB4:FnScope ["house","places","row"] ["house","places","row"] (z6 (top 29)):=⟨rfl,rfl,rfl,by decide +kernel,rfl,by decide +kernel,by decide +kernel⟩
theorem sc_q18:FnScope ["start","doors","behind","rows","waiting","ahead","door","came"] ["start","doors","behind"] (z6 (top 30)):=⟨rfl,rfl,rfl,by decide +kernel,rfl,by decide +kernel,by decide +kernel⟩
theorem zAP:FnScope ["house","places"] ["house","places"] (z6 (top 31)):=⟨rfl,rfl,rfl,by decide +kernel,rfl,by decide +kernel,by decide +kernel⟩
theorem sc_q20:FnScope ["house","places","few","rows","fitting"] ["house","places","few"] (z6 (top 32)):=⟨rfl,rfl,rfl,by decide +kernel,rfl,by decide +kernel,by decide +kernel⟩
theorem zAe:FnScope ["house","places"] ["house","places"] (z6 (top 33)):=⟨rfl,rfl,rfl,by decide +kernel,rfl,by decide +kernel,by decide +kernel⟩
theorem sc_q22:FnScope ["many","found","room"] ["many"] (z6 (top 34)):=⟨rfl,rfl,rfl,by decide +kernel,rfl,by decide +kernel,by decide +kernel⟩
theorem sc_q23:FnScope ["house","ahead","standing","door"] ["house"] (z6 (top 35)):=⟨rfl,rfl,rfl,by decide +kernel,rfl,by decide +kernel,by decide +kernel⟩
theorem sc_q24:FnScope ["house","ahead","gathers","waiting","behind","standing"] ["house"] (z6 (top 36)):=⟨rfl,rfl,rfl,by decide +kernel,rfl,by decide +kernel,by decide +kernel⟩
theorem sc_q25:FnScope ["house","sizes","gathering"] ["house"] (z6 (top 37)):=⟨rfl,rfl,rfl,by decide +kernel,rfl,by decide +kernel,by decide +kernel⟩
theorem zAk:FnScope ["web","places"] ["web","places"] (z6 (top 39)):=⟨rfl,rfl,rfl,by decide +kernel,rfl,by decide +kernel,by decide +kernel⟩
theorem sc_q27:FnScope ["web","tied","tie"] ["web"] (z6 (top 40)):=⟨rfl,rfl,rfl,by decide +kernel,rfl,by decide +kernel,by decide +kernel⟩
theorem sc_q28:FnScope ["tied","start","far","waiting","place","other"] ["tied","start"] (z6 (top 41)):=⟨rfl,rfl,rfl,by decide +kernel,rfl,by decide +kernel,by decide +kernel⟩
theorem sc_q29:FnScope ["web","places","tied","far","common"] ["web","places"] (z6 (top 42)):=⟨rfl,rfl,rfl,by decide +kernel,rfl,by decide +kernel,by decide +kernel⟩
theorem sc_q30:FnScope ["web","places","ways"] ["web","places"] (z6 (top 43)):=⟨rfl,rfl,rfl,by decide +kernel,rfl,by decide +kernel,by decide +kernel⟩
theorem zBX:FnScope ["tied","could_be"] ["tied","could_be"] (z6 (top 44)):=⟨rfl,rfl,rfl,by decide +kernel,rfl,by decide +kernel,by decide +kernel⟩
theorem sc_q32:FnScope ["web","places","tied","could_be","moves","place"] ["web","places"] (z6 (top 45)):=⟨rfl,rfl,rfl,by decide +kernel,rfl,by decide +kernel,by decide +kernel⟩
theorem zA2:FnScope ["_law_script","_law_k"] ["_law_script","_law_k"] (z6 (top 47)):=⟨rfl,rfl,rfl,by decide +kernel,rfl,by decide +kernel,by decide +kernel⟩
theorem sc_q34:FnScope ["_law_script","_law_k","_law_many","_law_drawn"] ["_law_script","_law_k","_law_many"] (z6 (top 48)):=⟨rfl,rfl,rfl,by decide +kernel,rfl,by decide +kernel,by decide +kernel⟩
theorem zAQ:FnScope ["_law_script","_law_town","_law_many"] ["_law_script","_law_town","_law_many"] (z6 (top 49)):=⟨rfl,rfl,rfl,by decide +kernel,rfl,by decide +kernel,by decide +kernel⟩
theorem sc_q36:FnScope ["_law_script","_law_town","_law_size","_law_about","_law_joins","_law_house","_law_rooms_here","_law_names","_law_left","_law_doors","_law_door","_law_new","_law_room","_law_named","_law_row","_law_end"] ["_law_script","_law_town"] (z6 (top 50)):=⟨rfl,rfl,rfl,by decide +kernel,rfl,by decide +kernel,by decide +kernel⟩
theorem sc_law:FnScope ["_law_script","_law_town","_law_many","_law_one","_law_other","_law_ring","_law_line","_law_apart","_law_found","_law_odd","_law_every","_law_last"] ["_law_script"] (z6 (top 51)):=⟨rfl,rfl,rfl,by decide +kernel,rfl,by decide +kernel,by decide +kernel⟩
set_option genInjectivity false in
set_option genSizeOfSpec false in
structure Adr where
 (f_q0 f_q1 f_q2 f_q3 f_q4 f_q5 f_q6 f_q7 f_q8 f_q9 f_q10 f_q11 f_q12 f_q13 f_q14 f_q15 f_q16 f_q17 f_led f_q18 f_q19 f_q20 f_q21 f_q22 f_q23 f_q24 f_q25 f_q26 f_q27 f_q28 f_q29 f_q30 f_q31 f_q32 f_q33 f_q34 f_q35 f_q36 f_law:Fn1)
structure Txt(K:W.Frag)(mg:Str->Option Value)(t:Adr):Prop where
 f_q0:FT K mg "is_number" ["thing","least","most"] (top 10) t.f_q0
 f_q1:FT K mg "are_numbers" ["thing","least","most"] (top 11) t.f_q1
 f_q2:FT K mg "is_rising" ["things"] (top 12) t.f_q2
 f_q3:FT K mg "are_places" ["thing","many"] (top 13) t.f_q3
 f_q4:FT K mg "is_tie" ["thing","many"] (top 14) t.f_q4
 f_q5:FT K mg "is_door" ["thing","many"] (top 15) t.f_q5
 f_q6:FT K mg "is_number_and_tuple" ["thing"] (top 16) t.f_q6
 f_q7:FT K mg "is_web" ["thing"] (top 17) t.f_q7
 f_q8:FT K mg "may_hold_doors" ["thing"] (top 18) t.f_q8
 f_q9:FT K mg "is_house" ["thing"] (top 19) t.f_q9
 f_q10:FT K mg "is_row" ["thing","house"] (top 20) t.f_q10
 f_q11:FT K mg "need_web" ["web"] (top 21) t.f_q11
 f_q12:FT K mg "need_house" ["house"] (top 22) t.f_q12
 f_q13:FT K mg "need_places" ["places","many"] (top 23) t.f_q13
 f_q14:FT K mg "need_row" ["row","house"] (top 24) t.f_q14
 f_q15:FT K mg "need_house_and_places" ["house","places"] (top 26) t.f_q15
 f_q16:FT K mg "through" ["door","standing"] (top 27) t.f_q16
 f_q17:FT K mg "behind_row" ["house","places","row"] (top 28) t.f_q17
 f_led:FT K mg "led" ["house","places","row"] (top 29) t.f_led
 f_q18:FT K mg "rows_from" ["start","doors","behind"] (top 30) t.f_q18
 f_q19:FT K mg "shortest_rows" ["house","places"] (top 31) t.f_q19
 f_q20:FT K mg "row_to_so_few" ["house","places","few"] (top 32) t.f_q20
 f_q21:FT K mg "gather" ["house","places"] (top 33) t.f_q21
 f_q22:FT K mg "all_standings" ["many"] (top 34) t.f_q22
 f_q23:FT K mg "standings_ahead" ["house"] (top 35) t.f_q23
 f_q24:FT K mg "standings_that_gather" ["house"] (top 36) t.f_q24
 f_q25:FT K mg "sorted_out" ["house"] (top 37) t.f_q25
 f_q26:FT K mg "need_web_and_places" ["web","places"] (top 39) t.f_q26
 f_q27:FT K mg "tied_places" ["web"] (top 40) t.f_q27
 f_q28:FT K mg "fewest_steps" ["tied","start"] (top 41) t.f_q28
 f_q29:FT K mg "ways_to_places" ["web","places"] (top 42) t.f_q29
 f_q30:FT K mg "steps" ["web","places"] (top 43) t.f_q30
 f_q31:FT K mg "one_move_on" ["tied","could_be"] (top 44) t.f_q31
 f_q32:FT K mg "rounds" ["web","places"] (top 45) t.f_q32
 f_q33:FT K mg "_law_cell_at" ["_law_script","_law_k"] (top 47) t.f_q33
 f_q34:FT K mg "_law_mixed" ["_law_script","_law_k","_law_many"] (top 48) t.f_q34
 f_q35:FT K mg "_law_draw" ["_law_script","_law_town","_law_many"] (top 49) t.f_q35
 f_q36:FT K mg "_law_rooms" ["_law_script","_law_town"] (top 50) t.f_q36
 f_law:FT K mg "law" ["_law_script"] (top 51) t.f_law
 b_isinstance:mg "isinstance"=none
 b_bool:mg "bool"=none
 b_int:mg "int"=none
 b_tuple:mg "tuple"=none
 b_list:mg "list"=none
 b_all:mg "all"=none
 b_any:mg "any"=none
 b_range:mg "range"=none
 b_len:mg "len"=none
 b_sum:mg "sum"=none
 b_sorted:mg "sorted"=none
 b_min:mg "min"=none
 b_max:mg "max"=none
 b_set:mg "set"=none
 b_dict:mg "dict"=none
 g_q39:∃u,mg "MOST_PLACES"=some u/\RelV (.int 8) u
 g_q40:∃u,mg "MOST_DOORS"=some u/\RelV (.int 3) u
 g_q41:∃u,mg "MOST_IN_ROW"=some u/\RelV (.int 60) u
noncomputable def z8c:Int:=8
noncomputable def z8i:Int:=3
noncomputable def z8Q:Int:=60
section
variable{P:Program}{w:World}{K:W.Frag}{mg:Str->Option Value}{base:Heap}{t:Adr}
noncomputable def b_q0:Env'->Mx Out:=(sSeq (sIf (mOrT (mTru (mUn (fIsi "bool") (mVar 0))) (z0n (mTru (mUn (fIsi "int") (mVar 0))))) (sRet (mC (.bool false))) sNil)
 (sRet (z1W (fCmp fun i j=>decide (i<=j)) (fCmp fun i j=>decide (i<=j)) (mVar 1) (mVar 0) (mVar 2))))
noncomputable def F_q0:List D->Mx D:=mFn 3 3 b_q0
theorem zAG(T:Txt K mg t):FnOk P w K mg base CX0 1 t.f_q0.a t.f_q0.d ["thing","least","most"] (spD K EW0 F_q0):=by
 refine zV (m:=b_q0) T.f_q0.F zCA rfl rfl rfl fun cdv A outer s H E hr=>?_;have hu:=zk hr;unfold b_q0;exact(zA (xI (DPW.dt (z0A (zi (DE.w (z1V z6T (yK w5 (by rfl) T.b_isinstance Bt.b_isinstance (zI (z8 (pv 0)) (zI (ub (v:=.ty "bool") (by rfl) T.b_bool Bt.b_bool rfl) pa_nil))))) (fun _=>rfl)) (wO (u9 (zi (DE.w (z1V z8w (yK w5 (by rfl) T.b_isinstance Bt.b_isinstance (zI (z8 (pv 0)) (zI (ub (v:=.ty "int") (by rfl) T.b_int Bt.b_int rfl) pa_nil))))) (fun _=>rfl)))))) (zH (zR (DE.w uH))) yE)
   (zH (zR (DE.w (z3G (wM z4o) (wM z4o) (z8 (pv 1)) (z8 (pv 0)) (z8 (pv 2)))))))
noncomputable def b_q2:Env'->Mx Out:=(sRet (zO (yh fun bs=>bs.all id) (z5 (mP (zw (mRng yr (z5 (mBin fSub (zO fLen (z5 (mVar 0) mNil)) (mC (.int 1))) mNil)) mYes (mBin fLt (mBin fIx (mVar 0) (mVar 1)) (mBin fIx (mVar 0) (mBin fAdd (mVar 1) (mC (.int 1))))))) mNil)))
noncomputable def F_q2:List D->Mx D:=mFn 1 1 b_q2
theorem z9p(T:Txt K mg t):FnOk P w K mg base CX0 1 t.f_q2.a t.f_q2.d ["things"] (spD K EW0 F_q2):=by
 refine zV (m:=b_q2) T.f_q2.F zBk rfl rfl rfl fun cdv A outer s H E hr=>?_;have hu:=zk hr;unfold b_q2;exact(zH (zR (DE.w (zL (z08 rfl) (by rfl) T.b_all Bt.b_all (zC (DE.w (DF.de (zp (N:=["things"]) (sc:=(z6 (top 12))) (N':=["things","k"]) rfl rfl rfl (by decide +kernel) zc (yI (by rfl) T.b_range (zC (DE.w (zN yR (DE.w (zL ye (by rfl) T.b_len Bt.b_len (zC (z8 (pv 0)) zG))) (DE.w zE))) zG)) (fun _ _ _ _=>yP) (fun _ _ _ _=>(yj (zB8 (Nat.lt_of_succ_lt hu)) (DE.w (zZ hu (z8 (pv 0)) (z8 (pv 1)) (fun _ _=>rfl))) (DE.w (zZ hu (z8 (pv 0)) (DE.w (zN zm (z8 (pv 1)) (DE.w zE))) (fun _ _=>rfl))) (zd _)))))) zG)))))
noncomputable def z7C:Env'->Mx Out:=(sSeq (sSet 2 (mP (zw (mIt (mVar 1)) mYes (mBin fIx (mVar 0) (mVar 3)))))
 (sRet (mIf (yN (mBin (fIn false) (mC .none) (mVar 2))) (mC .none) (zO wF (z5 (mUn xv (mVar 2)) mNil)))))
noncomputable def z0Q:List D->Mx D:=mFn 3 2 z7C
theorem z45(T:Txt K mg t):FnOk P w K mg base CX0 1 t.f_q16.a t.f_q16.d ["door","standing"] (spD K EW0 z0Q):=by
 refine zV (m:=z7C) T.f_q16.F sc_q16 rfl rfl rfl fun cdv A outer s H E hr=>?_;have hu:=zk hr;unfold z7C;exact(zA (z0W (i:=2) (N:=["door","standing","rooms"]) (sc:=(z6 (top 27))) (N':=["door","standing","rooms","room"]) rfl rfl rfl (by decide +kernel) sc_q16.nd rfl rfl zc (yT (z8 (pv 1))) (fun _ _ _ _=>yP) (fun _ _ _ _=>(zZ hu (z8 (pv 0)) (z8 (pv 3)) (fun _ _=>rfl))))
   (zH (zR (zBL (zt (z2u hr.units) (DE.w xW) (z8 (pv 2)) (by rfl)) (DE.w xW) (DE.w (yc xB (by rfl) T.b_tuple Bt.b_tuple (zC (DE.w (z3i rfl (by rfl) T.b_sorted Bt.b_sorted (by rfl) T.b_set Bt.b_set (z8 (pv 2)))) zG)))))))
noncomputable def z6m:Env'->Mx Out:=(sSeq (sSet 1 (mP (mSeq PyData.list (z5 (mP (mSeq PyData.tuple mNil)) mNil))))
 (sSeq (sFor (mRng yr (z5 (mVar 0) mNil)) (τ1 2) (sSet 1 (mBin fAdd (mVar 1) (mP (zw (mIt (mVar 1)) mYes (mBin fAdd (mVar 3) (mP (mSeq PyData.tuple (z5 (mVal 2) mNil)))))))))
 (sRet (mSl (mVar 1) (z3w (mC (.int 1))) uU))))
noncomputable def z1o:List D->Mx D:=mFn 3 1 z6m
theorem z85(T:Txt K mg t):FnOk P w K mg base CX0 1 t.f_q22.a t.f_q22.d ["many"] (spD K EW0 z1o):=by
 refine zV (m:=z6m) T.f_q22.F sc_q22 rfl rfl rfl fun cdv A outer s H E hr=>?_;have hu:=zk hr;unfold z6m;exact(zA (zh (i:=1) sc_q22.nd rfl (by first | exact Or.inl rfl | exact Or.inr rfl) (DF.de (xc (z4 (zW z9) z9))))
   (zA (xG PassesOwn.never rfl (yI (by rfl) T.b_range (zC (z8 (pv 0)) zG)) (yO (yB (i:=2) sc_q22.nd rfl (by first | exact Or.inl rfl | exact Or.inr rfl)))
   (zH (zh (i:=1) sc_q22.nd rfl (by first | exact Or.inl rfl | exact Or.inr rfl) (zN zm (z8 (pv 1)) (DE.w (DF.de (zp (N:=["many","found","room"]) (sc:=(z6 (top 34))) (N':=["many","found","room","standing"]) rfl rfl rfl (by decide +kernel) zc (yT (z8 (pv 1))) (fun _ _ _ _=>yP) (fun _ _ _ _=>(zN zm (z8 (pv 3)) (DE.w (zW (z4 (zD (pv 2)) z9))))))))))))
   (zH (zR (DE.w (zAb (z8 (pv 1)) (z5R (DE.w zE)) z42))))))
noncomputable def wN(L:List (List Int))(q:Int×Int):List (List Int):=
 (L.set q.1.toNat (L.getD q.1.toNat []++[q.2])).set q.2.toNat ((L.set q.1.toNat (L.getD q.1.toNat []++[q.2])).getD q.2.toNat []++[q.1])
noncomputable def zr(n:Nat)(ps:List (Int×Int)):List (List Int):=ps.foldl wN (List.replicate n [])
noncomputable def pair?:PyData->Option (Int×Int)
 | .tuple [.int x,.int y]=>some (x,y)
 | _=>none
noncomputable def pairs?:List PyData->Option (List (Int×Int))
 | []=>some []
 | d::r=>match pair? d,pairs? r with
  | some q,some l=>some (q::l)
  | _,_=>none
noncomputable def web?:PyData->Option (Int×List (Int×Int))
 | .tuple [.int n,.tuple ts]=>(pairs? ts).map fun ps=>(n,ps)
 | _=>none
noncomputable def z41(q:Int×Int):PyData:=.tuple [.int q.1,.int q.2]
noncomputable def webD(n:Int)(ps:List (Int×Int)):PyData:=.tuple [.int n,.tuple (ps.map z41)]
theorem pair?_eq{d:PyData}{q:Int×Int}(h:pair? d=some q):d=z41 q:=by
 unfold pair? at h;split at h
 ·cases h;rfl
 ·cases h
theorem pairs?_eq:∀{ds:List PyData} {ps:List (Int×Int)},pairs? ds=some ps->ds=ps.map z41
 | [],ps,h=>by simp only[pairs?]at h;cases h;rfl
 | d::r,ps,h=>by
  simp only[pairs?]at h;split at h
  next q l e1 e2=>cases h;rw[List.map_cons,pair?_eq e1,pairs?_eq e2]
  next=>cases h
theorem web?_eq{d:PyData}{n:Int}{ps:List (Int×Int)}(h:web? d=some (n,ps)):d=webD n ps:=by
 unfold web? at h;split at h
 next m ts=>
  obtain⟨l,e,e2⟩:=Option.map_eq_some_iff.mp h;cases e2;rw[pairs?_eq e];rfl
 next=>cases h
noncomputable def z7c(L:List (List Int)):PyData:=.list (L.map fun l=>.list (l.map PyData.int))
noncomputable def z8U(n:Int)(ps:List (Int×Int)):Option PyData:=if 0<=n/\n<=100/\ps.length<=400/\ps.all (fun q=>decide ((0<=q.1/\q.1<n)/\0<=q.2/\q.2<n))=true then some (z7c (zr n.toNat ps))else none
noncomputable def z3L:List D->Mx D
 | [.p w]=>Mx.opt ((web? w).bind fun q=>(z8U q.1 q.2).map D.p)
 | _=>Mx.bad
theorem zBm{σ:St}{H:Hp}{A B:Hp->Prop}(h:A H):tYes σ H (fun b H3=>if b=true then A H3 else B H3):=by
 show if true=true then A H else B H
 exact iteT h
theorem z2t{α:Type}{xs:List α}{i:Int}{v:α}(h0:0<=i)(h:xs[i.toNat]?=some v):atI xs i=some v:=by
 have:=uZ h
 rwa [Int.toNat_of_nonneg h0]at this
structure TiedAt(H:Hp)(D:Addr)(bs:List Addr)(L:List (List Int)):Prop where
 top:H D=some (.lst (bs.map V.ref))
 len:bs.length=L.length
 each:∀(i:Nat) (b:Addr) (l:List Int),bs[i]?=some b->L[i]?=some l->H b=some (.lst (l.map V.int))
theorem TiedAt.push{H:Hp}{D:Addr}{bs:List Addr}{L:List (List Int)}(h:TiedAt H D bs L)(nd:bs.Nodup)(hD:D∉bs){p:Nat}{b:Addr}(hb:bs[p]?=some b)(q:Int):
  TiedAt (upd H b (.lst ((L.getD p []).map V.int++[.int q]))) D bs (L.set p (L.getD p []++[q])):=by
 have hDb:D≠b:=fun e=>hD (e▸List.mem_of_getElem? hb);have hpb:p<bs.length:=(List.getElem?_eq_some_iff.mp hb).1;have hp:p<L.length:=by rw[<-h.len];exact hpb
 refine⟨by rw[zB hDb];exact h.top,by rw[List.length_set];exact h.len,fun i c l' h1 h2=>?_⟩;by_cases e:i=p
 ·subst e;rw[hb]at h1;cases h1;rw[List.getElem?_set_self hp]at h2;cases h2;rw[z7,List.map_append];rfl
 ·rw[List.getElem?_set_ne (Ne.symm e)]at h2
  have:c≠b:=fun z=>by
   subst z;obtain⟨i1,e1⟩:=List.getElem?_eq_some_iff.mp h1;obtain⟨i2,e2⟩:=List.getElem?_eq_some_iff.mp hb;exact e ((List.getElem_inj nd).mp (e1.trans e2.symm))
  rw[zB this];exact h.each i c l' h1 h2
theorem TiedAt.at{H:Hp}{D:Addr}{bs:List Addr}{L:List (List Int)}(h:TiedAt H D bs L){p:Nat}{b:Addr}(hb:bs[p]?=some b):H b=some (.lst ((L.getD p []).map V.int)):=by
 have hpb:p<bs.length:=(List.getElem?_eq_some_iff.mp hb).1;have hp:p<L.length:=by rw[<-h.len];exact hpb
 exact h.each p b _ hb (by rw[List.getD_eq_getElem?_getD,List.getElem?_eq_getElem hp];rfl)
theorem z47(n:Nat):∀(ps:List (Int×Int)) (L:List (List Int)) (k:Nat),(∀p,(L.getD p []).length<=k)->∀p,((ps.foldl wN L).getD p []).length<=k+2*ps.length
 | [],L,k,h,p=>by simpa using h p
 | q::r,L,k,h,p=>by
  have st:∀(L:List (List Int)) (i:Nat) (x:Int) (k:Nat),(∀p,(L.getD p []).length<=k)->∀p,((L.set i (L.getD i []++[x])).getD p []).length<=k+1:=fun L i x k h p=>by
   rw[List.getD_eq_getElem?_getD,List.getElem?_set];split
   ·split
    ·have:=h i;simp only[Option.getD_some,List.length_append,List.length_singleton];omega
    ·simp
   ·have:=h p;rw[List.getD_eq_getElem?_getD]at this;omega
  have:=z47 n r (wN L q) (k+1+1) (st _ _ _ _ (st L _ _ k h)) p;rw[List.foldl_cons,List.length_cons];omega
theorem z9T{S:Addr->Prop}{H:Hp}{f:Int×Int->PyData}:∀{ps:List (Int×Int)} {xs:List V},DatsS S H (ps.map f) xs->∀(i:Nat) (h:i<ps.length),∃v,xs[i]?=some v/\DatS S H (f ps[i]) v:=fun{ps xs} h i hi=>h.get (by rw[List.getElem?_map,List.getElem?_eq_getElem hi];rfl)
theorem z1p{S:Addr->Prop}{H:Hp}:∀{bs:List Addr} {L:List (List Int)},bs.length=L.length->(∀b∈bs,¬S b)->(∀(i:Nat) (b:Addr) (l:List Int),bs[i]?=some b->L[i]?=some l->H b=some (.lst (l.map V.int)))->DatsS S H (L.map fun l=>.list (l.map PyData.int)) (bs.map V.ref)
 | [],[],_,_,_=>.nil
 | [],_::_,h,_,_=>by cases h
 | _::_,[],h,_,_=>by cases h
 | b::bs,l::L,h,hS,he=>.cons (z28 (hS b List.mem_cons_self) (he 0 b l rfl rfl) (uW l)) (z1p (by simpa using h) (fun c hc=>hS c (List.mem_cons_of_mem _ hc)) fun i c m h1 h2=>he (i+1) c m (by simpa using h1) (by simpa using h2))
theorem z82(T:Txt K mg t):FnOk P w K mg base CX0 1 t.f_q27.a t.f_q27.d ["web"] (spD K EW0 z3L):=by
 have shape:∀{vs:List V} {H:Hp} {Q:VK} {E:XK},spD K EW0 z3L vs H Q E->∃(S:Addr->Prop) (a t':Addr) (n:Int) (ps:List (Int×Int)) (xs:List V),vs=[.ref a]/\(∀a,S a->H a≠none)/\H a=some (.tup [.int n,.ref t'])/\H t'=some (.tup xs)/\DatsS S H (ps.map z41) xs/\(0<=n/\n<=100)/\ps.length<=400/\(∀q∈ps,(0<=q.1/\q.1<n)/\0<=q.2/\q.2<n)/\
   ∀v H',Same H H'->DatS S H' (z7c (zr n.toNat ps)) v->Q v H':=fun{vs H Q E} h=>by
  obtain⟨g,k,ds,h0,hs,ht,hd,r,q⟩:=h
  match ds,q,r with
  | [.p w],q,r=>
   obtain⟨d,ed,q2⟩:=wv (show AftG (fun _ H' d v=>Rep g g.U H' d v) g (fun c H'=>EW0 c E H') H (Mx.opt ((web? w).bind fun q=>(z8U q.1 q.2).map D.p) k) Q from q);obtain⟨⟨n,ps⟩,e1,e2⟩:=Option.bind_eq_some_iff.mp ed;obtain⟨z,e3,e4⟩:=Option.map_eq_some_iff.mp e2;subst e4;have ew:=web?_eq e1;subst ew;unfold z8U at e3;split at e3
   next c=>
    cases e3;obtain⟨v,rfl,rv⟩:=all1 r;have rv:DatS g.U H (webD n ps) v:=rv;simp only[webD,DatS,DatsS]at rv;obtain⟨a,_,rfl,ha,x1,_,rfl,e5,x2,_,rfl,⟨t',xs,e6,ht',hxs⟩,e7⟩:=rv;subst e5 e6 e7;refine⟨g.U,a,t',n,ps,xs,rfl,fun b z=>?_,ha,ht',hxs,⟨c.1,c.2.1⟩,c.2.2.1,fun q hq=>of_decide_eq_true (List.all_eq_true.mp c.2.2.2 q hq),fun v H' s d=>q2 v H' s.kp (s.twn ht) d⟩;rcases z with z | z
    ·exact hd b z
    ·rw[ht b z];intro z;cases z
   next=>cases e3
 refine T.f_q27.F.ok sc_q27 (fun vs H Q E h=>?_) (fun cdv A outer s H vs Q E hr h=>?_)
 ·obtain⟨S,a,t',n,ps,xs,rfl,_⟩:=shape h;rfl
 ·obtain⟨S,a,t',n,ps,xs,rfl,hSd,h2,h3,hps,hn,hpl,hin,k⟩:=shape h;have hxl:xs.length=ps.length:=by rw[<-hps.length,List.length_map]
  refine⟨_,(xC (z2F (i:=1) (N:=["web","tied","tie"]) (sc:=(z6 (top 40))) (N':=["web","tied","tie","place"]) rfl rfl rfl (by decide +kernel) sc_q27.nd rfl rfl (z1d (by rfl) T.b_range (zI (wq (ixT (K:=K)) (pv 0) xh (fun _ _=>rfl)) pa_nil)) (fun _ _ _ _=>yP) (fun _ _ _ _=>(z1f pa_nil)))
   (xC (z7g PassesOwn.never rfl (piT (K:=K) (wq (ixT (K:=K)) (pv 0) xh (fun _ _=>rfl))) (yB (i:=2) sc_q27.nd rfl (by first | exact Or.inl rfl | exact Or.inr rfl))
   (xC (xK (xt PySem.F.plainAttrs_list PySem.F.slot_list_append PySem.F.type_list_append y8 (wq (ixL (K:=K)) (pv 1) (wq (ixT (K:=K)) (pv 2) xh (fun _ _=>rfl)) (fun _ _=>rfl)) (zI (wq (ixT (K:=K)) (pv 2) xh (fun _ _=>rfl)) pa_nil)))
   (wT (xK (xt PySem.F.plainAttrs_list PySem.F.slot_list_append PySem.F.type_list_append y8 (wq (ixL (K:=K)) (pv 1) (wq (ixT (K:=K)) (pv 2) xh (fun _ _=>rfl)) (fun _ _=>rfl)) (zI (wq (ixT (K:=K)) (pv 2) xh (fun _ _=>rfl)) pa_nil))))))
   (wT (z1C (pv 1))))),?_⟩
  refine⟨_,rfl,a,_,_,_,rfl,rfl,SqT.of h2,rfl,_,rfl,by omega,by omega,n.toNat,fun i ys H'=>∃bs:List Addr,ys=bs.map V.ref/\bs.length=i/\bs.Nodup/\Same H H'/\∀b∈bs,H' b=some (.lst [])/\H b=none,
   ⟨[],rfl,rfl,List.nodup_nil,Same.refl H,fun b hb=>(nomatch hb)⟩,⟨y4 (by omega),fun ys H' _=>Nat.le_refl _,fun i ys H' hi' _=>hi',fun i ys H' v H'' hi' ⟨bs,e1,e2,e3,s1,e4⟩ y=>?_⟩,fun ys H' ⟨bs,e1,e2,e3,s1,e4⟩ D hD=>?_⟩
  ·obtain⟨rfl,rfl⟩:=y;refine zBm ⟨Nat.zero_le _,fun p hp=>⟨bs++[p],by rw[e1,List.map_append];rfl,by rw[List.length_append,e2];rfl,?_,s1.trans (Same.new hp),fun b hb=>?_⟩⟩
   ·exact z4s e3 fun m=>by rw[(e4 p m).1]at hp;cases hp
   ·rcases List.mem_append.mp hb with m | m
    ·have:=zM (e4 b m).1 hp;rw[zB this];exact e4 b m
    ·rw[List.mem_singleton.mp m,z7];exact⟨rfl,s1.free hp⟩
  ·have hDb:D∉bs:=fun m=>by rw[(e4 D m).1]at hD;cases hD
   have s2:Same H (upd H' D (.lst ys)):=s1.trans (Same.new hD);have hD0:H D=none:=s1.free hD;have T0:TiedAt (upd H' D (.lst ys)) D bs (List.replicate n.toNat []):=⟨by rw[z7,e1],by rw[List.length_replicate];exact e2,fun i b l q1 q2=>by
    have hb:=List.mem_of_getElem? q1;rw[List.getElem?_replicate]at q2;split at q2
    ·cases q2;have hne:b≠D:=fun z=>by rw[z]at hb;exact hDb hb
     rw[zB hne];exact(e4 b hb).1
    ·cases q2⟩
   have few:=fun(i:Nat) (p:Nat)=>z47 n.toNat (ps.take i) (List.replicate n.toNat []) 0 (fun p=>by
    rw[List.getD_eq_getElem?_getD,List.getElem?_replicate];split<;>simp) p
   have lenT:∀(ps:List (Int×Int)) (L:List (List Int)),(ps.foldl wN L).length=L.length:=fun ps=>by
    induction ps with
    | nil=>intro L;rfl
    | cons q r ih=>intro L;rw[List.foldl_cons,ih];unfold wN;rw[List.length_set,List.length_set]
   refine⟨_,rfl,a,_,_,_,rfl,rfl,SqT.of (s2 _ _ h2),rfl,t',rfl,⟨_,SqT.of (s2 _ _ h3)⟩,z8V (K:=K) (a:=t') (xs:=xs)
    (fun i σ H2=>∃(v:Option V),σ=[some (.ref a),some (.ref D),v]/\Same H H2/\TiedAt H2 D bs (zr n.toNat (ps.take i)))
    ⟨none,rfl,s2,T0⟩ (fun i σ H2 _ ⟨_,_,s3,_⟩=>SqT.of (s3 _ _ h3)) ?_ ?_⟩
   ·rintro i y σ H2 hi ⟨v,rfl,s3,T3⟩;have hix:i<xs.length:=(List.getElem?_eq_some_iff.mp hi).1;have hip:i<ps.length:=by omega
    obtain⟨y',ey,ry⟩:=z9T hps i hip;rw[hi]at ey;cases ey;obtain⟨c,_,rfl,hc,u1,_,rfl,d1,u2,_,rfl,d2,d3⟩:=(show ∃c zs,y=.ref c/\H c=some (.tup zs)/\∃u1 r1,zs=u1::r1/\u1=.int ps[i].1/\∃u2 r2,r1=u2::r2/\u2=.int ps[i].2/\r2=[] by simpa only[z41,DatS,DatsS]using ry);subst d1 d2 d3;have tie:=hin ps[i] (List.getElem_mem hip);have f1:=few i ps[i].1.toNat;obtain⟨b1,x1⟩:∃b,bs[ps[i].1.toNat]?=some b:=⟨_,List.getElem?_eq_getElem (show ps[i].1.toNat<bs.length by omega)⟩;obtain⟨b2,y1⟩:∃b,bs[ps[i].2.toNat]?=some b:=⟨_,List.getElem?_eq_getElem (show ps[i].2.toNat<bs.length by omega)⟩;have T4:=T3.push e3 hDb x1 ps[i].2;have T5:=T4.push e3 hDb y1 ps[i].1;have keep:∀{H4:Hp} {b:Addr} {o:HO},b∈bs->Same H H4->Same H (upd H4 b o):=fun{H4 b o} hb s4 c oc ec=>by
     rw[zB (zM ec (e4 b hb).2)];exact s4 _ _ ec
    have s4:=keep (o:=.lst (((zr n.toNat (ps.take i)).getD ps[i].1.toNat []).map V.int++[.int ps[i].2])) (List.mem_of_getElem? x1) s3;have s5:=keep (o:=.lst ((((zr n.toNat (ps.take i)).set ps[i].1.toNat ((zr n.toNat (ps.take i)).getD ps[i].1.toNat []++[ps[i].2])).getD ps[i].2.toNat []).map V.int++[.int ps[i].1])) (List.mem_of_getElem? y1) s4;have m1:(bs.map V.ref)[ps[i].1.toNat]?=some (.ref b1):=by rw[List.getElem?_map,x1];rfl
    have m2:(bs.map V.ref)[ps[i].2.toNat]?=some (.ref b2):=by rw[List.getElem?_map,y1];rfl
    have f2:(((zr n.toNat (ps.take i)).set ps[i].1.toNat ((zr n.toNat (ps.take i)).getD ps[i].1.toNat []++[ps[i].2])).getD ps[i].2.toNat []).length<=1000:=by
     rw[List.getD_eq_getElem?_getD,List.getElem?_set];have g1:=few i ps[i].1.toNat;have g2:=few i ps[i].2.toNat;rw[List.length_take]at g1 g2;unfold zr;split
     ·split
      ·simp only[Option.getD_some,List.length_append,List.length_singleton];omega
      ·simp
     ·rw[<-List.getD_eq_getElem?_getD];omega
    rw[List.length_take]at f1;refine⟨_,rfl,_,rfl,c,_,_,_,rfl,rfl,SqT.of (s3 _ _ hc),rfl,D,_,_,.ref b1,rfl,rfl,SqL.of T3.top,z2t tie.1.1 m1,.inl ⟨rfl,_,SqL.of (T3.at x1)⟩,_,rfl,c,_,_,_,rfl,rfl,SqT.of (s3 _ _ hc),rfl,
     b1,_,_,rfl,rfl,T3.at x1,z17 (by rw[List.length_map];unfold zr;omega),?_⟩
    refine⟨_,rfl,_,rfl,c,_,_,_,rfl,rfl,SqT.of (s4 _ _ hc),rfl,D,_,_,.ref b2,rfl,rfl,SqL.of T4.top,z2t tie.2.1 m2,.inl ⟨rfl,_,SqL.of (T4.at y1)⟩,_,rfl,c,_,_,_,rfl,rfl,SqT.of (s4 _ _ hc),rfl,
     b2,_,_,rfl,rfl,T4.at y1,z17 (by rw[List.length_map];exact f2),?_⟩
    refine⟨_,rfl,s5,?_⟩;have e6:zr n.toNat (ps.take (i+1))=wN (zr n.toNat (ps.take i)) ps[i]:=by
     unfold zr;rw[List.take_add_one,List.getElem?_eq_getElem hip,Option.toList_some,List.foldl_append];rfl
    rw[e6];exact T5
   ·rintro σ H2 ⟨v,rfl,s3,T3⟩;rw[hxl,List.take_length]at T3;refine⟨_,rfl,k _ H2 s3 (z28 (fun z=>hSd D z hD0) T3.top (z1p T3.len (fun b hb z=>hSd b z (e4 b hb).2) T3.each))⟩
noncomputable def z8m:Env'->Mx Out:=(sSeq (sOwn 2 (mD1 (mVal 1) (mC (.int 0))))
 (sSeq (sOwn 3 (mSeq PyData.list (z5 (mVal 1) mNil)))
 (sSeq (wD 1000 (mTru (mVar 3)) (sSeq (z1Z 4 3 (mC (.int 0)))
 (sFor (mIt (mBin fIx (mVar 0) (mVar 4))) (τ1 5) (sIf (yN (mBin (fIn true) (mVar 5) (mVar 2))) (sSeq (uk 2 (mVal 5) (mBin fAdd (mBin fIx (mVar 2) (mVar 4)) (mC (.int 1))))
 (sApp 3 (mVal 5))) sNil))))
 (sRet (mVar 2)))))
noncomputable def z8X:List D->Mx D:=mFn 6 2 z8m
theorem zAA(T:Txt K mg t):FnOk P w K mg base CX0 1 t.f_q28.a t.f_q28.d ["tied","start"] (spD K EW0 z8X):=by
 refine zV (m:=z8m) T.f_q28.F sc_q28 rfl rfl rfl fun cdv A outer s H E hr=>?_;have hu:=zk hr;unfold z8m;exact(zA (yp (i:=2) sc_q28.nd rfl (by first | exact Or.inl rfl | exact Or.inr rfl) (zBC hr.units (zD (pv 1)) zE))
   (zA (yp (i:=3) sc_q28.nd rfl (by first | exact Or.inl rfl | exact Or.inr rfl) (xc (z4 (zD (pv 1)) z9)))
   (zA (ww (k:=1000) PassesOwn.never (zi (z8 (pv 3)) (fun _=>rfl)) (zA (z33 (i:=4) sc_q28.nd rfl (by first | exact Or.inl rfl | exact Or.inr rfl) (xt PySem.F.plainAttrs_list PySem.F.slot_list_pop PySem.F.type_list_pop z0K (pv 3) (zI zE pa_nil)))
   (zH (xG PassesOwn.never rfl (uO (zZ hu (z8 (pv 0)) (z8 (pv 4)) (fun _ _=>rfl))) (yO (yB (i:=5) sc_q28.nd rfl (by first | exact Or.inl rfl | exact Or.inr rfl)))
   (zH (xI (zt (uN hr.units) (z8 (pv 5)) (z8 (pv 2)) (by rfl)) (zA (z25 hu (pv 2) (zD (pv 5)) (zN zm (DE.w (zZ hu (z8 (pv 2)) (z8 (pv 4)) (fun _ _=>rfl))) (DE.w zE)) rfl)
   (zH (z2q (xt PySem.F.plainAttrs_list PySem.F.slot_list_append PySem.F.type_list_append y8 (pv 3) (zI (zD (pv 5)) pa_nil))))) yE))))))
   (zH (zR (z8 (pv 2)))))))
noncomputable def z8h:Env'->Mx Out:=(sRet (mP (zw (mRng yr (z5 (zO fLen (z5 (mVar 0) mNil)) mNil)) (mTru (zO (yh fun bs=>bs.any id) (z5 (mP (zw (mIt (mBin fIx (mVar 0) (mVar 2))) mYes (mBin (fIn false) (mVar 3) (mVar 1)))) mNil))) (mVal 2))))
noncomputable def z8z:List D->Mx D:=mFn 2 2 z8h
theorem z9u(T:Txt K mg t):FnOk P w K mg base CX0 1 t.f_q31.a t.f_q31.d ["tied","could_be"] (spD K EW0 z8z):=by
 refine zV (m:=z8h) T.f_q31.F zBX rfl rfl rfl fun cdv A outer s H E hr=>?_;have hu:=zk hr;unfold z8h;exact(zH (zR (DE.w (DF.de (zp (N:=["tied","could_be"]) (sc:=(z6 (top 44))) (N':=["tied","could_be","place"]) rfl rfl rfl (by decide +kernel) (fun _ _ _ z=>z) (yI (by rfl) T.b_range (zC (DE.w (zL ye (by rfl) T.b_len Bt.b_len (zC (z8 (pv 0)) zG))) zG)) (fun _ _ _ _=>z5j (zi (DE.w (zL (zA9 rfl) (by rfl) T.b_any Bt.b_any (zC (DE.w (DF.de (z0v (N:=["tied","could_be","place"]) (N':=["tied","could_be","place","other"]) rfl rfl xo (by decide +kernel) zc (yT (DE.w (zZ hu (z8 (pv 0)) (z8 (pv 2)) (fun _ _=>rfl)))) (fun _ _ _ _=>yP) (fun _ _ _ _=>(yj (z2u hr.units) (z8 (pv 3)) (z8 (pv 1)) (by rfl)))))) zG))) (fun _=>rfl))) (fun _ _ _ _=>(zD (pv 2))))))))
noncomputable def uT(ns:List Int)(k:Int):Int:=if k<ns.length then ns.getD k.toNat 0 else if ns=[]then 0 else ns.getD (k % ns.length).toNat 0*31+k
noncomputable def z3t:List D->Mx D
 | [.scr ns,.p (.int k)]=>if 0<=k then pure (.p (.int (uT ns k)))else Mx.bad
 | _=>Mx.bad
theorem z7Q{α:Type}{xs:List α}{i:Int}{v:α}(h0:0<=i)(h:xs[i.toNat]?=some v):atI xs i=some v:=by
 have:=uZ h
 rwa [Int.toNat_of_nonneg h0]at this
theorem z9l(T:Txt K mg t):FnOk P w K mg base CX0 1 t.f_q33.a t.f_q33.d ["_law_script","_law_k"] (spD K EW0 z3t):=by
 have shape:∀{vs:List V} {H:Hp} {Q:VK} {E:XK},spD K EW0 z3t vs H Q E->∃(a:Addr) (k:Int) (ns:List Int),vs=[.ref a,.int k]/\SqL K H a (ns.map V.int)/\0<=k/\∀H',Same H H'->Q (.int (uT ns k)) H':=fun{vs H Q E} h=>by
  obtain⟨g,n,ds,h0,hs,ht,hd,r,q⟩:=h
  match ds,q,r with
  | [.scr ns,.p (.int k)],q,r=>
   by_cases hk:0<=k
   ·have q:AftG (fun _ H' d v=>Rep g g.U H' d v) g (fun c H'=>EW0 c E H') H ((if 0<=k then pure (.p (.int (uT ns k)))else Mx.bad:Mx D) n) Q:=q;rw[if_pos hk]at q;obtain⟨v,u,rfl,⟨e1,rfl⟩,r2⟩:=all2 r;have e2:u=.int k:=by simpa only[Rep,DatS]using r2
    subst e2 e1;refine⟨g.aS,k,g.ns,rfl,?_,hk,fun H' s=>q _ H' s.kp (s.twn ht) (di:DatS g.U H' (.int _) (.int _))⟩;rcases hs with hs | ⟨_,hs⟩
    ·exact hs H
    ·exact hs
   ·have q:AftG (fun _ H' d v=>Rep g g.U H' d v) g (fun c H'=>EW0 c E H') H ((if 0<=k then pure (.p (.int (uT ns k)))else Mx.bad:Mx D) n) Q:=q;rw[if_neg hk]at q;exact q.elim
 refine T.f_q33.F.ok zA2 (fun vs H Q E h=>?_) (fun cdv A outer s H vs Q E hr h=>?_)
 ·obtain⟨a,k,ns,rfl,_⟩:=shape h;rfl
 ·obtain⟨a,k,ns,rfl,hS,hk,q⟩:=shape h;have hu:=zk hr;have item:∀(j:Int),0<=j->j<(ns.length:Int)->atI (ns.map V.int) j=some (.int (ns.getD j.toNat 0)):=fun j h1 h2=>by
   have hj:j.toNat<ns.length:=by omega
   exact z7Q h1 (by rw[List.getElem?_map,List.getElem?_eq_getElem hj,List.getD_eq_getElem?_getD,List.getElem?_eq_getElem hj];rfl)
  refine⟨_,(xC (z9Y (z2N op_lt (pv 1) (yK call_len_seq (by rfl) T.b_len Bt.b_len (zI (pv 0) pa_nil)) (zd _)) (wT (z1C (wq ix_list (pv 0) (pv 1) (fun _ _=>rfl)))) pss_nil)
   (xC (z9Y (z2N (z70 (Nat.lt_of_succ_lt hu)) (pv 0) (z1f pa_nil) (zd _)) (wT (z1C xh)) pss_nil)
   (wT (z1C (z58 op_add (z58 op_mul (wq ix_list (pv 0) (z58 op_mod (pv 1) (yK call_len_seq (by rfl) T.b_len Bt.b_len (zI (pv 0) pa_nil))) (fun _ _=>rfl)) xh) (pv 1)))))),?_⟩
  refine⟨_,rfl,_,rfl,a,_,rfl,.inl hS,_,_,rfl,rfl,_,rfl,ite2 (fun c=>?_) (fun c=>?_)⟩
  ·have c':k<(ns.length:Int):=by simpa using c
   have q1:=q H (Same.refl H);unfold uT at q1;rw[if_pos c']at q1;exact⟨_,rfl,_,rfl,a,_,_,_,rfl,rfl,hS,item k hk c',q1⟩
  ·have c':¬k<(ns.length:Int):=by simpa using c
   refine⟨_,rfl,by decide,fun p hp=>⟨a,p,_,rfl,rfl,(Same.new hp).seq hS,SqL.of z7,_,rfl,ite2 (fun e=>?_) (fun e=>?_)⟩⟩
   ·have e':ns=[]:=by cases ns with
     | nil=>rfl
     | cons _ _=>cases e
    have q1:=q _ (Same.new (o:=.lst []) hp);unfold uT at q1;rw[if_neg c',if_pos e']at q1;exact q1
   ·have e':ns≠[]:=fun z=>e (by rw[z];rfl);have hne:0<ns.length:=List.length_pos_iff.mpr e';have m1:=Int.emod_nonneg k (show(ns.length:Int)≠0 by omega);have m2:=Int.emod_lt_of_pos k (show(0:Int)<ns.length by omega);have q1:=q _ (Same.new (o:=.lst []) hp);unfold uT at q1;rw[if_neg c',if_neg e']at q1;refine⟨_,rfl,_,rfl,_,rfl,a,_,rfl,.inl ((Same.new hp).seq hS),_,_,rfl,rfl,(by rw[List.length_map];omega),a,_,_,_,rfl,rfl,(Same.new hp).seq hS,(by rw[List.length_map];exact item _ m1 m2),_,_,rfl,rfl,.inr ⟨by decide,by decide⟩,_,rfl,_,_,rfl,rfl,q1⟩
noncomputable def b_q1:Env'->Mx Out:=(sRet (wW (mUn (fIsi "tuple") (mVar 0)) (zO (yh fun bs=>bs.all id) (z5 (mP (zw (mIt (mVar 0)) mYes (zP F_q0 (z5 (mVal 3) (z5 (mVal 1) (z5 (mVal 2) mNil)))))) mNil))))
noncomputable def F_q1:List D->Mx D:=mFn 3 3 b_q1
theorem z93(T:Txt K mg t):FnOk P w K mg base CX0 2 t.f_q1.a t.f_q1.d ["thing","least","most"] (spD K EW0 F_q1):=by
 have G_q0:FnOk P w K mg base CX0 1 t.f_q0.a t.f_q0.d ["thing","least","most"] (spD K EW0 F_q0):=zAG T;refine zV (m:=b_q1) T.f_q1.F zBw rfl rfl rfl fun cdv A outer s H E hr=>?_;have hu:=zk hr;unfold b_q1;exact(zH (zR (DE.w (xS (DE.w (z1V uR (yK w5 (by rfl) T.b_isinstance Bt.b_isinstance (zI (z8 (pv 0)) (zI (ub (v:=.ty "tuple") (by rfl) T.b_tuple Bt.b_tuple rfl) pa_nil))))) (xb (zL (z08 rfl) (by rfl) T.b_all Bt.b_all (zC (DE.w (DF.de (zp (N:=["thing","least","most"]) (sc:=(z6 (top 11))) (N':=["thing","least","most","each"]) rfl rfl rfl (by decide +kernel) zc (yT (z8 (pv 0))) (fun _ _ _ _=>yP) (fun _ _ _ _=>(zF (E:=E0) G_q0 (fun _ _ z=>z.elim) (hr.mono (by decide)) (by rfl) T.f_q0.m T.f_q0.k T.f_q0.d zQ (z4 (zD (pv 3)) (z4 (zD (pv 1)) (z4 (zD (pv 2)) z9)))))))) zG)))))))
noncomputable def b_q6:Env'->Mx Out:=(sSeq (sIf (mOrT (z0n (mTru (mUn (fIsi "tuple") (mVar 0)))) (yN (mBin (fEq true) (zO fLen (z5 (mVar 0) mNil)) (mC (.int 2))))) (sRet (mC (.bool false))) sNil)
 (sRet (wW (zP F_q0 (z5 (mBin fIx (mVar 0) (mC (.int 0))) (z5 (mC (.int 1)) (z5 (mC (.int z8c)) mNil)))) (mUn (fIsi "tuple") (mBin fIx (mVar 0) (mC (.int 1)))))))
noncomputable def F_q6:List D->Mx D:=mFn 1 1 b_q6
theorem zAv(T:Txt K mg t):FnOk P w K mg base CX0 2 t.f_q6.a t.f_q6.d ["thing"] (spD K EW0 F_q6):=by
 have G_q0:FnOk P w K mg base CX0 1 t.f_q0.a t.f_q0.d ["thing","least","most"] (spD K EW0 F_q0):=zAG T;obtain⟨u_q39,g_q39,r_q39⟩:=T.g_q39;refine zV (m:=b_q6) T.f_q6.F zC8 rfl rfl rfl fun cdv A outer s H E hr=>?_;have hu:=zk hr;unfold b_q6;exact(zA (xI (DPW.dt (z0A (u9 (zi (DE.w (z1V uR (yK w5 (by rfl) T.b_isinstance Bt.b_isinstance (zI (z8 (pv 0)) (zI (ub (v:=.ty "tuple") (by rfl) T.b_tuple Bt.b_tuple rfl) pa_nil))))) (fun _=>rfl))) (wO (zt (xP hr.units) (DE.w (zL ye (by rfl) T.b_len Bt.b_len (zC (z8 (pv 0)) zG))) (DE.w zE) (zd _))))) (zH (zR (DE.w uH))) yE)
   (zH (zR (DE.w (xS (DE.w (zF (E:=E0) G_q0 (fun _ _ z=>z.elim) (hr.mono (by decide)) (by rfl) T.f_q0.m T.f_q0.k T.f_q0.d zQ (z4 (zZ hu (z8 (pv 0)) (DE.w zE) (fun _ _=>rfl)) (z4 zE (z4 (z2A (z0i (by rfl) g_q39 r_q39)) z9))))) (xb (z1V uR (yK w5 (by rfl) T.b_isinstance Bt.b_isinstance (zI (DE.w (zZ hu (z8 (pv 0)) (DE.w zE) (fun _ _=>rfl))) (zI (ub (v:=.ty "tuple") (by rfl) T.b_tuple Bt.b_tuple rfl) pa_nil))))))))))
noncomputable def z7U:Env'->Mx Out:=(sSeq (sSet 3 (mVal 1))
 (sSeq (sFor (mIt (mVal 2)) (τ1 4) (sIf (yN (mBin (fIs true) (mVar 3) (mC .none))) (sSet 3 (zP z0Q (z5 (mBin fIx (mBin fIx (mVar 0) (mC (.int 1))) (mVar 4)) (z5 (mVal 3) mNil)))) sNil))
 (sRet (mVar 3))))
noncomputable def z4x:List D->Mx D:=mFn 5 3 z7U
theorem zAt(T:Txt K mg t):FnOk P w K mg base CX0 2 t.f_q17.a t.f_q17.d ["house","places","row"] (spD K EW0 z4x):=by
 have G_q16:FnOk P w K mg base CX0 1 t.f_q16.a t.f_q16.d ["door","standing"] (spD K EW0 z0Q):=z45 T;refine zV (m:=z7U) T.f_q17.F sc_q17 rfl rfl rfl fun cdv A outer s H E hr=>?_;have hu:=zk hr;unfold z7U;exact(zA (zh (i:=3) sc_q17.nd rfl (by first | exact Or.inl rfl | exact Or.inr rfl) (zD (pv 1)))
   (zA (xG PassesOwn.never rfl (uO (zD (pv 2))) (yO (yB (i:=4) sc_q17.nd rfl (by first | exact Or.inl rfl | exact Or.inr rfl)))
   (zH (xI (zt wC (z8 (pv 3)) (DE.w xW) (zd _)) (zH (zh (i:=3) sc_q17.nd rfl (by first | exact Or.inl rfl | exact Or.inr rfl) (zF (E:=E0) G_q16 (fun _ _ z=>z.elim) (hr.mono (by decide)) (by rfl) T.f_q16.m T.f_q16.k T.f_q16.d zQ (z4 (zZ hu (DE.w (zZ hu (z8 (pv 0)) (DE.w zE) (fun _ _=>rfl))) (z8 (pv 4)) (fun _ _=>rfl)) (z4 (zD (pv 3)) z9))))) yE)))
   (zH (zR (z8 (pv 3))))))
noncomputable def z6k(t:Adr):Env'->Mx Out:=(sSeq (sOwn 3 (mD1 (mVal 0) (mP (mSeq PyData.tuple mNil))))
 (sSeq (sOwn 4 (mSeq PyData.list (z5 (mVal 0) mNil)))
 (sSeq (wD 100000 (mTru (mVar 4)) (sSeq (z1Z 5 4 (mC (.int 0)))
 (sFor (mRng yr (z5 (zO fLen (z5 (mVar 1) mNil)) mNil)) (τ1 6) (sSeq (sSet 7 (z2r 2 t.f_q16.a z0Q (z5 (mBin fIx (mVar 1) (mVar 6)) (z5 (mVal 5) mNil))))
 (sIf (z5c (yN (mBin (fIs true) (mVar 7) (mC .none))) (yN (mBin (fIn true) (mVar 7) (mVar 3)))) (sSeq (uk 3 (mVal 7) (mBin fAdd (mBin fIx (mVar 3) (mVar 5)) (mP (mSeq PyData.tuple (z5 (mVal 6) mNil)))))
 (sApp 4 (mVal 7))) sNil)))))
 (sRet (mVar 3)))))
noncomputable def z4m(t:Adr):List D->Mx D:=mFn 8 3 (z6k t)
theorem zBI(T:Txt K mg t):FnOk P w K mg base CX0 2 t.f_q18.a t.f_q18.d ["start","doors","behind"] (spD K EW0 (z4m t)):=by
 have G_q16:FnOk P w K mg base CX0 1 t.f_q16.a t.f_q16.d ["door","standing"] (spD K EW0 z0Q):=z45 T;refine zV (m:=(z6k t)) T.f_q18.F sc_q18 rfl rfl rfl fun cdv A outer s H E hr=>?_;have hu:=zk hr;unfold z6k;exact(zA (yp (i:=3) sc_q18.nd rfl (by first | exact Or.inl rfl | exact Or.inr rfl) (zBC hr.units (zD (pv 0)) (zW z9)))
   (zA (yp (i:=4) sc_q18.nd rfl (by first | exact Or.inl rfl | exact Or.inr rfl) (xc (z4 (zD (pv 0)) z9)))
   (zA (ww (k:=100000) PassesOwn.never (zi (z8 (pv 4)) (fun _=>rfl)) (zA (z33 (i:=5) sc_q18.nd rfl (by first | exact Or.inl rfl | exact Or.inr rfl) (xt PySem.F.plainAttrs_list PySem.F.slot_list_pop PySem.F.type_list_pop z0K (pv 4) (zI zE pa_nil)))
   (zH (xG PassesOwn.never rfl (yI (by rfl) T.b_range (zC (DE.w (zL ye (by rfl) T.b_len Bt.b_len (zC (z8 (pv 1)) zG))) zG)) (yO (yB (i:=6) sc_q18.nd rfl (by first | exact Or.inl rfl | exact Or.inr rfl)))
   (zA (zh (i:=7) sc_q18.nd rfl (by first | exact Or.inl rfl | exact Or.inr rfl) (z7L (E:=E0) G_q16 (fun _ _ z=>z.elim) (hr.mono (by decide)) (pv 2) T.f_q16.k T.f_q16.d zQ (z4 (zZ hu (z8 (pv 1)) (z8 (pv 6)) (fun _ _=>rfl)) (z4 (zD (pv 5)) z9))))
   (zH (xI (DPW.dt (z1x (zt wC (z8 (pv 7)) (DE.w xW) (zd _)) (z0h (zt (uN hr.units) (z8 (pv 7)) (z8 (pv 3)) (by rfl))))) (zA (z25 hu (pv 3) (zD (pv 7)) (zN zm (DE.w (zZ hu (z8 (pv 3)) (z8 (pv 5)) (fun _ _=>rfl))) (DE.w (zW (z4 (zD (pv 6)) z9)))) rfl)
   (zH (z2q (xt PySem.F.plainAttrs_list PySem.F.slot_list_append PySem.F.type_list_append y8 (pv 4) (zI (zD (pv 7)) pa_nil))))) yE)))))))
   (zH (zR (z8 (pv 3)))))))
noncomputable def z6d:Env'->Mx Out:=(sSeq (z7B 1 4 (mIt (zP z1o (z5 (mBin fIx (mVar 0) (mC (.int 0))) mNil))))
 (sSeq (sFor (mIt (zP z1o (z5 (mBin fIx (mVar 0) (mC (.int 0))) mNil))) (τ1 2) (sFor (mIt (mBin fIx (mVar 0) (mC (.int 1)))) (τ1 3) (z9R 1 (zP z0Q (z5 (mVal 3) (z5 (mVal 2) mNil))) (mVal 2))))
 (z8y 1 (sRet (mVar 1)))))
noncomputable def z50:List D->Mx D:=mFn 4 1 z6d
theorem zBT(T:Txt K mg t):FnOk P w K mg base CX0 2 t.f_q23.a t.f_q23.d ["house"] (spD K EW0 z50):=by
 have G_q22:FnOk P w K mg base CX0 1 t.f_q22.a t.f_q22.d ["many"] (spD K EW0 z1o):=z85 T;have G_q16:FnOk P w K mg base CX0 1 t.f_q16.a t.f_q16.d ["door","standing"] (spD K EW0 z0Q):=z45 T;refine zV (m:=z6d) T.f_q23.F sc_q23 rfl rfl rfl fun cdv A outer s H E hr=>?_;have hu:=zk hr;unfold z6d;exact(zA (z8f (jx:=4) (i:=1) sc_q23.nd rfl (by first | exact Or.inl rfl | exact Or.inr rfl) (zz (uc rfl hr.units) (by rfl) T.b_dict Bt.b_dict (zI (z26 (N:=["house","ahead","standing","door"]) (sc:=(z6 (top 35))) (N':=["house","ahead","~standing","door","standing"]) rfl rfl rfl (by decide +kernel) (yT (DE.w (zF (E:=E0) G_q22 (fun _ _ z=>z.elim) (hr.mono (by decide)) (by rfl) T.f_q22.m T.f_q22.k T.f_q22.d zQ (z4 (zZ hu (z8 (pv 0)) (DE.w zE) (fun _ _=>rfl)) z9)))) (fun _ _ _ _=>yP) (fun _ _ _ _=>z89 (zI (pv 4) (zI (z1f pa_nil) pa_nil)))) pa_nil)))
   (zA (xG PassesOwn.never rfl (uO (zF (E:=E0) G_q22 (fun _ _ z=>z.elim) (hr.mono (by decide)) (by rfl) T.f_q22.m T.f_q22.k T.f_q22.d zQ (z4 (zZ hu (z8 (pv 0)) (DE.w zE) (fun _ _=>rfl)) z9))) (yO (yB (i:=2) sc_q23.nd rfl (by first | exact Or.inl rfl | exact Or.inr rfl)))
   (zH (xG PassesOwn.never rfl (uO (zZ hu (z8 (pv 0)) (DE.w zE) (fun _ _=>rfl))) (yO (yB (i:=3) sc_q23.nd rfl (by first | exact Or.inl rfl | exact Or.inr rfl)))
   (zH (z8a (xt PySem.F.plainAttrs_list PySem.F.slot_list_append PySem.F.type_list_append y8 (wq (z51 hu) (pv 1) (zF (E:=E0) G_q16 (fun _ _ z=>z.elim) (hr.mono (by decide)) (by rfl) T.f_q16.m T.f_q16.k T.f_q16.d zQ (z4 (zD (pv 3)) (z4 (zD (pv 2)) z9))) (fun _ _=>rfl)) (zI (zD (pv 2)) pa_nil)))))))
   (z9g (i:=1) (zH (zR (z8 (pv 1)))))))
noncomputable def z9e:Env'->Mx Out:=(sSeq (sSet 2 (zP z3L (z5 (mVal 0) mNil)))
 (sSeq (sSet 3 (mP (zw (mIt (mVar 1)) mYes (zP z8X (z5 (mVal 2) (z5 (mVal 5) mNil))))))
 (sSeq (sSet 4 (mP (zw (mRng yr (z5 (mBin fIx (mVar 0) (mC (.int 0))) mNil)) (mTru (zO (yh fun bs=>bs.all id) (z5 (mP (zw (mIt (mVar 3)) mYes (mBin (fIn false) (mVar 5) (mVar 6)))) mNil))) (mVal 5))))
 (sRet (mP (z0a (mP (zw (mIt (mVar 4)) mYes (mP (mSeq PyData.tuple (z5 (mVal 5) (z5 (mP (zw (mIt (mVar 3)) mYes (mBin fIx (mVar 6) (mVar 5)))) mNil))))))))))))
noncomputable def z8j:List D->Mx D:=mFn 5 2 z9e
theorem zAR(T:Txt K mg t):FnOk P w K mg base CX0 2 t.f_q29.a t.f_q29.d ["web","places"] (spD K EW0 z8j):=by
 have G_q27:FnOk P w K mg base CX0 1 t.f_q27.a t.f_q27.d ["web"] (spD K EW0 z3L):=z82 T;have G_q28:FnOk P w K mg base CX0 1 t.f_q28.a t.f_q28.d ["tied","start"] (spD K EW0 z8X):=zAA T;refine zV (m:=z9e) T.f_q29.F sc_q29 rfl rfl rfl fun cdv A outer s H E hr=>?_;have hu:=zk hr;unfold z9e;exact(zA (zh (i:=2) sc_q29.nd rfl (by first | exact Or.inl rfl | exact Or.inr rfl) (zF (E:=E0) G_q27 (fun _ _ z=>z.elim) (hr.mono (by decide)) (by rfl) T.f_q27.m T.f_q27.k T.f_q27.d zQ (z4 (zD (pv 0)) z9)))
   (zA (zh (i:=3) sc_q29.nd rfl (by first | exact Or.inl rfl | exact Or.inr rfl) (DF.de (zp (N:=["web","places","tied","far","common"]) (sc:=(z6 (top 42))) (N':=["web","places","tied","far","common","start"]) rfl rfl rfl (by decide +kernel) zc (yT (z8 (pv 1))) (fun _ _ _ _=>yP) (fun _ _ _ _=>(zF (E:=E0) G_q28 (fun _ _ z=>z.elim) (hr.mono (by decide)) (by rfl) T.f_q28.m T.f_q28.k T.f_q28.d zQ (z4 (zD (pv 2)) (z4 (zD (pv 5)) z9)))))))
   (zA (z0W (i:=4) (N:=["web","places","tied","far","common"]) (sc:=(z6 (top 42))) (N':=["web","places","tied","far","common","place"]) rfl rfl rfl (by decide +kernel) sc_q29.nd rfl rfl (fun _ _ _ z=>z) (yI (by rfl) T.b_range (zC (DE.w (zZ hu (z8 (pv 0)) (DE.w zE) (fun _ _=>rfl))) zG)) (fun _ _ _ _=>z5j (zi (DE.w (zL (z08 rfl) (by rfl) T.b_all Bt.b_all (zC (DE.w (DF.de (z0v (N:=["web","places","tied","far","common","place"]) (N':=["web","places","tied","far","common","place","each"]) rfl rfl xo (by decide +kernel) zc (yT (z8 (pv 3))) (fun _ _ _ _=>yP) (fun _ _ _ _=>(yj (z2u hr.units) (z8 (pv 5)) (z8 (pv 6)) (by rfl)))))) zG))) (fun _=>rfl))) (fun _ _ _ _=>(zD (pv 5))))
   (zH (zR (DE.w (DF.de (z5U rfl hr.units (by rfl) T.b_dict Bt.b_dict (DF.de (zp (N:=["web","places","tied","far","common"]) (sc:=(z6 (top 42))) (N':=["web","places","tied","far","common","place"]) rfl rfl rfl (by decide +kernel) zc (yT (z8 (pv 4))) (fun _ _ _ _=>yP) (fun _ _ _ _=>(zW (z4 (zD (pv 5)) (z4 (DF.de (z0v (N:=["web","places","tied","far","common","place"]) (N':=["web","places","tied","far","common","place","each"]) rfl rfl xo (by decide +kernel) zc (yT (z8 (pv 3))) (fun _ _ _ _=>yP) (fun _ _ _ _=>(zZ hu (z8 (pv 6)) (z8 (pv 5)) (fun _ _=>rfl))))) z9))))))))))))))
noncomputable def z7P:Env'->Mx Out:=(sSeq (sSet 3 (mBin fMod (mBin fMul (mBin fAdd (mBin fAdd (zP z3t (z5 (mVal 0) (z5 (mVal 1) mNil))) (mBin fMul (mC (.int 7919)) (mVar 1))) (mC (.int 1))) (mC (.int 48271))) (mC (.int 2147483647))))
 (sRet (mBin fMod (mBin fMod (mBin fAdd (mBin fAdd (mBin fMul (mVar 3) (mVar 3)) (mBin fMul (mC (.int 7)) (mVar 3))) (mVar 1)) (mC (.int 2147483629))) (mVar 2))))
noncomputable def z4c:List D->Mx D:=mFn 4 3 z7P
theorem zAC(T:Txt K mg t):FnOk P w K mg base CX0 2 t.f_q34.a t.f_q34.d ["_law_script","_law_k","_law_many"] (spD K EW0 z4c):=by
 have G_q33:FnOk P w K mg base CX0 1 t.f_q33.a t.f_q33.d ["_law_script","_law_k"] (spD K EW0 z3t):=z9l T;refine zV (m:=z7P) T.f_q34.F sc_q34 rfl rfl rfl fun cdv A outer s H E hr=>?_;have hu:=zk hr;unfold z7P;exact(zA (zh (i:=3) sc_q34.nd rfl (by first | exact Or.inl rfl | exact Or.inr rfl) (zN xV (DE.w (zN wR (DE.w (zN zm (DE.w (zN zm (DE.w (zF (E:=E0) G_q33 (fun _ _ z=>z.elim) (hr.mono (by decide)) (by rfl) T.f_q33.m T.f_q33.k T.f_q33.d zQ (z4 (zD (pv 0)) (z4 (zD (pv 1)) z9)))) (DE.w (zN wR (DE.w zE) (z8 (pv 1)))))) (DE.w zE))) (DE.w zE))) (DE.w zE)))
   (zH (zR (DE.w (zN xV (DE.w (zN xV (DE.w (zN zm (DE.w (zN zm (DE.w (zN wR (z8 (pv 3)) (z8 (pv 3)))) (DE.w (zN wR (DE.w zE) (z8 (pv 3)))))) (z8 (pv 1)))) (DE.w zE))) (z8 (pv 2)))))))
noncomputable def b_q3:Env'->Mx Out:=(sRet (wW (zP F_q1 (z5 (mVal 0) (z5 (mC (.int 0)) (z5 (mBin fSub (mVar 1) (mC (.int 1))) mNil)))) (wW (mBin (fCmp fun i j=>decide (j<=i)) (zO fLen (z5 (mVar 0) mNil)) (mC (.int 1))) (zP F_q2 (z5 (mVal 0) mNil)))))
noncomputable def F_q3:List D->Mx D:=mFn 2 2 b_q3
theorem z9j(T:Txt K mg t):FnOk P w K mg base CX0 3 t.f_q3.a t.f_q3.d ["thing","many"] (spD K EW0 F_q3):=by
 have G_q2:FnOk P w K mg base CX0 1 t.f_q2.a t.f_q2.d ["things"] (spD K EW0 F_q2):=z9p T;have G_q1:FnOk P w K mg base CX0 2 t.f_q1.a t.f_q1.d ["thing","least","most"] (spD K EW0 F_q1):=z93 T;refine zV (m:=b_q3) T.f_q3.F zCG rfl rfl rfl fun cdv A outer s H E hr=>?_;have hu:=zk hr;unfold b_q3;exact(zH (zR (DE.w (xS (DE.w (zF (E:=E0) G_q1 (fun _ _ z=>z.elim) (hr.mono (by decide)) (by rfl) T.f_q1.m T.f_q1.k T.f_q1.d zQ (z4 (zD (pv 0)) (z4 zE (z4 (zN yR (z8 (pv 1)) (DE.w zE)) z9))))) (xS (DE.w (yj (wM zBn) (DE.w (zL ye (by rfl) T.b_len Bt.b_len (zC (z8 (pv 0)) zG))) (DE.w zE) (zd _))) (xb (zF (E:=E0) G_q2 (fun _ _ z=>z.elim) (hr.mono (by decide)) (by rfl) T.f_q2.m T.f_q2.k T.f_q2.d zQ (z4 (zD (pv 0)) z9))))))))
noncomputable def b_q5:Env'->Mx Out:=(sRet (wW (zP F_q1 (z5 (mVal 0) (z5 (mC (.int 0)) (z5 (mBin fSub (mVar 1) (mC (.int 1))) mNil)))) (mBin (fEq false) (zO fLen (z5 (mVar 0) mNil)) (mVar 1))))
noncomputable def F_q5:List D->Mx D:=mFn 2 2 b_q5
theorem zBp(T:Txt K mg t):FnOk P w K mg base CX0 3 t.f_q5.a t.f_q5.d ["thing","many"] (spD K EW0 F_q5):=by
 have G_q1:FnOk P w K mg base CX0 2 t.f_q1.a t.f_q1.d ["thing","least","most"] (spD K EW0 F_q1):=z93 T;refine zV (m:=b_q5) T.f_q5.F zCK rfl rfl rfl fun cdv A outer s H E hr=>?_;have hu:=zk hr;unfold b_q5;exact(zH (zR (DE.w (xS (DE.w (zF (E:=E0) G_q1 (fun _ _ z=>z.elim) (hr.mono (by decide)) (by rfl) T.f_q1.m T.f_q1.k T.f_q1.d zQ (z4 (zD (pv 0)) (z4 zE (z4 (zN yR (z8 (pv 1)) (DE.w zE)) z9))))) (xb (yj (w9 hr.units) (DE.w (zL ye (by rfl) T.b_len Bt.b_len (zC (z8 (pv 0)) zG))) (z8 (pv 1)) (zd _)))))))
noncomputable def b_q8:Env'->Mx Out:=(sRet (wW (zP F_q6 (z5 (mVal 0) mNil)) (z1W (fCmp fun i j=>decide (i<=j)) (fCmp fun i j=>decide (i<=j)) (mC (.int 1)) (zO fLen (z5 (mBin fIx (mVar 0) (mC (.int 1))) mNil)) (mC (.int z8i)))))
noncomputable def F_q8:List D->Mx D:=mFn 1 1 b_q8
theorem zC6(T:Txt K mg t):FnOk P w K mg base CX0 3 t.f_q8.a t.f_q8.d ["thing"] (spD K EW0 F_q8):=by
 have G_q6:FnOk P w K mg base CX0 2 t.f_q6.a t.f_q6.d ["thing"] (spD K EW0 F_q6):=zAv T;obtain⟨u_q40,g_q40,r_q40⟩:=T.g_q40;refine zV (m:=b_q8) T.f_q8.F zC2 rfl rfl rfl fun cdv A outer s H E hr=>?_;have hu:=zk hr;unfold b_q8;exact(zH (zR (DE.w (xS (DE.w (zF (E:=E0) G_q6 (fun _ _ z=>z.elim) (hr.mono (by decide)) (by rfl) T.f_q6.m T.f_q6.k T.f_q6.d zQ (z4 (zD (pv 0)) z9))) (xb (z3G (wM z4o) (wM z4o) (DE.w zE) (DE.w (zL ye (by rfl) T.b_len Bt.b_len (zC (DE.w (zZ hu (z8 (pv 0)) (DE.w zE) (fun _ _=>rfl))) zG))) (DE.w (z2A (z0i (by rfl) g_q40 r_q40)))))))))
noncomputable def z74:Env'->Mx Out:=(sRet (wW (zP F_q1 (z5 (mVal 0) (z5 (mC (.int 0)) (z5 (mBin fSub (zO fLen (z5 (mBin fIx (mVar 1) (mC (.int 1))) mNil)) (mC (.int 1))) mNil)))) (mBin (fCmp fun i j=>decide (i<=j)) (zO fLen (z5 (mVar 0) mNil)) (mC (.int z8Q)))))
noncomputable def z6g:List D->Mx D:=mFn 2 2 z74
theorem zAO(T:Txt K mg t):FnOk P w K mg base CX0 3 t.f_q10.a t.f_q10.d ["thing","house"] (spD K EW0 z6g):=by
 have G_q1:FnOk P w K mg base CX0 2 t.f_q1.a t.f_q1.d ["thing","least","most"] (spD K EW0 F_q1):=z93 T;obtain⟨u_q41,g_q41,r_q41⟩:=T.g_q41;refine zV (m:=z74) T.f_q10.F zAD rfl rfl rfl fun cdv A outer s H E hr=>?_;have hu:=zk hr;unfold z74;exact(zH (zR (DE.w (xS (DE.w (zF (E:=E0) G_q1 (fun _ _ z=>z.elim) (hr.mono (by decide)) (by rfl) T.f_q1.m T.f_q1.k T.f_q1.d zQ (z4 (zD (pv 0)) (z4 zE (z4 (zN yR (DE.w (zL ye (by rfl) T.b_len Bt.b_len (zC (DE.w (zZ hu (z8 (pv 1)) (DE.w zE) (fun _ _=>rfl))) zG))) (DE.w zE)) z9))))) (xb (yj (wM z4o) (DE.w (zL ye (by rfl) T.b_len Bt.b_len (zC (z8 (pv 0)) zG))) (DE.w (z2A (z0i (by rfl) g_q41 r_q41))) (zd _)))))))
noncomputable def z6L(t:Adr):Env'->Mx Out:=(sRet (zP (z4m t) (z5 (mVal 1) (z5 (mBin fIx (mVar 0) (mC (.int 1))) (z5 (mFnV t.f_q16.a) mNil)))))
noncomputable def z76(t:Adr):List D->Mx D:=mFn 2 2 (z6L t)
theorem zAz(T:Txt K mg t):FnOk P w K mg base CX0 3 t.f_q19.a t.f_q19.d ["house","places"] (spD K EW0 (z76 t)):=by
 have G_q18:FnOk P w K mg base CX0 2 t.f_q18.a t.f_q18.d ["start","doors","behind"] (spD K EW0 (z4m t)):=zBI T;refine zV (m:=(z6L t)) T.f_q19.F zAP rfl rfl rfl fun cdv A outer s H E hr=>?_;have hu:=zk hr;unfold z6L;exact(zH (zR (DE.w (zF (E:=E0) G_q18 (fun _ _ z=>z.elim) (hr.mono (by decide)) (by rfl) T.f_q18.m T.f_q18.k T.f_q18.d zQ (z4 (zD (pv 1)) (z4 (zZ hu (z8 (pv 0)) (DE.w zE) (fun _ _=>rfl)) (z4 (zBt (z0i (v:=.ref t.f_q16.a) (by rfl) T.f_q16.m rfl)) z9)))))))
noncomputable def z75:Env'->Mx Out:=(sSeq (sSet 1 (zP z50 (z5 (mVal 0) mNil)))
 (sSeq (sOwn 2 (z0a (mP (zw (mRng yr (z5 (mBin fIx (mVar 0) (mC (.int 0))) mNil)) mYes (mP (mSeq PyData.tuple (z5 (mP (mSeq PyData.tuple (z5 (mVal 6) mNil))) (z5 (mC (.bool true)) mNil))))))))
 (sSeq (sOwn 3 (z13 z19 (z5 (mVar 2) mNil)))
 (sSeq (wD 1000 (mTru (mVar 3)) (sSeq (sPop 4 3)
 (sFor (mIt (mBin fIx (mVar 1) (mVar 4))) (τ1 5) (sIf (yN (mBin (fIn true) (mVar 5) (mVar 2))) (sSeq (uk 2 (mVal 5) (mC (.bool true)))
 (sApp 3 (mVal 5))) sNil))))
 (sRet (mP (z13 z19 (z5 (mVar 2) mNil))))))))
noncomputable def z48:List D->Mx D:=mFn 6 1 z75
theorem zAh(T:Txt K mg t):FnOk P w K mg base CX0 3 t.f_q24.a t.f_q24.d ["house"] (spD K EW0 z48):=by
 have G_q23:FnOk P w K mg base CX0 2 t.f_q23.a t.f_q23.d ["house"] (spD K EW0 z50):=zBT T;refine zV (m:=z75) T.f_q24.F sc_q24 rfl rfl rfl fun cdv A outer s H E hr=>?_;have hu:=zk hr;unfold z75;exact(zA (zh (i:=1) sc_q24.nd rfl (by first | exact Or.inl rfl | exact Or.inr rfl) (zF (E:=E0) G_q23 (fun _ _ z=>z.elim) (hr.mono (by decide)) (by rfl) T.f_q23.m T.f_q23.k T.f_q23.d zQ (z4 (zD (pv 0)) z9)))
   (zA (yp (i:=2) sc_q24.nd rfl (by first | exact Or.inl rfl | exact Or.inr rfl) (z5U rfl hr.units (by rfl) T.b_dict Bt.b_dict (DF.de (zp (N:=["house","ahead","gathers","waiting","behind","standing"]) (sc:=(z6 (top 36))) (N':=["house","ahead","gathers","waiting","behind","standing","room"]) rfl rfl rfl (by decide +kernel) zc (yI (by rfl) T.b_range (zC (DE.w (zZ hu (z8 (pv 0)) (DE.w zE) (fun _ _=>rfl))) zG)) (fun _ _ _ _=>yP) (fun _ _ _ _=>(zW (z4 (zW (z4 (zD (pv 6)) z9)) (z4 uH z9))))))))
   (zA (yp (i:=3) sc_q24.nd rfl (by first | exact Or.inl rfl | exact Or.inr rfl) (z2e (zz (z04 rfl) (by rfl) T.b_list Bt.b_list (zC (z8 (pv 2)) zG))))
   (zA (ww (k:=1000) PassesOwn.never (zi (z8 (pv 3)) (fun _=>rfl)) (zA (zB1 (i:=4) sc_q24.nd rfl (by first | exact Or.inl rfl | exact Or.inr rfl) (zBQ PySem.F.plainAttrs_list PySem.F.slot_list_pop PySem.F.type_list_pop zB0 (pv 3)))
   (zH (xG PassesOwn.never rfl (uO (zZ hu (z8 (pv 1)) (z8 (pv 4)) (fun _ _=>rfl))) (yO (yB (i:=5) sc_q24.nd rfl (by first | exact Or.inl rfl | exact Or.inr rfl)))
   (zH (xI (zt (uN hr.units) (z8 (pv 5)) (z8 (pv 2)) (by rfl)) (zA (z25 hu (pv 2) (zD (pv 5)) uH rfl)
   (zH (z2q (xt PySem.F.plainAttrs_list PySem.F.slot_list_append PySem.F.type_list_append y8 (pv 3) (zI (zD (pv 5)) pa_nil))))) yE))))))
   (zH (zR (DE.w (DF.de (z2e (zz (z04 rfl) (by rfl) T.b_list Bt.b_list (zC (z8 (pv 2)) zG)))))))))))
noncomputable def z6o:Env'->Mx Out:=(sSeq (z4Y 1)
 (sRet (zP z4c (z5 (mVal 0) (z5 (z5B 1) (z5 (mVal 2) mNil))))))
noncomputable def z0M:List D->Mx D:=mFn 3 3 z6o
theorem z7m(T:Txt K mg t):FnOk P w K mg base CX0 3 t.f_q35.a t.f_q35.d ["_law_script","_law_town","_law_many"] (spD K EW0 z0M):=by
 have G_q34:FnOk P w K mg base CX0 2 t.f_q34.a t.f_q34.d ["_law_script","_law_k","_law_many"] (spD K EW0 z4c):=zAC T;refine zV (m:=z6o) T.f_q35.F zAQ rfl rfl rfl fun cdv A outer s H E hr=>?_;have hu:=zk hr;unfold z6o;exact(zA (z9N (xt PySem.F.plainAttrs_list PySem.F.slot_list_append PySem.F.type_list_append y8 (pv 1) (zI xh pa_nil)))
   (zH (zR (DE.w (zF (E:=E0) G_q34 (fun _ _ z=>z.elim) (hr.mono (by decide)) (by rfl) T.f_q34.m T.f_q34.k T.f_q34.d zQ (z4 (zD (pv 0)) (z4 (z9D (yK call_len_seq (by rfl) T.b_len Bt.b_len (zI (pv 1) pa_nil))) (z4 (zD (pv 2)) z9))))))))
noncomputable def b_q4:Env'->Mx Out:=(sRet (wW (zP F_q3 (z5 (mVal 0) (z5 (mVal 1) mNil))) (mBin (fEq false) (zO fLen (z5 (mVar 0) mNil)) (mC (.int 2)))))
noncomputable def F_q4:List D->Mx D:=mFn 2 2 b_q4
theorem zC5(T:Txt K mg t):FnOk P w K mg base CX0 4 t.f_q4.a t.f_q4.d ["thing","many"] (spD K EW0 F_q4):=by
 have G_q3:FnOk P w K mg base CX0 3 t.f_q3.a t.f_q3.d ["thing","many"] (spD K EW0 F_q3):=z9j T;refine zV (m:=b_q4) T.f_q4.F zCJ rfl rfl rfl fun cdv A outer s H E hr=>?_;have hu:=zk hr;unfold b_q4;exact(zH (zR (DE.w (xS (DE.w (zF (E:=E0) G_q3 (fun _ _ z=>z.elim) (hr.mono (by decide)) (by rfl) T.f_q3.m T.f_q3.k T.f_q3.d zQ (z4 (zD (pv 0)) (z4 (zD (pv 1)) z9)))) (xb (yj (w9 hr.units) (DE.w (zL ye (by rfl) T.b_len Bt.b_len (zC (z8 (pv 0)) zG))) (DE.w zE) (zd _)))))))
noncomputable def b_q9:Env'->Mx Out:=(sRet (wW (zP F_q8 (z5 (mVal 0) mNil)) (zO (yh fun bs=>bs.all id) (z5 (mP (zw (mIt (mBin fIx (mVar 0) (mC (.int 1)))) mYes (zP F_q5 (z5 (mVal 1) (z5 (mBin fIx (mVar 0) (mC (.int 0))) mNil))))) mNil))))
noncomputable def F_q9:List D->Mx D:=mFn 1 1 b_q9
theorem zBh(T:Txt K mg t):FnOk P w K mg base CX0 4 t.f_q9.a t.f_q9.d ["thing"] (spD K EW0 F_q9):=by
 have G_q5:FnOk P w K mg base CX0 3 t.f_q5.a t.f_q5.d ["thing","many"] (spD K EW0 F_q5):=zBp T;have G_q8:FnOk P w K mg base CX0 3 t.f_q8.a t.f_q8.d ["thing"] (spD K EW0 F_q8):=zC6 T;refine zV (m:=b_q9) T.f_q9.F zBu rfl rfl rfl fun cdv A outer s H E hr=>?_;have hu:=zk hr;unfold b_q9;exact(zH (zR (DE.w (xS (DE.w (zF (E:=E0) G_q8 (fun _ _ z=>z.elim) (hr.mono (by decide)) (by rfl) T.f_q8.m T.f_q8.k T.f_q8.d zQ (z4 (zD (pv 0)) z9))) (xb (zL (z08 rfl) (by rfl) T.b_all Bt.b_all (zC (DE.w (DF.de (zp (N:=["thing"]) (sc:=(z6 (top 19))) (N':=["thing","each"]) rfl rfl rfl (by decide +kernel) zc (yT (DE.w (zZ hu (z8 (pv 0)) (DE.w zE) (fun _ _=>rfl)))) (fun _ _ _ _=>yP) (fun _ _ _ _=>(zF (E:=E0) G_q5 (fun _ _ z=>z.elim) (hr.mono (by decide)) (by rfl) T.f_q5.m T.f_q5.k T.f_q5.d zQ (z4 (zD (pv 1)) (z4 (zZ hu (z8 (pv 0)) (DE.w zE) (fun _ _=>rfl)) z9))))))) zG)))))))
noncomputable def z72:Env'->Mx Out:=(sIf (z0n (mTru (zP F_q3 (z5 (mVal 0) (z5 (mVal 1) mNil))))) z1U sNil)
noncomputable def z2J:List D->Mx D:=mFn 2 2 z72
theorem z87(T:Txt K mg t):FnOk P w K mg base CX0 4 t.f_q13.a t.f_q13.d ["places","many"] (spD K EW0 z2J):=by
 have G_q3:FnOk P w K mg base CX0 3 t.f_q3.a t.f_q3.d ["thing","many"] (spD K EW0 F_q3):=z9j T;refine zV (m:=z72) T.f_q13.F zAY rfl rfl rfl fun cdv A outer s H E hr=>?_;have hu:=zk hr;unfold z72;exact(zH (xI (u9 (zi (DE.w (zF (E:=E0) G_q3 (fun _ _ z=>z.elim) (hr.mono (by decide)) (by rfl) T.f_q3.m T.f_q3.k T.f_q3.d zQ (z4 (zD (pv 0)) (z4 (zD (pv 1)) z9)))) (fun _=>rfl))) (zH u4) yE))
noncomputable def z6X:Env'->Mx Out:=(sIf (z0n (mTru (zP z6g (z5 (mVal 0) (z5 (mVal 1) mNil))))) z1U sNil)
noncomputable def z5Z:List D->Mx D:=mFn 2 2 z6X
theorem zB2(T:Txt K mg t):FnOk P w K mg base CX0 4 t.f_q14.a t.f_q14.d ["row","house"] (spD K EW0 z5Z):=by
 have G_q10:FnOk P w K mg base CX0 3 t.f_q10.a t.f_q10.d ["thing","house"] (spD K EW0 z6g):=zAO T;refine zV (m:=z6X) T.f_q14.F zBE rfl rfl rfl fun cdv A outer s H E hr=>?_;have hu:=zk hr;unfold z6X;exact(zH (xI (u9 (zi (DE.w (zF (E:=E0) G_q10 (fun _ _ z=>z.elim) (hr.mono (by decide)) (by rfl) T.f_q10.m T.f_q10.k T.f_q10.d zQ (z4 (zD (pv 0)) (z4 (zD (pv 1)) z9)))) (fun _=>rfl))) (zH u4) yE))
noncomputable def z7E(t:Adr):Env'->Mx Out:=(sSeq (sSet 3 (zP (z76 t) (z5 (mVal 0) (z5 (mVal 1) mNil))))
 (sSeq (sSet 4 (mP (wB (mVal 3) (yN (mBin (fEq false) (zO fLen (z5 (mVar 5) mNil)) (mVar 2))) (mVal 5))))
 (sRet (mIf (mTru (mVar 4)) (mBin fIx (mVar 3) (mBin fIx (mVar 4) (mC (.int 0)))) (mC .none)))))
noncomputable def z5N(t:Adr):List D->Mx D:=mFn 5 3 (z7E t)
theorem zAj(T:Txt K mg t):FnOk P w K mg base CX0 4 t.f_q20.a t.f_q20.d ["house","places","few"] (spD K EW0 (z5N t)):=by
 have G_q19:FnOk P w K mg base CX0 3 t.f_q19.a t.f_q19.d ["house","places"] (spD K EW0 (z76 t)):=zAz T;refine zV (m:=(z7E t)) T.f_q20.F sc_q20 rfl rfl rfl fun cdv A outer s H E hr=>?_;have hu:=zk hr;unfold z7E;exact(zA (zh (i:=3) sc_q20.nd rfl (by first | exact Or.inl rfl | exact Or.inr rfl) (zF (E:=E0) G_q19 (fun _ _ z=>z.elim) (hr.mono (by decide)) (by rfl) T.f_q19.m T.f_q19.k T.f_q19.d zQ (z4 (zD (pv 0)) (z4 (zD (pv 1)) z9))))
   (zA (z78 (i:=4) (N:=["house","places","few","rows","fitting"]) (sc:=(z6 (top 32))) (N':=["house","places","few","rows","fitting","standing"]) rfl rfl rfl (by decide +kernel) sc_q20.nd rfl rfl (fun _ _ _ z=>z) (zD (pv 3)) (fun _ _ _ _=>z5j (zt (w9 hr.units) (DE.w (zL ye (by rfl) T.b_len Bt.b_len (zC (z8 (pv 5)) zG))) (z8 (pv 2)) (zd _))) (fun _ _ _ _=>(zD (pv 5))))
   (zH (zR (zBL (zi (z8 (pv 4)) (fun _=>rfl)) (DE.w (zZ hu (z8 (pv 3)) (DE.w (zZ hu (z8 (pv 4)) (DE.w zE) (fun _ _=>rfl))) (fun _ _=>rfl))) (DE.w xW))))))
noncomputable def b_q7:Env'->Mx Out:=(sSeq (sIf (z0n (mTru (zP F_q6 (z5 (mVal 0) mNil)))) (sRet (mC (.bool false))) sNil)
 (sRet (wW (zO (yh fun bs=>bs.all id) (z5 (mP (zw (mIt (mBin fIx (mVar 0) (mC (.int 1)))) mYes (zP F_q4 (z5 (mVal 1) (z5 (mBin fIx (mVar 0) (mC (.int 0))) mNil))))) mNil)) (zP F_q2 (z5 (mBin fIx (mVar 0) (mC (.int 1))) mNil)))))
noncomputable def F_q7:List D->Mx D:=mFn 1 1 b_q7
theorem zC0(T:Txt K mg t):FnOk P w K mg base CX0 5 t.f_q7.a t.f_q7.d ["thing"] (spD K EW0 F_q7):=by
 have G_q6:FnOk P w K mg base CX0 2 t.f_q6.a t.f_q6.d ["thing"] (spD K EW0 F_q6):=zAv T;have G_q2:FnOk P w K mg base CX0 1 t.f_q2.a t.f_q2.d ["things"] (spD K EW0 F_q2):=z9p T;have G_q4:FnOk P w K mg base CX0 4 t.f_q4.a t.f_q4.d ["thing","many"] (spD K EW0 F_q4):=zC5 T;refine zV (m:=b_q7) T.f_q7.F zCB rfl rfl rfl fun cdv A outer s H E hr=>?_;have hu:=zk hr;unfold b_q7;exact(zA (xI (u9 (zi (DE.w (zF (E:=E0) G_q6 (fun _ _ z=>z.elim) (hr.mono (by decide)) (by rfl) T.f_q6.m T.f_q6.k T.f_q6.d zQ (z4 (zD (pv 0)) z9))) (fun _=>rfl))) (zH (zR (DE.w uH))) yE)
   (zH (zR (DE.w (xS (DE.w (zL (z08 rfl) (by rfl) T.b_all Bt.b_all (zC (DE.w (DF.de (zp (N:=["thing"]) (sc:=(z6 (top 17))) (N':=["thing","each"]) rfl rfl rfl (by decide +kernel) zc (yT (DE.w (zZ hu (z8 (pv 0)) (DE.w zE) (fun _ _=>rfl)))) (fun _ _ _ _=>yP) (fun _ _ _ _=>(zF (E:=E0) G_q4 (fun _ _ z=>z.elim) (hr.mono (by decide)) (by rfl) T.f_q4.m T.f_q4.k T.f_q4.d zQ (z4 (zD (pv 1)) (z4 (zZ hu (z8 (pv 0)) (DE.w zE) (fun _ _=>rfl)) z9))))))) zG))) (xb (zF (E:=E0) G_q2 (fun _ _ z=>z.elim) (hr.mono (by decide)) (by rfl) T.f_q2.m T.f_q2.k T.f_q2.d zQ (z4 (zZ hu (z8 (pv 0)) (DE.w zE) (fun _ _=>rfl)) z9))))))))
noncomputable def z6F:Env'->Mx Out:=(sIf (z0n (mTru (zP F_q9 (z5 (mVal 0) mNil)))) z1U sNil)
noncomputable def z2H:List D->Mx D:=mFn 1 1 z6F
theorem z8G(T:Txt K mg t):FnOk P w K mg base CX0 5 t.f_q12.a t.f_q12.d ["house"] (spD K EW0 z2H):=by
 have G_q9:FnOk P w K mg base CX0 4 t.f_q9.a t.f_q9.d ["thing"] (spD K EW0 F_q9):=zBh T;refine zV (m:=z6F) T.f_q12.F zBP rfl rfl rfl fun cdv A outer s H E hr=>?_;have hu:=zk hr;unfold z6F;exact(zH (xI (u9 (zi (DE.w (zF (E:=E0) G_q9 (fun _ _ z=>z.elim) (hr.mono (by decide)) (by rfl) T.f_q9.m T.f_q9.k T.f_q9.d zQ (z4 (zD (pv 0)) z9))) (fun _=>rfl))) (zH u4) yE))
noncomputable def z9f:Env'->Mx Out:=(sIf (z0n (mTru (zP F_q7 (z5 (mVal 0) mNil)))) z1U sNil)
noncomputable def z9G:List D->Mx D:=mFn 1 1 z9f
theorem zBG(T:Txt K mg t):FnOk P w K mg base CX0 6 t.f_q11.a t.f_q11.d ["web"] (spD K EW0 z9G):=by
 have G_q7:FnOk P w K mg base CX0 5 t.f_q7.a t.f_q7.d ["thing"] (spD K EW0 F_q7):=zC0 T;refine zV (m:=z9f) T.f_q11.F zAZ rfl rfl rfl fun cdv A outer s H E hr=>?_;have hu:=zk hr;unfold z9f;exact(zH (xI (u9 (zi (DE.w (zF (E:=E0) G_q7 (fun _ _ z=>z.elim) (hr.mono (by decide)) (by rfl) T.f_q7.m T.f_q7.k T.f_q7.d zQ (z4 (zD (pv 0)) z9))) (fun _=>rfl))) (zH u4) yE))
noncomputable def z73:Env'->Mx Out:=(sSeq (wu (zP z2H (z5 (mVal 0) mNil)))
 (wu (zP z2J (z5 (mVal 1) (z5 (mBin fIx (mVar 0) (mC (.int 0))) mNil)))))
noncomputable def z23:List D->Mx D:=mFn 2 2 z73
theorem z8J(T:Txt K mg t):FnOk P w K mg base CX0 6 t.f_q15.a t.f_q15.d ["house","places"] (spD K EW0 z23):=by
 have G_q12:FnOk P w K mg base CX0 5 t.f_q12.a t.f_q12.d ["house"] (spD K EW0 z2H):=z8G T;have G_q13:FnOk P w K mg base CX0 4 t.f_q13.a t.f_q13.d ["places","many"] (spD K EW0 z2J):=z87 T;refine zV (m:=z73) T.f_q15.F zA6 rfl rfl rfl fun cdv A outer s H E hr=>?_;have hu:=zk hr;unfold z73;exact(zA (yl (zF (E:=E0) G_q12 (fun _ _ z=>z.elim) (hr.mono (by decide)) (by rfl) T.f_q12.m T.f_q12.k T.f_q12.d zQ (z4 (zD (pv 0)) z9)))
   (zH (yl (zF (E:=E0) G_q13 (fun _ _ z=>z.elim) (hr.mono (by decide)) (by rfl) T.f_q13.m T.f_q13.k T.f_q13.d zQ (z4 (zD (pv 1)) (z4 (zZ hu (z8 (pv 0)) (DE.w zE) (fun _ _=>rfl)) z9))))))
noncomputable def z6b:Env'->Mx Out:=(sSeq (wu (zP z2H (z5 (mVal 0) mNil)))
 (sSeq (sOwn 1 (zw (mIt (zP z1o (z5 (mBin fIx (mVar 0) (mC (.int 0))) mNil))) mYes (zO fLen (z5 (mVar 3) mNil))))
 (sSeq (sOwn 2 (zw (mIt (zP z48 (z5 (mVal 0) mNil))) mYes (zO fLen (z5 (mVar 3) mNil))))
 (sRet (mP (zw (mRng z0X (z5 (mC (.int 1)) (z5 (mBin fAdd (mBin fIx (mVar 0) (mC (.int 0))) (mC (.int 1))) mNil))) mYes (mP (mSeq PyData.tuple (z5 (z7a 1 (mVal 3)) (z5 (z7a 2 (mVal 3)) mNil))))))))))
noncomputable def z5r:List D->Mx D:=mFn 3 1 z6b
theorem zB9(T:Txt K mg t):FnOk P w K mg base CX0 6 t.f_q25.a t.f_q25.d ["house"] (spD K EW0 z5r):=by
 have G_q12:FnOk P w K mg base CX0 5 t.f_q12.a t.f_q12.d ["house"] (spD K EW0 z2H):=z8G T;have G_q22:FnOk P w K mg base CX0 1 t.f_q22.a t.f_q22.d ["many"] (spD K EW0 z1o):=z85 T;have G_q24:FnOk P w K mg base CX0 3 t.f_q24.a t.f_q24.d ["house"] (spD K EW0 z48):=zAh T;refine zV (m:=z6b) T.f_q25.F sc_q25 rfl rfl rfl fun cdv A outer s H E hr=>?_;have hu:=zk hr;unfold z6b;exact(zA (yl (zF (E:=E0) G_q12 (fun _ _ z=>z.elim) (hr.mono (by decide)) (by rfl) T.f_q12.m T.f_q12.k T.f_q12.d zQ (z4 (zD (pv 0)) z9)))
   (zA (yp (i:=1) sc_q25.nd rfl (by first | exact Or.inl rfl | exact Or.inr rfl) (zp (N:=["house","sizes","gathering"]) (sc:=(z6 (top 37))) (N':=["house","sizes","gathering","standing"]) rfl rfl rfl (by decide +kernel) zc (yT (DE.w (zF (E:=E0) G_q22 (fun _ _ z=>z.elim) (hr.mono (by decide)) (by rfl) T.f_q22.m T.f_q22.k T.f_q22.d zQ (z4 (zZ hu (z8 (pv 0)) (DE.w zE) (fun _ _=>rfl)) z9)))) (fun _ _ _ _=>yP) (fun _ _ _ _=>(zL ye (by rfl) T.b_len Bt.b_len (zC (z8 (pv 3)) zG)))))
   (zA (yp (i:=2) sc_q25.nd rfl (by first | exact Or.inl rfl | exact Or.inr rfl) (zp (N:=["house","sizes","gathering"]) (sc:=(z6 (top 37))) (N':=["house","sizes","gathering","standing"]) rfl rfl rfl (by decide +kernel) zc (yT (DE.w (zF (E:=E0) G_q24 (fun _ _ z=>z.elim) (hr.mono (by decide)) (by rfl) T.f_q24.m T.f_q24.k T.f_q24.d zQ (z4 (zD (pv 0)) z9)))) (fun _ _ _ _=>yP) (fun _ _ _ _=>(zL ye (by rfl) T.b_len Bt.b_len (zC (z8 (pv 3)) zG)))))
   (zH (zR (DE.w (DF.de (zp (N:=["house","sizes","gathering"]) (sc:=(z6 (top 37))) (N':=["house","sizes","gathering","many"]) rfl rfl rfl (by decide +kernel) zc (z8g (by rfl) T.b_range (zC (DE.w zE) (zC (DE.w (zN zm (DE.w (zZ hu (z8 (pv 0)) (DE.w zE) (fun _ _=>rfl))) (DE.w zE))) zG))) (fun _ _ _ _=>yP) (fun _ _ _ _=>(zW (z4 (z69 (xt PySem.F.plainAttrs_list PySem.F.slot_list_count PySem.F.type_list_count (z2x hr.units) (pv 1) (zI (zD (pv 3)) pa_nil))) (z4 (z69 (xt PySem.F.plainAttrs_list PySem.F.slot_list_count PySem.F.type_list_count (z2x hr.units) (pv 2) (zI (zD (pv 3)) pa_nil))) z9))))))))))))
noncomputable def z6R:Env'->Mx Out:=(sSeq (wu (zP z23 (z5 (mVal 0) (z5 (mVal 1) mNil))))
 (sSeq (wu (zP z5Z (z5 (mVal 2) (z5 (mVal 0) mNil))))
 (sRet (zP z4x (z5 (mVal 0) (z5 (mVal 1) (z5 (mVal 2) mNil)))))))
noncomputable def z3U:List D->Mx D:=mFn 3 3 z6R
theorem zAp(T:Txt K mg t):FnOk P w K mg base CX0 7 t.f_led.a t.f_led.d ["house","places","row"] (spD K EW0 z3U):=by
 have G_q15:FnOk P w K mg base CX0 6 t.f_q15.a t.f_q15.d ["house","places"] (spD K EW0 z23):=z8J T;have G_q14:FnOk P w K mg base CX0 4 t.f_q14.a t.f_q14.d ["row","house"] (spD K EW0 z5Z):=zB2 T;have G_q17:FnOk P w K mg base CX0 2 t.f_q17.a t.f_q17.d ["house","places","row"] (spD K EW0 z4x):=zAt T;refine zV (m:=z6R) T.f_led.F zB4 rfl rfl rfl fun cdv A outer s H E hr=>?_;have hu:=zk hr;unfold z6R;exact(zA (yl (zF (E:=E0) G_q15 (fun _ _ z=>z.elim) (hr.mono (by decide)) (by rfl) T.f_q15.m T.f_q15.k T.f_q15.d zQ (z4 (zD (pv 0)) (z4 (zD (pv 1)) z9))))
   (zA (yl (zF (E:=E0) G_q14 (fun _ _ z=>z.elim) (hr.mono (by decide)) (by rfl) T.f_q14.m T.f_q14.k T.f_q14.d zQ (z4 (zD (pv 2)) (z4 (zD (pv 0)) z9))))
   (zH (zR (DE.w (zF (E:=E0) G_q17 (fun _ _ z=>z.elim) (hr.mono (by decide)) (by rfl) T.f_q17.m T.f_q17.k T.f_q17.d zQ (z4 (zD (pv 0)) (z4 (zD (pv 1)) (z4 (zD (pv 2)) z9)))))))))
noncomputable def z6u(t:Adr):Env'->Mx Out:=(sSeq (wu (zP z23 (z5 (mVal 0) (z5 (mVal 1) mNil))))
 (sRet (zP (z5N t) (z5 (mVal 0) (z5 (mVal 1) (z5 (mC (.int 1)) mNil))))))
noncomputable def z1a(t:Adr):List D->Mx D:=mFn 2 2 (z6u t)
theorem zAV(T:Txt K mg t):FnOk P w K mg base CX0 7 t.f_q21.a t.f_q21.d ["house","places"] (spD K EW0 (z1a t)):=by
 have G_q15:FnOk P w K mg base CX0 6 t.f_q15.a t.f_q15.d ["house","places"] (spD K EW0 z23):=z8J T;have G_q20:FnOk P w K mg base CX0 4 t.f_q20.a t.f_q20.d ["house","places","few"] (spD K EW0 (z5N t)):=zAj T;refine zV (m:=(z6u t)) T.f_q21.F zAe rfl rfl rfl fun cdv A outer s H E hr=>?_;have hu:=zk hr;unfold z6u;exact(zA (yl (zF (E:=E0) G_q15 (fun _ _ z=>z.elim) (hr.mono (by decide)) (by rfl) T.f_q15.m T.f_q15.k T.f_q15.d zQ (z4 (zD (pv 0)) (z4 (zD (pv 1)) z9))))
   (zH (zR (DE.w (zF (E:=E0) G_q20 (fun _ _ z=>z.elim) (hr.mono (by decide)) (by rfl) T.f_q20.m T.f_q20.k T.f_q20.d zQ (z4 (zD (pv 0)) (z4 (zD (pv 1)) (z4 zE z9))))))))
noncomputable def z8R:Env'->Mx Out:=(sSeq (wu (zP z9G (z5 (mVal 0) mNil)))
 (wu (zP z2J (z5 (mVal 1) (z5 (mBin fIx (mVar 0) (mC (.int 0))) mNil)))))
noncomputable def z60:List D->Mx D:=mFn 2 2 z8R
theorem z7e(T:Txt K mg t):FnOk P w K mg base CX0 7 t.f_q26.a t.f_q26.d ["web","places"] (spD K EW0 z60):=by
 have G_q11:FnOk P w K mg base CX0 6 t.f_q11.a t.f_q11.d ["web"] (spD K EW0 z9G):=zBG T;have G_q13:FnOk P w K mg base CX0 4 t.f_q13.a t.f_q13.d ["places","many"] (spD K EW0 z2J):=z87 T;refine zV (m:=z8R) T.f_q26.F zAk rfl rfl rfl fun cdv A outer s H E hr=>?_;have hu:=zk hr;unfold z8R;exact(zA (yl (zF (E:=E0) G_q11 (fun _ _ z=>z.elim) (hr.mono (by decide)) (by rfl) T.f_q11.m T.f_q11.k T.f_q11.d zQ (z4 (zD (pv 0)) z9)))
   (zH (yl (zF (E:=E0) G_q13 (fun _ _ z=>z.elim) (hr.mono (by decide)) (by rfl) T.f_q13.m T.f_q13.k T.f_q13.d zQ (z4 (zD (pv 1)) (z4 (zZ hu (z8 (pv 0)) (DE.w zE) (fun _ _=>rfl)) z9))))))
noncomputable def z9d:Env'->Mx Out:=(sSeq (wu (zP z60 (z5 (mVal 0) (z5 (mVal 1) mNil))))
 (sSeq (sSet 2 (zP z8j (z5 (mVal 0) (z5 (mVal 1) mNil))))
 (sRet (zBJ (mP (wB (mVal 2) mYes (mP (mSeq PyData.tuple (z5 (zO fSum (z5 (mBin fIx (mVar 2) (mVar 3)) mNil)) (z5 (mVal 3) mNil)))))) (mC .none)))))
noncomputable def z1t:List D->Mx D:=mFn 3 2 z9d
theorem zAB(T:Txt K mg t):FnOk P w K mg base CX0 8 t.f_q30.a t.f_q30.d ["web","places"] (spD K EW0 z1t):=by
 have G_q26:FnOk P w K mg base CX0 7 t.f_q26.a t.f_q26.d ["web","places"] (spD K EW0 z60):=z7e T;have G_q29:FnOk P w K mg base CX0 2 t.f_q29.a t.f_q29.d ["web","places"] (spD K EW0 z8j):=zAR T;refine zV (m:=z9d) T.f_q30.F sc_q30 rfl rfl rfl fun cdv A outer s H E hr=>?_;have hu:=zk hr;unfold z9d;exact(zA (yl (zF (E:=E0) G_q26 (fun _ _ z=>z.elim) (hr.mono (by decide)) (by rfl) T.f_q26.m T.f_q26.k T.f_q26.d zQ (z4 (zD (pv 0)) (z4 (zD (pv 1)) z9))))
   (zA (zh (i:=2) sc_q30.nd rfl (by first | exact Or.inl rfl | exact Or.inr rfl) (zF (E:=E0) G_q29 (fun _ _ z=>z.elim) (hr.mono (by decide)) (by rfl) T.f_q29.m T.f_q29.k T.f_q29.d zQ (z4 (zD (pv 0)) (z4 (zD (pv 1)) z9))))
   (zH (zR (DE.w (z8Z rfl hr.units (by rfl) T.b_min Bt.b_min (DE.w (DF.de (z6f (N:=["web","places","ways"]) (sc:=(z6 (top 43))) (N':=["web","places","ways","place"]) rfl rfl rfl (by decide +kernel) zc (zD (pv 2)) (fun _ _ _ _=>yP) (fun _ _ _ _=>(zW (z4 (zL (z9q rfl) (by rfl) T.b_sum Bt.b_sum (zC (DE.w (zZ hu (z8 (pv 2)) (z8 (pv 3)) (fun _ _=>rfl))) zG)) (z4 (zD (pv 3)) z9))))))) xW))))))
noncomputable def z92:Env'->Mx Out:=(sSeq (wu (zP z60 (z5 (mVal 0) (z5 (mVal 1) mNil))))
 (sSeq (sSet 2 (zP z3L (z5 (mVal 0) mNil)))
 (sSeq (sSet 3 (mP (zw (mIt (mVar 1)) mYes (mP (mSeq PyData.list (z5 (mVal 6) mNil))))))
 (sSeq (sFor (mRng yr (z5 (mBin fMul (mC (.int 2)) (mBin fIx (mVar 0) (mC (.int 0)))) mNil)) (τ1 4) (sSeq (sFor (mRng yr (z5 (mBin fIx (mVar 0) (mC (.int 0))) mNil)) (τ1 5) (sIf (mTru (zO (yh fun bs=>bs.all id) (z5 (mP (zw (mIt (mVar 3)) mYes (mBin (fIn false) (mVar 5) (mVar 6)))) mNil))) (sRet (mP (mSeq PyData.tuple (z5 (mVal 4) (z5 (mVal 5) mNil))))) sNil))
 (sSet 3 (mP (zw (mIt (mVar 3)) mYes (zP z8z (z5 (mVal 2) (z5 (mVal 6) mNil))))))))
 (sRet (mC .none))))))
noncomputable def wo:List D->Mx D:=mFn 6 2 z92
theorem zA7(T:Txt K mg t):FnOk P w K mg base CX0 8 t.f_q32.a t.f_q32.d ["web","places"] (spD K EW0 wo):=by
 have G_q26:FnOk P w K mg base CX0 7 t.f_q26.a t.f_q26.d ["web","places"] (spD K EW0 z60):=z7e T;have G_q27:FnOk P w K mg base CX0 1 t.f_q27.a t.f_q27.d ["web"] (spD K EW0 z3L):=z82 T;have G_q31:FnOk P w K mg base CX0 1 t.f_q31.a t.f_q31.d ["tied","could_be"] (spD K EW0 z8z):=z9u T;refine zV (m:=z92) T.f_q32.F sc_q32 rfl rfl rfl fun cdv A outer s H E hr=>?_;have hu:=zk hr;unfold z92;exact(zA (yl (zF (E:=E0) G_q26 (fun _ _ z=>z.elim) (hr.mono (by decide)) (by rfl) T.f_q26.m T.f_q26.k T.f_q26.d zQ (z4 (zD (pv 0)) (z4 (zD (pv 1)) z9))))
   (zA (zh (i:=2) sc_q32.nd rfl (by first | exact Or.inl rfl | exact Or.inr rfl) (zF (E:=E0) G_q27 (fun _ _ z=>z.elim) (hr.mono (by decide)) (by rfl) T.f_q27.m T.f_q27.k T.f_q27.d zQ (z4 (zD (pv 0)) z9)))
   (zA (z0W (i:=3) (N:=["web","places","tied","could_be","moves","place"]) (sc:=(z6 (top 45))) (N':=["web","places","tied","could_be","moves","place","start"]) rfl rfl rfl (by decide +kernel) sc_q32.nd rfl rfl zc (yT (z8 (pv 1))) (fun _ _ _ _=>yP) (fun _ _ _ _=>(DF.de (xc (z4 (zD (pv 6)) z9)))))
   (zA (xG PassesOwn.never rfl (yI (by rfl) T.b_range (zC (DE.w (zN wR (DE.w zE) (DE.w (zZ hu (z8 (pv 0)) (DE.w zE) (fun _ _=>rfl))))) zG)) (yO (yB (i:=4) sc_q32.nd rfl (by first | exact Or.inl rfl | exact Or.inr rfl)))
   (zA (xG PassesOwn.never rfl (yI (by rfl) T.b_range (zC (DE.w (zZ hu (z8 (pv 0)) (DE.w zE) (fun _ _=>rfl))) zG)) (yO (yB (i:=5) sc_q32.nd rfl (by first | exact Or.inl rfl | exact Or.inr rfl)))
   (zH (xI (zi (DE.w (zL (z08 rfl) (by rfl) T.b_all Bt.b_all (zC (DE.w (DF.de (zp (N:=["web","places","tied","could_be","moves","place"]) (sc:=(z6 (top 45))) (N':=["web","places","tied","could_be","moves","place","each"]) rfl rfl rfl (by decide +kernel) zc (yT (z8 (pv 3))) (fun _ _ _ _=>yP) (fun _ _ _ _=>(yj (z2u hr.units) (z8 (pv 5)) (z8 (pv 6)) (by rfl)))))) zG))) (fun _=>rfl)) (zH (zR (DE.w (zW (z4 (zD (pv 4)) (z4 (zD (pv 5)) z9)))))) yE)))
   (zH (z0W (i:=3) (N:=["web","places","tied","could_be","moves","place"]) (sc:=(z6 (top 45))) (N':=["web","places","tied","could_be","moves","place","each"]) rfl rfl rfl (by decide +kernel) sc_q32.nd rfl rfl zc (yT (z8 (pv 3))) (fun _ _ _ _=>yP) (fun _ _ _ _=>(zF (E:=E0) G_q31 (fun _ _ z=>z.elim) (hr.mono (by decide)) (by rfl) T.f_q31.m T.f_q31.k T.f_q31.d zQ (z4 (zD (pv 2)) (z4 (zD (pv 6)) z9))))))))
   (zH (zR (DE.w xW)))))))
noncomputable def z6l(t:Adr):Env'->Mx Out:=(sSeq (sSet 2 (mBin fAdd (mC (.int 2)) (zP z0M (z5 (mVal 0) (z5 (mVal 1) (z5 (mC (.int 5)) mNil))))))
 (sSeq (sSet 3 (zO wF (z5 (mP (zw (mRng yr (z5 (mVar 2) mNil)) mYes (mBin fMod (mBin fAdd (mVar 16) (mC (.int 1))) (mVar 2)))) mNil)))
 (sSeq (sSet 4 (mBin fAdd (mP (mSeq PyData.tuple (z5 (mC (.int 1)) mNil))) (zO (fRg2 PyData.tuple) (z5 (mC (.int 1)) (z5 (mVar 2) mNil)))))
 (sSeq (sSet 5 (mP (mSeq PyData.tuple (z5 (mVal 2) (z5 (mP (mSeq PyData.tuple (z5 (mVal 3) (z5 (mVal 4) mNil)))) mNil)))))
 (sSeq (sSet 6 (zO (fRg1 PyData.tuple) (z5 (mVar 2) mNil)))
 (sSeq (sIf (mOrT (yN (mBin (fEq true) (zO fLen (z5 (zP (z1a t) (z5 (mVal 5) (z5 (mVal 6) mNil))) mNil)) (mBin fMul (mBin fSub (mVar 2) (mC (.int 1))) (mBin fSub (mVar 2) (mC (.int 1)))))) (yN (mBin (fIs true) (zP (z1a t) (z5 (mP (mSeq PyData.tuple (z5 (mVal 2) (z5 (mP (mSeq PyData.tuple (z5 (mVal 3) mNil))) mNil)))) (z5 (mSl (mVar 6) uU (z3w (mC (.int 2)))) mNil))) (mC .none)))) (sRet (mC (.bool false))) sNil)
 (sSeq (sIf (yN (mBin (fEq true) (mBin fIx (mBin fIx (zP z5r (z5 (mP (mSeq PyData.tuple (z5 (mVal 2) (z5 (mP (mSeq PyData.tuple (z5 (mVal 3) (z5 (mVal 3) mNil)))) mNil)))) mNil)) (mC (.int 1))) (mC (.int 1))) (mC (.int 0)))) (sRet (mC (.bool false))) sNil)
 (sSeq (sOwn 7 (mSeq PyData.list mNil))
 (sSeq (sOwn 8 (z13 z5f (z5 (mVar 6) mNil)))
 (sSeq (wD 1000 (yN (mBin (fEq true) (mVar 8) (mP (mSeq PyData.list mNil)))) (z0t 7 8 (zP z0M (z5 (mVal 0) (z5 (mVal 1) (z5 (zO fLen (z5 (mVar 8) mNil)) mNil))))))
 (sSeq (sOwn 9 (mSeq PyData.list mNil))
 (sSeq (sFor (mIt (mBin fIx (mVar 5) (mC (.int 1)))) (τ1 10) (sSeq (sOwn 11 (z8e (mP (mSeq PyData.list (z5 (mC (.int 0)) mNil))) (mVar 2)))
 (sSeq (sFor (mIt (mVal 6)) (τ1 12) (z6O 11 (mBin fIx (mVar 7) (mVar 12)) (mBin fIx (mVar 7) (mBin fIx (mVar 10) (mVar 12)))))
 (sApp 9 (zO wF (z5 (mVar 11) mNil))))))
 (sSeq (sSet 13 (mP (mSeq PyData.tuple (z5 (mVal 2) (z5 (zO wF (z5 (mVar 9) mNil)) mNil)))))
 (sSeq (sSet 14 (zP (z1a t) (z5 (mVal 13) (z5 (mVal 6) mNil))))
 (sSeq (sSet 15 (mBin fIx (zP z3U (z5 (mVal 5) (z5 (mVal 6) (z5 (mVal 14) mNil)))) (mC (.int 0))))
 (sRet (wW (mBin (fEq false) (mVar 14) (zP (z1a t) (z5 (mVal 5) (z5 (mVal 6) mNil)))) (mBin (fEq false) (zP z3U (z5 (mVal 13) (z5 (mVal 6) (z5 (mVal 14) mNil)))) (mP (mSeq PyData.tuple (z5 (mBin fIx (mVar 7) (mVar 15)) mNil)))))))))))))))))))))
noncomputable def z4g(t:Adr):List D->Mx D:=mFn 16 2 (z6l t)
theorem zA3(T:Txt K mg t):FnOk P w K mg base CX0 8 t.f_q36.a t.f_q36.d ["_law_script","_law_town"] (spD K EW0 (z4g t)):=by
 have G_q35:FnOk P w K mg base CX0 3 t.f_q35.a t.f_q35.d ["_law_script","_law_town","_law_many"] (spD K EW0 z0M):=z7m T;have G_q21:FnOk P w K mg base CX0 7 t.f_q21.a t.f_q21.d ["house","places"] (spD K EW0 (z1a t)):=zAV T;have G_q25:FnOk P w K mg base CX0 6 t.f_q25.a t.f_q25.d ["house"] (spD K EW0 z5r):=zB9 T;have G_led:FnOk P w K mg base CX0 7 t.f_led.a t.f_led.d ["house","places","row"] (spD K EW0 z3U):=zAp T;refine zV (m:=(z6l t)) T.f_q36.F sc_q36 rfl rfl rfl fun cdv A outer s H E hr=>?_;have hu:=zk hr;unfold z6l;exact(zA (zh (i:=2) sc_q36.nd rfl (by first | exact Or.inl rfl | exact Or.inr rfl) (zN zm (DE.w zE) (DE.w (zF (E:=E0) G_q35 (fun _ _ z=>z.elim) (hr.mono (by decide)) (by rfl) T.f_q35.m T.f_q35.k T.f_q35.d zQ (z4 (zD (pv 0)) (z4 (zD (pv 1)) (z4 zE z9)))))))
   (zA (zh (i:=3) sc_q36.nd rfl (by first | exact Or.inl rfl | exact Or.inr rfl) (yc xB (by rfl) T.b_tuple Bt.b_tuple (zC (DE.w (DF.de (zp (N:=["_law_script","_law_town","_law_size","_law_about","_law_joins","_law_house","_law_rooms_here","_law_names","_law_left","_law_doors","_law_door","_law_new","_law_room","_law_named","_law_row","_law_end"]) (sc:=(z6 (top 50))) (N':=["_law_script","_law_town","_law_size","_law_about","_law_joins","_law_house","_law_rooms_here","_law_names","_law_left","_law_doors","_law_door","_law_new","~_law_room","_law_named","_law_row","_law_end","_law_room"]) rfl rfl rfl (by decide +kernel) zc (yI (by rfl) T.b_range (zC (z8 (pv 2)) zG)) (fun _ _ _ _=>yP) (fun _ _ _ _=>(zN xV (DE.w (zN zm (z8 (pv 16)) (DE.w zE))) (z8 (pv 2))))))) zG)))
   (zA (zh (i:=4) sc_q36.nd rfl (by first | exact Or.inl rfl | exact Or.inr rfl) (zN zm (DE.w (zW (z4 zE z9))) (DE.w (z1G (zz (xn rfl) (by rfl) T.b_tuple Bt.b_tuple (zI (z9B (by rfl) T.b_range (zC (DE.w zE) (zC (z8 (pv 2)) zG))) pa_nil))))))
   (zA (zh (i:=5) sc_q36.nd rfl (by first | exact Or.inl rfl | exact Or.inr rfl) (zW (z4 (zD (pv 2)) (z4 (zW (z4 (zD (pv 3)) (z4 (zD (pv 4)) z9))) z9))))
   (zA (zh (i:=6) sc_q36.nd rfl (by first | exact Or.inl rfl | exact Or.inr rfl) (wm (zz (xn rfl) (by rfl) T.b_tuple Bt.b_tuple (zI (z4q (by rfl) T.b_range (zC (z8 (pv 2)) zG)) pa_nil))))
   (zA (xI (DPW.dt (z0A (zt (xP hr.units) (DE.w (zL ye (by rfl) T.b_len Bt.b_len (zC (DE.w (zF (E:=E0) G_q21 (fun _ _ z=>z.elim) (hr.mono (by decide)) (by rfl) T.f_q21.m T.f_q21.k T.f_q21.d zQ (z4 (zD (pv 5)) (z4 (zD (pv 6)) z9)))) zG))) (DE.w (zN wR (DE.w (zN yR (z8 (pv 2)) (DE.w zE))) (DE.w (zN yR (z8 (pv 2)) (DE.w zE))))) (zd _)) (wO (zt wC (DE.w (zF (E:=E0) G_q21 (fun _ _ z=>z.elim) (hr.mono (by decide)) (by rfl) T.f_q21.m T.f_q21.k T.f_q21.d zQ (z4 (zW (z4 (zD (pv 2)) (z4 (zW (z4 (zD (pv 3)) z9)) z9))) (z4 (zAb (z8 (pv 6)) z42 (z5R (DE.w zE))) z9)))) (DE.w xW) (zd _))))) (zH (zR (DE.w uH))) yE)
   (zA (xI (zt (xP hr.units) (DE.w (zZ hu (DE.w (zZ hu (DE.w (zF (E:=E0) G_q25 (fun _ _ z=>z.elim) (hr.mono (by decide)) (by rfl) T.f_q25.m T.f_q25.k T.f_q25.d zQ (z4 (zW (z4 (zD (pv 2)) (z4 (zW (z4 (zD (pv 3)) (z4 (zD (pv 3)) z9))) z9))) z9))) (DE.w zE) (fun _ _=>rfl))) (DE.w zE) (fun _ _=>rfl))) (DE.w zE) (zd _)) (zH (zR (DE.w uH))) yE)
   (zA (yp (i:=7) sc_q36.nd rfl (by first | exact Or.inl rfl | exact Or.inr rfl) (xc z9))
   (zA (yp (i:=8) sc_q36.nd rfl (by first | exact Or.inl rfl | exact Or.inr rfl) (z9J (zz we (by rfl) T.b_list Bt.b_list (zC (z8 (pv 6)) zG))))
   (zA (ww (k:=1000) PassesOwn.never (zt (xP hr.units) (z8 (pv 8)) (DE.w (DF.de (xc z9))) (zd _)) (zH (z5V (xt PySem.F.plainAttrs_list PySem.F.slot_list_append PySem.F.type_list_append y8 (pv 7) (zI (xt PySem.F.plainAttrs_list PySem.F.slot_list_pop PySem.F.type_list_pop z0K (pv 8) (zI (zF (E:=E0) G_q35 (fun _ _ z=>z.elim) (hr.mono (by decide)) (by rfl) T.f_q35.m T.f_q35.k T.f_q35.d zQ (z4 (zD (pv 0)) (z4 (zD (pv 1)) (z4 (zL ye (by rfl) T.b_len Bt.b_len (zC (z8 (pv 8)) zG)) z9)))) pa_nil)) pa_nil)))))
   (zA (yp (i:=9) sc_q36.nd rfl (by first | exact Or.inl rfl | exact Or.inr rfl) (xc z9))
   (zA (xG PassesOwn.never rfl (uO (zZ hu (z8 (pv 5)) (DE.w zE) (fun _ _=>rfl))) (yO (yB (i:=10) sc_q36.nd rfl (by first | exact Or.inl rfl | exact Or.inr rfl)))
   (zA (yp (i:=11) sc_q36.nd rfl (by first | exact Or.inl rfl | exact Or.inr rfl) (z9b (DE.w (DF.de (xc (z4 zE z9)))) (z8 (pv 2))))
   (zA (xG PassesOwn.never rfl (uO (zD (pv 6))) (yO (yB (i:=12) sc_q36.nd rfl (by first | exact Or.inl rfl | exact Or.inr rfl)))
   (zH (z96 (pv 11) (zZ hu (z8 (pv 7)) (z8 (pv 12)) (fun _ _=>rfl)) (zZ hu (z8 (pv 7)) (DE.w (zZ hu (z8 (pv 10)) (z8 (pv 12)) (fun _ _=>rfl))) (fun _ _=>rfl)) (zBY (zZ hu (z8 (pv 7)) (DE.w (zZ hu (z8 (pv 10)) (z8 (pv 12)) (fun _ _=>rfl))) (fun _ _=>rfl)) (z9y (pv 11) (zZ hu (z8 (pv 7)) (z8 (pv 12)) (fun _ _=>rfl)) z6q)))))
   (zH (z2q (xt PySem.F.plainAttrs_list PySem.F.slot_list_append PySem.F.type_list_append y8 (pv 9) (zI (yc xB (by rfl) T.b_tuple Bt.b_tuple (zC (z8 (pv 11)) zG)) pa_nil)))))))
   (zA (zh (i:=13) sc_q36.nd rfl (by first | exact Or.inl rfl | exact Or.inr rfl) (zW (z4 (zD (pv 2)) (z4 (yc xB (by rfl) T.b_tuple Bt.b_tuple (zC (z8 (pv 9)) zG)) z9))))
   (zA (zh (i:=14) sc_q36.nd rfl (by first | exact Or.inl rfl | exact Or.inr rfl) (zF (E:=E0) G_q21 (fun _ _ z=>z.elim) (hr.mono (by decide)) (by rfl) T.f_q21.m T.f_q21.k T.f_q21.d zQ (z4 (zD (pv 13)) (z4 (zD (pv 6)) z9))))
   (zA (zh (i:=15) sc_q36.nd rfl (by first | exact Or.inl rfl | exact Or.inr rfl) (zZ hu (DE.w (zF (E:=E0) G_led (fun _ _ z=>z.elim) (hr.mono (by decide)) (by rfl) T.f_led.m T.f_led.k T.f_led.d zQ (z4 (zD (pv 5)) (z4 (zD (pv 6)) (z4 (zD (pv 14)) z9))))) (DE.w zE) (fun _ _=>rfl)))
   (zH (zR (DE.w (xS (DE.w (yj (w9 hr.units) (z8 (pv 14)) (DE.w (zF (E:=E0) G_q21 (fun _ _ z=>z.elim) (hr.mono (by decide)) (by rfl) T.f_q21.m T.f_q21.k T.f_q21.d zQ (z4 (zD (pv 5)) (z4 (zD (pv 6)) z9)))) (zd _))) (xb (yj (w9 hr.units) (DE.w (zF (E:=E0) G_led (fun _ _ z=>z.elim) (hr.mono (by decide)) (by rfl) T.f_led.m T.f_led.k T.f_led.d zQ (z4 (zD (pv 13)) (z4 (zD (pv 6)) (z4 (zD (pv 14)) z9))))) (DE.w (zW (z4 (zZ hu (z8 (pv 7)) (z8 (pv 15)) (fun _ _=>rfl)) z9))) (zd _))))))))))))))))))))))
noncomputable def z3m(t:Adr):Env'->Mx Out:=(sSeq (sSet 2 (mBin fAdd (mC (.int 3)) (zP z0M (z5 (mVal 0) (z5 (mVal 1) (z5 (mC (.int 6)) mNil))))))
 (sSeq (sPar 3 4 (z5 (mC (.int 0)) (z5 (mBin fAdd (mC (.int 1)) (zP z0M (z5 (mVal 0) (z5 (mVal 1) (z5 (mBin fSub (mVar 2) (mC (.int 1))) mNil))))) mNil)))
 (sSeq (sSet 5 (zO wF (z5 (zO y3 (z5 (mBin fAdd (mP (zw (mRng yr (z5 (mBin fSub (mVar 2) (mC (.int 1))) mNil)) mYes (mP (mSeq PyData.tuple (z5 (mVal 12) (z5 (mBin fAdd (mVar 12) (mC (.int 1))) mNil)))))) (mP (mSeq PyData.list (z5 (mP (mSeq PyData.tuple (z5 (mC (.int 0)) (z5 (mBin fSub (mVar 2) (mC (.int 1))) mNil)))) mNil)))) mNil)) mNil)))
 (sSeq (sSet 6 (zO wF (z5 (mP (zw (mRng yr (z5 (mBin fSub (mVar 2) (mC (.int 1))) mNil)) mYes (mP (mSeq PyData.tuple (z5 (mVal 12) (z5 (mBin fAdd (mVar 12) (mC (.int 1))) mNil)))))) mNil)))
 (sSeq (sSet 7 (zO z6a (z5 (mVar 4) (z5 (mBin fSub (mVar 2) (mVar 4)) mNil))))
 (sSeq (sIf (mOrT (yN (mBin (fEq true) (zP z1t (z5 (mP (mSeq PyData.tuple (z5 (mVal 2) (z5 (mVal 5) mNil)))) (z5 (mP (mSeq PyData.tuple (z5 (mVal 3) (z5 (mVal 4) mNil)))) mNil))) (mP (mSeq PyData.tuple (z5 (mVal 7) (z5 (mC (.int 0)) mNil)))))) (yN (mBin (fEq true) (zP z1t (z5 (mP (mSeq PyData.tuple (z5 (mVal 2) (z5 (mVal 6) mNil)))) (z5 (mP (mSeq PyData.tuple (z5 (mVal 3) (z5 (mVal 4) mNil)))) mNil))) (mP (mSeq PyData.tuple (z5 (mVal 4) (z5 (mC (.int 0)) mNil))))))) (sRet (mC (.bool false))) sNil)
 (sSeq (sSet 8 (zP wo (z5 (mP (mSeq PyData.tuple (z5 (mVal 2) (z5 (mVal 5) mNil)))) (z5 (mP (mSeq PyData.tuple (z5 (mVal 3) (z5 (mVal 4) mNil)))) mNil))))
 (sSeq (sSet 9 (mIf (yN (mBin (fEq false) (mBin fMod (mVar 7) (mC (.int 2))) (mC (.int 1)))) (zO z77 (z5 (mVar 4) (z5 (mBin fSub (mVar 2) (mVar 4)) mNil))) (mVal 7)))
 (sSeq (sIf (mOrT (z5c (yN (mBin (fEq false) (mBin fMod (mVar 2) (mC (.int 2))) (mC (.int 0)))) (yN (mBin (fEq true) (mBin (fIs false) (mVar 8) (mC .none)) (mBin (fEq false) (mBin fMod (mVar 7) (mC (.int 2))) (mC (.int 1)))))) (z5c (yN (mBin (fIs true) (mVar 8) (mC .none))) (yN (mBin (fEq true) (mBin fIx (mVar 8) (mC (.int 0))) (mBin z64 (mVar 9) (mC (.int 2))))))) (sRet (mC (.bool false))) sNil)
 (sSeq (sIf (yN (mBin (fEq true) (mBin (fIs false) (zP wo (z5 (mP (mSeq PyData.tuple (z5 (mVal 2) (z5 (mVal 6) mNil)))) (z5 (mP (mSeq PyData.tuple (z5 (mVal 3) (z5 (mVal 4) mNil)))) mNil))) (mC .none)) (mBin (fEq false) (mBin fMod (mVar 4) (mC (.int 2))) (mC (.int 1))))) (sRet (mC (.bool false))) sNil)
 (sSeq (sOwn 10 (mSeq PyData.list mNil))
 (sSeq (sFor (mRng yr (z5 (mVar 2) mNil)) (τ1 11) (sExt 10 (mP (zw (mRng yr (z5 (mVar 11) mNil)) mYes (mP (mSeq PyData.tuple (z5 (mVal 12) (z5 (mVal 11) mNil))))))))
 (sSeq (sSet 10 (mP (mSeq PyData.tuple (z5 (mVal 2) (z5 (zO wF (z5 (zO y3 (z5 (mVar 10) mNil)) mNil)) mNil)))))
 (sSeq (sIf (mOrT (yN (mBin (fEq true) (mBin fIx (uq wo (z5 (mVar 10) (z5 (mP (mSeq PyData.tuple (z5 (mVal 3) (z5 (mVal 4) mNil)))) mNil))) (mC (.int 0))) (mC (.int 1)))) (yN (mBin (fEq true) (mBin fIx (uq wo (z5 (mVar 10) (z5 (zO (fRg1 PyData.tuple) (z5 (mVar 2) mNil)) mNil))) (mC (.int 0))) (mC (.int 2))))) (sRet (mC (.bool false))) sNil)
 (sRet (zP (z4g t) (z5 (mVal 0) (z5 (mVal 1) mNil))))))))))))))))))
theorem zAd(T:Txt K mg t)(tells:z8t 12 (z3m t)):FnOk P w K mg base CX0 9 t.f_law.a t.f_law.d ["_law_script"] (z5H K):=by
 have G_q35:FnOk P w K mg base CX0 3 t.f_q35.a t.f_q35.d ["_law_script","_law_town","_law_many"] (spD K EW0 z0M):=z7m T;have G_q30:FnOk P w K mg base CX0 8 t.f_q30.a t.f_q30.d ["web","places"] (spD K EW0 z1t):=zAB T;have G_q32:FnOk P w K mg base CX0 8 t.f_q32.a t.f_q32.d ["web","places"] (spD K EW0 wo):=zA7 T;have G_q36:FnOk P w K mg base CX0 8 t.f_q36.a t.f_q36.d ["_law_script","_law_town"] (spD K EW0 (z4g t)):=zA3 T;refine zBS (m:=z3m t) T.f_law.F sc_law rfl (by decide) rfl (fun cdv A outer s H E=>?_) (fun cdv A outer s H E hr=>?_) tells
 ·exact z06 (i:=1) sc_law.nd rfl (by first | exact Or.inl rfl | exact Or.inr rfl) (z1f pa_nil)
 ·have hu:=zk hr;unfold z3m;exact(zA (zh (i:=2) sc_law.nd rfl (by first | exact Or.inl rfl | exact Or.inr rfl) (zN zm (DE.w zE) (DE.w (zF (E:=E0) G_q35 (fun _ _ z=>z.elim) (hr.mono (by decide)) (by rfl) T.f_q35.m T.f_q35.k T.f_q35.d zQ (z4 (zD (pv 0)) (z4 (zD (pv 1)) (z4 zE z9)))))))
   (zA (zAn (i:=3) (j:=4) rfl sc_law.nd rfl rfl (by decide) rfl rfl (z4 zE (z4 (zN zm (DE.w zE) (DE.w (zF (E:=E0) G_q35 (fun _ _ z=>z.elim) (hr.mono (by decide)) (by rfl) T.f_q35.m T.f_q35.k T.f_q35.d zQ (z4 (zD (pv 0)) (z4 (zD (pv 1)) (z4 (zN yR (z8 (pv 2)) (DE.w zE)) z9)))))) z9)) rfl)
   (zA (zh (i:=5) sc_law.nd rfl (by first | exact Or.inl rfl | exact Or.inr rfl) (yc xB (by rfl) T.b_tuple Bt.b_tuple (zC (DE.w (zL (z0E rfl hr.units) (by rfl) T.b_sorted Bt.b_sorted (zC (DE.w (zN zm (DE.w (DF.de (zp (N:=["_law_script","_law_town","_law_many","_law_one","_law_other","_law_ring","_law_line","_law_apart","_law_found","_law_odd","_law_every","_law_last"]) (sc:=(z6 (top 51))) (N':=["_law_script","_law_town","_law_many","_law_one","_law_other","_law_ring","_law_line","_law_apart","_law_found","_law_odd","_law_every","_law_last","_law_place"]) rfl rfl rfl (by decide +kernel) zc (yI (by rfl) T.b_range (zC (DE.w (zN yR (z8 (pv 2)) (DE.w zE))) zG)) (fun _ _ _ _=>yP) (fun _ _ _ _=>(zW (z4 (zD (pv 12)) (z4 (zN zm (z8 (pv 12)) (DE.w zE)) z9))))))) (DE.w (DF.de (xc (z4 (zW (z4 zE (z4 (zN yR (z8 (pv 2)) (DE.w zE)) z9))) z9)))))) zG))) zG)))
   (zA (zh (i:=6) sc_law.nd rfl (by first | exact Or.inl rfl | exact Or.inr rfl) (yc xB (by rfl) T.b_tuple Bt.b_tuple (zC (DE.w (DF.de (zp (N:=["_law_script","_law_town","_law_many","_law_one","_law_other","_law_ring","_law_line","_law_apart","_law_found","_law_odd","_law_every","_law_last"]) (sc:=(z6 (top 51))) (N':=["_law_script","_law_town","_law_many","_law_one","_law_other","_law_ring","_law_line","_law_apart","_law_found","_law_odd","_law_every","_law_last","_law_place"]) rfl rfl rfl (by decide +kernel) zc (yI (by rfl) T.b_range (zC (DE.w (zN yR (z8 (pv 2)) (DE.w zE))) zG)) (fun _ _ _ _=>yP) (fun _ _ _ _=>(zW (z4 (zD (pv 12)) (z4 (zN zm (z8 (pv 12)) (DE.w zE)) z9))))))) zG)))
   (zA (zh (i:=7) sc_law.nd rfl (by first | exact Or.inl rfl | exact Or.inr rfl) (zL (z95 rfl) (by rfl) T.b_min Bt.b_min (zC (z8 (pv 4)) (zC (DE.w (zN yR (z8 (pv 2)) (z8 (pv 4)))) zG))))
   (zA (xI (DPW.dt (z0A (zt (xP hr.units) (DE.w (zF (E:=E0) G_q30 (fun _ _ z=>z.elim) (hr.mono (by decide)) (by rfl) T.f_q30.m T.f_q30.k T.f_q30.d zQ (z4 (zW (z4 (zD (pv 2)) (z4 (zD (pv 5)) z9))) (z4 (zW (z4 (zD (pv 3)) (z4 (zD (pv 4)) z9))) z9)))) (DE.w (zW (z4 (zD (pv 7)) (z4 zE z9)))) (zd _)) (wO (zt (xP hr.units) (DE.w (zF (E:=E0) G_q30 (fun _ _ z=>z.elim) (hr.mono (by decide)) (by rfl) T.f_q30.m T.f_q30.k T.f_q30.d zQ (z4 (zW (z4 (zD (pv 2)) (z4 (zD (pv 6)) z9))) (z4 (zW (z4 (zD (pv 3)) (z4 (zD (pv 4)) z9))) z9)))) (DE.w (zW (z4 (zD (pv 4)) (z4 zE z9)))) (zd _))))) (zH (zR (DE.w uH))) yE)
   (zA (zh (i:=8) sc_law.nd rfl (by first | exact Or.inl rfl | exact Or.inr rfl) (zF (E:=E0) G_q32 (fun _ _ z=>z.elim) (hr.mono (by decide)) (by rfl) T.f_q32.m T.f_q32.k T.f_q32.d zQ (z4 (zW (z4 (zD (pv 2)) (z4 (zD (pv 5)) z9))) (z4 (zW (z4 (zD (pv 3)) (z4 (zD (pv 4)) z9))) z9))))
   (zA (zh (i:=9) sc_law.nd rfl (by first | exact Or.inl rfl | exact Or.inr rfl) (zBs (zt (w9 hr.units) (DE.w (zN xV (z8 (pv 7)) (DE.w zE))) (DE.w zE) (zd _)) (zL (z8P rfl) (by rfl) T.b_max Bt.b_max (zC (z8 (pv 4)) (zC (DE.w (zN yR (z8 (pv 2)) (z8 (pv 4)))) zG))) (zD (pv 7))))
   (zA (xI (DPW.dt (z0A (DPW.dt (z1x (zt (w9 hr.units) (DE.w (zN xV (z8 (pv 2)) (DE.w zE))) (DE.w zE) (zd _)) (z0h (zt (xP hr.units) (DE.w (yj z83 (z8 (pv 8)) (DE.w xW) (zd _))) (DE.w (yj (w9 hr.units) (DE.w (zN xV (z8 (pv 7)) (DE.w zE))) (DE.w zE) (zd _))) (zd _))))) (wO (DPW.dt (z1x (zt wC (z8 (pv 8)) (DE.w xW) (zd _)) (z0h (zt (xP hr.units) (DE.w (zZ hu (z8 (pv 8)) (DE.w zE) (fun _ _=>rfl))) (DE.w (zN z6U (z8 (pv 9)) (DE.w zE))) (zd _)))))))) (zH (zR (DE.w uH))) yE)
   (zA (xI (zt (xP hr.units) (DE.w (yj z83 (DE.w (zF (E:=E0) G_q32 (fun _ _ z=>z.elim) (hr.mono (by decide)) (by rfl) T.f_q32.m T.f_q32.k T.f_q32.d zQ (z4 (zW (z4 (zD (pv 2)) (z4 (zD (pv 6)) z9))) (z4 (zW (z4 (zD (pv 3)) (z4 (zD (pv 4)) z9))) z9)))) (DE.w xW) (zd _))) (DE.w (yj (w9 hr.units) (DE.w (zN xV (z8 (pv 4)) (DE.w zE))) (DE.w zE) (zd _))) (zd _)) (zH (zR (DE.w uH))) yE)
   (zA (yp (i:=10) sc_law.nd rfl (by first | exact Or.inl rfl | exact Or.inr rfl) (xc z9))
   (zA (xG PassesOwn.never rfl (yI (by rfl) T.b_range (zC (z8 (pv 2)) zG)) (yO (yB (i:=11) sc_law.nd rfl (by first | exact Or.inl rfl | exact Or.inr rfl)))
   (zH (zBR (xt PySem.F.plainAttrs_list PySem.F.slot_list_extend PySem.F.type_list_extend z4V (pv 10) (zI (DF.de (zp (N:=["_law_script","_law_town","_law_many","_law_one","_law_other","_law_ring","_law_line","_law_apart","_law_found","_law_odd","_law_every","_law_last"]) (sc:=(z6 (top 51))) (N':=["_law_script","_law_town","_law_many","_law_one","_law_other","_law_ring","_law_line","_law_apart","_law_found","_law_odd","_law_every","_law_last","_law_first"]) rfl rfl rfl (by decide +kernel) zc (yI (by rfl) T.b_range (zC (z8 (pv 11)) zG)) (fun _ _ _ _=>yP) (fun _ _ _ _=>(zW (z4 (zD (pv 12)) (z4 (zD (pv 11)) z9)))))) pa_nil)))))
   (zA (zh (i:=10) sc_law.nd rfl (by first | exact Or.inl rfl | exact Or.inr rfl) (zW (z4 (zD (pv 2)) (z4 (yc xB (by rfl) T.b_tuple Bt.b_tuple (zC (DE.w (zL (z0E rfl hr.units) (by rfl) T.b_sorted Bt.b_sorted (zC (z8 (pv 10)) zG))) zG)) z9))))
   (zA (xI (DPW.dt (z0A (zt (xP hr.units) (DE.w (zZ hu (DE.w (z3H (E:=E0) G_q32 (fun _ _ z=>z.elim) (hr.mono (by decide)) (by rfl) T.f_q32.m T.f_q32.k T.f_q32.d zQ (zC (z8 (pv 10)) (zC (DE.w (zW (z4 (zD (pv 3)) (z4 (zD (pv 4)) z9)))) zG)))) (DE.w zE) (fun _ _=>rfl))) (DE.w zE) (zd _)) (wO (zt (xP hr.units) (DE.w (zZ hu (DE.w (z3H (E:=E0) G_q32 (fun _ _ z=>z.elim) (hr.mono (by decide)) (by rfl) T.f_q32.m T.f_q32.k T.f_q32.d zQ (zC (z8 (pv 10)) (zC (DE.w (wm (zz (xn rfl) (by rfl) T.b_tuple Bt.b_tuple (zI (z4q (by rfl) T.b_range (zC (z8 (pv 2)) zG)) pa_nil)))) zG)))) (DE.w zE) (fun _ _=>rfl))) (DE.w zE) (zd _))))) (zH (zR (DE.w uH))) yE)
   (zH (zR (DE.w (zF (E:=E0) G_q36 (fun _ _ z=>z.elim) (hr.mono (by decide)) (by rfl) T.f_q36.m T.f_q36.k T.f_q36.d zQ (z4 (zD (pv 0)) (z4 (zD (pv 1)) z9))))))))))))))))))))
end
end Gw
namespace Gw
open PySem L2
theorem z9H{ns:List Int}{k:Int}{n:Nat}{P:D->Nat->Prop}(hk:0<=k)(h:∀c:Int,P (.p (.int c)) n):Ok (z3t [.scr ns,.p (.int k)]) n P:=by
 unfold z3t;simp only[if_pos hk,zv];exact h _
theorem z79{ns:List Int}{k m:Int}{n:Nat}{P:D->Nat->Prop}(hk:0<=k)(hk2:k<2 ^ 64)(hm:0<m)(h:∀r:Int,0<=r->r<m->P (.p (.int r)) n):Ok (z4c [.scr ns,.p (.int k),.p (.int m)]) n P:=by
 unfold z4c z7P;refine t_fn rfl ?_;walk_at "e";refine z9H hk fun c=>?_;walk_at "e";rw[z2k (by decide)];walk_at "e";rw[zAs (by decide)];walk_at "e";rw[yf (by decide)];walk_at "e";generalize hq:(c+7919*k+1)*48271 % 2147483647=q;have q0:0<=q/\q<2147483647:=by omega
 rw[z2k (by omega)];walk_at "e";rw[z2k (by decide)];walk_at "e";rw[yf (by decide)];walk_at "e";rw[yf hm];walk_at "e";exact h _ (Int.emod_nonneg _ (by omega)) (Int.emod_lt_of_pos _ hm)
theorem z0O{ns:List Int}{m:Int}{n:Nat}{P:D->Nat->Prop}(hn:n<100000)(hm:0<m)(h:∀r:Int,0<=r->r<m->P (.p (.int r)) (n+1)):Ok (z0M [.scr ns,.town,.p (.int m)]) n P:=by
 unfold z0M z6o;refine t_fn rfl ?_;walk_at "e";refine z9X rfl (by unfold lim;omega) ?_;walk_at "e";refine z8W rfl ?_;walk_at "e";exact z79 (by omega) (by omega) hm h
noncomputable abbrev plD(pl:List Int):PyData:=.tuple (pl.map PyData.int)
structure PlOk(m:Int)(pl:List Int):Prop where
 ne:pl≠[]
 inr:∀p∈pl,0<=p/\p<m
 srt:pl.Pairwise (·<·)
 len:pl.length<=8
noncomputable def yG(m:Int)(ds:List (List Int)):PyData:=.tuple [.int m,.tuple (ds.map plD)]
structure DoorOk(m:Int)(d:List Int):Prop where
 len:(d.length:Int)=m
 inr:∀x∈d,0<=x/\x<m
structure HouseOk(m:Int)(ds:List (List Int)):Prop where
 lo:1<=m
 hi:m<=8
 some:1<=ds.length
 few:ds.length<=3
 doors:∀d∈ds,DoorOk m d
theorem u6{x a b:Int}{n:Nat}{P:D->Nat->Prop}(h:P (.p (.bool (decide (a<=x) && decide (x<=b)))) n):Ok (F_q0 [.p (.int x),.p (.int a),.p (.int b)]) n P:=by
 unfold F_q0 b_q0;refine t_fn rfl ?_;walk_at "e";by_cases c:a<=x
 ·simp only[c,decide_true,if_true,Bool.true_and]at h |-
  try walk_at "e"
  exact h
 ·simp only[c,decide_false,Bool.false_and,if_false,Bool.false_eq_true]at h |-
  try walk_at "e"
  exact h
theorem xA{l:List Int}{a b:Int}{n:Nat}{P:D->Nat->Prop}(hl:l.length<10000)(hr:∀x∈l,a<=x/\x<=b)(h:P (.p (.bool true)) n):Ok (F_q1 [.p (.tuple (l.map PyData.int)),.p (.int a),.p (.int b)]) n P:=by
 unfold F_q1 b_q1;refine t_fn rfl ?_;walk_at "e"
 try unfold zw
 walk_at "e";rw[z2B (by simpa using hl)];walk_at "e";refine zl (J':=PyData.bool) (f:=fun _=>true) (fun x hx=>?_) ?_
 ·walk_at "e";refine u6 ⟨?_,rfl⟩
  have:=hr x hx;simp[this]
 ·try walk_at "e"
  simp only[yh];rw[show((l.map fun _=>true).map PyData.bool)=(l.map fun _=>true).map (fun b=>PyData.bool (id b)) from rfl,yw];walk_at "e";rw[show(((l.map fun _=>true).map id).all id)=true by simp];exact h
theorem z2E{l:List PyData}{n:Nat}{P:D->Nat->Prop}(hl:l.length<10000)(hr:∀(i:Nat) x y,l[i]?=some x->l[i+1]?=some y->fLt x y=some (.bool true))(h:P (.p (.bool true)) n):Ok (F_q2 [.p (.tuple l)]) n P:=by
 unfold F_q2 b_q2;refine t_fn rfl ?_;walk_at "e"
 try unfold zw
 walk_at "e";rw[yA (by omega)];walk_at "e";refine z7M (f:=fun _=>.bool true) (fun d hd=>?_) ?_
 ·obtain⟨k,hk,rfl⟩:=List.mem_iff_getElem.mp hd;rw[z7K]at hk;rw[z6x];walk_at "e";have e1:fIx (.tuple l) (.int (0+(k:Int)))=some (l[k]'(by omega)):=z2Y (by omega) (by rw[show(0+(k:Int)).toNat=k by omega];exact List.getElem?_eq_getElem (by omega));have e2:fIx (.tuple l) (.int (0+(k:Int)+1))=some (l[k+1]'(by omega)):=z2Y (by omega) (by rw[show(0+(k:Int)+1).toNat=k+1 by omega];exact List.getElem?_eq_getElem (by omega));rw[e1];walk_at "e";rw[e2];walk_at "e";rw[hr k _ _ (List.getElem?_eq_getElem (by omega)) (List.getElem?_eq_getElem (by omega))];walk_at "e";exact⟨by trivial,by trivial⟩
 ·try walk_at "e"
  simp only[yh];rw[show(rngD 0 ((l.length:Int) - 1)).map (fun _=>PyData.bool true)=(rngD 0 ((l.length:Int) - 1)).map (fun x=>PyData.bool ((fun _=>true) x)) from rfl,yw];walk_at "e";rw[show(((rngD 0 ((l.length:Int) - 1)).map fun _=>true).all id)=true by simp];exact h
theorem z1T{m:Int}{pl:List Int}{n:Nat}{P:D->Nat->Prop}(hne:pl≠[])(hin:∀p∈pl,0<=p/\p<m)(hs:pl.Pairwise (·<·))(hl:pl.length<100)(h:P (.p (.bool true)) n):Ok (F_q3 [.p (plD pl),.p (.int m)]) n P:=by
 unfold F_q3 b_q3;refine t_fn rfl ?_;walk_at "e";refine xA (by omega) (fun x hx=>by have:=hin x hx;omega) ?_;walk_at "e";have h0:0<pl.length:=List.length_pos_iff.mpr hne;rw[show decide ((1:Int)<=((pl.map PyData.int).length:Int))=true by simp;omega];walk_at "e";refine z2E (by simp;omega) (fun i x y e1 e2=>?_) h;rw[List.getElem?_map]at e1 e2;obtain⟨a,ea,rfl⟩:=Option.map_eq_some_iff.mp e1;obtain⟨b,eb,rfl⟩:=Option.map_eq_some_iff.mp e2;rw[fLt_int,decide_eq_true (z8o hs ea eb)]
theorem z9E{m:Int}{ts:List PyData}{n:Nat}{P:D->Nat->Prop}(h1:1<=m)(h2:m<=8)(h:P (.p (.bool true)) n):Ok (F_q6 [.p (.tuple [.int m,.tuple ts])]) n P:=by
 unfold F_q6 b_q6;refine t_fn rfl ?_;walk_at "e"
 try simp
 walk_at "e";refine u6 ?_;rw[show(decide ((1:Int)<=m) && decide (m<=z8c))=true by unfold z8c;simp;omega];walk_at "e";exact h
theorem z0c{m:Int}{pl:List Int}{n:Nat}{P:D->Nat->Prop}(L:PlOk m pl)(h:P (.p .none) n):Ok (z2J [.p (plD pl),.p (.int m)]) n P:=by
 have:=L.len;unfold z2J z72;refine t_fn rfl ?_;walk_at "e";refine z1T L.ne L.inr L.srt (by omega) ?_;walk_at "e";exact h
theorem z4n{m:Int}{d:List Int}{n:Nat}{P:D->Nat->Prop}(hm:m<=8)(d1:DoorOk m d)(h:P (.p (.bool true)) n):Ok (F_q5 [.p (plD d),.p (.int m)]) n P:=by
 have:=d1.len;unfold F_q5 b_q5;refine t_fn rfl ?_;walk_at "e";refine xA (by omega) (fun x hx=>by have:=d1.inr x hx;omega) ?_;walk_at "e";rw[List.length_map,decide_eq_true d1.len];exact h
theorem zY(m:Int)(ds:List (List Int)):yG m ds=.tuple [.int m,.tuple (ds.map plD)]:=rfl
theorem z3a{m:Int}{ds:List (List Int)}{n:Nat}{P:D->Nat->Prop}(H:HouseOk m ds)(h:P (.p (.bool true)) n):Ok (F_q8 [.p (yG m ds)]) n P:=by
 have h1:=H.some;have h2:=H.few;unfold F_q8 b_q8;refine t_fn rfl ?_;rw[zY];walk_at "e";refine z9E H.lo H.hi ?_;walk_at "e";rw[List.length_map,decide_eq_true (show(1:Int)<=(ds.length:Int) by omega)];walk_at "e";rw[decide_eq_true (show(ds.length:Int)<=z8i by unfold z8i;omega)];exact h
theorem z3N{m:Int}{ds:List (List Int)}{n:Nat}{P:D->Nat->Prop}(H:HouseOk m ds)(h:P (.p (.bool true)) n):Ok (F_q9 [.p (yG m ds)]) n P:=by
 have h2:=H.few;unfold F_q9 b_q9;refine t_fn rfl ?_;walk_at "e";refine z3a H ?_;rw[zY];walk_at "e";rw[z2B (by simp;omega)];walk_at "e";refine zl (J:=plD) (J':=PyData.bool) (f:=fun _=>true) (fun d hd=>?_) ?_
 ·walk_at "e";exact z4n H.hi (H.doors d hd) ⟨rfl,rfl⟩
 ·try walk_at "e"
  simp only[yh];rw[show((ds.map fun _=>true).map PyData.bool)=(ds.map fun _=>true).map (fun b=>PyData.bool (id b)) from rfl,yw];walk_at "e";rw[show(((ds.map fun _=>true).map id).all id)=true by simp];exact h
theorem wc{m:Int}{ds:List (List Int)}{n:Nat}{P:D->Nat->Prop}(H:HouseOk m ds)(h:P (.p .none) n):Ok (z2H [.p (yG m ds)]) n P:=by
 unfold z2H z6F;refine t_fn rfl ?_;walk_at "e";refine z3N H ?_;walk_at "e";exact h
theorem z1A{m:Int}{ds:List (List Int)}{pl:List Int}{n:Nat}{P:D->Nat->Prop}(H:HouseOk m ds)(L:PlOk m pl)(h:P (.p .none) n):Ok (z23 [.p (yG m ds),.p (plD pl)]) n P:=by
 unfold z23 z73;refine t_fn rfl ?_;walk_at "e";refine wc H ?_;rw[zY]
 try walk_at "e"
 refine z0c L ?_;exact h
noncomputable def thr(d st:List Int):List Int:=(upto 8).filter fun x=>st.any fun y=>decide (d.getD y.toNat 0=x)
structure StOk(m:Int)(st:List Int):Prop where
 inr:∀p∈st,0<=p/\p<m
 srt:st.Pairwise (·<·)
 len:st.length<=8
theorem yn{m:Int}{d st:List Int}(hm:m<=8)(d1:DoorOk m d)(S:StOk m st)(x:Int):x∈thr d st↔∃y∈st,d.getD y.toNat 0=x:=by
 unfold thr;rw[List.mem_filter,List.any_eq_true];constructor
 ·rintro⟨_,y,hy,e⟩;exact⟨y,hy,by simpa using e⟩
 ·rintro⟨y,hy,e⟩;have h1:=S.inr y hy;have h2:=d1.inr _ (y6 (l:=d) (i:=y.toNat) (d:=0) (by have:=d1.len;omega));exact⟨mem_upto.mpr (by omega),y,hy,by simpa using e⟩
theorem xM{m:Int}{d st:List Int}(hm:m<=8)(d1:DoorOk m d)(S:StOk m st):StOk m (thr d st):=by
 refine⟨fun x hx=>?_,(xw 8).filter _,?_⟩
 ·obtain⟨y,hy,rfl⟩:=(yn hm d1 S x).mp hx;have h1:=S.inr y hy;exact d1.inr _ (y6 (by have:=d1.len;omega))
 ·have:=List.length_filter_le (fun x=>st.any fun y=>decide (d.getD y.toNat 0=x)) (upto 8);rw[zK]at this;exact this
theorem zAf{m:Int}{d st r:List Int}(hm:m<=8)(d1:DoorOk m d)(S:StOk m st)(h:r.Pairwise (·<·))(hr:∀x,x∈r↔x∈st.map fun y=>d.getD y.toNat 0):r=thr d st:=
 z0z h (xM hm d1 S).srt fun x=>by rw[hr x,yn hm d1 S x,List.mem_map]
theorem zCE{m:Int}{d st:List Int}(hm:m<=8)(d1:DoorOk m d)(S:StOk m st):∀x∈st.map fun y=>d.getD y.toNat 0,0<=x/\x<8:=fun x hx=>by
 obtain⟨y,hy,rfl⟩:=List.mem_map.mp hx;have h1:=S.inr y hy
 have:=d1.inr _ (y6 (l:=d) (i:=y.toNat) (d:=0) (by have:=d1.len;omega));omega
theorem wU{m:Int}{d st:List Int}{n:Nat}{P:D->Nat->Prop}(hm:m<=8)(d1:DoorOk m d)(S:StOk m st)(h:P (.p (plD (thr d st))) n):Ok (z0Q [.p (plD d),.p (plD st)]) n P:=by
 have hd:=d1.len;have hl:=S.len;unfold z0Q z7C;refine t_fn rfl ?_;walk_at "e";rw[z2B (by simp;omega)];walk_at "e";refine zl (J':=PyData.int) (f:=fun y=>d.getD y.toNat 0) (fun y hy=>?_) ?_
 ·have:=S.inr y hy;walk_at "e";rw[z0J (by omega) (by omega)];walk_at "e";exact⟨by trivial,by trivial⟩
 ·try walk_at "e"
  rw[z7O];walk_at "e";obtain⟨r,e1,e2,e3⟩:=z9M (zCE hm d1 S);rw[e1];walk_at "e";rw[zAf hm d1 S e2 e3];exact h
theorem StOk.rise{m:Int}{st:List Int}(hm:m<=8)(S:StOk m st):st.Pairwise (·<·)/\∀x∈st,0<=x/\x<8:=⟨S.srt,fun x hx=>by have:=S.inr x hx;omega⟩
noncomputable def one(st:List Int):Bool:=decide (st.length=1)
theorem z71{mk:Env'->Mx D}{mc:Env'->Mx Bool}{me:Env'->Mx D}{ρ:Env'}{n:Nat}{P:PyData->Nat->Prop}{kvs:List (PyData×PyData)}(hk:Ok (mk ρ) n fun d n'=>d=.p (.dict kvs)/\n'=n)(hl:kvs.length<10000)(h:Ok (zX mc me ρ (kvs.map (·.1)) []) n fun l n'=>P (.list l) n'):Ok (wB mk mc me ρ) n P:=by
 unfold wB;rw[zu];refine hk.imp fun d n' ⟨e1,e2⟩=>?_;subst e1 e2;rw[zu,z4d];simp only[z9P];rw[if_pos (by unfold lim;omega),y7,zu];obtain⟨l,n2,e,p⟩:=h;refine⟨l,n2,?_,(zv _ _).mpr p⟩;unfold Mx.sure;rw[e]
noncomputable def fH(ds:List (List Int)):Int->List Int->Option (List Int):=fun d st=>some (thr (ds.getD d.toNat []) st)
theorem z4f{i j:Nat}{ρ:Env'}{n:Nat}{P:Out->Nat->Prop}{x:PyData}{l:List PyData}(hl:ownL ρ j=some (x::l))(hij:i≠j)(h:P (.nx ((ρ.set j (some (Sl.own (.list l)))).set i (some (Sl.val (.p x))))) n):Ok (z1Z i j (mC (.int 0)) ρ) n P:=by
 unfold z1Z mC;simp only[hl,zu,y7,zv,z4d,Option.bind_some];rw[if_pos ⟨by decide,by decide,hij⟩];have e:seqIndex? 0 (x::l).length=some 0:=by simp[seqIndex?]
 rw[e];simp only[Option.bind_some,List.getElem?_cons_zero,Option.map_some,y7,List.eraseIdx_zero,List.tail_cons];exact h
theorem zBv(l:List PyData):fIs true (.tuple l) .none=some (.bool true):=rfl
theorem z16{a:List Int}{c:Int}(h:a.length<1000):fAdd (tupI a) (.tuple [.int c])=some (tupI (a++[c])):=by
 simp only[fAdd];rw[if_pos (by unfold lim;simp;omega)];simp
theorem z2T{m:Int}{ds:List (List Int)}{pl:List Int}{l:List (List Int×List Int)}{k c:Nat}(hm:m<=8)(B:Bfs (fH ds) ds.length pl l k c)(hS:∀q∈l,StOk m q.1):l.length<=256:=by
 have:=zAL B.nd fun st hst=>by
  obtain⟨q,h,rfl⟩:=List.mem_map.mp hst;exact(hS q h).rise hm
 simpa using this
theorem z1z{t:Adr}{m:Int}{ds:List (List Int)}{pl:List Int}{n:Nat}{P:D->Nat->Prop}(H:HouseOk m ds)(S:StOk m pl)
  (h:∀l,Bfs (fH ds) ds.length pl l l.length 0->BfsL (fH ds) ds.length l l.length 0->(∀q∈l,StOk m q.1)->P (.p (.dict (gP l))) n):Ok (z4m t [.p (plD pl),.p (.tuple (ds.map plD)),.fn t.f_q16.a]) n P:=by
 have hm:=H.hi;have hf:=H.few;unfold z4m z6k;refine t_fn rfl ?_;walk_at "e";unfold mD1;walk_at "e";rw[if_pos (show zb [] (plD pl)=true from z1r [] pl)];walk_at "e";unfold wD;refine z10 (fun μ ρ n'=>n'=n/\∃(l:List (List Int×List Int)) (k:Nat) (x5 x6 x7:Option Sl),ρ=[some (Sl.val (.p (plD pl))),some (Sl.val (.p (.tuple (ds.map plD)))),some (Sl.val (.fn t.f_q16.a)),some (Sl.own (.dict (gP l))),some (Sl.own (.list ((l.drop k).map fun q=>plD q.1))),x5,x6,x7]/\Bfs (fH ds) ds.length pl l k 0/\BfsL (fH ds) ds.length l k 0/\(∀q∈l,StOk m q.1)/\k<=l.length/\μ=256 - k) (fun μ ρ n' hI=>?_) (μ:=256) (by decide) ⟨rfl,[(pl,[])],0,none,none,none,rfl,Bfs.init,BfsL.init,fun q hq=>by rw[List.mem_singleton.mp hq];exact S,by simp,rfl⟩;obtain⟨rfl,l,k,x5,x6,x7,rfl,B,BL,hS,hkl,rfl⟩:=hI;have hl:=z2T hm B hS;walk_at "e";cases hw:l.drop k with
 | nil=>
  simp only[List.map_nil];refine⟨fun z=>by simp at z,fun _=>?_⟩
  try walk_at "e"
  have e:k=l.length:=by
   have:=congrArg List.length hw;rw[List.length_drop,List.length_nil]at this;omega
  subst e;exact h l B BL hS
 | cons q w=>
  simp only[List.map_cons];have hk:k<l.length:=by
   have:=congrArg List.length hw;rw[List.length_drop,List.length_cons]at this;omega
  have hq:l[k]?=some q:=by
   rw[List.drop_eq_getElem_cons hk]at hw;rw[List.getElem?_eq_getElem hk,(List.cons.inj hw).1]
  have hw2:l.drop (k+1)=w:=by
   rw[List.drop_eq_getElem_cons hk]at hw;exact(List.cons.inj hw).2
  refine⟨fun _=>⟨256 - (k+1),by omega,?_⟩,fun z=>by simp at z⟩
  try walk_at "e"
  refine z4f rfl (by decide) ?_
  try unfold sFor
  walk_at "e";rw[yA (by simp;omega),List.length_map,zy _ (by omega),<-hw2];walk_at "e";refine w8 (fun c ρ n2=>n2=n'/\c<=ds.length/\∃(l':List (List Int×List Int)) (x6 x7:Option Sl),ρ=[some (Sl.val (.p (plD pl))),some (Sl.val (.p (.tuple (ds.map plD)))),some (Sl.val (.fn t.f_q16.a)),some (Sl.own (.dict (gP l'))),some (Sl.own (.list ((l'.drop (k+1)).map fun q=>plD q.1))),some (Sl.val (.p (plD q.1))),x6,x7]/\Bfs (fH ds) ds.length pl l' k c/\BfsL (fH ds) ds.length l' k c/\l'[k]?=some q/\∀q∈l',StOk m q.1) (fun c ρ n2 hc hI=>?_) (fun ρ n2 hI=>?_) ⟨by trivial,Nat.zero_le _,l,x6,x7,rfl,B,BL,hq,hS⟩
  ·obtain⟨rfl,hcl,l',x6',x7',rfl,B',BL',hq',hS'⟩:=hI;have hc':c<ds.length:=by simpa[zK]using hc
   have ek:(upto (ds.length:Int).toNat)[c]'(by rw[zK];omega)=(c:Int):=by simp[upto]
   have hl':=z2T hm B' hS';have hqm:q∈l':=List.mem_of_getElem? hq';have hkl':k<l'.length:=(List.getElem?_eq_some_iff.mp hq').1;have d1:=H.doors _ (y6 (l:=ds) (i:=c) (d:=[]) hc');have hne:l'≠[]:=fun z=>by rw[z]at hqm;cases hqm
   rw[List.getElem_map,ek];refine⟨_,rfl,?_⟩;walk_at "e";unfold z2r;rw[if_pos (by simp[isFn])];walk_at "e";rw[z4r (J:=plD) (d:=[]) (by omega) (by omega)];walk_at "e";rw[show(c:Int).toNat=c by omega];refine wU hm d1 (hS' q hqm) ?_;walk_at "e";rw[zBv];walk_at "e";rw[show fIn true (.tuple ((thr (ds.getD c []) q.1).map PyData.int)) (.dict (gP l'))=_ from zAc hne true (thr (ds.getD c []) q.1)];walk_at "e";have efH:fH ds (c:Int) q.1=some (thr (ds.getD c []) q.1):=by unfold fH;rw[show(c:Int).toNat=c by omega]
   cases hany:l'.any fun p=>decide (p.1=thr (ds.getD c []) q.1)with
   | true=>
    simp only[Bool.not_true];walk_at "e";have hsk:∀s',fH ds (c:Int) q.1=some s'->∃p∈l',p.1=s':=fun s' hs=>by
     rw[efH]at hs;cases hs;obtain⟨p,hp,e⟩:=List.any_eq_true.mp hany;exact⟨p,hp,of_decide_eq_true e⟩
    exact⟨by trivial,hc',l',_,_,rfl,B'.skip hq' hsk,BL'.skip hq' hsk,hq',hS'⟩
   | false=>
    have hn:∀p∈l',p.1≠thr (ds.getD c []) q.1:=fun p hp=>by
     have:=List.any_eq_false.mp hany p hp;simpa using this
    have hdp:=B'.deep k q hq';simp only[Bool.not_false];walk_at "e";unfold uk;walk_at "e";rw[show fIx (.dict (gP l')) (plD q.1)=some (tupI q.2) from z7i B'.nd hqm];walk_at "e";rw[z16 (by omega)];walk_at "e";rw[show ownD _ 3=some (gP l') from rfl];walk_at "e";rw[show putD (gP l') (plD (thr (ds.getD c []) q.1)) (tupI (q.2++[(c:Int)]))=_ from z98 (by omega) hn (q.2++[(c:Int)])];walk_at "e";refine z4j rfl ?_;walk_at "e";refine⟨_,rfl,by simp;omega,by trivial,hc',l'++[(thr (ds.getD c []) q.1,q.2++[(c:Int)])],some (Sl.val (.p (.int c))),some (Sl.val (.p (plD (thr (ds.getD c []) q.1)))),?_,B'.add hq' hc' efH hn,BL'.add hq' efH,?_,fun p hp=>?_⟩
    ·rw[List.drop_append_of_le_length (by omega),List.map_append];rfl
    ·rw[List.getElem?_append_left hkl'];exact hq'
    ·rcases List.mem_append.mp hp with hp | hp
     ·exact hS' p hp
     ·rw[List.mem_singleton.mp hp];exact xM hm d1 (hS' q hqm)
  ·obtain⟨rfl,hcl,l',x6',x7',rfl,B',BL',hq',hS'⟩:=hI;rw[List.length_map,zK,show(ds.length:Int).toNat=ds.length by omega]at B' BL';have hkl':k<l'.length:=(List.getElem?_eq_some_iff.mp hq').1;refine⟨256 - (k+1),Nat.le_refl _,by trivial,l',k+1,_,_,_,rfl,B'.next,BL'.next,hS',hkl',rfl⟩
noncomputable def gH(ds:List (List Int)):Int->List Int->List Int:=fun d st=>thr (ds.getD d.toNat []) st
theorem xu(ds:List (List Int))(pl:List Int):∀r:List Int,wL (fH ds) pl r=some (zg (gH ds) pl r):=by
 intro r;have gen:∀(n:Nat) (r:List Int),r.length=n->wL (fH ds) pl r=some (zg (gH ds) pl r):=by
  intro n
  induction n with
  | zero=>
   intro r hr
   have:r=[]:=List.length_eq_zero_iff.mp hr;subst this;rfl
  | succ n ih=>
   intro r hr;have hne:r≠[]:=fun z=>by rw[z]at hr;simp at hr
   obtain⟨r0,d,e⟩:∃r0 d,r=r0++[d]:=⟨r.dropLast,r.getLast hne,(List.dropLast_concat_getLast hne).symm⟩;subst e;rw[xa,ih r0 (by simpa using hr),wS];rfl
 exact gen r.length r rfl
theorem z2X{m:Int}{ds:List (List Int)}{pl:List Int}(H:HouseOk m ds)(S:StOk m pl):∀{r:List Int},zU ds.length r->StOk m (zg (gH ds) pl r):=by
 intro r;have gen:∀(n:Nat) (r:List Int),r.length=n->zU ds.length r->StOk m (zg (gH ds) pl r):=by
  intro n
  induction n with
  | zero=>
   intro r hr _
   have:r=[]:=List.length_eq_zero_iff.mp hr;subst this;exact S
  | succ n ih=>
   intro r hr hd;have hne:r≠[]:=fun z=>by rw[z]at hr;simp at hr
   obtain⟨r0,d,e⟩:∃r0 d,r=r0++[d]:=⟨r.dropLast,r.getLast hne,(List.dropLast_concat_getLast hne).symm⟩;subst e;rw[wS];have hdd:=hd d (List.mem_append_right _ (List.mem_singleton.mpr rfl));exact xM H.hi (H.doors _ (y6 (by omega))) (ih r0 (by simpa using hr) fun x hx=>hd x (List.mem_append_left _ hx))
 exact gen r.length r rfl
theorem z5i{m:Int}{d st:List Int}(hm:m<=8)(d1:DoorOk m d)(S:StOk m st)(h:st≠[]):thr d st≠[]:=by
 obtain⟨y,r,rfl⟩:=List.exists_cons_of_ne_nil h
 have:d.getD y.toNat 0∈thr d (y::r):=(yn hm d1 S _).mpr ⟨y,List.mem_cons_self,rfl⟩;exact List.ne_nil_of_mem this
def z7D(ds:List (List Int))(row:List Int):Prop:=∀d∈row,0<=d/\d<(ds.length:Int)
structure Best(ds:List (List Int))(pl:List Int)(o:Option (List Int)):Prop where
 no:o=none->∀row,z7D ds row->∀st,wL (fH ds) pl row=some st->st.length≠1
 yes:∀r,o=some r->z7D ds r/\(∃st,wL (fH ds) pl r=some st/\st.length=1)/\∀row,z7D ds row->∀st,wL (fH ds) pl row=some st->st.length=1->wLe w0 r row
noncomputable def rowO:Option (List Int)->PyData
 | none=>.none
 | some r=>tupI r
theorem z29{t:Adr}{m:Int}{ds:List (List Int)}{pl:List Int}{n:Nat}{P:D->Nat->Prop}(H:HouseOk m ds)(L:PlOk m pl)
  (h:∀o,Best ds pl o->P (.p (rowO o)) n):Ok (z5N t [.p (yG m ds),.p (plD pl),.p (.int 1)]) n P:=by
 have S:StOk m pl:=⟨L.inr,L.srt,L.len⟩;unfold z5N z7E;refine t_fn rfl ?_;walk_at "e";unfold z76 z6L;refine t_fn rfl ?_;rw[zY];unfold mFnV;walk_at "e";refine z1z H S fun l B BL hS=>?_;have hl:=z2T H.hi B hS
 try walk_at "e"
 refine z71 (kvs:=gP l) ?_ (by simp[gP];omega) ?_
 ·try walk_at "e"
  first | exact⟨rfl,by trivial⟩ | exact⟨by trivial,by trivial⟩ | trivial
 ·rw[show(gP l).map (·.1)=(l.map (·.1)).map tupI by simp[gP,Function.comp_def]];refine z4K (J:=tupI) (f:=one) (fun st hst=>?_) (fun st hst _=>?_) ?_
  ·walk_at "e";rw[List.length_map];refine⟨?_,by trivial⟩;unfold one;rw[decide_eq_decide];omega
  ·walk_at "e";exact⟨by trivial,by trivial⟩
  ·try walk_at "e"
   cases hfl:(l.map (·.1)).filter one with
   | nil=>
    simp only[List.map_nil];simp only[List.isEmpty_nil,Bool.not_true,Bool.false_eq_true,if_false]
    try walk_at "e"
    refine h none ⟨fun _ row hr st hst e1=>?_,fun r z=>(nomatch z)⟩;obtain⟨p,hp,e2,_⟩:=B.all row hr st hst
    have:st∈(l.map (·.1)).filter one:=List.mem_filter.mpr ⟨List.mem_map.mpr ⟨p,hp,e2⟩,decide_eq_true e1⟩;rw[hfl]at this;cases this
   | cons st0 rest=>
    simp only[List.map_cons];simp only[List.isEmpty_cons,Bool.not_false,if_true]
    try walk_at "e"
    rw[show fIx (.list (tupI st0::rest.map tupI)) (.int 0)=some (tupI st0) from zAI _ _];walk_at "e";have hm0:st0∈(l.map (·.1)).filter one:=by rw[hfl];exact List.mem_cons_self
    obtain⟨hm1,ho⟩:=List.mem_filter.mp hm0;obtain⟨q,hq,e⟩:=List.mem_map.mp hm1;subst e;rw[z7i B.nd hq];walk_at "e";refine h (some q.2) ⟨fun z=>(nomatch z),fun r z=>?_⟩;cases z;refine⟨B.doors q hq,⟨q.1,B.sound q hq,of_decide_eq_true ho⟩,fun row hr st hst e1=>?_⟩;obtain⟨p,hp,e2,e3⟩:=BL.all B row hr st hst;have hpone:one p.1=true:=by unfold one;rw[e2];exact decide_eq_true e1
    have hff:l.filter (fun q=>one q.1)=q::(l.filter (fun q=>one q.1)).tail:=by
     rw[List.filter_map]at hfl;cases hc:l.filter (one∘fun x=>x.1)with
     | nil=>rw[hc]at hfl;cases hfl
     | cons a r=>
      rw[hc,List.map_cons]at hfl;have ea:a.1=q.1:=(List.cons.inj hfl).1;have hal:a∈l:=(List.mem_filter.mp (by rw[hc];exact List.mem_cons_self:a∈l.filter (one∘fun x=>x.1))).1
      have:a=q:=by
       have h1:=z2W B.nd hal;rw[ea,z2W B.nd hq]at h1;cases h1;rfl
      subst this;show l.filter (one∘fun x=>x.1)=_;rw[show(fun q:List Int×List Int=>one q.1)=one∘fun x=>x.1 from rfl,hc];rfl
    exact(z5y BL.ris one q _ hff p hp hpone).trans e3
theorem xx{t:Adr}{m:Int}{ds:List (List Int)}{pl:List Int}{n:Nat}{P:D->Nat->Prop}(H:HouseOk m ds)(L:PlOk m pl)
  (h:∀o,Best ds pl o->P (.p (rowO o)) n):Ok (z1a t [.p (yG m ds),.p (plD pl)]) n P:=by
 unfold z1a z6u;refine t_fn rfl ?_;walk_at "e";refine z1A H L ?_;walk_at "e";walk_at "e";refine z29 H L fun o B=>?_;exact h o B
structure Least(ds:List (List Int))(pl s r:List Int):Prop where
 doors:zU ds.length r
 lead:zg (gH ds) pl r=s
 le:∀r',zU ds.length r'->zg (gH ds) pl r'=s->wLe w0 r r'
structure Full(m:Int)(ds:List (List Int))(pl:List Int)(T:List (List Int×List Int)):Prop where
 nd:(T.map (·.1)).Nodup
 st:∀q∈T,StOk m q.1/\q.1≠[]
 least:∀q∈T,Least ds pl q.1 q.2
 all:∀r,zU ds.length r->∃q∈T,q.1=zg (gH ds) pl r
def Rows(m:Int)(ds:List (List Int))(pl:List Int)(l:List (List Int×List Int)):Prop:=Full m ds pl l/\l.Pairwise fun a b=>sLt a.2 b.2
theorem z5g{i j:Nat}{m:Env'->Mx D}{ρ:Env'}{n:Nat}{P:Out->Nat->Prop}{la l:List PyData}(ha:ownL ρ i=some la)(hl:ownL ρ j=some l)(hij:i≠j)(hlen:la.length<10000)(h:Ok (m ρ) n fun d n'=>∃(r:Int) (hr:r.toNat<l.length),d=.p (.int r)/\0<=r/\r<1000/\P (.nx ((ρ.set j (some (Sl.own (.list (l.eraseIdx r.toNat))))).set i (some (Sl.own (.list (la++[l[r.toNat]])))))) n'):Ok (z0t i j m ρ) n P:=by
 unfold z0t;simp only[ha,hl,zu,y7];refine h.imp fun d n' ⟨r,hr,e,r0,r1,hp⟩=>?_;subst e;simp only[z4d,Option.bind_some];rw[if_pos ⟨by omega,by omega,hij,by unfold lim;omega⟩];have e:seqIndex? r l.length=some r.toNat:=by
  rw[seqIndex_of r0 (by omega)]
 rw[e];simp only[Option.bind_some,List.getElem?_eq_getElem hr,Option.map_some,y7];exact hp
theorem z1n{α β:Type}(f:α->β):∀(l:List α) (i:Nat),(l.map f).eraseIdx i=(l.eraseIdx i).map f
 | [],_=>rfl
 | _::_,0=>rfl
 | x::l,i+1=>by rw[List.map_cons,List.eraseIdx_cons_succ,z1n f l i,List.eraseIdx_cons_succ,List.map_cons]
theorem z02{α:Type}:∀(l:List α) (i:Nat) (h:i<l.length),([l[i]]++l.eraseIdx i).Perm l
 | [],_,h=>absurd h (by simp)
 | x::l,0,_=>List.Perm.refl _
 | x::l,i+1,h=>by
  have ih:=z02 l i (by simpa using h);rw[List.eraseIdx_cons_succ,List.getElem_cons_succ];exact(List.Perm.swap x (l[i]'(by simpa using h)) (l.eraseIdx i)).trans (ih.cons x)
noncomputable def stds:Nat->List (List Int)
 | 0=>[[]]
 | k+1=>stds k++(stds k).map fun s=>s++[(k:Int)]
theorem wz:∀{k:Nat} {s:List Int},s∈stds k->s.length<=k
 | 0,s,h=>by simp[stds]at h;simp[h]
 | k+1,s,h=>by
  rcases List.mem_append.mp h with h | h
  ·exact Nat.le_succ_of_le (wz h)
  ·obtain⟨q,hq,rfl⟩:=List.mem_map.mp h
   have:=wz hq;simp;omega
theorem stds_mem:∀{k:Nat} {s:List Int},s∈stds k↔s.Pairwise (·<·)/\∀x∈s,0<=x/\x<(k:Int)
 | 0,s=>by
  constructor
  ·intro h;simp[stds]at h;simp[h]
  ·intro⟨_,h⟩;cases s with
   | nil=>simp[stds]
   | cons a r=>have:=h a (by simp);omega
 | k+1,s=>by
  unfold stds;rw[List.mem_append];constructor
  ·rintro(h | h)
   ·obtain⟨h1,h2⟩:=stds_mem.mp h;exact⟨h1,fun x hx=>by have:=h2 x hx;omega⟩
   ·obtain⟨q,hq,rfl⟩:=List.mem_map.mp h;obtain⟨h1,h2⟩:=stds_mem.mp hq;refine⟨List.pairwise_append.mpr ⟨h1,by simp,fun a ha b hb=>by rw[List.mem_singleton.mp hb];exact(h2 a ha).2⟩,fun x hx=>?_⟩;rcases List.mem_append.mp hx with hx | hx
    ·have:=h2 x hx;omega
    ·rw[List.mem_singleton.mp hx];omega
  ·rintro⟨h1,h2⟩;rcases List.eq_nil_or_concat s with rfl | ⟨q,y,rfl⟩
   ·exact .inl (stds_mem.mpr ⟨.nil,fun x hx=>(nomatch hx)⟩)
   ·rw[List.concat_eq_append]at h1 h2 |-;obtain⟨p1,_,p3⟩:=List.pairwise_append.mp h1;have hq:∀x∈q,x<y:=fun x hx=>p3 x hx y (by simp);have hy:=h2 y (by simp);by_cases e:y=(k:Int)
    ·subst e;exact .inr (List.mem_map.mpr ⟨q,stds_mem.mpr ⟨p1,fun x hx=>⟨(h2 x (by simp[hx])).1,hq x hx⟩⟩,rfl⟩)
    ·refine .inl (stds_mem.mpr ⟨h1,fun x hx=>⟨(h2 x hx).1,?_⟩⟩);rcases List.mem_append.mp hx with hx | hx
     ·have:=hq x hx;omega
     ·rw[List.mem_singleton.mp hx];omega
theorem z0f:∀k:Nat,(stds k).Nodup
 | 0=>by simp[stds]
 | k+1=>by
  unfold stds;refine List.nodup_append.mpr ⟨z0f k,?_,fun a ha b hb e=>?_⟩
  ·exact List.Pairwise.map _ (fun a b h e=>h (List.append_cancel_right e)) (z0f k)
  ·subst e;obtain⟨q,_,rfl⟩:=List.mem_map.mp hb
   have:=(stds_mem.mp ha).2 (k:Int) (by simp);omega
theorem uF:∀k:Nat,(stds k).length=2 ^ k
 | 0=>rfl
 | k+1=>by unfold stds;rw[List.length_append,List.length_map,uF k];omega
noncomputable def sts(k:Nat):List (List Int):=(stds k).tail
theorem xL:∀k:Nat,stds k=[]::sts k
 | 0=>rfl
 | k+1=>by
  unfold sts;rw[show stds (k+1)=stds k++(stds k).map fun s=>s++[(k:Int)] from rfl,xL k];rfl
theorem sts_mem{k:Nat}{s:List Int}:s∈sts k↔s≠[]/\s∈stds k:=by
 have nd:=z0f k;rw[xL k]at nd |-;obtain⟨h1,_⟩:=List.nodup_cons.mp nd;constructor
 ·intro h;exact⟨fun e=>h1 (e▸h),List.mem_cons_of_mem _ h⟩
 ·rintro⟨h2,h3⟩;exact(List.mem_cons.mp h3).resolve_left h2
theorem z3z(k:Nat):(sts k).Nodup:=by
 have nd:=z0f k;rw[xL k]at nd;exact(List.nodup_cons.mp nd).2
theorem z0k{k:Nat}(h:k<=6):(sts k).length<=63:=by
 have:=uF k;rw[xL k,List.length_cons]at this
 have:2 ^ k<=2 ^ 6:=Nat.pow_le_pow_right (by decide) h;omega
section
variable{m:Int}{ds:List (List Int)}
theorem z2h(h0:0<=m)(h8:m<=8){s:List Int}(h:s∈stds m.toNat):StOk m s:=by
 obtain⟨h1,h2⟩:=stds_mem.mp h;exact⟨fun x hx=>by have:=h2 x hx;omega,h1,by have:=wz h;omega⟩
theorem z7p(h0:0<=m)(h8:m<=8){s:List Int}(h:s∈sts m.toNat):PlOk m s:=by
 obtain⟨h1,h2⟩:=sts_mem.mp h;have S:=z2h h0 h8 h2;exact⟨h1,S.inr,S.srt,S.len⟩
theorem z1i(h0:0<=m){s:List Int}(S:StOk m s)(h:s≠[]):s∈sts m.toNat:=sts_mem.mpr ⟨h,stds_mem.mpr ⟨S.srt,fun x hx=>by have:=S.inr x hx;omega⟩⟩
theorem yu(f:Int->List Int->List Int)(s:List Int)(d:Int)(r:List Int):zg f s (d::r)=zg f (f d s) r:=rfl
theorem doorsC{n:Nat}{d:Int}{r:List Int}:zU n (d::r)↔(0<=d/\d<n)/\zU n r:=List.forall_mem_cons
theorem z7W(H:HouseOk m ds){d:Int}(hd:0<=d/\d<ds.length){s:List Int}(S:StOk m s):StOk m (gH ds d s):=xM H.hi (H.doors _ (y6 (l:=ds) (i:=d.toNat) (d:=[]) (by omega))) S
theorem z7n{y:Int}(h:0<=y/\y<m):StOk m [y]:=⟨fun x hx=>by rw[List.mem_singleton.mp hx];exact h,by simp,by simp⟩
theorem z6A{a b:List Int}(ha:a.Pairwise (·<·))(hb:b.Pairwise (·<·))(h:∀x,x∈a↔x∈b):a=b:=by
 have nd:∀{l:List Int},l.Pairwise (·<·)->l.Nodup:=fun h=>h.imp fun h=>by omega
 exact List.Perm.eq_of_pairwise (le:=(·<·)) (fun x y _ _ h1 h2=>by omega) ha hb ((List.perm_ext_iff_of_nodup (nd ha) (nd hb)).mpr h)
noncomputable def gth(ds:List (List Int))(s:List Int):Bool:=@decide (∃r,zU ds.length r/\(zg (gH ds) s r).length=1) (Classical.propDecidable _)
theorem gth_iff{s:List Int}:gth ds s=true↔∃r,zU ds.length r/\(zg (gH ds) s r).length=1:=by
 unfold gth;exact@decide_eq_true_iff _ (Classical.propDecidable _)
end
theorem z00{l:List PyData}(h:l.length<10000):itD (.list l)=some l:=by simp only[itD];rw[if_pos (by unfold lim;omega)]
theorem z9c(a b:List (List Int))(h:a.length+b.length<10000):fAdd (.list (a.map tupI)) (.list (b.map tupI))=some (.list ((a++b).map tupI)):=by
 simp only[fAdd];rw[if_pos (by unfold lim;simp;omega),List.map_append]
theorem cut1(l:List (List Int)):fSl (.list (([]::l).map tupI)) (some 1) none=some (.list (l.map tupI)):=by
 show some (PyData.list (cutD (([]::l).map tupI) (some 1) none))=_;unfold cutD
 have:HT.sIx (([]::l).map tupI).length 0 (some 1)=1:=by simp[HT.sIx]
 rw[this,show HT.sIx (([]::l).map tupI).length (([]::l).map tupI).length none=(([]::l).map tupI).length from rfl];simp;exact List.take_of_length_le (by simp)
theorem z4e{m:Int}{n:Nat}{P:D->Nat->Prop}(h0:0<=m)(h8:m<=8)(h:P (.p (.list ((sts m.toNat).map tupI))) n):Ok (z1o [.p (.int m)]) n P:=by
 unfold z1o z6m;refine t_fn rfl ?_;walk_at "e";rw[yA (by omega),zy m h0];walk_at "e";refine w8 (fun i ρ n'=>n'=n/\i<=m.toNat/\∃x2:Option Sl,ρ=[some (Sl.val (.p (.int m))),some (Sl.val (.p (.list ((stds i).map tupI)))),x2]) (fun i ρ n' hi hI=>?_) (fun ρ n' hI=>?_) ⟨by trivial,by omega,none,rfl⟩
 ·obtain⟨rfl,hil,x2,rfl⟩:=hI;have hi':i<m.toNat:=by simpa[zK]using hi
  have ek:(upto m.toNat)[i]'(by rw[zK];omega)=(i:Int):=by simp[upto]
  have hsz:=uF i
  have:2 ^ i<=2 ^ 8:=Nat.pow_le_pow_right (by decide) (by omega);rw[List.getElem_map,ek];refine⟨_,rfl,?_⟩;walk_at "e";rw[z00 (by rw[List.length_map];omega)];walk_at "e";refine zl (J:=tupI) (J':=tupI) (f:=fun s=>s++[(i:Int)]) (fun s hs=>?_) ?_
  ·walk_at "e";rw[z16 (by have:=wz hs;omega)];walk_at "e";exact⟨rfl,by trivial⟩
  ·try walk_at "e"
   rw[z9c _ _ (by simp;omega)];walk_at "e";exact⟨by trivial,by omega,_,rfl⟩
 ·obtain⟨rfl,hil,x2,rfl⟩:=hI;rw[List.length_map,zK];walk_at "e";unfold mSl uU z3w;walk_at "e";refine t_some ?_;rw[show PyData.list (cutD ((stds m.toNat).map tupI) (some 1) none)=.list ((sts m.toNat).map tupI) from by
   have:=cut1 (sts m.toNat);rw[<-xL]at this;exact Option.some.inj this]
  walk_at "e";exact h
noncomputable def aL(l:List (List Int)):PyData:=.list (l.map tupI)
noncomputable def kls(S:List (List Int))(A:List Int->List (List Int)):List (PyData×List PyData):=S.map fun s=>(tupI s,(A s).map tupI)
theorem z5o(S:List (List Int)):(S.map tupI).map (fun k=>(k,PyData.none))=gJ (fun _:Unit=>PyData.none) (S.map fun s=>(s,())):=by simp[gJ,Function.comp_def]
theorem z1g:∀(l hv:List (List Int)),(hv++l).Nodup->wV (hv.map tupI) (l.map tupI)=true
 | [],hv,_=>rfl
 | x::l,hv,nd=>by
  have hx:∀y∈hv,y≠x:=fun y hy e=>(List.nodup_append.mp nd).2.2 y hy x (by simp) e;simp only[List.map_cons,wV,Bool.and_eq_true];refine⟨⟨by rw[z5o];exact z14 _ x,?_⟩,?_⟩
  ·rw[Option.isNone_iff_eq_none,List.findIdx?_eq_none_iff];intro d hd;obtain⟨y,hy,rfl⟩:=List.mem_map.mp hd;rw[yV];exact decide_eq_false (hx y hy)
  ·have:=z1g l (hv++[x]) (by simpa using nd)
   rwa [List.map_append]at this
theorem zBN{S:List (List Int)}(nd:S.Nodup){A:List Int->List (List Int)}{s:List Int}(hs:s∈S)(y:List Int)(hl:(A s).length<10000):∃j,dIdx (kls S A) (tupI s)=some j/\z6c (kls S A) j (tupI y)=some (kls S fun z=>if z=s then A z++[y]else A z):=by
 obtain⟨j,hj⟩:=List.getElem?_of_mem hs;obtain⟨hj1,hj2⟩:=List.getElem?_eq_some_iff.mp hj;have uniq:∀i (hi:i<S.length),S[i]=s->i=j:=fun i hi e=>(List.getElem_inj nd).mp (e.trans hj2.symm);have km:(kls S A).map (·.1)=S.map tupI:=by simp[kls,Function.comp_def]
 have hne:S≠[]:=fun z=>by rw[z]at hs;cases hs
 refine⟨j,?_,?_⟩
 ·unfold dIdx;rw[km];unfold z0p;rw[z5o,if_pos (z0L (by simpa using hne) s),List.findIdx?_eq_some_iff_getElem];refine⟨by simpa using hj1,?_,fun i hi=>?_⟩
  ·rw[List.getElem_map,yV,hj2];exact decide_eq_true rfl
  ·rw[List.getElem_map,yV];intro z
   have:=uniq i (by omega) (of_decide_eq_true z);omega
 ·unfold z6c;have e:(kls S A)[j]?=some (tupI s,(A s).map tupI):=by unfold kls;rw[List.getElem?_map,hj];rfl
  rw[e];simp only[Option.bind_some];rw[if_pos (by rw[List.length_map];unfold lim;omega)];congr 1;refine List.ext_getElem? fun i=>?_;rw[List.getElem?_set];by_cases eij:j=i
  ·subst eij;rw[if_pos rfl,if_pos (by unfold kls;rw[List.length_map];exact hj1)];unfold kls;rw[List.getElem?_map,hj];simp
  ·rw[if_neg eij];unfold kls;rw[List.getElem?_map,List.getElem?_map];cases e2:S[i]? with
   | none=>rfl
   | some z=>
    obtain⟨h1,h2⟩:=List.getElem?_eq_some_iff.mp e2
    have:z≠s:=fun e=>eij (uniq i h1 (h2.trans e)).symm;simp[this]
theorem zAo(S:List (List Int))(A:List Int->List (List Int)):((kls S A).map fun kl=>(kl.1,PyData.list kl.2))=gJ aL (S.map fun s=>(s,A s)):=by
 simp[kls,gJ,aL,Function.comp_def]
theorem z6N{m:Int}{ds:List (List Int)}{n:Nat}{P:D->Nat->Prop}(H:HouseOk m ds)(h5:m<=6)
  (h:∀A:List Int->List (List Int),(∀s∈sts m.toNat,∀y,y∈A s↔y∈sts m.toNat/\∃d∈ds,thr d y=s)->(∀s∈sts m.toNat,(A s).length<=200)->P (.p (.dict (gJ aL ((sts m.toNat).map fun s=>(s,A s))))) n):Ok (z50 [.p (yG m ds)]) n P:=by
 have hlo:=H.lo;have hf:=H.few;have hsz:=z0k (k:=m.toNat) (by omega);have nd:=z3z m.toNat;generalize hS:sts m.toNat=S at hsz nd h;have hall:∀s,StOk m s->s≠[]->s∈S:=fun s a b=>by rw[<-hS];exact z1i (by omega) a b
 unfold z50 z6d;refine t_fn rfl ?_;rw[zY];walk_at "e";unfold z7B;walk_at "e";refine z4e (by omega) (by omega) ?_;rw[hS];walk_at "e";rw[z00 (by rw[List.length_map];omega)];walk_at "e";rw[if_pos ⟨by simp,rfl,z1g S [] (by simpa using nd),by rw[List.length_map];unfold lim;omega⟩];walk_at "e";refine z4e (by omega) (by omega) ?_;rw[hS];walk_at "e";rw[z00 (by rw[List.length_map];omega)];walk_at "e";rw[show(S.map tupI).map (fun d=>(d,([]:List PyData)))=kls S (fun _=>[]) by simp[kls,Function.comp_def]];refine w8 (fun i ρ n'=>n'=n/\i<=S.length/\∃(A:List Int->List (List Int)) (x2 x3:Option Sl),ρ=[some (Sl.val (.p (.tuple [.int m,.tuple (ds.map plD)]))),some (Sl.deep (kls S A)),x2,x3]/\(∀s∈S,∀y,y∈A s↔y∈S.take i/\∃d∈ds,thr d y=s)/\∀s∈S,(A s).length<=i*3) (fun i ρ n' hi hI=>?_) (fun ρ n' hI=>?_) ⟨by trivial,by omega,fun _=>[],none,none,rfl,fun s _ y=>by simp,fun s _=>by simp⟩
 ·obtain⟨rfl,hil,A,x2,x3,rfl,hA,hAl⟩:=hI;have hi':i<S.length:=by simpa using hi
  rw[List.getElem_map];refine⟨_,rfl,?_⟩;walk_at "e";rw[z2B (by rw[List.length_map];omega)];walk_at "e";have St:StOk m S[i]:=z2h (by omega) H.hi (sts_mem.mp (by rw[hS];exact List.getElem_mem hi')).2;have Sn:S[i]≠[]:=(sts_mem.mp (show S[i]∈sts m.toNat by rw[hS];exact List.getElem_mem hi')).1;refine w8 (fun j ρ n2=>n2=n'/\j<=ds.length/\∃(A:List Int->List (List Int)) (x3:Option Sl),ρ=[some (Sl.val (.p (.tuple [.int m,.tuple (ds.map plD)]))),some (Sl.deep (kls S A)),some (Sl.val (.p (tupI S[i]))),x3]/\(∀s∈S,∀y,y∈A s↔(y∈S.take i/\∃d∈ds,thr d y=s)\/(y=S[i]/\∃d∈ds.take j,thr d y=s))/\∀s∈S,(A s).length<=i*3+j) (fun j ρ n2 hj hJ=>?_) (fun ρ n2 hJ=>?_) ⟨by trivial,by omega,A,x3,rfl,fun s hs y=>by rw[hA s hs y];simp,fun s hs=>by have:=hAl s hs;omega⟩
  ·obtain⟨rfl,hjl,A,x3,rfl,hA,hAl⟩:=hJ;have hj':j<ds.length:=by simpa using hj
   rw[List.getElem_map];refine⟨_,rfl,?_⟩;unfold z9R;walk_at "e";rw[show z3P _ 1=some (kls S A) from rfl];walk_at "e";refine wU H.hi (H.doors _ (List.getElem_mem hj')) St ?_;walk_at "e";have hin:thr ds[j] S[i]∈S:=by
    exact hall _ (xM H.hi (H.doors _ (List.getElem_mem hj')) St) (z5i H.hi (H.doors _ (List.getElem_mem hj')) St Sn)
   obtain⟨jj,e1,e2⟩:=zBN (A:=A) nd hin S[i] (by have:=hAl _ hin;omega);rw[show dIdx (kls S A) (plD (thr ds[j] S[i]))=some jj from e1];walk_at "e";rw[e2];walk_at "e";refine⟨by trivial,by omega,_,_,rfl,fun s hs y=>?_,fun s hs=>?_⟩
   ·rw[List.take_succ_eq_append_getElem hj'];by_cases e:s=thr ds[j] S[i]
    ·rw[if_pos e,List.mem_append,hA s hs y];constructor
     ·rintro((z | ⟨z1,d,z2,z3⟩) | z)
      ·exact .inl z
      ·exact .inr ⟨z1,d,List.mem_append_left _ z2,z3⟩
      ·rw[List.mem_singleton.mp z];exact .inr ⟨rfl,ds[j],List.mem_append_right _ (List.mem_singleton.mpr rfl),e.symm⟩
     ·rintro(z | ⟨z1,d,z2,z3⟩)
      ·exact .inl (.inl z)
      ·exact .inr (by simp[z1])
    ·rw[if_neg e,hA s hs y];constructor
     ·rintro(z | ⟨z1,d,z2,z3⟩)
      ·exact .inl z
      ·exact .inr ⟨z1,d,List.mem_append_left _ z2,z3⟩
     ·rintro(z | ⟨z1,d,z2,z3⟩)
      ·exact .inl z
      ·rcases List.mem_append.mp z2 with z2 | z2
       ·exact .inr ⟨z1,d,z2,z3⟩
       ·rw[List.mem_singleton.mp z2,z1]at z3;exact absurd z3.symm e
   ·have:=hAl s hs;split
    ·simp;omega
    ·omega
  ·obtain⟨rfl,hjl,A,x3,rfl,hA,hAl⟩:=hJ;rw[List.length_map,List.take_length]at hA;rw[List.length_map]at hAl;refine⟨by trivial,by omega,A,_,_,rfl,fun s hs y=>?_,fun s hs=>by have:=hAl s hs;omega⟩;rw[hA s hs y,List.take_succ_eq_append_getElem hi',List.mem_append,List.mem_singleton];constructor
   ·rintro(⟨z1,z2⟩ | ⟨z1,z2⟩)
    ·exact⟨.inl z1,z2⟩
    ·exact⟨.inr z1,z2⟩
   ·rintro⟨z1 | z1,z2⟩
    ·exact .inl ⟨z1,z2⟩
    ·exact .inr ⟨z1,z2⟩
 ·obtain⟨rfl,hil,A,x2,x3,rfl,hA,hAl⟩:=hI;rw[List.length_map,List.take_length]at hA;rw[List.length_map]at hAl;walk_at "e";unfold z8y;walk_at "e";rw[show z3P _ 1=some (kls S A) from rfl];walk_at "e";rw[zAo];walk_at "e";exact h A hA fun s hs=>by have:=hAl s hs;omega
noncomputable def gD(G:List (List Int)):List (PyData×PyData):=gJ (fun _:Unit=>PyData.bool true) (G.map fun s=>(s,()))
noncomputable def pT(s:List Int):PyData:=.tuple [tupI s,.bool true]
theorem z5a{G:List (List Int)}(hl:G.length<10000){k:List Int}(hn:k∉G):putD (gD G) (tupI k) (.bool true)=some (gD (G++[k])):=by
 have:=z8b (J:=fun _:Unit=>PyData.bool true) (l:=G.map fun s=>(s,())) (by simpa using hl) (k:=k) (fun p hp e=>by
  obtain⟨s,hs,rfl⟩:=List.mem_map.mp hp;exact hn (e▸hs)) ()
 unfold gD;rw[List.map_append];exact this
theorem z3B:∀(l acc:List (List Int)),(acc++l).Nodup->(acc++l).length<10000->wG (l.map pT) (gD acc)=some (gD (acc++l))
 | [],acc,_,_=>by rw[List.append_nil];rfl
 | x::l,acc,nd,hl=>by
  have hx:x∉acc:=fun hy=>(List.nodup_append.mp nd).2.2 x hy x (by simp) rfl;rw[List.map_cons];unfold pT wG;rw[z5a (by simp at hl;omega) hx]
  have:=z3B l (acc++[x]) (by simpa using nd) (by simpa using hl);rw[List.append_assoc]at this;exact this
theorem z9r{G:List (List Int)}(h:G≠[])(k:List Int):fIn true (tupI k) (.dict (gD G))=some (.bool (!decide (k∈G))):=by
 have:=z9v (J:=fun _:Unit=>PyData.bool true) (l:=G.map fun s=>(s,())) (by simpa using h) true k;rw[show(PyData.dict (gD G))=.dict (gJ (fun _:Unit=>PyData.bool true) (G.map fun s=>(s,()))) from rfl,this];simp only[if_true,List.any_map];congr 3;rw[Bool.eq_iff_iff,List.any_eq_true,decide_eq_true_iff];constructor
 ·rintro⟨s,hs,e⟩
  have:s=k:=by simpa using e
  exact this▸hs
 ·intro h;exact⟨k,h,by simp⟩
theorem z5p(G:List (List Int)):(gD G).map (·.1)=G.map tupI:=by simp[gD,gJ,Function.comp_def]
theorem uz:∀{G S:List (List Int)},G.Nodup->(∀s∈G,s∈S)->G.length<=S.length
 | [],S,_,_=>Nat.zero_le _
 | x::G,S,nd,h=>by
  obtain⟨h1,h2⟩:=List.nodup_cons.mp nd
  have:=uz (S:=S.erase x) h2 fun s hs=>(List.mem_erase_of_ne (fun e:s=x=>h1 (e▸hs))).mpr (h s (by simp[hs]));rw[List.length_erase_of_mem (h x (by simp))]at this
  have:0<S.length:=List.length_pos_of_mem (h x (by simp));simp;omega
theorem z4B(k:Nat):(upto k).Nodup:=by
 unfold upto;exact List.pairwise_map.mpr (List.nodup_range.imp fun{a b} h e=>h (Int.ofNat_inj.mp e))
structure Back(m:Int)(ds:List (List Int))(S G:List (List Int)):Prop where
 nd:G.Nodup
 snd:∀s∈G,s∈S/\gth ds s=true
 room:∀y,0<=y/\y<m->[y]∈G
theorem z6S{ds:List (List Int)}{d y w:List Int}(hd:d∈ds)(e:thr d y=w)(h:gth ds w=true):gth ds y=true:=by
 obtain⟨i,hi⟩:=List.getElem?_of_mem hd;obtain⟨h1,h2⟩:=List.getElem?_eq_some_iff.mp hi;obtain⟨r,hr,hl⟩:=gth_iff.mp h;refine gth_iff.mpr ⟨(i:Int)::r,doorsC.mpr ⟨by omega,hr⟩,?_⟩;rw[yu,show gH ds (i:Int) y=w from ?_]
 ·exact hl
 ·unfold gH;rw[show(i:Int).toNat=i by omega,List.getD_eq_getElem?_getD,hi];exact e
theorem z2o{m:Int}{ds G:List (List Int)}(H:HouseOk m ds)(B:Back m ds (sts m.toNat) G)(cl:∀x∈sts m.toNat,∀d∈ds,thr d x∈G->x∈G):∀(r:List Int),zU ds.length r->∀x∈sts m.toNat,(zg (gH ds) x r).length=1->x∈G
 | [],_,x,hx,h=>by
  have hlo:=H.lo;obtain⟨y,rfl⟩:=len1 (show x.length=1 from h);exact B.room y ((z7p (by omega) H.hi hx).inr y (by simp))
 | d::r,hr,x,hx,h=>by
  have hlo:=H.lo;obtain⟨hd,hr⟩:=doorsC.mp hr;have L:=z7p (by omega) H.hi hx;have S:StOk m x:=⟨L.inr,L.srt,L.len⟩;have hin:=y6 (l:=ds) (i:=d.toNat) (d:=[]) (by omega);have D1:=H.doors _ hin;rw[yu]at h;exact cl x hx _ hin (z2o H B cl r hr (gH ds d x) (z1i (by omega) (z7W H hd S) (z5i H.hi D1 S L.ne)) h)
theorem z9K{m:Int}{ds:List (List Int)}{n:Nat}{P:D->Nat->Prop}(H:HouseOk m ds)(h5:m<=6)
  (h:∀G:List (List Int),G.Nodup->(∀s,s∈G↔s∈sts m.toNat/\gth ds s=true)->P (.p (.list (G.map tupI))) n):Ok (z48 [.p (yG m ds)]) n P:=by
 have hlo:=H.lo;have hf:=H.few;have hsz:=z0k (k:=m.toNat) (by omega);have ndS:=z3z m.toNat;unfold z48 z75;refine t_fn rfl ?_;walk_at "e";refine z6N H h5 fun A hA hAl=>?_;walk_at "e";unfold z0a;rw[zY];walk_at "e";rw[yA (by omega),zy m (by omega)];walk_at "e";refine zl (J:=PyData.int) (J':=pT) (f:=fun y=>[y]) (fun y hy=>?_) ?_
 ·walk_at "e";exact⟨rfl,by trivial⟩
 have nd0:((upto m.toNat).map fun y=>[y]).Nodup:=List.pairwise_map.mpr ((z4B _).imp fun{a b} h e=>h (by simpa using e))
 try walk_at "e"
 refine z03 (a:=.dict (gD ((upto m.toNat).map fun y=>[y]))) (by
  show(wG (((upto m.toNat).map fun y=>[y]).map pT) []).map PyData.dict=_;rw[show wG (((upto m.toNat).map fun y=>[y]).map pT) []=some (gD ((upto m.toNat).map fun y=>[y])) from z3B _ [] (by simpa using nd0) (by simp[zK];omega)];rfl) ?_
 walk_at "e";unfold z13;walk_at "e";rw[show z19 [.dict (gD ((upto m.toNat).map fun y=>[y]))]=some (((upto m.toNat).map fun y=>[y]).map tupI) from congrArg some (z5p _)];walk_at "e";have mem0:∀y:Int,y∈upto m.toNat↔0<=y/\y<m:=fun y=>by
  simp only[upto,List.mem_map,List.mem_range];constructor
  ·rintro⟨a,ha,rfl⟩;omega
  ·intro h;exact⟨y.toNat,by omega,by omega⟩
 have B0:Back m ds (sts m.toNat) ((upto m.toNat).map fun y=>[y]):=by
  refine⟨nd0,fun s hs=>?_,fun y hy=>List.mem_map.mpr ⟨y,(mem0 y).mpr hy,rfl⟩⟩;obtain⟨y,hy,rfl⟩:=List.mem_map.mp hs;exact⟨z1i (by omega) (z7n ((mem0 y).mp hy)) (by simp),gth_iff.mpr ⟨[],fun x hx=>(nomatch hx),rfl⟩⟩
 have hle0:=uz B0.nd fun s hs=>(B0.snd s hs).1;unfold wD;refine z10 (μ:=(sts m.toNat).length) (fun μ ρ n'=>n'=n/\∃(G W:List (List Int)) (x4 x5:Option Sl),ρ=[some (Sl.val (.p (.tuple [.int m,.tuple (ds.map plD)]))),some (Sl.val (.p (.dict (gJ aL ((sts m.toNat).map fun s=>(s,A s)))))),some (Sl.own (.dict (gD G))),some (Sl.own (.list (W.map tupI))),x4,x5]/\Back m ds (sts m.toNat) G/\(∀w∈W,w∈G)/\(∀x∈sts m.toNat,∀d∈ds,thr d x∈G->thr d x∈W\/x∈G)/\μ<=(sts m.toNat).length/\μ+G.length=(sts m.toNat).length+W.length) (fun μ ρ n' hI=>?_) (by omega) ⟨by trivial,(upto m.toNat).map (fun y=>[y]),(upto m.toNat).map (fun y=>[y]),none,none,rfl,B0,fun w hw=>hw,fun x _ d _ hx=>.inl hx,by omega,by omega⟩;obtain⟨rfl,G,W,x4,x5,rfl,B,hW,cl,hμ,cnt⟩:=hI;have hleG:=uz B.nd fun s hs=>(B.snd s hs).1;rcases List.eq_nil_or_concat W with rfl | ⟨W,w,rfl⟩
 ·walk_at "e";refine⟨fun z=>(nomatch z),fun _=>?_⟩;walk_at "e";rw[show z19 [.dict (gD G)]=some (G.map tupI) from congrArg some (z5p _)];walk_at "e";refine h G B.nd fun s=>⟨fun hs=>B.snd s hs,fun⟨h1,h2⟩=>?_⟩;obtain⟨r,hr,hl⟩:=gth_iff.mp h2;exact z2o H B (fun x hx d hd hg=>(cl x hx d hd hg).resolve_left fun z=>(nomatch z)) r hr s h1 hl
 ·rw[List.concat_eq_append]at *;walk_at "e";refine⟨fun _=>?_,fun z=>?_⟩
  ·have hwG:=hW w (by simp);have hwS:=(B.snd w hwG).1;refine⟨μ - 1,by simp at cnt;omega,?_⟩;unfold sPop;walk_at "e";rw[show ownL _ 3=some ((W++[w]).map tupI) from rfl];walk_at "e";rw[if_pos (by decide),show((W++[w]).map tupI)[((W++[w]).map tupI).length - 1]?=some (tupI w) by simp,show((W++[w]).map tupI).dropLast=W.map tupI by rw[List.map_append];simp];walk_at "e";rw[zAT (J:=aL) (l:=(sts m.toNat).map fun s=>(s,A s)) (by rw[List.map_map];simpa[Function.comp_def]using ndS) (q:=(w,A w)) (List.mem_map.mpr ⟨w,hwS,rfl⟩)];unfold aL;walk_at "e";rw[z00 (by rw[List.length_map];have:=hAl w hwS;omega)];walk_at "e";refine w8 (fun j ρ n2=>n2=n'/\∃(G2 W2:List (List Int)) (x5:Option Sl),ρ=[some (Sl.val (.p (.tuple [.int m,.tuple (ds.map plD)]))),some (Sl.val (.p (.dict (gJ aL ((sts m.toNat).map fun s=>(s,A s)))))),some (Sl.own (.dict (gD G2))),some (Sl.own (.list (W2.map tupI))),some (Sl.val (.p (tupI w))),x5]/\Back m ds (sts m.toNat) G2/\(∀w∈W2,w∈G2)/\(∀x∈sts m.toNat,∀d∈ds,thr d x∈G2->thr d x∈W2\/x∈G2\/(thr d x=w/\x∈(A w).drop j))/\W2.length+G.length=W.length+G2.length) (fun j ρ n2 hj hJ=>?_) (fun ρ n2 hJ=>?_) ⟨by trivial,G,W,x5,rfl,B,fun v hv=>hW v (by simp[hv]),fun x hx d hd hg=>?_,rfl⟩
   ·obtain⟨rfl,G2,W2,x5,rfl,B2,hW2,cl2,cnt2⟩:=hJ;have hj':j<(A w).length:=by simpa using hj
    have hy:=(hA w hwS _).mp (List.getElem_mem hj');rw[List.getElem_map];refine⟨_,rfl,?_⟩;have hdr:(A w).drop j=(A w)[j]::(A w).drop (j+1):=List.drop_eq_getElem_cons hj';generalize hyy:(A w)[j]=y at hy hdr;have hG2:G2≠[]:=fun z=>by have:=B2.room 0 (by omega);rw[z]at this;cases this
    have hle2:=uz B2.nd fun s hs=>(B2.snd s hs).1;walk_at "e";rw[z9r hG2];walk_at "e";by_cases hin:y∈G2
    ·rw[decide_eq_true hin];walk_at "e";refine⟨by trivial,G2,W2,_,rfl,B2,hW2,fun x hx d hd hg=>?_,cnt2⟩;rcases cl2 x hx d hd hg with z | z | ⟨z1,z2⟩
     ·exact .inl z
     ·exact .inr (.inl z)
     ·rw[hdr]at z2;rcases List.mem_cons.mp z2 with z2 | z2
      ·exact .inr (.inl (z2▸hin))
      ·exact .inr (.inr ⟨z1,z2⟩)
    ·rw[decide_eq_false hin];walk_at "e";unfold uk;walk_at "e";rw[show ownD _ 2=some (gD G2) from rfl];walk_at "e";rw[z5a (by omega) hin];walk_at "e";refine z4j rfl ?_;walk_at "e";refine⟨_,rfl,by rw[List.length_map];simp at cnt;omega,by trivial,G2++[y],W2++[y],_,by rw[List.map_append];rfl,⟨?_,?_,?_⟩,?_,?_,by simp;omega⟩
     ·exact List.nodup_append.mpr ⟨B2.nd,by simp,fun a ha b hb e=>hin (by rw[<-List.mem_singleton.mp hb,<-e];exact ha)⟩
     ·intro s hs;rcases List.mem_append.mp hs with hs | hs
      ·exact B2.snd s hs
      ·rw[List.mem_singleton.mp hs];obtain⟨d,hd,e⟩:=hy.2;exact⟨hy.1,z6S hd e (B.snd w hwG).2⟩
     ·exact fun z hz=>List.mem_append_left _ (B2.room z hz)
     ·intro s hs;rcases List.mem_append.mp hs with hs | hs
      ·exact List.mem_append_left _ (hW2 s hs)
      ·exact List.mem_append_right _ hs
     ·intro x hx d hd hg;rcases List.mem_append.mp hg with hg | hg
      ·rcases cl2 x hx d hd hg with z | z | ⟨z1,z2⟩
       ·exact .inl (List.mem_append_left _ z)
       ·exact .inr (.inl (List.mem_append_left _ z))
       ·rw[hdr]at z2;rcases List.mem_cons.mp z2 with z2 | z2
        ·exact .inr (.inl (List.mem_append_right _ (List.mem_singleton.mpr z2)))
        ·exact .inr (.inr ⟨z1,z2⟩)
      ·exact .inl (List.mem_append_right _ hg)
   ·obtain⟨rfl,G2,W2,x5,rfl,B2,hW2,cl2,cnt2⟩:=hJ;rw[List.length_map]at cl2;have hle2:=uz B2.nd fun s hs=>(B2.snd s hs).1;refine⟨(sts m.toNat).length - G2.length+W2.length,by simp at cnt;omega,by trivial,G2,W2,_,_,rfl,B2,hW2,fun x hx d hd hg=>?_,by simp at cnt;omega,by omega⟩;rcases cl2 x hx d hd hg with z | z | ⟨_,z2⟩
    ·exact .inl z
    ·exact .inr z
    ·rw[List.drop_length]at z2;cases z2
   ·rcases cl x hx d hd hg with z | z
    ·rcases List.mem_append.mp z with z | z
     ·exact .inl z
     ·exact .inr (.inr ⟨List.mem_singleton.mp z,by rw[List.drop_zero];exact(hA w hwS x).mpr ⟨hx,d,hd,List.mem_singleton.mp z⟩⟩)
    ·exact .inr (.inl z)
  ·simp at z
theorem z3c{α:Type}{m:Mx α}{n n':Nat}{a:α}{P:α->Nat->Prop}(e:m n=.ok a n')(h:P a n'):Ok m n P:=⟨a,n',e,h⟩
noncomputable def ks(m:Int):List Int:=(List.range m.toNat).map fun(i:Nat)=>1+(i:Int)
theorem zA0{m:Int}(h0:0<=m)(h8:m<=8):z0X [.int 1,.int (m+1)]=some ((ks m).map PyData.int):=by
 rw[z2d ⟨by omega,by omega,by unfold lim;omega⟩];unfold rngD ks;rw[List.map_map,show(m+1 - 1).toNat=m.toNat by omega];rfl
noncomputable def z5l(k:Int)(s:List Int):Bool:=decide ((s.length:Int)=k)
noncomputable def dueP(m:Int)(ds:List (List Int))(k:Int):Nat×Nat:=((sts m.toNat).countP (z5l k),((sts m.toNat).filter (gth ds)).countP (z5l k))
noncomputable def nnD(p:Nat×Nat):PyData:=.tuple [.int p.1,.int p.2]
theorem z2z(l:List (List Int))(k:Int):fCnt ((l.map fun s=>(s.length:Int)).map PyData.int) (.int k)=some (.int (l.countP (z5l k):Nat)):=by
 unfold fCnt;rw[if_pos ⟨rfl,z0I _,by simp[PyData.depth]⟩,List.map_map,List.countP_map];rw[show((fun z=>PyData.eqv z (.int k))∘(PyData.int∘fun s:List Int=>(s.length:Int)))=z5l k from funext fun s=>z0q _ _]
theorem z4D{m:Int}{ds:List (List Int)}{n:Nat}{P:D->Nat->Prop}(H:HouseOk m ds)(h5:m<=6)(h:P (.p (.list (((ks m).map (dueP m ds)).map nnD))) n):Ok (z5r [.p (yG m ds)]) n P:=by
 have hlo:=H.lo;have hsz:=z0k (k:=m.toNat) (by omega);unfold z5r z6b;refine t_fn rfl ?_;walk_at "e";refine wc H ?_;rw[zY];walk_at "e";walk_at "e";refine z4e (by omega) (by omega) ?_;walk_at "e";rw[z00 (by rw[List.length_map];omega)];walk_at "e";refine zl (J:=tupI) (J':=PyData.int) (f:=fun s=>(s.length:Int)) (fun s hs=>?_) ?_
 ·walk_at "e";rw[List.length_map];exact⟨rfl,by trivial⟩
 try walk_at "e"
 walk_at "e";rw[<-zY];refine z9K H h5 fun G nd hG=>?_;have hG1:=uz nd fun s hs=>((hG s).mp hs).1;rw[zY];walk_at "e";rw[z00 (by rw[List.length_map];omega)];walk_at "e";refine zl (J:=tupI) (J':=PyData.int) (f:=fun s=>(s.length:Int)) (fun s hs=>?_) ?_
 ·walk_at "e";rw[List.length_map];exact⟨rfl,by trivial⟩
 try walk_at "e"
 rw[zA0 (by omega) (by omega)];walk_at "e";have pG:G.Perm ((sts m.toNat).filter (gth ds)):=(List.perm_ext_iff_of_nodup nd ((z3z _).filter _)).mpr fun s=>by rw[hG s,List.mem_filter]
 refine zl (J:=PyData.int) (J':=nnD) (f:=dueP m ds) (fun k hk=>?_) ?_
 ·walk_at "e";unfold z7a;walk_at "e";rw[show ownL _ 1=some (((sts m.toNat).map fun s=>(s.length:Int)).map PyData.int) from rfl];walk_at "e";rw[z2z];walk_at "e";rw[show ownL _ 2=some ((G.map fun s=>(s.length:Int)).map PyData.int) from rfl];walk_at "e";rw[z2z];walk_at "e";refine⟨?_,by trivial⟩;unfold nnD dueP;rw[pG.countP_eq]
 ·try walk_at "e"
  exact h
theorem z1s{ds:List (List Int)}{pl:List Int}(B:Best ds pl none):gth ds pl=false:=by
 cases e:gth ds pl with
 | false=>rfl
 | true=>
  obtain⟨r,hr,hl⟩:=gth_iff.mp e;exact absurd hl (B.no rfl r hr _ (xu ds pl r))
theorem yq{ds:List (List Int)}{pl r:List Int}(B:Best ds pl (some r)):zU ds.length r/\(zg (gH ds) pl r).length=1/\∀r',zU ds.length r'->(zg (gH ds) pl r').length=1->r.length<=r'.length:=by
 obtain⟨b1,⟨st,b2,b3⟩,b4⟩:=B.yes r rfl;rw[xu]at b2;have b2:=Option.some.inj b2;refine⟨b1,by rw[b2];exact b3,fun r' h1 h2=>?_⟩
 have:=sLe_iff.mp (b4 r' h1 _ (xu ds pl r') h2);omega
section
variable{m:Int}{ds:List (List Int)}{od:List Int}
end
section
variable{m:Int}{ds:List (List Int)}{nm:List Int}
noncomputable def ren(m:Int)(nm d:List Int):List Int:=(upto m.toNat).map fun x=>nm.getD (d.getD (nm.idxOf x) 0).toNat 0
theorem wf(hp:nm.Perm (upto m.toNat)):nm.length=m.toNat:=by rw[hp.length_eq,zK]
theorem zBV(hp:nm.Perm (upto m.toNat)):nm.Nodup:=hp.nodup_iff.mpr (z4B _)
theorem upto_mem{k:Nat}{y:Int}:y∈upto k↔0<=y/\y<(k:Int):=by
 simp only[upto,List.mem_map,List.mem_range];constructor
 ·rintro⟨a,ha,rfl⟩;omega
 ·intro h;exact⟨y.toNat,by omega,by omega⟩
theorem z4H(h0:0<=m)(hp:nm.Perm (upto m.toNat)){y:Int}(hy:0<=y/\y<m):0<=nm.getD y.toNat 0/\nm.getD y.toNat 0<m:=by
 have hl:=wf hp
 have:=upto_mem.mp (hp.mem_iff.mp (y6 (l:=nm) (i:=y.toNat) (d:=0) (by omega)));omega
theorem z8F(h0:0<=m)(hp:nm.Perm (upto m.toNat)){y z:Int}(hy:0<=y/\y<m)(hz:0<=z/\z<m)(e:nm.getD y.toNat 0=nm.getD z.toNat 0):y=z:=by
 have hl:=wf hp;rw[List.getD_eq_getElem?_getD,List.getD_eq_getElem?_getD,List.getElem?_eq_getElem (show y.toNat<nm.length by omega),List.getElem?_eq_getElem (show z.toNat<nm.length by omega)]at e
 have:=(List.getElem_inj (zBV hp)).mp (show nm[y.toNat]=nm[z.toNat] from e);omega
theorem z0Z(h0:0<=m)(hp:nm.Perm (upto m.toNat)):DoorOk m nm:=⟨by rw[wf hp];omega,fun x hx=>by have:=upto_mem.mp (hp.mem_iff.mp hx);omega⟩
theorem zAX(h0:0<=m)(hp:nm.Perm (upto m.toNat)){y:Int}(hy:0<=y/\y<m):nm.idxOf (nm.getD y.toNat 0)=y.toNat:=by
 have hl:=wf hp;rw[List.getD_eq_getElem?_getD,List.getElem?_eq_getElem (show y.toNat<nm.length by omega)];exact(zBV hp).idxOf_getElem _ _
theorem z5Y(h0:0<=m)(hp:nm.Perm (upto m.toNat)){d:List Int}{y:Int}(hy:0<=y/\y<m):(ren m nm d).getD (nm.getD y.toNat 0).toNat 0=nm.getD (d.getD y.toNat 0).toNat 0:=by
 have h1:=z4H h0 hp hy;unfold ren;rw[List.getD_eq_getElem?_getD,List.getElem?_map,show(upto m.toNat)[(nm.getD y.toNat 0).toNat]?=some (nm.getD y.toNat 0) by
  rw[List.getElem?_eq_getElem (by rw[zK];omega)];simp only[upto,List.getElem_map,List.getElem_range];congr 1;omega]
 simp only[Option.map_some,Option.getD_some];rw[zAX h0 hp hy]
theorem z5W(h0:0<=m)(hp:nm.Perm (upto m.toNat)){d:List Int}(D1:DoorOk m d):DoorOk m (ren m nm d):=by
 refine⟨by unfold ren;rw[List.length_map,zK];omega,fun x hx=>?_⟩;obtain⟨y,hy,rfl⟩:=List.mem_map.mp hx;have hy:=upto_mem.mp hy;have hl:=wf hp;have hin:y∈nm:=hp.mem_iff.mpr (upto_mem.mpr (by omega));have hi:nm.idxOf y<nm.length:=List.idxOf_lt_length_of_mem hin;have hd:=D1.len;exact z4H h0 hp (D1.inr _ (y6 (by omega)))
theorem z67(H:HouseOk m ds)(hp:nm.Perm (upto m.toNat)):HouseOk m (ds.map (ren m nm)):=by
 have hlo:=H.lo;refine⟨H.lo,H.hi,by rw[List.length_map];exact H.some,by rw[List.length_map];exact H.few,fun d hd=>?_⟩;obtain⟨x,hx,rfl⟩:=List.mem_map.mp hd;exact z5W (by omega) hp (H.doors x hx)
theorem z8x(h0:0<=m)(h8:m<=8)(hp:nm.Perm (upto m.toNat)){d s:List Int}(D1:DoorOk m d)(S:StOk m s):thr (ren m nm d) (thr nm s)=thr nm (thr d s):=by
 have N1:=z0Z h0 hp;have S2:=xM h8 N1 S;have S3:=xM h8 D1 S;refine z6A (xM h8 (z5W h0 hp D1) S2).srt (xM h8 N1 S3).srt fun x=>?_;rw[yn h8 (z5W h0 hp D1) S2,yn h8 N1 S3];constructor
 ·rintro⟨z,hz,e⟩;obtain⟨y,hy,ey⟩:=(yn h8 N1 S z).mp hz;refine⟨d.getD y.toNat 0,(yn h8 D1 S _).mpr ⟨y,hy,rfl⟩,?_⟩;rw[<-e,<-ey,z5Y h0 hp (S.inr y hy)]
 ·rintro⟨z,hz,e⟩;obtain⟨y,hy,ey⟩:=(yn h8 D1 S z).mp hz;refine⟨nm.getD y.toNat 0,(yn h8 N1 S _).mpr ⟨y,hy,rfl⟩,?_⟩;rw[z5Y h0 hp (S.inr y hy),ey,e]
theorem z0y(h0:0<=m)(h8:m<=8)(hp:nm.Perm (upto m.toNat)){s:List Int}(S:StOk m s):(thr nm s).Perm (s.map fun y=>nm.getD y.toNat 0):=by
 have N1:=z0Z h0 hp;have nd1:(thr nm s).Nodup:=(xM h8 N1 S).srt.imp fun h=>by omega
 have nd2:(s.map fun y=>nm.getD y.toNat 0).Nodup:=List.pairwise_map.mpr (S.srt.imp_of_mem fun{a b} ha hb h e=>by have:=z8F h0 hp (S.inr a ha) (S.inr b hb) e;omega);exact(List.perm_ext_iff_of_nodup nd1 nd2).mpr fun x=>by rw[yn h8 N1 S,List.mem_map]
theorem z5m(h0:0<=m)(h8:m<=8)(hp:nm.Perm (upto m.toNat)){s:List Int}(S:StOk m s):(thr nm s).length=s.length:=by
 rw[(z0y h0 h8 hp S).length_eq,List.length_map]
theorem z0s(H:HouseOk m ds)(hp:nm.Perm (upto m.toNat)):∀{r:List Int},zU ds.length r->∀{s:List Int},StOk m s->zg (gH (ds.map (ren m nm))) (thr nm s) r=thr nm (zg (gH ds) s r)
 | [],_,s,S=>rfl
 | d::r,hr,s,S=>by
  have hlo:=H.lo;obtain⟨hd,hr⟩:=doorsC.mp hr;have hin:=y6 (l:=ds) (i:=d.toNat) (d:=[]) (by omega);have D1:=H.doors _ hin;rw[yu,yu];have e:gH (ds.map (ren m nm)) d (thr nm s)=thr nm (gH ds d s):=by
   unfold gH;rw[List.getD_eq_getElem?_getD,List.getElem?_map,List.getElem?_eq_getElem (show d.toNat<ds.length by omega)];have e2:ds.getD d.toNat []=ds[d.toNat]'(by omega):=by rw[List.getD_eq_getElem?_getD,List.getElem?_eq_getElem (show d.toNat<ds.length by omega)];rfl
   rw[e2]at D1 |-;exact z8x (by omega) H.hi hp D1 S
  rw[e];exact z0s H hp hr (z7W H hd S)
end
theorem zAH{i:Nat}{mk mv:Env'->Mx D}{ρ:Env'}{n:Nat}{P:Out->Nat->Prop}{l:List PyData}(hl:ownL ρ i=some l)(h:Ok (mv ρ) n fun v n1=>Ok (mk ρ) n1 fun k n2=>∃(j:Int) (x:PyData),v=.p x/\k=.p (.int j)/\0<=j/\j<l.length/\P (.nx (ρ.set i (some (Sl.own (.list (l.set j.toNat x)))))) n2):Ok (z6O i mk mv ρ) n P:=by
 unfold z6O;simp only[hl,zu,y7];refine h.imp fun v n1 h1=>h1.imp fun k n2 ⟨j,x,e1,e2,j0,j1,hp⟩=>?_;subst e1 e2;simp only[z8v,putL];rw[if_pos ⟨j0,j1⟩];simp only[Option.map_some,y7];exact hp
theorem z3X{m:Int}{ds:List (List Int)}{row:List Int}{n:Nat}{P:D->Nat->Prop}(H:HouseOk m ds)(hr:zU ds.length row)(hl:row.length<=60)(h:P (.p .none) n):Ok (z5Z [.p (plD row),.p (yG m ds)]) n P:=by
 have hf:=H.few;unfold z5Z z6X;refine t_fn rfl ?_;walk_at "e";unfold z6g z74;refine t_fn rfl ?_;rw[zY];walk_at "e";rw[List.length_map];refine xA (by omega) (fun x hx=>by have:=hr x hx;omega) ?_;walk_at "e";rw[List.length_map];rw[show decide ((row.length:Int)<=z8Q)=true from decide_eq_true (by unfold z8Q;omega)];walk_at "e";exact h
theorem z3y{m:Int}{ds:List (List Int)}{st row:List Int}{n:Nat}{P:D->Nat->Prop}(H:HouseOk m ds)(S:StOk m st)(hr:zU ds.length row)(hl:row.length<=60)(h:P (.p (plD (zg (gH ds) st row))) n):Ok (z4x [.p (yG m ds),.p (plD st),.p (plD row)]) n P:=by
 have hf:=H.few;unfold z4x z7U;refine t_fn rfl ?_;walk_at "e";rw[z2B (by rw[List.length_map];omega)];walk_at "e";refine w8 (fun k ρ n'=>n'=n/\∃x4:Option Sl,ρ=[some (Sl.val (.p (yG m ds))),some (Sl.val (.p (plD st))),some (Sl.val (.p (plD row))),some (Sl.val (.p (plD (zg (gH ds) st (row.take k))))),x4]) (fun k ρ n' hk hI=>?_) (fun ρ n' hI=>?_) ⟨rfl,_,rfl⟩
 ·obtain⟨rfl,x4,rfl⟩:=hI;have hk':k<row.length:=by simpa using hk
  have hd:=hr _ (List.getElem_mem hk');have St:=z2X H S (r:=row.take k) fun x hx=>hr x (List.mem_of_mem_take hx);rw[List.getElem_map];refine⟨_,rfl,?_⟩;rw[zY];walk_at "e";rw[show fIs true (.tuple ((zg (gH ds) st (row.take k)).map PyData.int)) .none=some (.bool true) from rfl];walk_at "e";rw[z4r (J:=plD) (d:=[]) (by omega) (by omega)];walk_at "e";refine wU H.hi (H.doors _ (y6 (by omega))) St ?_;walk_at "e";refine⟨rfl,some (Sl.val (.p (.int row[k]))),?_⟩;rw[show zg (gH ds) st (row.take (k+1))=thr (ds.getD row[k].toNat []) (zg (gH ds) st (row.take k)) by rw[List.take_succ_eq_append_getElem hk',wS];rfl]
 ·obtain⟨rfl,x4,rfl⟩:=hI;rw[List.length_map,List.take_length];walk_at "e";exact h
theorem z7d{m:Int}{ds:List (List Int)}{st row:List Int}{n:Nat}{P:D->Nat->Prop}(H:HouseOk m ds)(L:PlOk m st)(hr:zU ds.length row)(hl:row.length<=60)(h:P (.p (plD (zg (gH ds) st row))) n):Ok (z3U [.p (yG m ds),.p (plD st),.p (plD row)]) n P:=by
 unfold z3U z6R;refine t_fn rfl ?_;walk_at "e";refine z1A H L ?_;walk_at "e";refine z3X H hr hl ?_;walk_at "e";refine z3y H ⟨L.inr,L.srt,L.len⟩ hr hl ?_;walk_at "e";exact h
noncomputable def abt(m:Int):List Int:=(upto m.toNat).map fun x=>(x+1) % m
noncomputable def jns(m:Int):List Int:=1::(List.range (m - 1).toNat).map fun(i:Nat)=>1+(i:Int)
noncomputable def cds(m:Int):List (List Int):=[abt m,jns m]
noncomputable def tabM:Nat->List Nat
 | 2=>[0,2,1,0]
 | 3=>[0,6,4,3,5,2,1,0]
 | 4=>[0,12,9,8,10,5,5,4,11,7,4,3,6,2,1,0]
 | 5=>[0,20,16,15,17,11,11,10,18,9,7,6,12,6,6,5,19,14,10,9,8,5,5,4,13,8,4,3,7,2,1,0]
 | _=>[0,30,25,24,26,19,19,18,27,14,14,13,20,13,13,12,28,17,12,11,15,8,8,7,21,10,8,7,14,7,7,6,29,23,18,17,13,12,12,11,16,10,7,6,9,6,6,5,22,16,11,10,9,5,5,4,15,9,4,3,8,2,1,0]
noncomputable def bits(s:List Int):Nat:=s.foldl (fun a x=>a+2 ^ x.toNat) 0
noncomputable def phi(m:Int)(s:List Int):Nat:=(tabM m.toNat).getD (bits s) 0
noncomputable def rowX(m:Int):List Int:=1::(List.replicate (m - 2).toNat (List.replicate (m - 1).toNat 0++[1])).flatten
noncomputable def isD(m:Int)(d:List Int):Bool:=decide ((d.length:Int)=m) && d.all fun x=>decide (0<=x) && decide (x<m)
noncomputable def sizes5:List Int:=[2,3,4,5,6]
theorem in5{m:Int}(h:2<=m/\m<=6):m∈sizes5:=by
 have:m=2\/m=3\/m=4\/m=5\/m=6:=by omega
 rcases this with rfl | rfl | rfl | rfl | rfl<;>decide
theorem tab1:sizes5.all (fun m=>(sts m.toNat).all fun s=>((cds m).all fun d=>decide (phi m (thr d s)<=phi m s+1)) && (decide (s.length≠1) || decide ((m.toNat - 1)*(m.toNat - 1)<=phi m s)))=true:=by decide +kernel
theorem tab2:sizes5.all (fun m=>decide (phi m (upto m.toNat)=0) && ((cds m).all (isD m) && ((abt m).isPerm (upto m.toNat) && (decide ((zg (gH (cds m)) (upto m.toNat) (rowX m)).length=1) && (decide ((rowX m).length=(m.toNat - 1)*(m.toNat - 1)) && (rowX m).all fun d=>decide (0<=d) && decide (d<2))))))=true:=by decide +kernel
section
variable{m:Int}(hm:2<=m/\m<=6)
include hm
theorem z9Q:phi m (upto m.toNat)=0/\(∀d∈cds m,DoorOk m d)/\(abt m).Perm (upto m.toNat)/\(zg (gH (cds m)) (upto m.toNat) (rowX m)).length=1/\(rowX m).length=(m.toNat - 1)*(m.toNat - 1)/\zU 2 (rowX m):=by
 have h:=List.all_eq_true.mp tab2 m (in5 hm);simp only[Bool.and_eq_true,decide_eq_true_eq]at h;obtain⟨h1,h2,h3,h4,h5,h6⟩:=h;refine⟨h1,fun d hd=>?_,List.isPerm_iff.mp h3,h4,h5,fun d hd=>?_⟩
 ·have:=List.all_eq_true.mp h2 d hd;simp only[isD,Bool.and_eq_true,decide_eq_true_eq,List.all_eq_true]at this;exact⟨this.1,this.2⟩
 ·have:=List.all_eq_true.mp h6 d hd;simp only[Bool.and_eq_true,decide_eq_true_eq]at this;exact⟨this.1,this.2⟩
theorem z7t:HouseOk m (cds m):=⟨by omega,by omega,by simp[cds],by simp[cds],(z9Q hm).2.1⟩
theorem z7A{s:List Int}(hs:s∈sts m.toNat){d:List Int}(hd:d∈cds m):phi m (thr d s)<=phi m s+1:=by
 have h:=List.all_eq_true.mp (List.all_eq_true.mp tab1 m (in5 hm)) s hs;simp only[Bool.and_eq_true,List.all_eq_true,decide_eq_true_eq]at h;exact h.1 d hd
theorem z9I{s:List Int}(hs:s∈sts m.toNat)(h1:s.length=1):(m.toNat - 1)*(m.toNat - 1)<=phi m s:=by
 have h:=List.all_eq_true.mp (List.all_eq_true.mp tab1 m (in5 hm)) s hs;simp only[Bool.and_eq_true,Bool.or_eq_true,decide_eq_true_eq]at h;exact h.2.resolve_left fun z=>z h1
theorem z2y:∀{r:List Int},zU (cds m).length r->∀{s:List Int},s∈sts m.toNat->zg (gH (cds m)) s r∈sts m.toNat/\phi m (zg (gH (cds m)) s r)<=phi m s+r.length
 | [],_,s,hs=>⟨hs,by simp[zg]⟩
 | d::r,hr,s,hs=>by
  obtain⟨hd,hr⟩:=doorsC.mp hr;have H:=z7t hm;have hin:(cds m).getD d.toNat []∈cds m:=y6 (by omega);have S:=z2h (m:=m) (by omega) (by omega) (sts_mem.mp hs).2;have hs2:gH (cds m) d s∈sts m.toNat:=z1i (by omega) (z7W H hd S) (z5i H.hi (H.doors _ hin) S (sts_mem.mp hs).1);obtain⟨a,b⟩:=z2y hr hs2;rw[yu];refine⟨a,?_⟩
  have:=z7A hm hs hin;have e:gH (cds m) d s=thr ((cds m).getD d.toNat []) s:=rfl;rw[e]at b |-;simp only[List.length_cons];omega
theorem z3A:PlOk m (upto m.toNat):=⟨fun e=>by have:=congrArg List.length e;rw[zK]at this;simp at this;omega,fun p hp=>by have:=mem_upto.mp hp;omega,xw _,by rw[zK];omega⟩
theorem z6H:upto m.toNat∈sts m.toNat:=by
 have L:=z3A hm;exact z1i (by omega) ⟨L.inr,L.srt,L.len⟩ L.ne
theorem z2p{o:Option (List Int)}(B:Best (cds m) (upto m.toNat) o):∃r,o=some r/\r.length=(m.toNat - 1)*(m.toNat - 1):=by
 obtain⟨t1,_,_,t4,t5,t6⟩:=z9Q hm;cases o with
 | none=>
  have g:=z1s B
  have:gth (cds m) (upto m.toNat)=true:=gth_iff.mpr ⟨rowX m,t6,t4⟩;rw[g]at this;cases this
 | some r=>
  refine⟨r,rfl,?_⟩;obtain⟨b1,b2,b3⟩:=yq B;have hle:=b3 (rowX m) t6 t4;obtain⟨p1,p2⟩:=z2y hm b1 (z6H hm)
  have:=z9I hm p1 b2;omega
end
theorem z0U{m:Int}{ds:List (List Int)}(H:HouseOk m ds)(hp:∀d∈ds,d.Perm (upto m.toNat)):∀{r:List Int},zU ds.length r->∀{s:List Int},StOk m s->(zg (gH ds) s r).length=s.length
 | [],_,s,_=>rfl
 | d::r,hr,s,S=>by
  obtain⟨hd,hr⟩:=doorsC.mp hr;have hlo:=H.lo;rw[yu,z0U H hp hr (z7W H hd S)];exact z5m (m:=m) (by omega) H.hi (hp _ (y6 (by omega))) S
theorem z6C{m:Int}{ds:List (List Int)}(H:HouseOk m ds)(hp:∀d∈ds,d.Perm (upto m.toNat)){s:List Int}(S:StOk m s)(h:s.length≠1):gth ds s=false:=by
 cases e:gth ds s with
 | false=>rfl
 | true=>
  obtain⟨r,hr,h1⟩:=gth_iff.mp e;rw[z0U H hp hr S]at h1;exact absurd h1 h
theorem z4a{m:Int}{nm:List Int}(h0:0<=m)(h8:m<=8)(hp:nm.Perm (upto m.toNat)):thr nm (upto m.toNat)=upto m.toNat:=by
 have N1:=z0Z h0 hp;have S:StOk m (upto m.toNat):=⟨fun p hp=>by have:=mem_upto.mp hp;omega,xw _,by rw[zK];omega⟩;refine z6A (xM h8 N1 S).srt (xw _) fun x=>?_;rw[(z0y h0 h8 hp S).mem_iff];rw[show((upto m.toNat).map fun y=>nm.getD y.toNat 0)=nm from ?_,hp.mem_iff];have hl:=wf hp;refine List.ext_getElem (by simp[zK,hl]) fun a h1 h2=>?_;simp[upto,List.getD_eq_getElem?_getD,List.getElem?_eq_getElem h2]
theorem z4N{m:Int}{ds:List (List Int)}{nm:List Int}(H:HouseOk m ds)(hp:nm.Perm (upto m.toNat)){r:List Int}{o2:Option (List Int)}(B:Best ds (upto m.toNat) (some r))(B2:Best (ds.map (ren m nm)) (upto m.toNat) o2)(S:StOk m (upto m.toNat)):o2=some r:=by
 have hlo:=H.lo;have ea:=z4a (m:=m) (by omega) H.hi hp;have el:(ds.map (ren m nm)).length=ds.length:=List.length_map ..;have key:∀r',zU ds.length r'->(zg (gH (ds.map (ren m nm))) (upto m.toNat) r').length=(zg (gH ds) (upto m.toNat) r').length:=fun r' hr'=>by
  have:=z0s H hp hr' S;rw[ea]at this;rw[this,z5m (by omega) H.hi hp (z2X H S hr')]
 obtain⟨b1,b2,_⟩:=yq B;have b3:=(B.yes r rfl).2.2;cases o2 with
 | none=>
  have g:=z1s B2
  have:gth (ds.map (ren m nm)) (upto m.toNat)=true:=gth_iff.mpr ⟨r,by rw[el];exact b1,by rw[key r b1];exact b2⟩;rw[g]at this;cases this
 | some r2=>
  obtain⟨c1,c2,_⟩:=yq B2;rw[el]at c1;have c3:=(B2.yes r2 rfl).2.2;have k1:=b3 r2 c1 _ (xu ..) (by rw[<-key r2 c1];exact c2);have k2:=c3 r (by unfold z7D;rw[el];exact b1) _ (xu ..) (by rw[key r b1];exact b2);rw[wLe.antisymm k1 k2]
theorem z3W{m:Int}(h:0<=m/\m<=8):z6i (.list [.int 0]) (.int m)=some (.list ((List.replicate m.toNat (0:Int)).map PyData.int)):=by
 simp only[z6i];rw[if_pos ⟨h.1,by omega,by unfold lim;simp;omega⟩];congr 2;rw[List.map_replicate];generalize m.toNat=k
 induction k with
 | zero=>rfl
 | succ k ih=>rw[List.replicate_succ,List.flatten_cons,ih,List.replicate_succ];rfl
noncomputable def fil(nm d:List Int)(l:List Int):Nat->List Int
 | 0=>l
 | k+1=>(fil nm d l k).set (nm.getD k 0).toNat (nm.getD (d.getD k 0).toNat 0)
theorem wQ(nm d l:List Int):∀k,(fil nm d l k).length=l.length
 | 0=>rfl
 | k+1=>by simp only[fil,List.length_set];exact wQ nm d l k
theorem z8I{m:Int}{nm d l:List Int}(h0:0<=m)(hp:nm.Perm (upto m.toNat))(hl:l.length=m.toNat):∀k,k<=m.toNat->∀j,j<k->(fil nm d l k).getD (nm.getD j 0).toNat 0=nm.getD (d.getD j 0).toNat 0
 | 0,_,j,hj=>absurd hj (by omega)
 | k+1,hk,j,hj=>by
  have hn:=z4H h0 hp (y:=(k:Int)) (by omega);have hn2:=z4H h0 hp (y:=(j:Int)) (by omega);simp only[Int.toNat_natCast]at hn hn2;simp only[fil];rw[List.getD_eq_getElem?_getD,List.getElem?_set];by_cases e:j=k
  ·subst e;rw[if_pos rfl,if_pos (by rw[wQ,hl];omega)];rfl
  ·have:nm.getD k 0≠nm.getD j 0:=fun z=>e (by
    have:=z8F h0 hp (y:=(j:Int)) (z:=(k:Int)) (by omega) (by omega) (by simpa using z.symm);omega)
   rw[if_neg (by omega),<-List.getD_eq_getElem?_getD];exact z8I h0 hp hl k (by omega) j (by omega)
theorem z8q{m:Int}{nm d l:List Int}(h0:0<=m)(hp:nm.Perm (upto m.toNat))(hl:l.length=m.toNat):fil nm d l m.toNat=ren m nm d:=by
 have hnl:=wf hp;refine List.ext_getElem (by rw[wQ,hl];unfold ren;rw[List.length_map,zK]) fun a h1 h2=>?_;rw[wQ,hl]at h1;have ha:(a:Int)∈nm:=hp.mem_iff.mpr (upto_mem.mpr (by omega));obtain⟨j,hj,ej⟩:=List.getElem_of_mem ha;have e1:=z8I (d:=d) h0 hp hl m.toNat (Nat.le_refl _) j (by omega);have e2:=z5Y h0 hp (d:=d) (y:=(j:Int)) (by omega);simp only[Int.toNat_natCast]at e2;have e3:nm.getD j 0=a:=by rw[List.getD_eq_getElem?_getD,List.getElem?_eq_getElem hj,ej];rfl
 rw[<-e2,e3]at e1;simp only[Int.toNat_natCast]at e1;rw[List.getD_eq_getElem?_getD,List.getD_eq_getElem?_getD,List.getElem?_eq_getElem (by rw[wQ,hl];omega),List.getElem?_eq_getElem h2]at e1;exact e1
theorem zAl{m:Int}(h:2<=m/\m<=6):fAdd (.tuple [.int 1]) (.tuple (rngD 1 m))=some (plD (jns m)):=by
 simp only[fAdd];rw[if_pos (by unfold lim rngD;simp;omega)];unfold plD jns rngD;rw[List.map_cons,List.map_map];rfl
theorem z8r{m:Int}(h:2<=m/\m<=6):PyData.tuple (cutD ((upto m.toNat).map PyData.int) none (some 2))=plD [0,1]:=by
 have:m=2\/m=3\/m=4\/m=5\/m=6:=by omega
 rcases this with rfl | rfl | rfl | rfl | rfl<;>rfl
theorem zC7{m:Int}(h:2<=m/\m<=6)(g:Int->PyData):fIx (.list ((ks m).map g)) (.int 1)=some (g 2):=by
 have:m=2\/m=3\/m=4\/m=5\/m=6:=by omega
 rcases this with rfl | rfl | rfl | rfl | rfl<;>rfl
theorem z6P{m:Int}{ds:List (List Int)}(H:HouseOk m ds)(hp:∀d∈ds,d.Perm (upto m.toNat)):(dueP m ds 2).2=0:=by
 have hlo:=H.lo;unfold dueP;simp only;rw[List.countP_filter,List.countP_eq_zero];intro s hs;simp only[Bool.and_eq_true,not_and,z5l,decide_eq_true_eq];intro h2;rw[z6C H hp (z2h (by omega) H.hi (sts_mem.mp hs).2) (by omega)]
 decide
theorem layP(r:List Int):(plD r).canLay0=true:=by
 show PyData.canLay0 (.tuple (r.map PyData.int))=true;simp only[PyData.canLay0];exact z0I r
theorem depP(r:List Int):(plD r).depth<=15:=by
 show PyData.depth (.tuple (r.map PyData.int))<=15;simp only[PyData.depth];have:=z2l r;omega
theorem z7y(a:List Int):fEq false (plD a) (plD a)=some (.bool true):=by
 unfold fEq;rw[if_pos ⟨layP a,layP a,by have:=depP a;omega⟩,show PyData.eqv (plD a) (plD a)=decide (a=a) from yV a a,decide_eq_true rfl];rfl
theorem z5E{l:List Int}{i:Int}(h0:0<=i)(h:i<(l.length:Int)):fIx (.list (l.map PyData.int)) (.int i)=some (.int (l.getD i.toNat 0)):=z0J h0 h
theorem z6K{t:Adr}{ns:List Int}{n:Nat}{P:D->Nat->Prop}(hn:n<100)(h:∀n',P (.p (.bool true)) n'):Ok (z4g t [.scr ns,.town]) n P:=by
 unfold z4g z6l;refine t_fn rfl ?_;walk_at "e";refine z0O (by omega) (by decide) fun q q0 q1=>?_;walk_at "e";generalize hm:(2:Int)+q=m;have hm2:2<=m/\m<=6:=by omega
 clear hm;have H:=z7t hm2;have L:=z3A hm2;have S:StOk m (upto m.toNat):=⟨L.inr,L.srt,L.len⟩;rw[yA (by omega),zy m (by omega)];walk_at "e";refine zl (J:=PyData.int) (J':=PyData.int) (f:=fun x=>(x+1) % m) (fun x hx=>?_) ?_
 ·walk_at "e";rw[yf (by omega)];walk_at "e";exact⟨rfl,by trivial⟩
 try walk_at "e"
 simp only[fRg2,fRg1];rw[z2d ⟨by omega,by omega,by unfold lim;omega⟩];walk_at "e";rw[zAl hm2];walk_at "e";simp only[fRg1];rw[yA (by omega),zy m (by omega)];walk_at "e";rw[show PyData.tuple [.int m,.tuple [.tuple (((upto m.toNat).map fun x=>(x+1) % m).map PyData.int),plD (jns m)]]=yG m (cds m) from rfl];refine xx H L fun o B=>?_;obtain⟨r,rfl,hrl⟩:=z2p hm2 B;walk_at "e";rw[show fLen [rowO (some r)]=some (.int r.length) from by rw[show rowO (some r)=.tuple (r.map PyData.int) from rfl,fLen_t,List.length_map]];walk_at "e";rw[z2k (by omega)];walk_at "e";rw[show decide ((r.length:Int)=(m - 1)*(m - 1))=true from decide_eq_true (by rw[hrl];rw[Int.natCast_mul,show((m.toNat - 1:Nat):Int)=m - 1 by omega])];walk_at "e";unfold mSl uU z3w;walk_at "e";refine t_some ?_;rw[z8r hm2];walk_at "e";have hpa:=(z9Q hm2).2.2.1;have da:DoorOk m (abt m):=z0Z (by omega) hpa;have H1:HouseOk m [abt m]:=⟨by omega,by omega,by simp,by simp,fun d hd=>by rw[List.mem_singleton.mp hd];exact da⟩;have H2:HouseOk m [abt m,abt m]:=⟨by omega,by omega,by simp,by simp,fun d hd=>by rcases List.mem_cons.mp hd with rfl | hd;exact da;rw[List.mem_singleton.mp hd];exact da⟩;have Lb:PlOk m [0,1]:=⟨by simp,fun p hp=>by rcases List.mem_cons.mp hp with rfl | hp;omega;rw[List.mem_singleton.mp hp];omega,by decide,by decide⟩;rw[show PyData.tuple [.int m,.tuple [.tuple (((upto m.toNat).map fun x=>(x+1) % m).map PyData.int)]]=yG m [abt m] from rfl];refine xx H1 Lb fun o2 B2=>?_;cases o2 with
 | some r2=>
  exfalso;obtain⟨c1,c2,_⟩:=yq B2;rw[z0U H1 (fun d hd=>by rw[List.mem_singleton.mp hd];exact hpa) c1 ⟨Lb.inr,Lb.srt,Lb.len⟩]at c2;cases c2
 | none=>
 walk_at "e";rw[show fIs true (rowO none) .none=some (.bool false) from rfl];walk_at "e";rw[show PyData.tuple [.int m,.tuple [.tuple (((upto m.toNat).map fun x=>(x+1) % m).map PyData.int),.tuple (((upto m.toNat).map fun x=>(x+1) % m).map PyData.int)]]=yG m [abt m,abt m] from rfl];refine z4D H2 (by omega) ?_;walk_at "e";rw[List.map_map,zC7 hm2];walk_at "e";rw[show fIx ((nnD∘dueP m [abt m,abt m]) 2) (.int 1)=some (.int ((dueP m [abt m,abt m] 2).2:Nat)) from rfl,z6P H2 fun d hd=>by rcases List.mem_cons.mp hd with rfl | hd;exact hpa;rw[List.mem_singleton.mp hd];exact hpa];walk_at "e";unfold z13;walk_at "e";rw[show z5f [.tuple ((upto m.toNat).map PyData.int)]=some ((upto m.toNat).map PyData.int) from rfl];walk_at "e";unfold wD;rw[show PyData.tuple ((upto m.toNat).map PyData.int)=plD (upto m.toNat) from rfl];generalize PyData.tuple (((upto m.toNat).map fun x=>(x+1) % m).map PyData.int)=A;generalize plD (jns m)=J;refine z10 (fun μ ρ n'=>∃(left made:List Int),ρ=[some (Sl.val (.scr ns)),some (Sl.val .town),some (Sl.val (.p (.int m))),some (Sl.val (.p A)),some (Sl.val (.p J)),some (Sl.val (.p (yG m (cds m)))),some (Sl.val (.p (plD (upto m.toNat)))),some (Sl.own (.list (made.map PyData.int))),some (Sl.own (.list (left.map PyData.int))),none,none,none,none,none,none,none]/\(made++left).Perm (upto m.toNat)/\μ=left.length/\n'=n+1+made.length) (fun μ ρ n' hI=>?_) (μ:=m.toNat) (by omega) ⟨upto m.toNat,[],rfl,by simp,by rw[zK],by simp⟩;obtain⟨left,made,rfl,hp,rfl,rfl⟩:=hI;have hlen:=hp.length_eq;rw[List.length_append,zK]at hlen;walk_at "e";rw[z9Z];walk_at "e";cases left with
 | cons x r=>
  refine⟨fun _=>⟨r.length,by simp,?_⟩,fun z=>by simp at z⟩;refine z5g (la:=made.map PyData.int) (l:=(x::r).map PyData.int) rfl rfl (by decide) (by rw[List.length_map];omega) ?_;walk_at "e";refine z0O (by omega) (by simp only[List.length_map,List.length_cons];omega) fun q q0 q1=>?_;simp only[List.length_map,List.length_cons]at q1 hlen;have hq:q.toNat<(x::r).length:=by simp only[List.length_cons];omega
  refine⟨q,by simpa using hq,rfl,q0,by omega,r.length,Nat.le_refl _,(x::r).eraseIdx q.toNat,made++[(x::r)[q.toNat]],?_,?_,?_,by simp;omega⟩
  ·have e1:=z1n PyData.int (x::r) q.toNat;have e2:((x::r).map PyData.int)[q.toNat]'(by simpa using hq)=PyData.int (x::r)[q.toNat]:=List.getElem_map ..;simp only[List.map_cons]at e1 e2;rw[e1,e2,List.map_append];rfl
  ·refine List.Perm.trans ?_ hp;rw[List.append_assoc];refine List.Perm.append_left _ ?_;exact z02 (x::r) q.toNat hq
  ·rw[List.length_eraseIdx_of_lt hq];simp
 | nil=>
  refine⟨fun z=>by simp at z,fun _=>?_⟩;rw[List.append_nil]at hp;clear hlen;generalize n+1+made.length=n3;generalize made=nm at hp;have hnl:=wf hp
  try walk_at "e"
  rw[zY];walk_at "e";rw[z2B (by simp[cds])];walk_at "e";refine w8 (fun i ρ n'=>n'=n3/\∃x10 x11 x12:Option Sl,ρ=[some (Sl.val (.scr ns)),some (Sl.val .town),some (Sl.val (.p (.int m))),some (Sl.val (.p A)),some (Sl.val (.p J)),some (Sl.val (.p (.tuple [.int m,.tuple ((cds m).map plD)]))),some (Sl.val (.p (plD (upto m.toNat)))),some (Sl.own (.list (nm.map PyData.int))),some (Sl.own (.list ([].map PyData.int))),some (Sl.own (.list ((((cds m).take i).map (ren m nm)).map plD))),x10,x11,x12,none,none,none]) (fun i ρ n' hi hI=>?_) (fun ρ n' hI=>?_) ⟨by trivial,none,none,none,rfl⟩
  ·obtain⟨rfl,x10,x11,x12,rfl⟩:=hI;have hi':i<(cds m).length:=by simpa using hi
   have D1:=H.doors _ (List.getElem_mem hi');have hd:=D1.len;rw[List.getElem_map];refine⟨_,rfl,?_⟩;walk_at "e";unfold z8e;walk_at "e";rw[z3W (by omega)];walk_at "e";rw[z2B (by rw[List.length_map,zK];omega)];walk_at "e";generalize eZ:List.replicate m.toNat (0:Int)=Z;have hZ:Z.length=m.toNat:=by rw[<-eZ,List.length_replicate]
   clear eZ;generalize hD:(cds m)[i]=d at D1 hd;refine w8 (fun j ρ n2=>n2=n'/\∃x12:Option Sl,ρ=[some (Sl.val (.scr ns)),some (Sl.val .town),some (Sl.val (.p (.int m))),some (Sl.val (.p A)),some (Sl.val (.p J)),some (Sl.val (.p (.tuple [.int m,.tuple ((cds m).map plD)]))),some (Sl.val (.p (plD (upto m.toNat)))),some (Sl.own (.list (nm.map PyData.int))),some (Sl.own (.list [])),some (Sl.own (.list ((((cds m).take i).map (ren m nm)).map plD))),some (Sl.val (.p (plD d))),some (Sl.own (.list ((fil nm d Z j).map PyData.int))),x12,none,none,none]) (fun j ρ n2 hj hJ=>?_) (fun ρ n2 hJ=>?_) ⟨by trivial,x12,rfl⟩
   ·obtain⟨rfl,x12,rfl⟩:=hJ;have hj':j<m.toNat:=by simpa[zK]using hj
    have ej:(upto m.toNat)[j]'(by rw[zK];omega)=(j:Int):=by simp[upto]
    have hz:=D1.inr _ (y6 (l:=d) (i:=(j:Int).toNat) (d:=0) (by omega));have hz2:=z4H (m:=m) (by omega) hp (y:=(j:Int)) (by omega);rw[List.getElem_map,ej];refine⟨_,rfl,?_⟩;refine zAH (l:=(fil nm d Z j).map PyData.int) rfl ?_;walk_at "e";rw[show fIx (plD d) (.int j)=some (.int (d.getD (j:Int).toNat 0)) from z0J (by omega) (by omega)];walk_at "e";rw[z5E (by omega) (by omega)];walk_at "e";rw[z5E (by omega) (by omega)];walk_at "e";refine⟨nm.getD (j:Int).toNat 0,.int (nm.getD (d.getD (j:Int).toNat 0).toNat 0),rfl,rfl,by omega,by rw[List.length_map,wQ,hZ];omega,?_⟩
    try walk_at "e"
    refine⟨by trivial,some (Sl.val (.p (.int j))),?_⟩;simp only[Int.toNat_natCast];rw[<-List.map_set];rfl
   ·obtain⟨rfl,x12,rfl⟩:=hJ;rw[List.length_map,zK,z8q (by omega) hp hZ]
    try walk_at "e"
    refine z4j (l:=(((cds m).take i).map (ren m nm)).map plD) rfl ?_;walk_at "e";refine⟨plD (ren m nm d),rfl,by simp[cds];omega,?_⟩
    try walk_at "e"
    rw[List.take_succ_eq_append_getElem hi',hD,List.map_append,List.map_append];exact⟨by trivial,_,_,_,rfl⟩
  ·obtain⟨rfl,x10,x11,x12,rfl⟩:=hI;rw[List.length_map,List.take_length];walk_at "e";have H3:=z67 H hp;rw[<-zY,<-zY];refine xx H3 L fun o3 B3=>?_;have e3:=z4N H hp B B3 S;subst e3;obtain⟨b1,b2,_⟩:=yq B;walk_at "e";have hr60:r.length<=60:=by
    have:(m.toNat - 1)*(m.toNat - 1)<=5*5:=Nat.mul_le_mul (by omega) (by omega);omega
   rw[show rowO (some r)=plD r from rfl];refine z7d H L b1 hr60 ?_;obtain⟨e,he⟩:=List.length_eq_one_iff.mp b2;have hle:0<=e/\e<m:=(z2X H S b1).inr e (by rw[he];exact List.mem_singleton.mpr rfl);rw[he];walk_at "e";rw[show fIx (plD [e]) (.int 0)=some (.int e) from fIx_t0 _ _];walk_at "e";refine xx H L fun o4 B4=>?_;have e4:o4=some r:=by
    obtain⟨r4,rfl,_⟩:=z2p hm2 B4;obtain⟨c1,c2,_⟩:=yq B4;rw[wLe.antisymm ((B.yes r rfl).2.2 r4 c1 _ (xu ..) c2) ((B4.yes r4 rfl).2.2 r b1 _ (xu ..) b2)]
   subst e4;walk_at "e";rw[show rowO (some r)=plD r from rfl,z7y];walk_at "e";have b1':zU ((cds m).map (ren m nm)).length r:=by rw[List.length_map];exact b1
   refine z7d H3 L b1' hr60 ?_;have el:=z0s H hp b1 S;rw[z4a (by omega) H.hi hp,he]at el;have et:thr nm [e]=[nm.getD e.toNat 0]:=by
    have pp:=z0y (m:=m) (by omega) H.hi hp (z7n hle);exact List.perm_singleton.mp pp
   rw[el,et];walk_at "e";rw[z5E (by omega) (by omega)];walk_at "e";rw[show PyData.tuple [PyData.int (nm.getD e.toNat 0)]=plD [nm.getD e.toNat 0] from rfl,z7y];walk_at "e";exact h _
noncomputable def lnk(x:Int):PyData:=.tuple [.int x,.int (x+1)]
noncomputable def ug(m:Int):List PyData:=((upto (m - 1).toNat).map fun x=>x).map lnk
noncomputable def z6s(m:Int):List PyData:=ug m++[.tuple [.int 0,.int (m - 1)]]
noncomputable def lstO:Option PyData->List PyData
 | some (.list l)=>l
 | _=>[]
noncomputable def isLO:Option PyData->Bool
 | some (.list _)=>true
 | _=>false
theorem z4W{o:Option PyData}(h:isLO o=true):o=some (.list (lstO o)):=by
 unfold isLO at h;split at h
 ·rfl
 ·cases h
noncomputable def z5e(m:Int):List PyData:=lstO (y3 [.list (z6s m)])
noncomputable def evAt(k:Int):List PyData:=((upto k.toNat).map fun x=>x).map fun x=>.tuple [.int x,.int k]
noncomputable def evU(k:Nat):List PyData:=(upto k).flatMap evAt
noncomputable def evL(m:Int):List PyData:=lstO (y3 [.list (evU m.toNat)])
noncomputable def wbD(m:Int)(l:List PyData):PyData:=.tuple [.int m,.tuple l]
noncomputable def twD(o:Int):PyData:=.tuple [.int 0,.int o]
noncomputable def opD:Option (Int×Int)->PyData
 | none=>.none
 | some p=>.tuple [.int p.1,.int p.2]
noncomputable def okR(r:Res D)(f:Option (Int×Int)->Bool):Bool:=match r with
 | .ok (.p .none) n=>n == 2 && f none
 | .ok (.p (.tuple [.int a,.int b])) n=>n == 2 && f (some (a,b))
 | _=>false
theorem um{r:Res D}{f:Option (Int×Int)->Bool}(h:okR r f=true):∃x,f x=true/\r=.ok (.p (opD x)) 2:=by
 unfold okR at h;split at h
 ·simp only[Bool.and_eq_true,beq_iff_eq]at h;exact⟨none,h.2,by rw[h.1];rfl⟩
 ·simp only[Bool.and_eq_true,beq_iff_eq]at h;exact⟨some _,h.2,by rw[h.1];rfl⟩
 ·cases h
noncomputable def sizes6:List Int:=[3,4,5,6,7,8]
theorem in6{m:Int}(h:3<=m/\m<=8):m∈sizes6:=by
 have:m=3\/m=4\/m=5\/m=6\/m=7\/m=8:=by omega
 rcases this with rfl | rfl | rfl | rfl | rfl | rfl<;>decide
noncomputable def z3R(f:Int->Int->Bool):Bool:=sizes6.all fun m=>(upto m.toNat).all fun o=>decide (o=0) || f m o
theorem wE{f:Int->Int->Bool}(h:z3R f=true){m o:Int}(hm:3<=m/\m<=8)(ho:1<=o/\o<m):f m o=true:=by
 have h1:=List.all_eq_true.mp (List.all_eq_true.mp h m (in6 hm)) o (mem_upto.mpr (by omega));simp only[Bool.or_eq_true,decide_eq_true_eq]at h1;exact h1.resolve_left (by omega)
theorem wt0:sizes6.all (fun m=>isLO (y3 [.list (z6s m)]) && isLO (y3 [.list (evU m.toNat)]))=true:=by decide +kernel
noncomputable def isP(p:Int×Int)(x:Option (Int×Int)):Bool:=match x with
 | some q=>decide (q=p)
 | none=>false
theorem wt1:z3R (fun m o=>okR (z1t [.p (wbD m (z5e m)),.p (twD o)] 2) (isP (min o (m - o),0)))=true:=by decide +kernel
theorem wt2:z3R (fun m o=>okR (z1t [.p (wbD m (ug m)),.p (twD o)] 2) (isP (o,0)))=true:=by decide +kernel
noncomputable def zAW(m o:Int)(x:Option (Int×Int)):Bool:=(!decide (m % 2=0) || (x.isNone == decide (min o (m - o) % 2=1))) && match x with
 | none=>true
 | some p=>decide (p.1=(if min o (m - o) % 2=1 then max o (m - o)else min o (m - o)) / 2)
theorem wt3:z3R (fun m o=>okR (wo [.p (wbD m (z5e m)),.p (twD o)] 2) (zAW m o))=true:=by decide +kernel
theorem wt4:z3R (fun m o=>okR (wo [.p (wbD m (ug m)),.p (twD o)] 2) fun x=>x.isNone == decide (o % 2=1))=true:=by decide +kernel
noncomputable def is1(k:Int)(x:Option (Int×Int)):Bool:=match x with
 | some q=>decide (q.1=k)
 | none=>false
theorem wt5:z3R (fun m o=>okR (wo [.p (wbD m (evL m)),.p (twD o)] 2) (is1 1))=true:=by decide +kernel
theorem wt6:sizes6.all (fun m=>okR (wo [.p (wbD m (evL m)),.p (.tuple ((upto m.toNat).map PyData.int))] 2) (is1 2))=true:=by decide +kernel
theorem z43(a b:Int):z6a [.int a,.int b]=some (.int (min a b)):=by
 simp only[z6a];congr 2;split<;>omega
theorem z3v(a b:Int):z77 [.int a,.int b]=some (.int (max a b)):=by
 simp only[z77];congr 2;split<;>omega
theorem z4i{F:List D->Mx D}{ms:Env'->Mx (List D)}{ρ:Env'}{n:Nat}{P:D->Nat->Prop}(h:Ok (ms ρ) n fun ds n'=>Ok (F ds) n' fun r n2=>immD r=true/\P r n2):Ok (uq F ms ρ) n P:=by
 unfold uq;exact t_bind (h.imp fun _ _ q=>t_bind (q.imp fun r _ ⟨e,q⟩=>by rw[if_pos e];exact t_pure q))
theorem z9n{i j:Nat}{ms:Env'->Mx (List D)}{ρ:Env'}{n:Nat}{P:Out->Nat->Prop}(h:Ok (ms ρ) n fun ds n'=>∃x y,ds=[x,y]/\P (.nx ((ρ.set i (some (Sl.val x))).set j (some (Sl.val y)))) n'):Ok (sPar i j ms ρ) n P:=by
 unfold sPar;refine t_bind (h.imp fun ds n' ⟨x,y,e,q⟩=>?_);subst e;exact t_pure q
theorem z8A(a:List Int):fEq true (plD a) (plD a)=some (.bool false):=by
 unfold fEq;rw[if_pos ⟨layP a,layP a,by have:=depP a;omega⟩,show PyData.eqv (plD a) (plD a)=decide (a=a) from yV a a,decide_eq_true rfl];rfl
section
variable{m o:Int}(hm:3<=m/\m<=8)
include hm
theorem z7Z:(ug m).length<8:=by unfold ug;rw[List.length_map,List.length_map,zK];omega
theorem z4b:fAdd (.list (ug m)) (.list [.tuple [.int 0,.int (m - 1)]])=some (.list (z6s m)):=by
 have:=z7Z hm;simp only[fAdd];rw[if_pos (by unfold lim;simp;omega)];rfl
theorem z6w:y3 [.list (z6s m)]=some (.list (z5e m)):=by
 have h:=List.all_eq_true.mp wt0 m (in6 hm);rw[Bool.and_eq_true]at h;exact z4W h.1
theorem zAi:y3 [.list (evU m.toNat)]=some (.list (evL m)):=by
 have h:=List.all_eq_true.mp wt0 m (in6 hm);rw[Bool.and_eq_true]at h;exact z4W h.2
variable(ho:1<=o/\o<m)
theorem z3p:∃b,wo [.p (wbD m (evL m)),.p (.tuple ((upto m.toNat).map PyData.int))] 2=.ok (.p (.tuple [.int 2,.int b])) 2:=by
 obtain⟨x,h1,h2⟩:=um (List.all_eq_true.mp wt6 m (in6 hm));cases x with
 | none=>cases h1
 | some p=>exact⟨p.2,by rw[h2,show opD (some p)=.tuple [.int p.1,.int p.2] from rfl,show p.1=2 from of_decide_eq_true h1]⟩
include ho
theorem z3l:z1t [.p (wbD m (z5e m)),.p (twD o)] 2=.ok (.p (plD [min o (m - o),0])) 2:=by
 obtain⟨x,h1,h2⟩:=um (wE wt1 hm ho);cases x with
 | none=>cases h1
 | some p=>rw[h2,of_decide_eq_true h1];rfl
theorem z3e:z1t [.p (wbD m (ug m)),.p (twD o)] 2=.ok (.p (plD [o,0])) 2:=by
 obtain⟨x,h1,h2⟩:=um (wE wt2 hm ho);cases x with
 | none=>cases h1
 | some p=>rw[h2,of_decide_eq_true h1];rfl
theorem z5P:∃b,wo [.p (wbD m (evL m)),.p (twD o)] 2=.ok (.p (.tuple [.int 1,.int b])) 2:=by
 obtain⟨x,h1,h2⟩:=um (wE wt5 hm ho);cases x with
 | none=>cases h1
 | some p=>exact⟨p.2,by rw[h2,show opD (some p)=.tuple [.int p.1,.int p.2] from rfl,show p.1=1 from of_decide_eq_true h1]⟩
end
theorem z7o(x:Option (Int×Int)):fIs false (opD x) .none=some (.bool x.isNone):=by cases x<;>rfl
theorem z8S(x:Option (Int×Int)):fIs true (opD x) .none=some (.bool !x.isNone):=by cases x<;>rfl
theorem z7x(a b:Bool):fEq true (.bool a) (.bool b)=some (.bool !(a == b)):=by cases a<;>cases b<;>rfl
theorem z9k(a:Int):z64 (.int a) (.int 2)=some (.int (a / 2)):=by
 simp only[z64];rw[if_pos (by decide)]
theorem z2i(k:Nat):evU (k+1)=evU k++evAt (k:Int):=by
 unfold evU;rw[show upto (k+1)=upto k++[(k:Int)] by simp[upto,List.range_succ],List.flatMap_append];simp
theorem z65:∀k:Nat,k<=8->(evU k).length<=8*k
 | 0,_=>by simp[evU,upto]
 | k+1,h=>by
  have:=z65 k (by omega);rw[z2i,List.length_append,show(evAt (k:Int)).length=k by simp[evAt,zK]];omega
theorem z5w(t:Adr):z8t 12 (z3m t):=by
 intro ns hns
 suffices h:Ok (z3m t (wI 12 ns)) 0 (fun o n'=>o=.rt (.p (.bool true))) by
  obtain⟨o,n',e,rfl⟩:=h;exact⟨n',e⟩
 unfold z3m wI;walk_at "e";refine z0O (by omega) (by decide) fun q q0 q1=>?_;walk_at "e";generalize hm:(3:Int)+q=m;have hm2:3<=m/\m<=8:=by omega
 clear hm;refine z9n ?_;walk_at "e";refine z0O (by omega) (by omega) fun p p0 p1=>?_;walk_at "e";generalize ho:(1:Int)+p=o;have ho2:1<=o/\o<m:=by omega
 clear ho;refine⟨_,_,rfl,?_⟩;walk_at "e";rw[yA (by omega),zy (m - 1) (by omega)];walk_at "e";refine zl (J:=PyData.int) (J':=lnk) (f:=fun x=>x) (fun x hx=>?_) ?_
 ·walk_at "e";exact⟨rfl,by trivial⟩
 try walk_at "e"
 rw[show 0+1+1=2 from rfl,show((upto (m - 1).toNat).map fun x=>x).map lnk=ug m from rfl,z4b hm2];walk_at "e";rw[z6w hm2];walk_at "e";rw[yA (by omega),zy (m - 1) (by omega)];walk_at "e";refine zl (J:=PyData.int) (J':=lnk) (f:=fun x=>x) (fun x hx=>?_) ?_
 ·walk_at "e";exact⟨rfl,by trivial⟩
 try walk_at "e"
 rw[show((upto (m - 1).toNat).map fun x=>x).map lnk=ug m from rfl,z43];walk_at "e";refine z3c (z3l hm2 ho2) ?_;walk_at "e";rw[show PyData.tuple [.int (min o (m - o)),.int 0]=plD [min o (m - o),0] from rfl,z8A];walk_at "e";refine z3c (z3e hm2 ho2) ?_;walk_at "e";rw[show PyData.tuple [.int o,.int 0]=plD [o,0] from rfl,z8A];walk_at "e";obtain⟨x,hx,ex⟩:=um (wE wt3 hm2 ho2);refine z3c ex ?_;walk_at "e";rw[yf (by decide)];walk_at "e";refine Ok.imp (P:=fun d n'=>d=D.p (.int (if min o (m - o) % 2=1 then max o (m - o)else min o (m - o)))/\n'=2) ?_ fun d n' hd=>?_
 ·by_cases c:min o (m - o) % 2=1
  ·rw[if_pos (decide_eq_true c),if_pos c];walk_at "e";rw[z3v];walk_at "e";exact⟨rfl,by trivial⟩
  ·rw[if_neg (by simpa using c),if_neg c];walk_at "e";exact⟨rfl,by trivial⟩
 obtain⟨rfl,rfl⟩:=hd;unfold zAW at hx;rw[Bool.and_eq_true]at hx;obtain⟨hx1,hx2⟩:=hx;generalize hodd:(if min o (m - o) % 2=1 then max o (m - o)else min o (m - o))=odd at hx2;walk_at "e";rw[yf (by decide)];walk_at "e";refine Ok.imp (P:=fun d n'=>d=false/\n'=2) ?_ fun d n' hd=>?_
 ·by_cases c:m % 2=0
  ·rw[if_pos (decide_eq_true c)];walk_at "e";rw[z7o];walk_at "e";rw[yf (by decide)];walk_at "e";rw[z7x];walk_at "e";rw[decide_eq_true c]at hx1;simp only[Bool.not_true,Bool.false_or]at hx1;exact⟨by rw[hx1];rfl,by trivial⟩
  ·rw[if_neg (by simpa using c)];walk_at "e";exact⟨rfl,by trivial⟩
 obtain⟨rfl,rfl⟩:=hd;walk_at "e";rw[z8S];walk_at "e";refine Ok.imp (P:=fun d n'=>d=false/\n'=2) ?_ fun d n' hd=>?_
 ·cases x with
  | none=>
   walk_at "e";exact⟨rfl,by trivial⟩
  | some p=>
   simp only[Option.isNone_some,Bool.not_false];walk_at "e";rw[show fIx (opD (some p)) (.int 0)=some (.int p.1) from rfl];walk_at "e";rw[z9k];walk_at "e";rw[show p.1=odd / 2 from of_decide_eq_true hx2];exact⟨by simp,by trivial⟩
 obtain⟨rfl,rfl⟩:=hd;walk_at "e";obtain⟨y,hy,ey⟩:=um (wE wt4 hm2 ho2);refine z3c ey ?_;walk_at "e";rw[z7o];walk_at "e";rw[yf (by decide)];walk_at "e";rw[z7x,show(y.isNone == decide (o % 2=1))=true from hy];walk_at "e";rw[yA (by omega),zy m (by omega)];walk_at "e";generalize PyData.tuple (z5e m)=R;generalize PyData.tuple (ug m)=Ln;refine w8 (fun i ρ n'=>n'=2/\∃x11:Option Sl,ρ=[some (Sl.val (.scr ns)),some (Sl.val .town),some (Sl.val (.p (.int m))),some (Sl.val (.p (.int 0))),some (Sl.val (.p (.int o))),some (Sl.val (.p R)),some (Sl.val (.p Ln)),some (Sl.val (.p (.int (min o (m - o))))),some (Sl.val (.p (opD x))),some (Sl.val (.p (.int odd))),some (Sl.own (.list (evU i))),x11]) (fun i ρ n' hi hI=>?_) (fun ρ n' hI=>?_) ⟨by trivial,none,rfl⟩
 ·obtain⟨rfl,x11,rfl⟩:=hI;have hi':i<m.toNat:=by simpa[zK]using hi
  have ek:(upto m.toNat)[i]'(by rw[zK];omega)=(i:Int):=by simp[upto]
  have hl:=z65 i (by omega);rw[List.getElem_map,ek];refine⟨_,rfl,?_⟩;refine zAF (l:=evU i) rfl ?_;walk_at "e";rw[yA (by omega),zy _ (by omega)];walk_at "e";refine zl (J:=PyData.int) (J':=fun x=>.tuple [.int x,.int i]) (f:=fun x=>x) (fun x hx=>?_) ?_
  ·walk_at "e";exact⟨rfl,by trivial⟩
  try walk_at "e"
  refine⟨evAt (i:Int),rfl,by simp only[evAt,List.length_map,zK];omega,?_⟩;rw[<-z2i];exact⟨by trivial,_,rfl⟩
 obtain⟨rfl,x11,rfl⟩:=hI;rw[List.length_map,zK];walk_at "e";rw[zAi hm2];walk_at "e";refine z4i ?_;walk_at "e";obtain⟨b,eb⟩:=z5P hm2 ho2;refine z3c eb ⟨rfl,?_⟩;walk_at "e";refine z4i ?_;walk_at "e";simp only[fRg1];rw[yA (by omega),zy m (by omega)];walk_at "e";obtain⟨b2,eb2⟩:=z3p hm2;refine z3c eb2 ⟨rfl,?_⟩;walk_at "e";exact z6K (by omega) fun n'=>rfl
theorem all_mk{l:W.OpenLaw}{w:World}{K:W.Frag}{h:Heap}{mg:Str->Option Value}{fa:Addr}(X:K.In h)(G:h.Ns mainGlobals mg)(hfa:mg "law"=some (.ref fa))
  {h_is_number h_are_numbers h_is_rising h_are_places h_is_tie h_is_door h_is_number_and_tuple h_is_web h_may_hold_doors h_is_house h_is_row h_need_web h_need_house h_need_places h_need_row h_need_house_and_places h_through h_behind_row h_led h_rows_from h_shortest_rows h_row_to_so_few h_gather h_all_standings h_standings_ahead h_standings_that_gather h_sorted_out h_need_web_and_places h_tied_places h_fewest_steps h_ways_to_places h_steps h_one_move_on h_rounds h__law_cell_at h__law_mixed h__law_draw h__law_rooms h_law:Hd} {tk_q39 tk_q40 tk_q41:Tok}
  (g_q0:Giv K "is_number" (top 10) h_is_number)
  (g_q1:Giv K "are_numbers" (top 11) h_are_numbers)
  (g_q2:Giv K "is_rising" (top 12) h_is_rising)
  (g_q3:Giv K "are_places" (top 13) h_are_places)
  (g_q4:Giv K "is_tie" (top 14) h_is_tie)
  (g_q5:Giv K "is_door" (top 15) h_is_door)
  (g_q6:Giv K "is_number_and_tuple" (top 16) h_is_number_and_tuple)
  (g_q7:Giv K "is_web" (top 17) h_is_web)
  (g_q8:Giv K "may_hold_doors" (top 18) h_may_hold_doors)
  (g_q9:Giv K "is_house" (top 19) h_is_house)
  (g_q10:Giv K "is_row" (top 20) h_is_row)
  (g_q11:Giv K "need_web" (top 21) h_need_web)
  (g_q12:Giv K "need_house" (top 22) h_need_house)
  (g_q13:Giv K "need_places" (top 23) h_need_places)
  (g_q14:Giv K "need_row" (top 24) h_need_row)
  (g_q15:Giv K "need_house_and_places" (top 26) h_need_house_and_places)
  (g_q16:Giv K "through" (top 27) h_through)
  (g_q17:Giv K "behind_row" (top 28) h_behind_row)
  (g_led:Giv K "led" (top 29) h_led)
  (g_q18:Giv K "rows_from" (top 30) h_rows_from)
  (g_q19:Giv K "shortest_rows" (top 31) h_shortest_rows)
  (g_q20:Giv K "row_to_so_few" (top 32) h_row_to_so_few)
  (g_q21:Giv K "gather" (top 33) h_gather)
  (g_q22:Giv K "all_standings" (top 34) h_all_standings)
  (g_q23:Giv K "standings_ahead" (top 35) h_standings_ahead)
  (g_q24:Giv K "standings_that_gather" (top 36) h_standings_that_gather)
  (g_q25:Giv K "sorted_out" (top 37) h_sorted_out)
  (g_q26:Giv K "need_web_and_places" (top 39) h_need_web_and_places)
  (g_q27:Giv K "tied_places" (top 40) h_tied_places)
  (g_q28:Giv K "fewest_steps" (top 41) h_fewest_steps)
  (g_q29:Giv K "ways_to_places" (top 42) h_ways_to_places)
  (g_q30:Giv K "steps" (top 43) h_steps)
  (g_q31:Giv K "one_move_on" (top 44) h_one_move_on)
  (g_q32:Giv K "rounds" (top 45) h_rounds)
  (g_q33:Giv K "_law_cell_at" (top 47) h__law_cell_at)
  (g_q34:Giv K "_law_mixed" (top 48) h__law_mixed)
  (g_q35:Giv K "_law_draw" (top 49) h__law_draw)
  (g_q36:Giv K "_law_rooms" (top 50) h__law_rooms)
  (g_law:Giv K "law" (top 51) h_law)
  (z_isinstance:W.nsIn K mainGlobals "isinstance"=some none)
  (z_bool:W.nsIn K mainGlobals "bool"=some none)
  (z_int:W.nsIn K mainGlobals "int"=some none)
  (z_tuple:W.nsIn K mainGlobals "tuple"=some none)
  (z_list:W.nsIn K mainGlobals "list"=some none)
  (z_all:W.nsIn K mainGlobals "all"=some none)
  (z_any:W.nsIn K mainGlobals "any"=some none)
  (z_range:W.nsIn K mainGlobals "range"=some none)
  (z_len:W.nsIn K mainGlobals "len"=some none)
  (z_sum:W.nsIn K mainGlobals "sum"=some none)
  (z_sorted:W.nsIn K mainGlobals "sorted"=some none)
  (z_min:W.nsIn K mainGlobals "min"=some none)
  (z_max:W.nsIn K mainGlobals "max"=some none)
  (z_set:W.nsIn K mainGlobals "set"=some none)
  (z_dict:W.nsIn K mainGlobals "dict"=some none)
  (v_q39:W.nsIn K mainGlobals "MOST_PLACES"=some (some (.int 8 tk_q39)))
  (v_q40:W.nsIn K mainGlobals "MOST_DOORS"=some (some (.int 3 tk_q40)))
  (v_q41:W.nsIn K mainGlobals "MOST_IN_ROW"=some (some (.int 60 tk_q41))) :
  ∃fd:FuncData,(∀(s:Shared) (v:Value),BindsTo s fd ⟨[v],[]⟩ [("_law_script",v)])/\∀base:Heap,K.In base->base.Ns mainGlobals mg->FnOk l.prog w K mg base CX0 9 fa fd ["_law_script"] (z5H K):=by
 have e:=hfa.symm.trans (W.mg_of X G g_law.a);cases e;have T:Txt K mg ⟨h_is_number.t "is_number" (top 10),h_are_numbers.t "are_numbers" (top 11),h_is_rising.t "is_rising" (top 12),h_are_places.t "are_places" (top 13),h_is_tie.t "is_tie" (top 14),h_is_door.t "is_door" (top 15),h_is_number_and_tuple.t "is_number_and_tuple" (top 16),h_is_web.t "is_web" (top 17),h_may_hold_doors.t "may_hold_doors" (top 18),h_is_house.t "is_house" (top 19),h_is_row.t "is_row" (top 20),h_need_web.t "need_web" (top 21),h_need_house.t "need_house" (top 22),h_need_places.t "need_places" (top 23),h_need_row.t "need_row" (top 24),h_need_house_and_places.t "need_house_and_places" (top 26),h_through.t "through" (top 27),h_behind_row.t "behind_row" (top 28),h_led.t "led" (top 29),h_rows_from.t "rows_from" (top 30),h_shortest_rows.t "shortest_rows" (top 31),h_row_to_so_few.t "row_to_so_few" (top 32),h_gather.t "gather" (top 33),h_all_standings.t "all_standings" (top 34),h_standings_ahead.t "standings_ahead" (top 35),h_standings_that_gather.t "standings_that_gather" (top 36),h_sorted_out.t "sorted_out" (top 37),h_need_web_and_places.t "need_web_and_places" (top 39),h_tied_places.t "tied_places" (top 40),h_fewest_steps.t "fewest_steps" (top 41),h_ways_to_places.t "ways_to_places" (top 42),h_steps.t "steps" (top 43),h_one_move_on.t "one_move_on" (top 44),h_rounds.t "rounds" (top 45),h__law_cell_at.t "_law_cell_at" (top 47),h__law_mixed.t "_law_mixed" (top 48),h__law_draw.t "_law_draw" (top 49),h__law_rooms.t "_law_rooms" (top 50),h_law.t "law" (top 51)⟩:={
  f_q0:=g_q0.f3 X G fun _ _ _ _ _ _ _ _ _=>rfl
  f_q1:=g_q1.f3 X G fun _ _ _ _ _ _ _ _ _=>rfl
  f_q2:=g_q2.f1 X G fun _ _ _ _ _ _ _=>rfl
  f_q3:=g_q3.f2 X G fun _ _ _ _ _ _ _ _=>rfl
  f_q4:=g_q4.f2 X G fun _ _ _ _ _ _ _ _=>rfl
  f_q5:=g_q5.f2 X G fun _ _ _ _ _ _ _ _=>rfl
  f_q6:=g_q6.f1 X G fun _ _ _ _ _ _ _=>rfl
  f_q7:=g_q7.f1 X G fun _ _ _ _ _ _ _=>rfl
  f_q8:=g_q8.f1 X G fun _ _ _ _ _ _ _=>rfl
  f_q9:=g_q9.f1 X G fun _ _ _ _ _ _ _=>rfl
  f_q10:=g_q10.f2 X G fun _ _ _ _ _ _ _ _=>rfl
  f_q11:=g_q11.f1 X G fun _ _ _ _ _ _ _=>rfl
  f_q12:=g_q12.f1 X G fun _ _ _ _ _ _ _=>rfl
  f_q13:=g_q13.f2 X G fun _ _ _ _ _ _ _ _=>rfl
  f_q14:=g_q14.f2 X G fun _ _ _ _ _ _ _ _=>rfl
  f_q15:=g_q15.f2 X G fun _ _ _ _ _ _ _ _=>rfl
  f_q16:=g_q16.f2 X G fun _ _ _ _ _ _ _ _=>rfl
  f_q17:=g_q17.f3 X G fun _ _ _ _ _ _ _ _ _=>rfl
  f_led:=g_led.f3 X G fun _ _ _ _ _ _ _ _ _=>rfl
  f_q18:=g_q18.f3 X G fun _ _ _ _ _ _ _ _ _=>rfl
  f_q19:=g_q19.f2 X G fun _ _ _ _ _ _ _ _=>rfl
  f_q20:=g_q20.f3 X G fun _ _ _ _ _ _ _ _ _=>rfl
  f_q21:=g_q21.f2 X G fun _ _ _ _ _ _ _ _=>rfl
  f_q22:=g_q22.f1 X G fun _ _ _ _ _ _ _=>rfl
  f_q23:=g_q23.f1 X G fun _ _ _ _ _ _ _=>rfl
  f_q24:=g_q24.f1 X G fun _ _ _ _ _ _ _=>rfl
  f_q25:=g_q25.f1 X G fun _ _ _ _ _ _ _=>rfl
  f_q26:=g_q26.f2 X G fun _ _ _ _ _ _ _ _=>rfl
  f_q27:=g_q27.f1 X G fun _ _ _ _ _ _ _=>rfl
  f_q28:=g_q28.f2 X G fun _ _ _ _ _ _ _ _=>rfl
  f_q29:=g_q29.f2 X G fun _ _ _ _ _ _ _ _=>rfl
  f_q30:=g_q30.f2 X G fun _ _ _ _ _ _ _ _=>rfl
  f_q31:=g_q31.f2 X G fun _ _ _ _ _ _ _ _=>rfl
  f_q32:=g_q32.f2 X G fun _ _ _ _ _ _ _ _=>rfl
  f_q33:=g_q33.f2 X G fun _ _ _ _ _ _ _ _=>rfl
  f_q34:=g_q34.f3 X G fun _ _ _ _ _ _ _ _ _=>rfl
  f_q35:=g_q35.f3 X G fun _ _ _ _ _ _ _ _ _=>rfl
  f_q36:=g_q36.f2 X G fun _ _ _ _ _ _ _ _=>rfl
  f_law:=g_law.f1 X G fun _ _ _ _ _ _ _=>rfl
  b_isinstance:=W.mg_none_of X G z_isinstance
  b_bool:=W.mg_none_of X G z_bool
  b_int:=W.mg_none_of X G z_int
  b_tuple:=W.mg_none_of X G z_tuple
  b_list:=W.mg_none_of X G z_list
  b_all:=W.mg_none_of X G z_all
  b_any:=W.mg_none_of X G z_any
  b_range:=W.mg_none_of X G z_range
  b_len:=W.mg_none_of X G z_len
  b_sum:=W.mg_none_of X G z_sum
  b_sorted:=W.mg_none_of X G z_sorted
  b_min:=W.mg_none_of X G z_min
  b_max:=W.mg_none_of X G z_max
  b_set:=W.mg_none_of X G z_set
  b_dict:=W.mg_none_of X G z_dict
  g_q39:=⟨_,W.mg_of X G v_q39,⟨_,rfl⟩⟩
  g_q40:=⟨_,W.mg_of X G v_q40,⟨_,rfl⟩⟩
  g_q41:=⟨_,W.mg_of X G v_q41,⟨_,rfl⟩⟩ }
 exact⟨(h_law.t "law" (top 51)).d,fun s v=>.of_eq rfl,fun base _ _=>zAd T (z5w _)⟩
theorem walk{l:W.OpenLaw}{q:Program}{loose:List Str}{XP:(Str->Option Value)->Heap->Prop}{YP:World->Heap->Prop}{d:DefRec}{K:Params->W.Frag}(hn:l.most=some 63)(hdf:d.params.defaults=[])
  (hY:∀(w:World) (h:Heap),YP w h->(K w.params).In h)
  (F:∀(w:World) (mg:Str->Option Value) (fa:Addr) (h:Heap),(K w.params).In h->h.Ns mainGlobals mg->mg d.name=some (.ref fa)->
   ∃fd:FuncData,(∀(s:Shared) (u:Value),BindsTo s fd ⟨[u],[]⟩ [("_law_script",u)])/\∀base:Heap,(K w.params).In base->base.Ns mainGlobals mg->FnOk l.prog w (K w.params) mg base CX0 9 fa fd ["_law_script"] (z5H (K w.params))) :
  W.WalkO q loose XP YP l.row.toRowW d [] (fun f vs=>PySem.call f vs):=
 L2.walk_of (n:=63) (k:=9) (x:="_law_script") (CX:=fun _=>CX0) (sp:=fun w=>z5H (K w.params)) hn (by decide) hdf ⟨rfl,by decide,by decide⟩ hY F (fun _ _ a ns hl _ hS=>⟨a,ns,rfl,hS,hl,fun _=>rfl⟩) fun _ _ _ _ _ z=>z
end Gw
open PySem PySem.W PyProof.Rows
local macro_rules | `(tactic| walk_at "g")=>`(tactic| (refine' L2.Giv.of ?ka ?kl ?kc ?kk;(case ka=>k_is);(case kl=>k_is);(case kc=>k_is);(case kk=>k_is)))
theorem PySem.W.Fast.tw17979642140580483599:True:=trivial
theorem PySem.W.Fast.tw16320393170489497853:True:=trivial
theorem PySem.W.Fast.tw2555108089995121470:True:=trivial
theorem PySem.W.Fast.tw11673030274941543337:True:=trivial
theorem PySem.W.Fast.tw10516000589933865400:True:=trivial
theorem PySem.W.Fast.tw6634840432037939419:True:=trivial
theorem PySem.W.Fast.tw17360309591210778104:True:=trivial
theorem PySem.W.Fast.tw14834044268100415749:True:=trivial
theorem PySem.W.Fast.tw11945881907539938563:True:=trivial
theorem PySem.W.Fast.tw11697795564489597044:True:=trivial
theorem PySem.W.Fast.tw2958187971901512832:True:=trivial
theorem PySem.W.Fast.tw7755382072571917311:True:=trivial
theorem PySem.W.Fast.tw15541577747057574154:True:=trivial
set_option maxRecDepth 100000 in
set_option maxHeartbeats 0 in
theorem PySem.Challenge.cw_gatherall_k09_whole_formulas_holds : PySem.Challenge.rw_gatherall_k09_whole_formulas.Holds := by
 w_on; o_law; k_head; (case hw => w_witness2)
 k_fill
 refine Gw.walk (l := PySem.Challenge.rw_gatherall_k09_whole_formulas) rfl rfl (fun w h Y => PySem.W.kIn_of Y) ?F
 case F =>
  intro w mg fa h KX G hmg
  refine' Gw.all_mk KX G hmg ?g_q0 ?g_q1 ?g_q2 ?g_q3 ?g_q4 ?g_q5 ?g_q6 ?g_q7 ?g_q8 ?g_q9 ?g_q10 ?g_q11 ?g_q12 ?g_q13 ?g_q14 ?g_q15 ?g_q16 ?g_q17 ?g_led ?g_q18 ?g_q19 ?g_q20 ?g_q21 ?g_q22 ?g_q23 ?g_q24 ?g_q25 ?g_q26 ?g_q27 ?g_q28 ?g_q29 ?g_q30 ?g_q31 ?g_q32 ?g_q33 ?g_q34 ?g_q35 ?g_q36 ?g_law ?z_isinstance ?z_bool ?z_int ?z_tuple ?z_list ?z_all ?z_any ?z_range ?z_len ?z_sum ?z_sorted ?z_min ?z_max ?z_set ?z_dict ?v_q39 ?v_q40 ?v_q41
  (case g_q0 => walk_at "g")
  (case g_q1 => walk_at "g")
  (case g_q2 => walk_at "g")
  (case g_q3 => walk_at "g")
  (case g_q4 => walk_at "g")
  (case g_q5 => walk_at "g")
  (case g_q6 => walk_at "g")
  (case g_q7 => walk_at "g")
  (case g_q8 => walk_at "g")
  (case g_q9 => walk_at "g")
  (case g_q10 => walk_at "g")
  (case g_q11 => walk_at "g")
  (case g_q12 => walk_at "g")
  (case g_q13 => walk_at "g")
  (case g_q14 => walk_at "g")
  (case g_q15 => walk_at "g")
  (case g_q16 => walk_at "g")
  (case g_q17 => walk_at "g")
  (case g_led => walk_at "g")
  (case g_q18 => walk_at "g")
  (case g_q19 => walk_at "g")
  (case g_q20 => walk_at "g")
  (case g_q21 => walk_at "g")
  (case g_q22 => walk_at "g")
  (case g_q23 => walk_at "g")
  (case g_q24 => walk_at "g")
  (case g_q25 => walk_at "g")
  (case g_q26 => walk_at "g")
  (case g_q27 => walk_at "g")
  (case g_q28 => walk_at "g")
  (case g_q29 => walk_at "g")
  (case g_q30 => walk_at "g")
  (case g_q31 => walk_at "g")
  (case g_q32 => walk_at "g")
  (case g_q33 => walk_at "g")
  (case g_q34 => walk_at "g")
  (case g_q35 => walk_at "g")
  (case g_q36 => walk_at "g")
  (case g_law => walk_at "g")
  (case z_isinstance => k_is)
  (case z_bool => k_is)
  (case z_int => k_is)
  (case z_tuple => k_is)
  (case z_list => k_is)
  (case z_all => k_is)
  (case z_any => k_is)
  (case z_range => k_is)
  (case z_len => k_is)
  (case z_sum => k_is)
  (case z_sorted => k_is)
  (case z_min => k_is)
  (case z_max => k_is)
  (case z_set => k_is)
  (case z_dict => k_is)
  (case v_q39 => k_is)
  (case v_q40 => k_is)
  (case v_q41 => k_is)
#print axioms PySem.Challenge.cw_gatherall_k09_whole_formulas_holds
